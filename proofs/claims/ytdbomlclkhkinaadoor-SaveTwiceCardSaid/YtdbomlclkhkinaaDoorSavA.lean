/-
  Texts of one kind, one behind the other: SavRun, SavTape, SavNext.
-/
import Derived.Test.YtdbomlclkhkinaaDoorSavSave
import Derived.Test.YtdbomlclkhkinaaDoorSavMake
import Derived.Test.YtdbomlclkhkinaaDoorPolB
namespace Go.Proofs.YtdbomlclkhkinaaDoor
open Go.ChangeShapes Go.WideShapes Go.ChangeAt Go.RowKit Go.BigFrame
set_option linter.unusedVariables false
set_option maxRecDepth 100000

/-! ### The operations' programs -/
def sPrg (t : Nat) (k u v : Int) (x n : Nat) : Prd :=
  if k = 20 then Prd.make t u.toNat x 0 0 0 0 else if k = 22 then Prd.alive t u.toNat x else if k = 23 then Prd.set t u.toNat v.toNat n else if k = 7 then Prd.save t u.toNat v.toNat n else if k = 21 then Prd.dead t u.toNat x n else .ret 0
def sErr (k : Int) : Int := if k = 20 ∨ k = 22 ∨ k = 23 ∨ k = 7 ∨ k = 21 then 0 else 1
def sIs (k : Int) (d : Nat) : Bool := if k = 22 ∨ k = 7 ∨ k = 21 then ((d : Int) == 1) else false
def sW (k : Int) (d : Nat) : Nat := if k = 20 then d else 0
def sOut (k : Int) (d : Nat) : Value := .agg #[.int .i64 (sErr k), .bool (sIs k d), .int .i64 0, .int .u64 (sW k d : Int), .slice none 0 0]
/-- Its operations are told of records, and of bits. -/
def SOp (k u v : Int) : Prop := (k = 20 ∨ k = 22 ∨ k = 23 ∨ k = 7 ∨ k = 21 → 1 ≤ u ∧ u < 1048576) ∧ (k = 23 ∨ k = 7 → v = 1 ∨ v = 2)
theorem sPrg_ok (t : Nat) (k u v : Int) (x n m : Nat) (h : m < n) : (sPrg t k u v x n).ok m := by
  unfold sPrg
  split
  · exact Prd.ok_make _ _ _ _ _ _ _ m
  · split
    · exact Prd.ok_alive _ _ _ m
    · split
      · exact Prd.ok_raise _ _ _ n m h
      · split
        · exact Prd.ok_save _ _ _ n m h
        · split
          · exact Prd.ok_dead _ _ _ n m h
          · trivial
section
variable {dv : Value} {S : Type} (V : SrvD dv S)
set_option maxHeartbeats 8000000 in
set_option maxRecDepth 100000 in
theorem sAnswer_at (t : Nat) (ht : t ≤ 64) (k u v : Int) (x : Nat) (hx : x < 18446744073709551616) (hop : SOp k u v) (n : Nat) (s : S) (R : RanD S) (hR : (sPrg t k u v x n).run V.tell s = R) (hb : R ≠ .bad) (w : World) (hI : V.M.I s w) (hgw : V.M.g < w.heap.size) (hBw : ∀ y, V.M.B y ≤ w.heap.size) :
    Calls Tryd.prog 38 #[dv, .int .i64 (t : Int), .agg #[.int .i64 k, .int .i64 u, .int .i64 v, .int .u64 (x : Int)]] w (RunD14 V w (sOut k) R) := by
  obtain ⟨gv, hgv⟩ : ∃ g, V.M.g = g := ⟨_, rfl⟩
  have n1 : ¬ (w.heap.size = gv) := by omega
  have n2 : ¬ (w.heap.size + 1 = gv) := by omega
  have n3 : ¬ (w.heap.size + 1 + 1 = gv) := by omega
  by_cases h20 : k = 20
  · subst h20
    obtain ⟨u1, u2⟩ := hop.1 (by omega)
    obtain ⟨ur, rfl⟩ : ∃ ur : Nat, u = (ur : Int) := ⟨u.toNat, by omega⟩
    have hut : ((ur : Int)).toNat = ur := Int.toNat_natCast ur
    have hu1 : 1 ≤ ur := by omega
    have hu2 : ur < 1048576 := by omega
    have he : ∀ d, sOut 20 d = .agg #[.int .i64 0, .bool false, .int .i64 0, .int .u64 (d : Int), .slice none 0 0] := fun d => rfl
    have hp : sPrg t 20 (ur : Int) v x n = Prd.make t ur x 0 0 0 0 := by unfold sPrg; rw [hut]; rfl
    rw [hp] at hR
    have HC : ∀ y, w.heap.size ≤ y.heap.size → V.M.I s y → Calls Tryd.prog 20 #[dv, .int .i64 (t : Int), .int .i64 (ur : Int), .agg #[.int .i64 0, .int .u64 0, .int .u64 (x : Int), .int .u64 0, .int .u64 0, .int .u64 0], .int .u64 0] y (RunD14 V y (fun d => .int .u64 (d : Int)) R) := fun y hyw hI => by rw [← hR] at hb ⊢; exact make_prg V t ur 0 0 x 0 0 0 0 ht hu1 hu2 hx (by decide) (by decide) (by decide) (by decide) s hb y hI
    clear hop hp u1 u2 hut hu1 hu2
    have HI := Lib.hid hI
    have HGV := Lib.hid hgv
    have HBW := Lib.hid hBw
    clear hI hR ht hx hgv hBw
    go_enter Tryd.func38, Tryd.ntmps38
    go_wp2_with fail
    refine gen_w (P := fun W => Calls _ _ _ W _) (fun y => Below w.heap.size w y ∧ y.heap.size = w.heap.size + 1 + 1 + 1 ∧ VarAt y (w.heap.size + 1) [.int .i64 0, .bool false, .int .i64 0, .int .u64 0, .slice none 0 0] ∧ VarAt y (w.heap.size + 1 + 1) [.int .i64 0, .bool false, .int .i64 0, .int .u64 0, .slice none 0 0]) ⟨(by repeat (first | with_reducible assumption | with_reducible exact Below.refl _ _ | with_reducible refine Below.drew ?_ | with_reducible refine below_al ?_ | (with_reducible refine below_set1 (by omega) _ ?_))), by simp, VarAt.mk5 (by simp) (by go_simp) (by go_simp) (by go_simp) (by go_simp) (by go_simp) (by go_simp) (by go_simp) (by go_simp) (by go_simp) (by go_simp), VarAt.mk5 (by simp) (by go_simp) (by go_simp) (by go_simp) (by go_simp) (by go_simp) (by go_simp) (by go_simp) (by go_simp) (by go_simp) (by go_simp)⟩ ?_
    rintro y ⟨k0, k1, k2, k3⟩
    have K0 := Lib.hid k0
    have K1 := Lib.hid k1
    have K2 := Lib.hid k2
    have K3 := Lib.hid k3
    clear k0 k1 k2 k3
    refine (HC y K0.out.size (V.M.later HI.out K0.out)).mono ?_
    clear HC
    cases R with
    | bad => exact absurd rfl hb
    | left k i a b d =>
      rintro e w2 ⟨rfl, hl⟩
      exact ⟨rfl, rfl, hl⟩
    | done r s2 =>
      rintro e w2 ⟨rfl, hi, hbt⟩
      have hyz := K1.out
      have hg := HGV.out
      rw [hg] at hbt
      obtain ⟨_, ⟨a1, a2, a3, a4, a5⟩, b1, b2, b3, b4, b5⟩ := (K2.out.but hbt n2).five
      obtain ⟨_, ⟨c1, c2, c3, c4, c5⟩, d1', d2', d3', d4', d5'⟩ := (K3.out.but hbt n3).five
      have hsz := hbt.size
      have m1 : w.heap.size + 1 < w2.heap.size := by omega
      have m2 : w.heap.size + 1 + 1 < w2.heap.size := by omega
      have HW : Hid (But gv w w2) := Lib.hid ((But.of K0.out (by omega)).trans hbt)
      have HI2 := Lib.hid hi
      have HE := Lib.hid (he r)
      clear hi hbt hyz hg he
      go_wp2_with fail
      have hg := HGV.out
      have hbw := HW.out
      refine bodyPost_ret (v := .agg #[.int .i64 0, .bool false, .int .i64 0, .int .u64 (r : Int), .slice none 0 0]) (by simp [results, Tryd.results38, go_sem, a1, a2, a3, a4, a5]) rfl ⟨congrArg Ending.returned HE.out.symm, V.M.stay HI2.out (Below.mono (B := w.heap.size) (by repeat (first | with_reducible exact Below.refl _ _ | with_reducible refine Below.drew ?_ | with_reducible refine below_al ?_ | (refine Below.setCell ?_ (show w.heap.size ≤ _ by (try simp only []); omega) _))) (HBW.out _)), ?_⟩
      rw [hg]
      exact (by repeat (first | with_reducible assumption | with_reducible exact But.refl _ _ | with_reducible refine But.drew ?_ | (with_reducible refine But.alloc ?_ _ (by omega)) | (with_reducible refine But.set ?_ _ _) | (with_reducible refine But.new ?_ _ _ _ (by omega) (by omega))))
  by_cases h22 : k = 22
  · subst h22
    obtain ⟨u1, u2⟩ := hop.1 (by omega)
    obtain ⟨ur, rfl⟩ : ∃ ur : Nat, u = (ur : Int) := ⟨u.toNat, by omega⟩
    have hut : ((ur : Int)).toNat = ur := Int.toNat_natCast ur
    have hu1 : 1 ≤ ur := by omega
    have hu2 : ur < 1048576 := by omega
    have he : ∀ d, sOut 22 d = .agg #[.int .i64 0, .bool ((d : Int) == 1), .int .i64 0, .int .u64 0, .slice none 0 0] := fun d => rfl
    have hp : sPrg t 22 (ur : Int) v x n = Prd.alive t ur x := by unfold sPrg; rw [hut]; rfl
    rw [hp] at hR
    have HC : ∀ y, w.heap.size ≤ y.heap.size → V.M.I s y → Calls Tryd.prog 21 #[dv, .int .i64 (t : Int), .int .i64 (ur : Int), .int .u64 (x : Int)] y (RunD14 V y (fun d => .bool ((d : Int) == 1)) R) := fun y hyw hI => by rw [← hR] at hb ⊢; exact alive_prg V t ur x ht hu1 hu2 s hb y hI
    clear hop hp u1 u2 hut hu1 hu2
    have HI := Lib.hid hI
    have HGV := Lib.hid hgv
    have HBW := Lib.hid hBw
    clear hI hR ht hx hgv hBw
    go_enter Tryd.func38, Tryd.ntmps38
    go_wp2_with fail
    refine gen_w (P := fun W => Calls _ _ _ W _) (fun y => Below w.heap.size w y ∧ y.heap.size = w.heap.size + 1 + 1 + 1 ∧ VarAt y (w.heap.size + 1) [.int .i64 0, .bool false, .int .i64 0, .int .u64 0, .slice none 0 0] ∧ VarAt y (w.heap.size + 1 + 1) [.int .i64 0, .bool false, .int .i64 0, .int .u64 0, .slice none 0 0]) ⟨(by repeat (first | with_reducible assumption | with_reducible exact Below.refl _ _ | with_reducible refine Below.drew ?_ | with_reducible refine below_al ?_ | (with_reducible refine below_set1 (by omega) _ ?_))), by simp, VarAt.mk5 (by simp) (by go_simp) (by go_simp) (by go_simp) (by go_simp) (by go_simp) (by go_simp) (by go_simp) (by go_simp) (by go_simp) (by go_simp), VarAt.mk5 (by simp) (by go_simp) (by go_simp) (by go_simp) (by go_simp) (by go_simp) (by go_simp) (by go_simp) (by go_simp) (by go_simp) (by go_simp)⟩ ?_
    rintro y ⟨k0, k1, k2, k3⟩
    have K0 := Lib.hid k0
    have K1 := Lib.hid k1
    have K2 := Lib.hid k2
    have K3 := Lib.hid k3
    clear k0 k1 k2 k3
    refine (HC y K0.out.size (V.M.later HI.out K0.out)).mono ?_
    clear HC
    cases R with
    | bad => exact absurd rfl hb
    | left k i a b d =>
      rintro e w2 ⟨rfl, hl⟩
      exact ⟨rfl, rfl, hl⟩
    | done r s2 =>
      rintro e w2 ⟨rfl, hi, hbt⟩
      have hyz := K1.out
      have hg := HGV.out
      rw [hg] at hbt
      obtain ⟨_, ⟨a1, a2, a3, a4, a5⟩, b1, b2, b3, b4, b5⟩ := (K2.out.but hbt n2).five
      obtain ⟨_, ⟨c1, c2, c3, c4, c5⟩, d1', d2', d3', d4', d5'⟩ := (K3.out.but hbt n3).five
      have hsz := hbt.size
      have m1 : w.heap.size + 1 < w2.heap.size := by omega
      have m2 : w.heap.size + 1 + 1 < w2.heap.size := by omega
      have HW : Hid (But gv w w2) := Lib.hid ((But.of K0.out (by omega)).trans hbt)
      have HI2 := Lib.hid hi
      have HE := Lib.hid (he r)
      clear hi hbt hyz hg he
      go_wp2_with fail
      have hg := HGV.out
      have hbw := HW.out
      refine bodyPost_ret (v := .agg #[.int .i64 0, .bool ((r : Int) == 1), .int .i64 0, .int .u64 0, .slice none 0 0]) (by simp [results, Tryd.results38, go_sem, a1, a2, a3, a4, a5]) rfl ⟨congrArg Ending.returned HE.out.symm, V.M.stay HI2.out (Below.mono (B := w.heap.size) (by repeat (first | with_reducible exact Below.refl _ _ | with_reducible refine Below.drew ?_ | with_reducible refine below_al ?_ | (refine Below.setCell ?_ (show w.heap.size ≤ _ by (try simp only []); omega) _))) (HBW.out _)), ?_⟩
      rw [hg]
      exact (by repeat (first | with_reducible assumption | with_reducible exact But.refl _ _ | with_reducible refine But.drew ?_ | (with_reducible refine But.alloc ?_ _ (by omega)) | (with_reducible refine But.set ?_ _ _) | (with_reducible refine But.new ?_ _ _ _ (by omega) (by omega))))
  by_cases h23 : k = 23
  · subst h23
    obtain ⟨u1, u2⟩ := hop.1 (by omega)
    obtain ⟨ur, rfl⟩ : ∃ ur : Nat, u = (ur : Int) := ⟨u.toNat, by omega⟩
    have hut : ((ur : Int)).toNat = ur := Int.toNat_natCast ur
    have hu1 : 1 ≤ ur := by omega
    have hu2 : ur < 1048576 := by omega
    have hv0 := hop.2 (by omega)
    obtain ⟨vr, rfl⟩ : ∃ vr : Nat, v = (vr : Int) := ⟨v.toNat, by omega⟩
    have hvt : ((vr : Int)).toNat = vr := Int.toNat_natCast vr
    have hv : vr = 1 ∨ vr = 2 := by omega
    have he : ∀ d, sOut 23 d = .agg #[.int .i64 0, .bool false, .int .i64 0, .int .u64 0, .slice none 0 0] := fun d => rfl
    have hp : sPrg t 23 (ur : Int) (vr : Int) x n = Prd.set t ur vr n := by unfold sPrg; rw [hut, hvt]; rfl
    rw [hp] at hR
    have HC : ∀ y, w.heap.size ≤ y.heap.size → V.M.I s y → Calls Tryd.prog 22 #[dv, .int .i64 (t : Int), .int .i64 (ur : Int), .int .i64 (vr : Int)] y (RunD14 V y (fun _ => .tuple #[]) R) := fun y hyw hI => by rw [← hR] at hb ⊢; exact set_prg V t ur vr n ht hu1 hu2 hv s hb y hI
    clear hop hp u1 u2 hut hu1 hu2 hv0 hvt hv
    have HI := Lib.hid hI
    have HGV := Lib.hid hgv
    have HBW := Lib.hid hBw
    clear hI hR ht hx hgv hBw
    go_enter Tryd.func38, Tryd.ntmps38
    go_wp2_with fail
    refine gen_w (P := fun W => Calls _ _ _ W _) (fun y => Below w.heap.size w y ∧ y.heap.size = w.heap.size + 1 + 1 + 1 ∧ VarAt y (w.heap.size + 1) [.int .i64 0, .bool false, .int .i64 0, .int .u64 0, .slice none 0 0] ∧ VarAt y (w.heap.size + 1 + 1) [.int .i64 0, .bool false, .int .i64 0, .int .u64 0, .slice none 0 0]) ⟨(by repeat (first | with_reducible assumption | with_reducible exact Below.refl _ _ | with_reducible refine Below.drew ?_ | with_reducible refine below_al ?_ | (with_reducible refine below_set1 (by omega) _ ?_))), by simp, VarAt.mk5 (by simp) (by go_simp) (by go_simp) (by go_simp) (by go_simp) (by go_simp) (by go_simp) (by go_simp) (by go_simp) (by go_simp) (by go_simp), VarAt.mk5 (by simp) (by go_simp) (by go_simp) (by go_simp) (by go_simp) (by go_simp) (by go_simp) (by go_simp) (by go_simp) (by go_simp) (by go_simp)⟩ ?_
    rintro y ⟨k0, k1, k2, k3⟩
    have K0 := Lib.hid k0
    have K1 := Lib.hid k1
    have K2 := Lib.hid k2
    have K3 := Lib.hid k3
    clear k0 k1 k2 k3
    refine (HC y K0.out.size (V.M.later HI.out K0.out)).mono ?_
    clear HC
    cases R with
    | bad => exact absurd rfl hb
    | left k i a b d =>
      rintro e w2 ⟨rfl, hl⟩
      exact ⟨rfl, rfl, hl⟩
    | done r s2 =>
      rintro e w2 ⟨rfl, hi, hbt⟩
      have hyz := K1.out
      have hg := HGV.out
      rw [hg] at hbt
      obtain ⟨_, ⟨a1, a2, a3, a4, a5⟩, b1, b2, b3, b4, b5⟩ := (K2.out.but hbt n2).five
      obtain ⟨_, ⟨c1, c2, c3, c4, c5⟩, d1', d2', d3', d4', d5'⟩ := (K3.out.but hbt n3).five
      have hsz := hbt.size
      have m1 : w.heap.size + 1 < w2.heap.size := by omega
      have m2 : w.heap.size + 1 + 1 < w2.heap.size := by omega
      have HW : Hid (But gv w w2) := Lib.hid ((But.of K0.out (by omega)).trans hbt)
      have HI2 := Lib.hid hi
      have HE := Lib.hid (he r)
      clear hi hbt hyz hg he
      go_wp2_with fail
      have hg := HGV.out
      have hbw := HW.out
      refine bodyPost_ret (v := .agg #[.int .i64 0, .bool false, .int .i64 0, .int .u64 0, .slice none 0 0]) (by simp [results, Tryd.results38, go_sem, a1, a2, a3, a4, a5]) rfl ⟨congrArg Ending.returned HE.out.symm, V.M.stay HI2.out (Below.mono (B := w.heap.size) (by repeat (first | with_reducible exact Below.refl _ _ | with_reducible refine Below.drew ?_ | with_reducible refine below_al ?_ | (refine Below.setCell ?_ (show w.heap.size ≤ _ by (try simp only []); omega) _))) (HBW.out _)), ?_⟩
      rw [hg]
      exact (by repeat (first | with_reducible assumption | with_reducible exact But.refl _ _ | with_reducible refine But.drew ?_ | (with_reducible refine But.alloc ?_ _ (by omega)) | (with_reducible refine But.set ?_ _ _) | (with_reducible refine But.new ?_ _ _ _ (by omega) (by omega))))
  by_cases h7 : k = 7
  · subst h7
    obtain ⟨u1, u2⟩ := hop.1 (by omega)
    obtain ⟨ur, rfl⟩ : ∃ ur : Nat, u = (ur : Int) := ⟨u.toNat, by omega⟩
    have hut : ((ur : Int)).toNat = ur := Int.toNat_natCast ur
    have hu1 : 1 ≤ ur := by omega
    have hu2 : ur < 1048576 := by omega
    have hv0 := hop.2 (by omega)
    obtain ⟨vr, rfl⟩ : ∃ vr : Nat, v = (vr : Int) := ⟨v.toNat, by omega⟩
    have hvt : ((vr : Int)).toNat = vr := Int.toNat_natCast vr
    have hv : vr = 1 ∨ vr = 2 := by omega
    have he : ∀ d, sOut 7 d = .agg #[.int .i64 0, .bool ((d : Int) == 1), .int .i64 0, .int .u64 0, .slice none 0 0] := fun d => rfl
    have hp : sPrg t 7 (ur : Int) (vr : Int) x n = Prd.save t ur vr n := by unfold sPrg; rw [hut, hvt]; rfl
    rw [hp] at hR
    have HC : ∀ y, w.heap.size ≤ y.heap.size → V.M.I s y → Calls Tryd.prog 23 #[dv, .int .i64 (t : Int), .int .i64 (ur : Int), .int .i64 (vr : Int)] y (RunD14 V y (fun d => .bool ((d : Int) == 1)) R) := fun y hyw hI => by rw [← hR] at hb ⊢; exact save_prg V t ur vr n ht hu1 hu2 hv s hb y hI (fun z => Nat.le_trans (hBw z) hyw)
    clear hop hp u1 u2 hut hu1 hu2 hv0 hvt hv
    have HI := Lib.hid hI
    have HGV := Lib.hid hgv
    have HBW := Lib.hid hBw
    clear hI hR ht hx hgv hBw
    go_enter Tryd.func38, Tryd.ntmps38
    go_wp2_with fail
    refine gen_w (P := fun W => Calls _ _ _ W _) (fun y => Below w.heap.size w y ∧ y.heap.size = w.heap.size + 1 + 1 + 1 ∧ VarAt y (w.heap.size + 1) [.int .i64 0, .bool false, .int .i64 0, .int .u64 0, .slice none 0 0] ∧ VarAt y (w.heap.size + 1 + 1) [.int .i64 0, .bool false, .int .i64 0, .int .u64 0, .slice none 0 0]) ⟨(by repeat (first | with_reducible assumption | with_reducible exact Below.refl _ _ | with_reducible refine Below.drew ?_ | with_reducible refine below_al ?_ | (with_reducible refine below_set1 (by omega) _ ?_))), by simp, VarAt.mk5 (by simp) (by go_simp) (by go_simp) (by go_simp) (by go_simp) (by go_simp) (by go_simp) (by go_simp) (by go_simp) (by go_simp) (by go_simp), VarAt.mk5 (by simp) (by go_simp) (by go_simp) (by go_simp) (by go_simp) (by go_simp) (by go_simp) (by go_simp) (by go_simp) (by go_simp) (by go_simp)⟩ ?_
    rintro y ⟨k0, k1, k2, k3⟩
    have K0 := Lib.hid k0
    have K1 := Lib.hid k1
    have K2 := Lib.hid k2
    have K3 := Lib.hid k3
    clear k0 k1 k2 k3
    refine (HC y K0.out.size (V.M.later HI.out K0.out)).mono ?_
    clear HC
    cases R with
    | bad => exact absurd rfl hb
    | left k i a b d =>
      rintro e w2 ⟨rfl, hl⟩
      exact ⟨rfl, rfl, hl⟩
    | done r s2 =>
      rintro e w2 ⟨rfl, hi, hbt⟩
      have hyz := K1.out
      have hg := HGV.out
      rw [hg] at hbt
      obtain ⟨_, ⟨a1, a2, a3, a4, a5⟩, b1, b2, b3, b4, b5⟩ := (K2.out.but hbt n2).five
      obtain ⟨_, ⟨c1, c2, c3, c4, c5⟩, d1', d2', d3', d4', d5'⟩ := (K3.out.but hbt n3).five
      have hsz := hbt.size
      have m1 : w.heap.size + 1 < w2.heap.size := by omega
      have m2 : w.heap.size + 1 + 1 < w2.heap.size := by omega
      have HW : Hid (But gv w w2) := Lib.hid ((But.of K0.out (by omega)).trans hbt)
      have HI2 := Lib.hid hi
      have HE := Lib.hid (he r)
      clear hi hbt hyz hg he
      go_wp2_with fail
      have hg := HGV.out
      have hbw := HW.out
      refine bodyPost_ret (v := .agg #[.int .i64 0, .bool ((r : Int) == 1), .int .i64 0, .int .u64 0, .slice none 0 0]) (by simp [results, Tryd.results38, go_sem, a1, a2, a3, a4, a5]) rfl ⟨congrArg Ending.returned HE.out.symm, V.M.stay HI2.out (Below.mono (B := w.heap.size) (by repeat (first | with_reducible exact Below.refl _ _ | with_reducible refine Below.drew ?_ | with_reducible refine below_al ?_ | (refine Below.setCell ?_ (show w.heap.size ≤ _ by (try simp only []); omega) _))) (HBW.out _)), ?_⟩
      rw [hg]
      exact (by repeat (first | with_reducible assumption | with_reducible exact But.refl _ _ | with_reducible refine But.drew ?_ | (with_reducible refine But.alloc ?_ _ (by omega)) | (with_reducible refine But.set ?_ _ _) | (with_reducible refine But.new ?_ _ _ _ (by omega) (by omega))))
  by_cases h21 : k = 21
  · subst h21
    obtain ⟨u1, u2⟩ := hop.1 (by omega)
    obtain ⟨ur, rfl⟩ : ∃ ur : Nat, u = (ur : Int) := ⟨u.toNat, by omega⟩
    have hut : ((ur : Int)).toNat = ur := Int.toNat_natCast ur
    have hu1 : 1 ≤ ur := by omega
    have hu2 : ur < 1048576 := by omega
    have he : ∀ d, sOut 21 d = .agg #[.int .i64 0, .bool ((d : Int) == 1), .int .i64 0, .int .u64 0, .slice none 0 0] := fun d => rfl
    have hp : sPrg t 21 (ur : Int) v x n = Prd.dead t ur x n := by unfold sPrg; rw [hut]; rfl
    rw [hp] at hR
    have HC : ∀ y, w.heap.size ≤ y.heap.size → V.M.I s y → Calls Tryd.prog 24 #[dv, .int .i64 (t : Int), .int .i64 (ur : Int), .int .u64 (x : Int)] y (RunD14 V y (fun d => .bool ((d : Int) == 1)) R) := fun y hyw hI => by rw [← hR] at hb ⊢; exact dead_prg V t ur x n ht hu1 hu2 s hb y hI (fun z => Nat.le_trans (hBw z) hyw)
    clear hop hp u1 u2 hut hu1 hu2
    have HI := Lib.hid hI
    have HGV := Lib.hid hgv
    have HBW := Lib.hid hBw
    clear hI hR ht hx hgv hBw
    go_enter Tryd.func38, Tryd.ntmps38
    go_wp2_with fail
    refine gen_w (P := fun W => Calls _ _ _ W _) (fun y => Below w.heap.size w y ∧ y.heap.size = w.heap.size + 1 + 1 + 1 ∧ VarAt y (w.heap.size + 1) [.int .i64 0, .bool false, .int .i64 0, .int .u64 0, .slice none 0 0] ∧ VarAt y (w.heap.size + 1 + 1) [.int .i64 0, .bool false, .int .i64 0, .int .u64 0, .slice none 0 0]) ⟨(by repeat (first | with_reducible assumption | with_reducible exact Below.refl _ _ | with_reducible refine Below.drew ?_ | with_reducible refine below_al ?_ | (with_reducible refine below_set1 (by omega) _ ?_))), by simp, VarAt.mk5 (by simp) (by go_simp) (by go_simp) (by go_simp) (by go_simp) (by go_simp) (by go_simp) (by go_simp) (by go_simp) (by go_simp) (by go_simp), VarAt.mk5 (by simp) (by go_simp) (by go_simp) (by go_simp) (by go_simp) (by go_simp) (by go_simp) (by go_simp) (by go_simp) (by go_simp) (by go_simp)⟩ ?_
    rintro y ⟨k0, k1, k2, k3⟩
    have K0 := Lib.hid k0
    have K1 := Lib.hid k1
    have K2 := Lib.hid k2
    have K3 := Lib.hid k3
    clear k0 k1 k2 k3
    refine (HC y K0.out.size (V.M.later HI.out K0.out)).mono ?_
    clear HC
    cases R with
    | bad => exact absurd rfl hb
    | left k i a b d =>
      rintro e w2 ⟨rfl, hl⟩
      exact ⟨rfl, rfl, hl⟩
    | done r s2 =>
      rintro e w2 ⟨rfl, hi, hbt⟩
      have hyz := K1.out
      have hg := HGV.out
      rw [hg] at hbt
      obtain ⟨_, ⟨a1, a2, a3, a4, a5⟩, b1, b2, b3, b4, b5⟩ := (K2.out.but hbt n2).five
      obtain ⟨_, ⟨c1, c2, c3, c4, c5⟩, d1', d2', d3', d4', d5'⟩ := (K3.out.but hbt n3).five
      have hsz := hbt.size
      have m1 : w.heap.size + 1 < w2.heap.size := by omega
      have m2 : w.heap.size + 1 + 1 < w2.heap.size := by omega
      have HW : Hid (But gv w w2) := Lib.hid ((But.of K0.out (by omega)).trans hbt)
      have HI2 := Lib.hid hi
      have HE := Lib.hid (he r)
      clear hi hbt hyz hg he
      go_wp2_with fail
      have hg := HGV.out
      have hbw := HW.out
      refine bodyPost_ret (v := .agg #[.int .i64 0, .bool ((r : Int) == 1), .int .i64 0, .int .u64 0, .slice none 0 0]) (by simp [results, Tryd.results38, go_sem, a1, a2, a3, a4, a5]) rfl ⟨congrArg Ending.returned HE.out.symm, V.M.stay HI2.out (Below.mono (B := w.heap.size) (by repeat (first | with_reducible exact Below.refl _ _ | with_reducible refine Below.drew ?_ | with_reducible refine below_al ?_ | (refine Below.setCell ?_ (show w.heap.size ≤ _ by (try simp only []); omega) _))) (HBW.out _)), ?_⟩
      rw [hg]
      exact (by repeat (first | with_reducible assumption | with_reducible exact But.refl _ _ | with_reducible refine But.drew ?_ | (with_reducible refine But.alloc ?_ _ (by omega)) | (with_reducible refine But.set ?_ _ _) | (with_reducible refine But.new ?_ _ _ _ (by omega) (by omega))))
  have hp : sPrg t k u v x n = .ret 0 := by unfold sPrg; rw [if_neg h20, if_neg h22, if_neg h23, if_neg h7, if_neg h21]
  rw [hp] at hR
  have hee : sOut k 0 = .agg #[.int .i64 1, .bool false, .int .i64 0, .int .u64 0, .slice none 0 0] := by unfold sOut sErr sIs sW; rw [if_neg (by omega), if_neg (by omega), if_neg h20]; rfl
  have e20 : ((k : Int) == 20) = false := by rw [beq_eq_false_iff_ne]; exact h20
  have e22 : ((k : Int) == 22) = false := by rw [beq_eq_false_iff_ne]; exact h22
  have e23 : ((k : Int) == 23) = false := by rw [beq_eq_false_iff_ne]; exact h23
  have e7 : ((k : Int) == 7) = false := by rw [beq_eq_false_iff_ne]; exact h7
  have e21 : ((k : Int) == 21) = false := by rw [beq_eq_false_iff_ne]; exact h21
  rw [← hR]
  have HI := Lib.hid hI
  have HGV := Lib.hid hgv
  have HBW := Lib.hid hBw
  have HE := Lib.hid hee
  clear hI hR ht hx hgv hBw hop h20 h22 h23 h7 h21 hb hp hee
  go_enter Tryd.func38, Tryd.ntmps38
  go_wp2_with fail
  have hg := HGV.out
  refine bodyPost_ret (v := .agg #[.int .i64 1, .bool false, .int .i64 0, .int .u64 0, .slice none 0 0]) (by simp [results, Tryd.results38, go_sem]) rfl ⟨congrArg Ending.returned HE.out.symm, V.M.stay HI.out (Below.mono (B := w.heap.size) (by repeat (first | with_reducible exact Below.refl _ _ | with_reducible refine Below.drew ?_ | with_reducible refine below_al ?_ | (refine Below.setCell ?_ (show w.heap.size ≤ _ by (try simp only []); omega) _))) (HBW.out _)), ?_⟩
  rw [hg]
  have hbw : But gv w w := But.refl _ _
  exact (by repeat (first | with_reducible assumption | with_reducible exact But.refl _ _ | with_reducible refine But.drew ?_ | (with_reducible refine But.alloc ?_ _ (by omega)) | (with_reducible refine But.set ?_ _ _) | (with_reducible refine But.new ?_ _ _ _ (by omega) (by omega))))
end
end Go.Proofs.YtdbomlclkhkinaaDoor
namespace Go.Proofs.YtdbomlclkhkinaaDoor
open Go.ChangeShapes Go.WideShapes Go.ChangeAt Go.RowKit Go.BigFrame Go.Deep
set_option linter.unusedVariables false
set_option maxRecDepth 100000

set_option maxHeartbeats 1000000 in
theorem do_leftX (g : Nat) (A : Option Addr) (cap : Nat) (p : Bool) (q0 q1 q2 q3 q4 q5 : Value) (x : Acc) (hm : x.m ≤ 1000000) (D : Option Addr) (dc : Nat) (E : Option Addr) (ec : Nat) (w : World)
    (hT : Hid (VarAt w g (tapeV A 0 cap p false q0 q1 q2 q3 q4 q5))) (hX : Hid (∀ y, But g w y → AccP y x D dc E ec)) :
    Calls Tryd.prog 86 #[.pointer (some ⟨g, 0, none⟩), .agg #[.int .i64 x.k, .int .i64 x.c, .int .u64 (x.a : Int), .int .u64 (x.b : Int), .slice D x.d.length dc, .slice E x.m ec]] w (LeftPost w g x p) := by
  have HM := Lib.hid hm
  obtain ⟨hgz, ⟨c0, c1, c2, c3, c4, c5, c6, c7, c8⟩, f0, f1, f2, f3, f4, f5, f6, f7, f8⟩ := hT.out.nine
  have g1 : g < w.heap.size + 1 := by omega
  have g2 : g < w.heap.size + 1 + 1 := by omega
  have g3 : ¬ (g = w.heap.size) := by omega
  have g4 : ¬ (g = w.heap.size + 1) := by omega
  have g6 : ¬ (w.heap.size = g) := by omega
  have g7 : ¬ (w.heap.size + 1 = g) := by omega
  clear hm
  go_enter Tryd.func86, Tryd.ntmps86
  go_upto_region 8 with fail
  refine gen_w (P := fun W => Code.wp _ _ _ _ W) (fun y => But g w y ∧ y.heap.size = w.heap.size + 1 + 1 ∧ VarAt y g (tapeV A 0 cap p true q0 q1 q2 q3 q4 q5) ∧ VarAt y w.heap.size (accA x D dc E ec)) ⟨(by repeat (first | with_reducible assumption | with_reducible exact But.refl _ _ | with_reducible refine But.drew ?_ | (with_reducible refine But.alloc ?_ _ (by omega)) | (with_reducible refine But.set ?_ _ _) | (with_reducible refine But.new ?_ _ _ _ (by omega) (by omega)))), by simp, VarAt.mk9 (by simp; omega) (by go_simp) (by go_simp) (by go_simp) (by go_simp) (by go_simp) (by go_simp) (by go_simp) (by go_simp) (by go_simp) (by go_simp) (by go_simp) (by go_simp) (by go_simp) (by go_simp) (by go_simp) (by go_simp) (by go_simp) (by go_simp), VarAt.mk6 (by simp; omega) (by go_simp) (by go_simp) (by go_simp) (by go_simp) (by go_simp) (by go_simp) (by go_simp) (by go_simp) (by go_simp) (by go_simp) (by go_simp) (by go_simp)⟩ ?_
  rintro y ⟨k0, k1, k2, k3⟩
  obtain ⟨N, hN⟩ : ∃ N, w.heap.size = N := ⟨_, rfl⟩
  rw [hN] at k1 k3 g1 g2 g3 g4 g6 g7 hgz ⊢
  have hxy := hX.out y k0
  have K0 := Lib.hid k0
  have K1 := Lib.hid k1
  have K2 := Lib.hid k2
  have K3 := Lib.hid k3
  have HD := Lib.hid hxy.d
  have HF := Lib.hid hxy.f
  have HL := Lib.hid hxy.dl.2
  have HNN := Lib.hid hN
  obtain ⟨z, ⟨b0, b1, b2, b3, b4, b5⟩, h0', h1', h2', h3', h4', h5'⟩ := k3.six
  clear c0 c1 c2 c3 c4 c5 c6 c7 c8 f0 f1 f2 f3 f4 f5 f6 f7 f8 k0 k1 k2 k3 hxy hN
  go_region_with (first
    | (go_at_call 91; (with_reducible refine (cloneBC_at D _ dc x.d HL.out _ (Lib.hid (HD.out.below (B := y.heap.size) (by repeat (first | with_reducible assumption | with_reducible exact Below.refl _ _ | with_reducible refine Below.drew ?_ | with_reducible refine below_al ?_)) (Nat.le_refl _)))).mono ?_); rintro e w2 ⟨B2, bc2, rfl, hc2, hat2, hb2, hn2⟩; have hy2 : Below y.heap.size y w2 := below_step hb2 (by repeat (first | with_reducible assumption | with_reducible exact Below.refl _ _ | with_reducible refine Below.drew ?_ | with_reducible refine below_al ?_)); have HN2 := Lib.hid hn2; have HC2 := Lib.hid hc2; have HAT := Lib.hid hat2; have HY2 := Lib.hid hy2; obtain ⟨z2, ⟨e0, e1, e2, e3, e4, e5⟩, i0, i1, i2, i3, i4, i5⟩ := (K3.out.below hy2).six; clear hc2 hat2 hb2 hn2 hy2)
    | (go_at_call 72; have hw2 := HY2.out; (with_reducible refine (cloneWs_at E _ ec x.f HM.out _ (Lib.hid (HF.out.below (B := y.heap.size) (by repeat (first | with_reducible assumption | with_reducible exact Below.refl _ _ | with_reducible refine Below.drew ?_ | with_reducible refine below_al ?_)) (Nat.le_refl _)))).mono ?_); rintro e w3 ⟨B3, bc3, rfl, hc3, hat3, hb3, hn3⟩; have hy3 : Below y.heap.size y w3 := below_step hb3 (by repeat (first | with_reducible assumption | with_reducible exact Below.refl _ _ | with_reducible refine Below.drew ?_ | with_reducible refine below_al ?_)); have HN3 := Lib.hid hn3; have HC3 := Lib.hid hc3; have HAT3 := Lib.hid hat3; have HB3 := Lib.hid hb3; have HY3 := Lib.hid hy3; obtain ⟨z3, ⟨j0, j1, j2, j3, j4, j5⟩, l0, l1, l2, l3, l4, l5⟩ := (K3.out.below hy3).six; obtain ⟨z4, ⟨t0, t1, t2, t3, t4, t5, t6, t7, t8⟩, s0, s1, s2, s3, s4, s5, s6, s7, s8⟩ := (K2.out.below hy3).nine; clear hc3 hat3 hb3 hn3 hy3 hw2))
  all_goals
    go_wp2_with fail
    have k0 := K0.out
    have k1 := K1.out
    have y3 := HY3.out
    have kN := HNN.out
    have kx := hX.out w (But.refl g w)
    have ko := HB3.out.size
    have hbw : But g w w3 := k0.later y3 (by omega)
    have hy2s := HY2.out.size
    refine ⟨rfl, B2, bc2, B3, bc3, A, cap, rfl, VarAt.mk9 (by simp; omega) (by go_simp) (by go_simp) (by go_simp) (by go_simp) (by go_simp) (by go_simp) (by go_simp) (by go_simp) (by go_simp) (by go_simp) (by go_simp) (by go_simp) (by go_simp) (by go_simp) (by go_simp) (by go_simp) (by go_simp) (by go_simp), ⟨kx.k, kx.c, kx.a, kx.b, ⟨HC2.out, kx.dl.2⟩, ⟨HC3.out, kx.ml.2⟩, AtB.svd (Q := fun b => b ≠ N ∧ b ≠ g) (AtB.later HAT HB3.out) (by repeat (first | with_reducible exact Svd.refl _ _ | with_reducible refine Svd.drew ?_ | (with_reducible refine Svd.set ?_ _ _ _ (by omega)))) (fun _ b off e => by have h1 : y.heap.size ≤ b := HN2.out b off e; omega), AtW.svd (Q := fun b => b ≠ N ∧ b ≠ g) HAT3.out (by repeat (first | with_reducible exact Svd.refl _ _ | with_reducible refine Svd.drew ?_ | (with_reducible refine Svd.set ?_ _ _ _ (by omega)))) (HN3.out.mono fun b h => by omega)⟩, (by repeat (first | with_reducible assumption | with_reducible exact But.refl _ _ | with_reducible refine But.drew ?_ | (with_reducible refine But.alloc ?_ _ (by omega)) | (with_reducible refine But.set ?_ _ _) | (with_reducible refine But.new ?_ _ _ _ (by omega) (by omega)))), (fun _ b off e => by have h1 : y.heap.size ≤ b := HN2.out b off e; omega), HN3.out.mono fun b h => by omega⟩

theorem field_fl (a b c : Value) (W : World) : (Instr.field 60 (.agg #[a, b, c]) 2).run Tryd.prog W = .ok c W := by kernel_rfl
def accD (k i : Int) (a b : Nat) (d : List Nat) : Acc := ⟨k, i, a, b, d, 0, fun _ => 0⟩
theorem accD_P {g : Nat} {w : World} {k : Int} {d : List Nat} {D : Option Addr} {dc : Nat} (hk : -9223372036854775808 ≤ k ∧ k < 9223372036854775808) (hd : AtB w D d.length d) (ho : OffW (fun c => c ≠ g) D d.length) (hl : d.length ≤ dc) (hm : d.length ≤ 100000) : ∀ y, But g w y → AccP y (accD k 0 0 0 d) D dc none 0 := fun y h =>
  ⟨hk, (by decide : (-9223372036854775808 : Int) ≤ 0 ∧ (0 : Int) < 9223372036854775808), (by decide : 0 < 18446744073709551616), (by decide : 0 < 18446744073709551616), ⟨hl, show d.length ≤ 140737488355328 by omega⟩, ⟨Nat.le_refl 0, Nat.zero_le _⟩, hd.but h ho, AtW.nil _ _⟩
def leftD (g : Nat) (wb : World) (k i : Int) (a b : Nat) (d : List Nat) (w' : World) : Prop := ∃ e, LeftPost wb g (accD k i a b d) true e w'
/-- What stands ahead of the j-th of the two accesses. -/
def Prd.stp (d : List Nat) : Nat → Prd
  | 0 => Prd.both d
  | 1 => Prd.sync
  | _ => .ret 1
def StepI (g : Nat) (w0 wb w : World) (d : List Nat) (R : RanD (List Res)) (j : Nat) (x : World) : Prop := ∃ s, TapeI g w0 wb s x ∧ But g w x ∧ (Prd.stp d j).run tapeTellD s = R
theorem LeftPost.wider {g : Nat} {wb w : World} {x : Acc} {p : Bool} {e : Ending} {w' : World} (h : LeftPost w g x p e w') (hb : But g wb w) : LeftPost wb g x p e w' := by
  obtain ⟨D, dc, E, ec, A, cap, h1, h2, h3, h4, h5, h6⟩ := h
  have hs := hb.size
  exact ⟨D, dc, E, ec, A, cap, h1, h2, h3, hb.trans h4, h5.mono fun b h => by omega, h6.mono fun b h => by omega⟩
set_option maxHeartbeats 4000000 in
set_option maxRecDepth 100000 in
theorem steps_tape (g : Nat) (w0 wb : World) (hg : w0.heap.size ≤ g) (hgw : g < wb.heap.size) (hb : Below w0.heap.size w0 wb) {s : List Res} {R : RanD (List Res)} (d : List Nat) (hR : (Prd.both d).run tapeTellD s = R) (hd : d.length ≤ 100000) (D : Option Addr) (dc b : Nat) (w : World) (hI : TapeI g w0 wb s w) (hbg : b ≠ g) (ho : OffW (fun c => c ≠ g) D d.length) (hl : d.length ≤ dc) (hat : AtB w D d.length d) (htw : TwoAt w b d D dc) :
    Calls Tryd.prog 80 #[doV g, .slice (some ⟨b, 0, none⟩) 2 2] w (RunO (TapeI g w0 wb) g (.iface 117 (.pointer (some ⟨g, 0, none⟩))) (leftD g wb) w (fun r => .bool ((r : Int) == 1)) R) := by
  have HXP := Lib.hid (accD_P (g := g) (w := w) (k := 5) (d := d) (by decide) hat ho hl hd)
  have hsm := eql_do 86 #[.pointer (some ⟨g, 0, none⟩)] #[]
  obtain ⟨nd, hnd⟩ : ∃ m, d.length = m := ⟨_, rfl⟩
  have HTW : Hid (VarAt w b [.int .i64 5, .int .i64 0, .int .u64 0, .int .u64 0, .slice D nd dc, .slice none 0 0, .int .i64 6, .int .i64 0, .int .u64 0, .int .u64 0, .slice none 0 0, .slice none 0 0]) := Lib.hid (by have h := htw; unfold TwoAt at h; rw [hnd] at h; exact h)
  have HND := Lib.hid hnd
  have HG := Lib.hid hgw
  have H0 := Lib.hid (And.intro hg hb)
  have HST := Lib.hid (show StepI g w0 wb w d R 0 w from ⟨s, hI, But.refl _ _, hR⟩)
  have HBG := Lib.hid hbg
  clear hI hR hgw hg hb hat ho hl hd htw hnd hbg
  go_enter Tryd.func80, Tryd.ntmps80
  go_wp2_with fail
  go_loopw [11] (fun u11 wr => ∃ j : Nat, j ≤ 2 ∧ u11 = .int .i64 (j : Int) ∧ StepI g w0 wb w d R j wr) (fun i _ => 2 - (intOf i).toNat)
  case atStart => exact ⟨0, by omega, rfl, HST.out⟩
  case round =>
    clear HST s
    obtain ⟨j, hj, rfl, s, hti, hbt, hr⟩ := hrel
    have htw := HTW.out.but hbt HBG.out
    obtain rfl | rfl | rfl : j = 0 ∨ j = 1 ∨ j = 2 := by omega
    · clear hj
      obtain ⟨c0, c1, c2, c3, c4, c5⟩ : wr.cell? ⟨b, 0, none⟩ = some (.int .i64 5) ∧ wr.cell? ⟨b, 1, none⟩ = some (.int .i64 0) ∧ wr.cell? ⟨b, 2, none⟩ = some (.int .u64 0) ∧ wr.cell? ⟨b, 3, none⟩ = some (.int .u64 0) ∧ wr.cell? ⟨b, 4, none⟩ = some (.slice D nd dc) ∧ wr.cell? ⟨b, 5, none⟩ = some (.slice none 0 0) := ⟨htw.2.1 0 _ rfl, htw.2.1 1 _ rfl, htw.2.1 2 _ rfl, htw.2.1 3 _ rfl, htw.2.1 4 _ rfl, htw.2.1 5 _ rfl⟩
      have hblt := htw.1
      have HTI := Lib.hid hti
      have HBW := Lib.hid hbt
      have HRR := Lib.hid hr
      clear hti hbt hr htw
      go_upto_region 6 with fail
      refine gen_w (P := fun W => Code.wp _ _ _ _ W) (fun z => Below wr.heap.size wr z ∧ z.heap.size = wr.heap.size + 1 ∧ VarAt z wr.heap.size [.int .i64 5, .int .i64 0, .int .u64 0, .int .u64 0, .slice D nd dc, .slice none 0 0]) ⟨(by repeat (first | with_reducible assumption | with_reducible exact Below.refl _ _ | with_reducible refine Below.drew ?_ | with_reducible refine below_al ?_ | (with_reducible refine below_set1 (by omega) _ ?_))), by simp, VarAt.mk6 (by simp) (by go_simp) (by go_simp) (by go_simp) (by go_simp) (by go_simp) (by go_simp) (by go_simp) (by go_simp) (by go_simp) (by go_simp) (by go_simp) (by go_simp)⟩ ?_
      rintro z ⟨k0, k1, k2⟩
      obtain ⟨_, ⟨a0, a1, a2, a3, a4, a5⟩, _⟩ := k2.six
      have hgr := Nat.lt_of_lt_of_le HG.out HTI.out.2.size
      have hbz : But g w z := HBW.out.trans (But.of k0 (Nat.le_of_lt hgr))
      have hti : TapeI g w0 wb _ z := (tapeSrv g w0 wb H0.out.1 HG.out H0.out.2).later HTI.out k0
      have HBZ := Lib.hid hbz
      clear k0 k1 k2 c0 c1 c2 c3 c4 c5 hblt HTI HBW
      cases s with
      | nil =>
        have hr' : RanD.left 5 0 0 0 d = R := HRR.out
        obtain ⟨⟨A, cap, hv, hl, hc⟩, hB⟩ := hti
        have HXZ : ∀ y, But g z y → AccP y (accD 5 0 0 0 d) D dc none 0 := fun y h => HXP.out y (HBZ.out.trans h)
        have HDO := do_leftX g A cap true (.int .i64 0) (.int .i64 0) (.int .u64 0) (.int .u64 0) (.slice none 0 0) (.slice none 0 0) (accD 5 0 0 0 d) (Nat.zero_le _) D dc none 0 z (Lib.hid hv) (Lib.hid HXZ)
        have HDO2 : Calls Tryd.prog 86 #[.pointer (some ⟨g, 0, none⟩), .agg #[.int .i64 5, .int .i64 0, .int .u64 0, .int .u64 0, .slice D nd dc, .slice none 0 0]] z (LeftPost z g (accD 5 0 0 0 d) true) := by rw [← HND.out]; exact HDO
        have HBB := Lib.hid hB
        have HRL := Lib.hid hr'
        clear HDO HXZ hv hl hc hB hr'
        go_wp2_with fail
        (with_reducible refine HDO2.mono ?_)
        rintro e w4 h
        have hx := h.wider HBB.out
        obtain ⟨_, _, _, _, _, _, rfl, _⟩ := h
        exact ⟨rfl, by rw [← HRL.out]; exact ⟨rfl, _, hx⟩⟩
      | cons rr rest =>
        obtain ⟨⟨A, cap, hv, hl, hc⟩, hB⟩ := hti
        have HDO := do_told g A (rr :: rest).length rest.length cap rfl rr rest true false (.int .i64 0) (.int .i64 0) (.int .u64 0) (.int .u64 0) (.slice none 0 0) (.slice none 0 0) 5 0 0 0 D nd dc none 0 0 w0 z (Lib.hid hv) (Lib.hid hl) hc (Lib.hid (H0.out.2.trans (hB.below.mono H0.out.1))) H0.out.1
        have HDO2 : Calls Tryd.prog 86 #[.pointer (some ⟨g, 0, none⟩), .agg #[.int .i64 5, .int .i64 0, .int .u64 0, .int .u64 0, .slice D nd dc, .slice none 0 0]] z _ := HDO
        have HBB := Lib.hid hB
        have hfl := field_fl
        clear HDO hv hl hc hB
        go_wp2_with fail
        (with_reducible refine HDO2.mono ?_)
        clear HDO2
        rintro e w4 ⟨B, bc, A', cap', rfl, hr4, hv4, hl4, hc4, hb4⟩
        have HT4 : Hid (TapeI g w0 wb rest w4) := Lib.hid ⟨⟨A', cap', hv4, hl4, hc4⟩, HBB.out.trans hb4⟩
        have HB4 := Lib.hid (HBZ.out.trans hb4)
        clear hr4 hv4 hl4 hc4 hb4
        cases hfa : rr.fl with
        | true =>
          have hr' : RanD.done 0 rest = R := by
            have := HRR.out
            simpa [Prd.stp, Prd.both, Prd.sync, Prd.run, tapeTellD, toldR, hfa] using this
          have HRL := Lib.hid hr'
          clear hr' hfa
          go_wp2_with fail
          go_ret
          rw [← HRL.out]
          exact ⟨rfl, HT4.out, HB4.out⟩
        | false =>
          have hr' : (Prd.stp d 1).run tapeTellD rest = R := by
            have := HRR.out
            simpa [Prd.stp, Prd.both, Prd.sync, Prd.run, tapeTellD, toldR, hfa] using this
          have HRL := Lib.hid hr'
          clear hr' hfa
          go_wp2_with fail
          go_roundw
          case rel => exact ⟨1, by omega, by go_num, rest, HT4.out, HB4.out, HRL.out⟩
          case measure => simp [intOf]
    · clear hj
      obtain ⟨c0, c1, c2, c3, c4, c5⟩ : wr.cell? ⟨b, 6, none⟩ = some (.int .i64 6) ∧ wr.cell? ⟨b, 7, none⟩ = some (.int .i64 0) ∧ wr.cell? ⟨b, 8, none⟩ = some (.int .u64 0) ∧ wr.cell? ⟨b, 9, none⟩ = some (.int .u64 0) ∧ wr.cell? ⟨b, 10, none⟩ = some (.slice none 0 0) ∧ wr.cell? ⟨b, 11, none⟩ = some (.slice none 0 0) := ⟨htw.2.1 6 _ rfl, htw.2.1 7 _ rfl, htw.2.1 8 _ rfl, htw.2.1 9 _ rfl, htw.2.1 10 _ rfl, htw.2.1 11 _ rfl⟩
      have hblt := htw.1
      have HTI := Lib.hid hti
      have HBW := Lib.hid hbt
      have HRR := Lib.hid hr
      clear hti hbt hr htw
      go_upto_region 6 with fail
      refine gen_w (P := fun W => Code.wp _ _ _ _ W) (fun z => Below wr.heap.size wr z ∧ z.heap.size = wr.heap.size + 1 ∧ VarAt z wr.heap.size [.int .i64 6, .int .i64 0, .int .u64 0, .int .u64 0, .slice none 0 0, .slice none 0 0]) ⟨(by repeat (first | with_reducible assumption | with_reducible exact Below.refl _ _ | with_reducible refine Below.drew ?_ | with_reducible refine below_al ?_ | (with_reducible refine below_set1 (by omega) _ ?_))), by simp, VarAt.mk6 (by simp) (by go_simp) (by go_simp) (by go_simp) (by go_simp) (by go_simp) (by go_simp) (by go_simp) (by go_simp) (by go_simp) (by go_simp) (by go_simp) (by go_simp)⟩ ?_
      rintro z ⟨k0, k1, k2⟩
      obtain ⟨_, ⟨a0, a1, a2, a3, a4, a5⟩, _⟩ := k2.six
      have hgr := Nat.lt_of_lt_of_le HG.out HTI.out.2.size
      have hbz : But g w z := HBW.out.trans (But.of k0 (Nat.le_of_lt hgr))
      have hti : TapeI g w0 wb _ z := (tapeSrv g w0 wb H0.out.1 HG.out H0.out.2).later HTI.out k0
      have HBZ := Lib.hid hbz
      clear k0 k1 k2 c0 c1 c2 c3 c4 c5 hblt HTI HBW
      cases s with
      | nil =>
        have hr' : RanD.left 6 0 0 0 [] = R := HRR.out
        obtain ⟨⟨A, cap, hv, hl, hc⟩, hB⟩ := hti
        have HXZ : ∀ y, But g z y → AccP y (accD 6 0 0 0 []) none 0 none 0 := accD_P (d := []) (by decide) (AtB.nil _ _) (OffW.nil _ _) (Nat.le_refl 0) (by decide)
        have HDO := do_leftX g A cap true (.int .i64 0) (.int .i64 0) (.int .u64 0) (.int .u64 0) (.slice none 0 0) (.slice none 0 0) (accD 6 0 0 0 []) (Nat.zero_le _) none 0 none 0 z (Lib.hid hv) (Lib.hid HXZ)
        have HDO2 : Calls Tryd.prog 86 #[.pointer (some ⟨g, 0, none⟩), .agg #[.int .i64 6, .int .i64 0, .int .u64 0, .int .u64 0, .slice none 0 0, .slice none 0 0]] z (LeftPost z g (accD 6 0 0 0 []) true) := by exact HDO
        have HBB := Lib.hid hB
        have HRL := Lib.hid hr'
        clear HDO HXZ hv hl hc hB hr'
        go_wp2_with fail
        (with_reducible refine HDO2.mono ?_)
        rintro e w4 h
        have hx := h.wider HBB.out
        obtain ⟨_, _, _, _, _, _, rfl, _⟩ := h
        exact ⟨rfl, by rw [← HRL.out]; exact ⟨rfl, _, hx⟩⟩
      | cons rr rest =>
        obtain ⟨⟨A, cap, hv, hl, hc⟩, hB⟩ := hti
        have HDO := do_told g A (rr :: rest).length rest.length cap rfl rr rest true false (.int .i64 0) (.int .i64 0) (.int .u64 0) (.int .u64 0) (.slice none 0 0) (.slice none 0 0) 6 0 0 0 none 0 0 none 0 0 w0 z (Lib.hid hv) (Lib.hid hl) hc (Lib.hid (H0.out.2.trans (hB.below.mono H0.out.1))) H0.out.1
        have HDO2 : Calls Tryd.prog 86 #[.pointer (some ⟨g, 0, none⟩), .agg #[.int .i64 6, .int .i64 0, .int .u64 0, .int .u64 0, .slice none 0 0, .slice none 0 0]] z _ := HDO
        have HBB := Lib.hid hB
        have hfl := field_fl
        clear HDO hv hl hc hB
        go_wp2_with fail
        (with_reducible refine HDO2.mono ?_)
        clear HDO2
        rintro e w4 ⟨B, bc, A', cap', rfl, hr4, hv4, hl4, hc4, hb4⟩
        have HT4 : Hid (TapeI g w0 wb rest w4) := Lib.hid ⟨⟨A', cap', hv4, hl4, hc4⟩, HBB.out.trans hb4⟩
        have HB4 := Lib.hid (HBZ.out.trans hb4)
        clear hr4 hv4 hl4 hc4 hb4
        cases hfa : rr.fl with
        | true =>
          have hr' : RanD.done 0 rest = R := by
            have := HRR.out
            simpa [Prd.stp, Prd.both, Prd.sync, Prd.run, tapeTellD, toldR, hfa] using this
          have HRL := Lib.hid hr'
          clear hr' hfa
          go_wp2_with fail
          go_ret
          rw [← HRL.out]
          exact ⟨rfl, HT4.out, HB4.out⟩
        | false =>
          have hr' : (Prd.stp d 2).run tapeTellD rest = R := by
            have := HRR.out
            simpa [Prd.stp, Prd.both, Prd.sync, Prd.run, tapeTellD, toldR, hfa] using this
          have HRL := Lib.hid hr'
          clear hr' hfa
          go_wp2_with fail
          go_roundw
          case rel => exact ⟨2, by omega, by go_num, rest, HT4.out, HB4.out, HRL.out⟩
          case measure => simp [intOf]
    · have hr' : RanD.done 1 s = R := hr
      have HE := Lib.hid (And.intro hti hbt)
      have HRL := Lib.hid hr'
      clear hti hbt hr hr' htw hj
      go_wp2_with fail
      go_ret
      rw [← HRL.out]
      exact ⟨rfl, HE.out.1, HE.out.2⟩
/-- The log's own server. -/
def tapeD (g : Nat) (w0 wb : World) (hg : w0.heap.size ≤ g) (hgw : g < wb.heap.size) (hb : Below w0.heap.size w0 wb) (hT : Tab w0) : SrvD (doV g) (List Res) where
  M := tapeSrv g w0 wb hg hgw hb
  tell := tapeTellD
  L := leftD g wb
  mem := by
    intro s k i a b h0 h5
    cases s with
    | nil => rfl
    | cons r rest =>
      show Tell.told (toldR k r) rest = Tell.told (r.n % 18446744073709551616) rest
      unfold toldR
      rw [if_pos h5]
  lmem := fun _ _ h => h
  lt := fun h => Nat.lt_of_lt_of_le hgw h.2.size
  tab := fun h => by
    have h1 : Tab _ := hT.below hb hT.pos
    have hp := hT.pos
    exact h1.but h.2 (by omega)
  steps := fun d hR _ hd D dc b w hI hbg ho hl hat htw => steps_tape g w0 wb hg hgw hb d hR hd D dc b w hI hbg ho hl hat htw
end Go.Proofs.YtdbomlclkhkinaaDoor
namespace Go.Proofs.YtdbomlclkhkinaaDoor
open Go.ChangeShapes Go.WideShapes Go.ChangeAt Go.RowKit Go.BigFrame
set_option linter.unusedVariables false
set_option maxRecDepth 100000

/-! ### (*tape).play -/

set_option maxHeartbeats 1000000 in
theorem playSv_yes (g : Nat) (A : Option Addr) (n cap : Nat) (p o : Bool) (q0 q1 q2 q3 q4 q5 : Value) (p0 p1 : Nat) (er : Int) (is : Bool) (N S : Int) (z0 z1 z2 z3 z4 z5 : Value) (w : World)
    (hT : VarAt w g (tapeV A n cap p o q0 q1 q2 q3 q4 q5))
    (hP : ∀ w1, But g w w1 → VarAt w1 g (tapeV A n cap true o q0 q1 q2 q3 q4 q5) → Calls Tryd.prog 37 #[.func (.func 86) #[.pointer (some ⟨g, 0, none⟩)] #[], .pointer (some ⟨p0, 0, none⟩), .pointer (some ⟨p1, 0, none⟩)] w1 (ProgE g er is N S o z0 z1 z2 z3 z4 z5 w1)) :
    Calls Tryd.prog 64 #[.pointer (some ⟨g, 0, none⟩), .func (.func 37) #[] #[.pointer (some ⟨p0, 0, none⟩), .pointer (some ⟨p1, 0, none⟩)]] w (PlayE g er is N S o z0 z1 z2 z3 z4 z5 w) := by
  obtain ⟨hgz, ⟨c0, c1, c2, c3, c4, c5, c6, c7, c8⟩, f0, f1, f2, f3, f4, f5, f6, f7, f8⟩ := hT.nine
  have g1 : g < w.heap.size + 1 := by omega
  have g2 : g < w.heap.size + 1 + 1 := by omega
  have g3 : ¬ (g = w.heap.size) := by omega
  have g4 : ¬ (g = w.heap.size + 1) := by omega
  have hmf : ∀ (fn : Fn) (first cap : Array Value) (w : World), (Instr.makeFunc fn first cap).run Tryd.prog w = .ok (.func fn first cap) w := fun _ _ _ _ => rfl
  go_enter_defers Tryd.func64, Tryd.ntmps64
  go_wp2_with fail
  refine gen_w (P := fun W => Calls _ _ _ W _) (fun y => But g w y ∧ y.heap.size = w.heap.size + 1 + 1 ∧ VarAt y g (tapeV A n cap true o q0 q1 q2 q3 q4 q5) ∧ VarAt y w.heap.size [.pointer (some ⟨g, 0, none⟩)] ∧ VarAt y (w.heap.size + 1) [.int .i64 0, .bool false, .int .i64 0, .int .u64 0, .slice none 0 0]) ⟨(by repeat (first | with_reducible assumption | with_reducible exact But.refl _ _ | with_reducible refine But.drew ?_ | (with_reducible refine But.alloc ?_ _ (by omega)) | (with_reducible refine But.set ?_ _ _) | (with_reducible refine But.new ?_ _ _ _ (by omega) (by omega)))), by simp, VarAt.mk9 (by simp; omega) (by go_simp) (by go_simp) (by go_simp) (by go_simp) (by go_simp) (by go_simp) (by go_simp) (by go_simp) (by go_simp) (by go_simp) (by go_simp) (by go_simp) (by go_simp) (by go_simp) (by go_simp) (by go_simp) (by go_simp) (by go_simp), VarAt.mk1 (by simp; omega) (by go_simp) (by go_simp), VarAt.mk5 (by simp) (by go_simp) (by go_simp) (by go_simp) (by go_simp) (by go_simp) (by go_simp) (by go_simp) (by go_simp) (by go_simp) (by go_simp)⟩ ?_
  rintro y ⟨k0, k1, k2, k3, k4⟩
  have K0 := Lib.hid k0
  have K1 := Lib.hid k1
  have K3 := Lib.hid k3
  have K4 := Lib.hid k4
  have HP := hP y k0 k2
  clear hP hT c0 c1 c2 c3 c4 c5 c6 c7 c8 f0 f1 f2 f3 f4 f5 f6 f7 f8 k0 k1 k2 k3 k4
  refine HP.mono ?_
  rintro e w2 ⟨rfl, ⟨A', n', cap', hT2⟩, hb2⟩
  obtain ⟨hgz2, ⟨c0, c1, c2, c3, c4, c5, c6, c7, c8⟩, f0, f1, f2, f3, f4, f5, f6, f7, f8⟩ := hT2.nine
  obtain ⟨r0, ⟨r1, r2, r3, r4, r5⟩, s1, s2, s3, s4, s5⟩ := (K4.out.but hb2 (by omega)).five
  have hpb := ((K3.out.but hb2 (by omega)).2.1 0 _ rfl)
  have n1 : ¬ (w.heap.size = g) := by omega
  have n2 : ¬ (w.heap.size + 1 = g) := by omega
  go_wp2_with fail
  refine leaves_cons (f := 85) (args := #[.pointer (some ⟨w.heap.size, 0, none⟩)]) (by simp) (by simp [go_sem]) ?_
  refine (catch_idle w.heap.size g true _ (by go_simp) (by go_simp) (by go_simp)).mono ?_
  rintro e u' w3 ⟨rfl, rfl, rfl⟩
  have hby : But g w w2 := K0.out.trans hb2
  refine ⟨.tuple #[.agg #[.int .i64 er, .bool is, .int .i64 N, .int .u64 S, .slice none 0 0], .bool true], by simp [results, Tryd.results64, go_sem, r1, r2, r3, r4, r5], rfl, ⟨A', n', cap', VarAt.mk9 (by simp; omega) (by go_simp) (by go_simp) (by go_simp) (by go_simp) (by go_simp) (by go_simp) (by go_simp) (by go_simp) (by go_simp) (by go_simp) (by go_simp) (by go_simp) (by go_simp) (by go_simp) (by go_simp) (by go_simp) (by go_simp) (by go_simp)⟩, (by repeat (first | with_reducible assumption | with_reducible exact But.refl _ _ | with_reducible refine But.drew ?_ | (with_reducible refine But.alloc ?_ _ (by omega)) | (with_reducible refine But.set ?_ _ _) | (with_reducible refine But.new ?_ _ _ _ (by omega) (by omega))))⟩
set_option maxHeartbeats 1000000 in
theorem playSv_left (g : Nat) (A : Option Addr) (n cap : Nat) (p o : Bool) (q0 q1 q2 q3 q4 q5 : Value) (p0 p1 : Nat) (x : Acc) (w : World)
    (hT : VarAt w g (tapeV A n cap p o q0 q1 q2 q3 q4 q5))
    (hP : ∀ w1, But g w w1 → VarAt w1 g (tapeV A n cap true o q0 q1 q2 q3 q4 q5) → Calls Tryd.prog 37 #[.func (.func 86) #[.pointer (some ⟨g, 0, none⟩)] #[], .pointer (some ⟨p0, 0, none⟩), .pointer (some ⟨p1, 0, none⟩)] w1 (LeftPost w1 g x true)) :
    Calls Tryd.prog 64 #[.pointer (some ⟨g, 0, none⟩), .func (.func 37) #[] #[.pointer (some ⟨p0, 0, none⟩), .pointer (some ⟨p1, 0, none⟩)]] w (PlayLeft g x w) := by
  obtain ⟨hgz, ⟨c0, c1, c2, c3, c4, c5, c6, c7, c8⟩, f0, f1, f2, f3, f4, f5, f6, f7, f8⟩ := hT.nine
  have g1 : g < w.heap.size + 1 := by omega
  have g2 : g < w.heap.size + 1 + 1 := by omega
  have g3 : ¬ (g = w.heap.size) := by omega
  have g4 : ¬ (g = w.heap.size + 1) := by omega
  have hmf : ∀ (fn : Fn) (first cap : Array Value) (w : World), (Instr.makeFunc fn first cap).run Tryd.prog w = .ok (.func fn first cap) w := fun _ _ _ _ => rfl
  go_enter_defers Tryd.func64, Tryd.ntmps64
  go_wp2_with fail
  refine gen_w (P := fun W => Calls _ _ _ W _) (fun y => But g w y ∧ y.heap.size = w.heap.size + 1 + 1 ∧ VarAt y g (tapeV A n cap true o q0 q1 q2 q3 q4 q5) ∧ VarAt y w.heap.size [.pointer (some ⟨g, 0, none⟩)] ∧ VarAt y (w.heap.size + 1) [.int .i64 0, .bool false, .int .i64 0, .int .u64 0, .slice none 0 0]) ⟨(by repeat (first | with_reducible assumption | with_reducible exact But.refl _ _ | with_reducible refine But.drew ?_ | (with_reducible refine But.alloc ?_ _ (by omega)) | (with_reducible refine But.set ?_ _ _) | (with_reducible refine But.new ?_ _ _ _ (by omega) (by omega)))), by simp, VarAt.mk9 (by simp; omega) (by go_simp) (by go_simp) (by go_simp) (by go_simp) (by go_simp) (by go_simp) (by go_simp) (by go_simp) (by go_simp) (by go_simp) (by go_simp) (by go_simp) (by go_simp) (by go_simp) (by go_simp) (by go_simp) (by go_simp) (by go_simp), VarAt.mk1 (by simp; omega) (by go_simp) (by go_simp), VarAt.mk5 (by simp) (by go_simp) (by go_simp) (by go_simp) (by go_simp) (by go_simp) (by go_simp) (by go_simp) (by go_simp) (by go_simp) (by go_simp)⟩ ?_
  rintro y ⟨k0, k1, k2, k3, k4⟩
  have K0 := Lib.hid k0
  have K1 := Lib.hid k1
  have K3 := Lib.hid k3
  have K4 := Lib.hid k4
  have HP := hP y k0 k2
  clear hP hT c0 c1 c2 c3 c4 c5 c6 c7 c8 f0 f1 f2 f3 f4 f5 f6 f7 f8 k0 k1 k2 k3 k4
  refine HP.mono ?_
  rintro e w2 ⟨D, dc, E, ec, A', cap', rfl, hT2, hX, hb2, hD, hE⟩
  have HX := Lib.hid hX
  have HD := Lib.hid hD
  have HE := Lib.hid hE
  clear hX hD hE
  obtain ⟨hgz2, ⟨c0, c1, c2, c3, c4, c5, c6, c7, c8⟩, f0, f1, f2, f3, f4, f5, f6, f7, f8⟩ := hT2.nine
  obtain ⟨r0, ⟨r1, r2, r3, r4, r5⟩, s1, s2, s3, s4, s5⟩ := (K4.out.but hb2 (by omega)).five
  have hpb := ((K3.out.but hb2 (by omega)).2.1 0 _ rfl)
  have n1 : ¬ (w.heap.size = g) := by omega
  have n2 : ¬ (w.heap.size + 1 = g) := by omega
  go_wp2_with fail
  refine leaves_cons (f := 85) (args := #[.pointer (some ⟨w.heap.size, 0, none⟩)]) (by simp) (by simp [go_sem]) ?_
  refine (catch_left w.heap.size g true _ _ (by go_simp) (by go_simp) (by go_simp)).mono ?_
  rintro e u' w3 ⟨rfl, rfl, rfl⟩
  have hby : But g w w2 := K0.out.trans hb2
  have hx := HX.out
  have hz := K1.out
  have hsv : Svd (fun b => y.heap.size ≤ b) w2 (w2.setCell ⟨g, 1, none⟩ (.bool false)) := (Svd.refl _ _).set _ _ _ (by omega)
  refine ⟨.tuple #[.agg #[.int .i64 0, .bool false, .int .i64 0, .int .u64 0, .slice none 0 0], .bool false], by simp [results, Tryd.results64, go_sem, r1, r2, r3, r4, r5], D, dc, E, ec, A', cap', rfl, VarAt.mk9 (by simp; omega) (by go_simp) (by go_simp) (by go_simp) (by go_simp) (by go_simp) (by go_simp) (by go_simp) (by go_simp) (by go_simp) (by go_simp) (by go_simp) (by go_simp) (by go_simp) (by go_simp) (by go_simp) (by go_simp) (by go_simp) (by go_simp), ⟨hx.k, hx.c, hx.a, hx.b, hx.dl, hx.ml, hx.d.svd hsv HD.out, hx.f.svd hsv HE.out⟩, (by repeat (first | with_reducible assumption | with_reducible exact But.refl _ _ | with_reducible refine But.drew ?_ | (with_reducible refine But.alloc ?_ _ (by omega)) | (with_reducible refine But.set ?_ _ _) | (with_reducible refine But.new ?_ _ _ _ (by omega) (by omega)))), HD.out.mono fun b h => by omega, HE.out.mono fun b h => by omega⟩

/-! ### Run -/

set_option maxHeartbeats 1000000 in
theorem runSv_yes (A : Option Addr) (n cap : Nat) (p0 p1 : Nat) (er : Int) (is : Bool) (N S : Int) (w : World)
    (hP : ∀ g w1, w.heap.size ≤ g → Below w.heap.size w w1 → VarAt w1 g (tapeV A n cap true false (.int .i64 0) (.int .i64 0) (.int .u64 0) (.int .u64 0) (.slice none 0 0) (.slice none 0 0)) → Calls Tryd.prog 37 #[.func (.func 86) #[.pointer (some ⟨g, 0, none⟩)] #[], .pointer (some ⟨p0, 0, none⟩), .pointer (some ⟨p1, 0, none⟩)] w1 (ProgE g er is N S false (.int .i64 0) (.int .i64 0) (.int .u64 0) (.int .u64 0) (.slice none 0 0) (.slice none 0 0) w1)) :
    Calls Tryd.prog 36 #[.func (.func 37) #[] #[.pointer (some ⟨p0, 0, none⟩), .pointer (some ⟨p1, 0, none⟩)], .slice A n cap] w (RunE er is N S w) := by
  have hmf : ∀ (fn : Fn) (first cap : Array Value) (w : World), (Instr.makeFunc fn first cap).run Tryd.prog w = .ok (.func fn first cap) w := fun _ _ _ _ => rfl
  go_enter Tryd.func36, Tryd.ntmps36
  go_wp2_with fail
  refine gen_w (P := fun W => Calls _ _ _ W _) (fun y => Below w.heap.size w y ∧ y.heap.size = w.heap.size + 1 + 1 + 1 ∧ VarAt y (w.heap.size + 1 + 1) (tapeV A n cap false false (.int .i64 0) (.int .i64 0) (.int .u64 0) (.int .u64 0) (.slice none 0 0) (.slice none 0 0)) ∧ VarAt y w.heap.size [.int .i64 0, .int .i64 0, .int .u64 0, .int .u64 0, .slice none 0 0, .slice none 0 0] ∧ VarAt y (w.heap.size + 1) [.int .i64 0, .bool false, .int .i64 0, .int .u64 0, .slice none 0 0]) ⟨(by repeat (first | with_reducible assumption | with_reducible exact Below.refl _ _ | with_reducible refine Below.drew ?_ | with_reducible refine below_al ?_ | (with_reducible refine below_set1 (by omega) _ ?_))), by simp, VarAt.mk9 (by simp) (by go_simp) (by go_simp) (by go_simp) (by go_simp) (by go_simp) (by go_simp) (by go_simp) (by go_simp) (by go_simp) (by go_simp) (by go_simp) (by go_simp) (by go_simp) (by go_simp) (by go_simp) (by go_simp) (by go_simp) (by go_simp), VarAt.mk6 (by simp; omega) (by go_simp) (by go_simp) (by go_simp) (by go_simp) (by go_simp) (by go_simp) (by go_simp) (by go_simp) (by go_simp) (by go_simp) (by go_simp) (by go_simp), VarAt.mk5 (by simp) (by go_simp) (by go_simp) (by go_simp) (by go_simp) (by go_simp) (by go_simp) (by go_simp) (by go_simp) (by go_simp) (by go_simp)⟩ ?_
  rintro y ⟨k0, k1, k2, k3, k4⟩
  obtain ⟨g, hg⟩ : ∃ g, w.heap.size + 1 + 1 = g := ⟨_, rfl⟩
  rw [hg] at k1 k2 ⊢
  have K0 := Lib.hid k0
  have K1 := Lib.hid k1
  have K3 := Lib.hid k3
  have K4 := Lib.hid k4
  have HG := Lib.hid hg
  clear hg
  have hpr := fun w1 (hb : But g y w1) => hP g w1 (by have := HG.out; omega) (K0.out.trans (hb.below.mono (by have := HG.out; omega)))
  refine (playSv_yes g A n cap false false (.int .i64 0) (.int .i64 0) (.int .u64 0) (.int .u64 0) (.slice none 0 0) (.slice none 0 0) p0 p1 er is N S (.int .i64 0) (.int .i64 0) (.int .u64 0) (.int .u64 0) (.slice none 0 0) (.slice none 0 0) y k2 hpr).mono ?_
  clear hpr hP
  rintro e w2 ⟨rfl, ⟨A', n', cap', hT2⟩, hb2⟩
  have hgg := HG.out
  have hyz := K1.out
  obtain ⟨_, ⟨a0, a1, a2, a3, a4, a5⟩, b0, b1, b2, b3, b4, b5⟩ := (K3.out.but hb2 (by omega)).six
  obtain ⟨_, ⟨r1, r2, r3, r4, r5⟩, s1, s2, s3, s4, s5⟩ := (K4.out.but hb2 (by omega)).five
  obtain ⟨_, ⟨c0, c1, c2, c3, c4, c5, c6, c7, c8⟩, f0, f1, f2, f3, f4, f5, f6, f7, f8⟩ := hT2.nine
  have hsz := hb2.size
  have m1 : w.heap.size < w2.heap.size := by omega
  have m2 : w.heap.size + 1 < w2.heap.size := by omega
  have m3 : g < w2.heap.size := by omega
  have HBW : Hid (Below w.heap.size w w2) := Lib.hid (K0.out.trans (hb2.below.mono (by omega)))
  have HSZ := Lib.hid hsz
  clear k0 k1 k2 k3 k4 hgg hyz hsz
  clear hT2 hb2
  go_wp2_with (go_at_call 65; (with_reducible refine (cloneI_nil _).mono ?_); rintro e w3 ⟨rfl, rfl⟩)
  go_region
  all_goals (go_wp2_with fail)
  have hbw := HBW.out
  have hsz := HSZ.out
  have hyz := K1.out
  refine bodyPost_ret (v := .tuple #[.agg #[.int .i64 0, .int .i64 0, .int .u64 0, .int .u64 0, .slice none 0 0, .slice none 0 0], .agg #[.int .i64 er, .bool is, .int .i64 N, .int .u64 S, .slice none 0 0], .bool true]) (by simp [results, Tryd.results36, go_sem, a0, a1, a2, a3, a4, a5, r1, r2, r3, r4, r5, m1, m2]) rfl ⟨rfl, (by repeat (first | with_reducible assumption | with_reducible exact Below.refl _ _ | with_reducible refine Below.drew ?_ | with_reducible refine below_al ?_ | (with_reducible refine below_set1 (by omega) _ ?_)))⟩
set_option maxHeartbeats 1000000 in
theorem runSv_left (A : Option Addr) (n cap : Nat) (p0 p1 : Nat) (x : Acc) (w : World)
    (hP : ∀ g w1, w.heap.size ≤ g → Below w.heap.size w w1 → VarAt w1 g (tapeV A n cap true false (.int .i64 0) (.int .i64 0) (.int .u64 0) (.int .u64 0) (.slice none 0 0) (.slice none 0 0)) → Calls Tryd.prog 37 #[.func (.func 86) #[.pointer (some ⟨g, 0, none⟩)] #[], .pointer (some ⟨p0, 0, none⟩), .pointer (some ⟨p1, 0, none⟩)] w1 (LeftPost w1 g x true)) :
    Calls Tryd.prog 36 #[.func (.func 37) #[] #[.pointer (some ⟨p0, 0, none⟩), .pointer (some ⟨p1, 0, none⟩)], .slice A n cap] w (RunLeft x w) := by
  have hmf : ∀ (fn : Fn) (first cap : Array Value) (w : World), (Instr.makeFunc fn first cap).run Tryd.prog w = .ok (.func fn first cap) w := fun _ _ _ _ => rfl
  go_enter Tryd.func36, Tryd.ntmps36
  go_wp2_with fail
  refine gen_w (P := fun W => Calls _ _ _ W _) (fun y => Below w.heap.size w y ∧ y.heap.size = w.heap.size + 1 + 1 + 1 ∧ VarAt y (w.heap.size + 1 + 1) (tapeV A n cap false false (.int .i64 0) (.int .i64 0) (.int .u64 0) (.int .u64 0) (.slice none 0 0) (.slice none 0 0)) ∧ VarAt y w.heap.size [.int .i64 0, .int .i64 0, .int .u64 0, .int .u64 0, .slice none 0 0, .slice none 0 0] ∧ VarAt y (w.heap.size + 1) [.int .i64 0, .bool false, .int .i64 0, .int .u64 0, .slice none 0 0]) ⟨(by repeat (first | with_reducible assumption | with_reducible exact Below.refl _ _ | with_reducible refine Below.drew ?_ | with_reducible refine below_al ?_ | (with_reducible refine below_set1 (by omega) _ ?_))), by simp, VarAt.mk9 (by simp) (by go_simp) (by go_simp) (by go_simp) (by go_simp) (by go_simp) (by go_simp) (by go_simp) (by go_simp) (by go_simp) (by go_simp) (by go_simp) (by go_simp) (by go_simp) (by go_simp) (by go_simp) (by go_simp) (by go_simp) (by go_simp), VarAt.mk6 (by simp; omega) (by go_simp) (by go_simp) (by go_simp) (by go_simp) (by go_simp) (by go_simp) (by go_simp) (by go_simp) (by go_simp) (by go_simp) (by go_simp) (by go_simp), VarAt.mk5 (by simp) (by go_simp) (by go_simp) (by go_simp) (by go_simp) (by go_simp) (by go_simp) (by go_simp) (by go_simp) (by go_simp) (by go_simp)⟩ ?_
  rintro y ⟨k0, k1, k2, k3, k4⟩
  obtain ⟨g, hg⟩ : ∃ g, w.heap.size + 1 + 1 = g := ⟨_, rfl⟩
  rw [hg] at k1 k2 ⊢
  have K0 := Lib.hid k0
  have K1 := Lib.hid k1
  have K3 := Lib.hid k3
  have K4 := Lib.hid k4
  have HG := Lib.hid hg
  clear hg
  have hpr := fun w1 (hb : But g y w1) => hP g w1 (by have := HG.out; omega) (K0.out.trans (hb.below.mono (by have := HG.out; omega)))
  refine (playSv_left g A n cap false false (.int .i64 0) (.int .i64 0) (.int .u64 0) (.int .u64 0) (.slice none 0 0) (.slice none 0 0) p0 p1 x y k2 hpr).mono ?_
  clear hpr hP
  rintro e w2 ⟨D, dc, E, ec, A', cap', rfl, hT2, hX, hb2, hD, hE⟩
  have HX := Lib.hid hX
  have HD := Lib.hid hD
  have HE := Lib.hid hE
  have hgg := HG.out
  have hyz := K1.out
  obtain ⟨_, ⟨a0, a1, a2, a3, a4, a5⟩, b0, b1, b2, b3, b4, b5⟩ := (K3.out.but hb2 (by omega)).six
  obtain ⟨_, ⟨r1, r2, r3, r4, r5⟩, s1, s2, s3, s4, s5⟩ := (K4.out.but hb2 (by omega)).five
  obtain ⟨_, ⟨c0, c1, c2, c3, c4, c5, c6, c7, c8⟩, f0, f1, f2, f3, f4, f5, f6, f7, f8⟩ := hT2.nine
  have hsz := hb2.size
  have m1 : w.heap.size < w2.heap.size := by omega
  have m2 : w.heap.size + 1 < w2.heap.size := by omega
  have m3 : g < w2.heap.size := by omega
  have HBW : Hid (Below w.heap.size w w2) := Lib.hid (K0.out.trans (hb2.below.mono (by omega)))
  have HSZ := Lib.hid hsz
  clear k0 k1 k2 k3 k4 hgg hyz hsz
  clear hT2 hb2 hX hD hE
  go_wp2_with fail
  have hbw := HBW.out
  have hsz := HSZ.out
  have hyz := K1.out
  have hgg := HG.out
  have hx := HX.out
  refine bodyPost_ret (v := .tuple #[.agg #[.int .i64 x.k, .int .i64 x.c, .int .u64 (x.a : Int), .int .u64 (x.b : Int), .slice D x.d.length dc, .slice E x.m ec], .agg #[.int .i64 0, .bool false, .int .i64 0, .int .u64 0, .slice none 0 0], .bool false]) (by simp [results, Tryd.results36, go_sem, a0, a1, a2, a3, a4, a5, r1, r2, r3, r4, r5, m1, m2]) rfl ⟨D, dc, E, ec, rfl, ⟨hx.k, hx.c, hx.a, hx.b, hx.dl, hx.ml, hx.d.svd (Q := fun b => y.heap.size ≤ b) (by repeat (first | with_reducible exact Svd.refl _ _ | with_reducible refine Svd.drew ?_ | with_reducible refine Svd.alloc ?_ _ | (with_reducible refine Svd.set ?_ _ _ _ (by omega)))) HD.out, hx.f.svd (Q := fun b => y.heap.size ≤ b) (by repeat (first | with_reducible exact Svd.refl _ _ | with_reducible refine Svd.drew ?_ | with_reducible refine Svd.alloc ?_ _ | (with_reducible refine Svd.set ?_ _ _ _ (by omega)))) HE.out⟩, (by repeat (first | with_reducible assumption | with_reducible exact Below.refl _ _ | with_reducible refine Below.drew ?_ | with_reducible refine below_al ?_ | (with_reducible refine below_set1 (by omega) _ ?_))), HD.out.mono fun b h => by omega, HE.out.mono fun b h => by omega⟩


/-! ### The program of Next -/
def sNextR (t : Nat) (k u v : Int) (x : Nat) (log : List Res) : RanD (List Res) := (sPrg t k u v x (log.length + 1)).run tapeTellD log
theorem sNextR_ok (t : Nat) (k u v : Int) (x : Nat) (log : List Res) : sNextR t k u v x log ≠ .bad := Prd.ok_run _ _ (sPrg_ok t k u v x _ _ (Nat.lt_succ_self _))
def TapeEndD (g : Nat) (w0 wb w : World) (ret : Nat → Value) : RanD (List Res) → Ending → World → Prop
  | .done r s, e, w' => e = .returned (ret r) ∧ TapeI g w0 wb s w' ∧ But g w w'
  | .left k i a b d, e, w' => LeftPost wb g (accD k i a b d) true e w'
  | .bad, _, _ => True
theorem sAnswerT_at (g : Nat) (w0 wb : World) (hg : w0.heap.size ≤ g) (hgw : g < wb.heap.size) (hb0 : Below w0.heap.size w0 wb) (hT : Tab w0) (t : Nat) (ht : t ≤ 64) (k u v : Int) (x : Nat) (hx : x < 18446744073709551616) (hop : SOp k u v) (n : Nat) (s : List Res) (R : RanD (List Res)) (hR : (sPrg t k u v x n).run tapeTellD s = R) (hb : R ≠ .bad) (w : World) (hI : TapeI g w0 wb s w) :
    Calls Tryd.prog 38 #[doV g, .int .i64 (t : Int), .agg #[.int .i64 k, .int .i64 u, .int .i64 v, .int .u64 (x : Int)]] w (TapeEndD g w0 wb w (sOut k) R) := by
  have hsz := hI.2.size
  refine (sAnswer_at (tapeD g w0 wb hg hgw hb0 hT) t ht k u v x hx hop n s R hR hb w hI (show g < w.heap.size by omega) (fun _ => show wb.heap.size ≤ w.heap.size from hsz)).mono ?_
  intro e w' h
  cases R with
  | bad => trivial
  | left k' i a b d =>
    obtain ⟨rfl, e', D, dc, E, ec, A', cap', rfl, q⟩ := h
    exact ⟨D, dc, E, ec, A', cap', rfl, q⟩
  | done r s2 => exact h
def sProgEnd (g : Nat) (k : Int) (w1 : World) : RanD (List Res) → Ending → World → Prop
  | .done r _, e, w' => ProgE g (sErr k) (sIs k r) 0 (sW k r : Int) false (.int .i64 0) (.int .i64 0) (.int .u64 0) (.int .u64 0) (.slice none 0 0) (.slice none 0 0) w1 e w'
  | .left k' i a b d, e, w' => LeftPost w1 g (accD k' i a b d) true e w'
  | .bad, _, _ => False
set_option maxHeartbeats 2000000 in
set_option maxRecDepth 100000 in
theorem sProg_at (g p0 p1 : Nat) (A : Option Addr) (n cap : Nat) (log : List Res) (t : Nat) (ht : t ≤ 64) (k u v : Int) (x : Nat) (hx : x < 18446744073709551616) (hop : SOp k u v) (w0 w1 : World) (hg : w0.heap.size ≤ g) (hc : n ≤ cap)
    (hTab : Tab w0) (hl : LogAt w0 A n log) (hb : Below w0.heap.size w0 w1) (hT : VarAt w1 g (tapeV A n cap true false (.int .i64 0) (.int .i64 0) (.int .u64 0) (.int .u64 0) (.slice none 0 0) (.slice none 0 0))) (h0 : VarAt w1 p0 [.int .i64 (t : Int)]) (h1 : VarAt w1 p1 [.int .i64 k, .int .i64 u, .int .i64 v, .int .u64 (x : Int)]) (R : RanD (List Res)) (hR : sNextR t k u v x log = R) :
    Calls Tryd.prog 37 #[doV g, .pointer (some ⟨p0, 0, none⟩), .pointer (some ⟨p1, 0, none⟩)] w1 (sProgEnd g k w1 R) := by
  have hnl := hl.1
  subst hnl
  have hb' : R ≠ .bad := hR ▸ sNextR_ok t k u v x log
  have hI : TapeI g w0 w1 log w1 := ⟨⟨A, cap, hT, hl, hc⟩, But.refl _ _⟩
  have hgw := hT.1
  have HC := fun y hI => sAnswerT_at g w0 w1 hg hgw hb hTab t ht k u v x hx hop (log.length + 1) log R hR hb' y hI
  obtain ⟨m0, c0, z0⟩ : p0 < w1.heap.size ∧ w1.cell? ⟨p0, 0, none⟩ = some (.int .i64 (t : Int)) ∧ True := ⟨h0.1, h0.2.1 0 _ rfl, trivial⟩
  obtain ⟨m1, d0, d1, d2, d3⟩ : p1 < w1.heap.size ∧ w1.cell? ⟨p1, 0, none⟩ = some (.int .i64 k) ∧ w1.cell? ⟨p1, 1, none⟩ = some (.int .i64 u) ∧ w1.cell? ⟨p1, 2, none⟩ = some (.int .i64 v) ∧ w1.cell? ⟨p1, 3, none⟩ = some (.int .u64 (x : Int)) := ⟨h1.1, h1.2.1 0 _ rfl, h1.2.1 1 _ rfl, h1.2.1 2 _ rfl, h1.2.1 3 _ rfl⟩
  have HI := Lib.hid hI
  have HG := Lib.hid hg
  have HGW := Lib.hid hgw
  have HB := Lib.hid hb'
  clear hI hgw hb' hR ht hx hop hTab hT h0 h1 hl hb hc z0 hg
  go_enter Tryd.func37, Tryd.ntmps37
  go_wp2_with fail
  have hal := al_below w1 (.cells #[.int .i64 0, .bool false, .int .i64 0, .int .u64 0, .slice none 0 0] 38)
  have hv := VarAt.made w1 #[.int .i64 0, .bool false, .int .i64 0, .int .u64 0, .slice none 0 0] 38
  have hsz : (w1.alloc (.cells #[.int .i64 0, .bool false, .int .i64 0, .int .u64 0, .slice none 0 0] 38)).heap.size = w1.heap.size + 1 := by simp
  have hbt : But g w1 (w1.alloc (.cells #[.int .i64 0, .bool false, .int .i64 0, .int .u64 0, .slice none 0 0] 38)) := (But.refl g w1).alloc _ (Nat.le_of_lt HGW.out)
  generalize w1.alloc (.cells #[.int .i64 0, .bool false, .int .i64 0, .int .u64 0, .slice none 0 0] 38) = y at hal hv hsz hbt ⊢
  have hIy : TapeI g w0 w1 log y := ⟨by obtain ⟨A', c', q1, q2, q3⟩ := HI.out.1; exact ⟨A', c', q1.below hal, q2, q3⟩, hbt⟩
  have HV := Lib.hid hv
  have HBT := Lib.hid hbt
  refine (HC y hIy).mono ?_
  clear HC hal hv hbt hIy c0 d0 d1 d2 d3
  cases R with
  | bad => exact absurd rfl HB.out
  | left k' i a b d =>
    rintro e w2 ⟨D, dc, E, ec, A', cap', rfl, q⟩
    exact ⟨rfl, D, dc, E, ec, A', cap', rfl, q⟩
  | done r s2 =>
    rintro e w2 ⟨rfl, ⟨⟨A', cap', q1, q2, q3⟩, q4⟩, q5⟩
    have hg := HGW.out
    have q5' : But g y w2 := q5
    obtain ⟨m2, ⟨a1, a2, a3, a4, a5⟩, b1, b2, b3, b4, b5⟩ := (HV.out.but q5' (by omega)).five
    have HQ1 := Lib.hid q1
    have HQ4 := Lib.hid q4
    clear q1 q2 q3 q4 q5 q5' hg
    have hoe : sOut k r = .agg #[.int .i64 (sErr k), .bool (sIs k r), .int .i64 0, .int .u64 (sW k r : Int), .slice none 0 0] := rfl
    rw [hoe]
    clear hoe
    go_wp2_with fail
    have hg := HGW.out
    have hbw := HQ4.out
    exact bodyPost_ret (v := .agg #[.int .i64 (sErr k), .bool (sIs k r), .int .i64 0, .int .u64 (sW k r : Int), .slice none 0 0]) (by simp [results, Tryd.results37, go_sem, a1, a2, a3, a4, a5]) rfl ⟨rfl, ⟨A', _, cap', ((((HQ1.out.apart _ _ (by omega)).apart _ _ (by omega)).apart _ _ (by omega)).apart _ _ (by omega)).apart _ _ (by omega)⟩, (by repeat (first | with_reducible assumption | with_reducible exact But.refl _ _ | with_reducible refine But.drew ?_ | (with_reducible refine But.alloc ?_ _ (by omega)) | (with_reducible refine But.set ?_ _ _) | (with_reducible refine But.new ?_ _ _ _ (by omega) (by omega))))⟩

/-! ### Next -/
def sNextEnd (k : Int) (w : World) : RanD (List Res) → Ending → World → Prop
  | .done r _, e, w' => RunE (sErr k) (sIs k r) 0 (sW k r : Int) w e w'
  | .left k' i a b d, e, w' => RunLeft (accD k' i a b d) w e w'
  | .bad, _, _ => False
set_option maxHeartbeats 4000000 in
set_option maxRecDepth 100000 in
theorem sNext_left (t : Nat) (ht : t ≤ 64) (c me k u v : Int) (x : Nat) (hx : x < 18446744073709551616) (hop : SOp k u v) (A : Option Addr) (n cap : Nat) (log : List Res) (hc : n ≤ cap) (w : World) (hTab : Tab w) (hl : Hid (LogAt w A n log)) (k' i : Int) (a b : Nat) (d : List Nat) (hR : sNextR t k u v x log = .left k' i a b d) :
    Calls Tryd.prog 14 #[.int .i64 (t : Int), .int .i64 c, .int .i64 me, .agg #[.int .i64 k, .int .i64 u, .int .i64 v, .int .u64 (x : Int)], .slice A n cap] w (RunLeft (accD k' i a b d) w) := by
  have HP := fun g w1 hg hb hT h0 h1 => sProg_at g w.heap.size (w.heap.size + 1) A n cap log t ht k u v x hx hop w w1 hg hc hTab hl.out hb hT h0 h1 _ hR
  have hmf : ∀ (fn : Fn) (first cap : Array Value) (w : World), (Instr.makeFunc fn first cap).run Tryd.prog w = .ok (.func fn first cap) w := fun _ _ _ _ => rfl
  clear ht hx hop hTab hc hR
  replace HP : ∀ g w1, w.heap.size ≤ g → Below w.heap.size w w1 → VarAt w1 g (tapeV A n cap true false (.int .i64 0) (.int .i64 0) (.int .u64 0) (.int .u64 0) (.slice none 0 0) (.slice none 0 0)) → VarAt w1 w.heap.size [.int .i64 (t : Int)] → VarAt w1 (w.heap.size + 1) [.int .i64 k, .int .i64 u, .int .i64 v, .int .u64 (x : Int)] → Calls Tryd.prog 37 #[doV g, .pointer (some ⟨w.heap.size, 0, none⟩), .pointer (some ⟨w.heap.size + 1, 0, none⟩)] w1 (LeftPost w1 g (accD k' i a b d) true) := HP
  generalize accD k' i a b d = xx at *
  go_enter Tryd.func14, Tryd.ntmps14
  go_wp2_with fail
  refine gen_w (P := fun W => Calls _ _ _ W _) (fun y => Below w.heap.size w y ∧ y.heap.size = w.heap.size + 1 + 1 + 1 + 1 ∧ VarAt y w.heap.size [.int .i64 (t : Int)] ∧ VarAt y (w.heap.size + 1) [.int .i64 k, .int .i64 u, .int .i64 v, .int .u64 (x : Int)] ∧ VarAt y (w.heap.size + 1 + 1) [.int .i64 0, .int .i64 0, .int .u64 0, .int .u64 0, .slice none 0 0, .slice none 0 0] ∧ VarAt y (w.heap.size + 1 + 1 + 1) [.int .i64 0, .bool false, .int .i64 0, .int .u64 0, .slice none 0 0]) ⟨(by repeat (first | with_reducible assumption | with_reducible exact Below.refl _ _ | with_reducible refine Below.drew ?_ | with_reducible refine below_al ?_ | (with_reducible refine below_set1 (by omega) _ ?_))), by simp, VarAt.mk1 (by simp <;> omega) (by go_simp) (by go_simp), VarAt.mk4 (by simp <;> omega) (by go_simp) (by go_simp) (by go_simp) (by go_simp) (by go_simp) (by go_simp) (by go_simp) (by go_simp), VarAt.mk6 (by simp <;> omega) (by go_simp) (by go_simp) (by go_simp) (by go_simp) (by go_simp) (by go_simp) (by go_simp) (by go_simp) (by go_simp) (by go_simp) (by go_simp) (by go_simp), VarAt.mk5 (by simp <;> omega) (by go_simp) (by go_simp) (by go_simp) (by go_simp) (by go_simp) (by go_simp) (by go_simp) (by go_simp) (by go_simp) (by go_simp)⟩ ?_
  rintro y ⟨k0, k1, k2, k3, k4, k5⟩
  have K0 := Lib.hid k0
  have K1 := Lib.hid k1
  have K4 := Lib.hid k4
  have K5 := Lib.hid k5
  have HQ : ∀ g w1, y.heap.size ≤ g → Below y.heap.size y w1 → VarAt w1 g (tapeV A n cap true false (.int .i64 0) (.int .i64 0) (.int .u64 0) (.int .u64 0) (.slice none 0 0) (.slice none 0 0)) → Calls Tryd.prog 37 #[doV g, .pointer (some ⟨w.heap.size, 0, none⟩), .pointer (some ⟨w.heap.size + 1, 0, none⟩)] w1 (LeftPost w1 g xx true) :=
    fun g w1 hg hb hT => HP g w1 (by omega) (k0.trans (hb.mono (by omega))) hT (k2.below hb) (k3.below hb)
  clear HP k0 k1 k2 k3 k4 k5
  refine (runSv_left A n cap w.heap.size (w.heap.size + 1) xx y HQ).mono ?_
  clear HQ
  rintro e w2 ⟨D, dc, E, ec, rfl, hX, hb2, hD, hE⟩
  have HX := Lib.hid hX
  have HD := Lib.hid hD
  have HE := Lib.hid hE
  obtain ⟨m1, ⟨a0, a1, a2, a3, a4, a5⟩, b0, b1, b2, b3, b4, b5⟩ := (K4.out.below hb2).six
  obtain ⟨m2, ⟨r1, r2, r3, r4, r5⟩, s1, s2, s3, s4, s5⟩ := (K5.out.below hb2).five
  have HB2 := Lib.hid (K0.out.trans (hb2.mono K0.out.size))
  clear hb2 hX hD hE
  go_wp2_with fail
  have hyz := K1.out
  have hb := HB2.out
  have hx := HX.out
  exact bodyPost_ret (v := .tuple #[.agg #[.int .i64 xx.k, .int .i64 xx.c, .int .u64 (xx.a : Int), .int .u64 (xx.b : Int), .slice D xx.d.length dc, .slice E xx.m ec], .agg #[.int .i64 0, .bool false, .int .i64 0, .int .u64 0, .slice none 0 0], .bool false]) (by simp [results, Tryd.results14, go_sem, a0, a1, a2, a3, a4, a5, r1, r2, r3, r4, r5]) rfl ⟨D, dc, E, ec, rfl, ⟨hx.k, hx.c, hx.a, hx.b, hx.dl, hx.ml, hx.d.svd (Q := fun b => y.heap.size ≤ b) (by repeat (first | with_reducible exact Svd.refl _ _ | with_reducible refine Svd.drew ?_ | with_reducible refine Svd.alloc ?_ _ | (with_reducible refine Svd.set ?_ _ _ _ (by omega)))) HD.out, hx.f.svd (Q := fun b => y.heap.size ≤ b) (by repeat (first | with_reducible exact Svd.refl _ _ | with_reducible refine Svd.drew ?_ | with_reducible refine Svd.alloc ?_ _ | (with_reducible refine Svd.set ?_ _ _ _ (by omega)))) HE.out⟩, (by repeat (first | with_reducible assumption | with_reducible exact Below.refl _ _ | with_reducible refine Below.drew ?_ | with_reducible refine below_al ?_ | (with_reducible refine below_set1 (by omega) _ ?_))), HD.out.mono fun b h => by omega, HE.out.mono fun b h => by omega⟩
set_option maxHeartbeats 4000000 in
set_option maxRecDepth 100000 in
theorem sNext_done (t : Nat) (ht : t ≤ 64) (c me k u v : Int) (x : Nat) (hx : x < 18446744073709551616) (hop : SOp k u v) (A : Option Addr) (n cap : Nat) (log : List Res) (hc : n ≤ cap) (w : World) (hTab : Tab w) (hl : Hid (LogAt w A n log)) (r : Nat) (s2 : List Res) (hR : sNextR t k u v x log = .done r s2) :
    Calls Tryd.prog 14 #[.int .i64 (t : Int), .int .i64 c, .int .i64 me, .agg #[.int .i64 k, .int .i64 u, .int .i64 v, .int .u64 (x : Int)], .slice A n cap] w (RunE (sErr k) (sIs k r) 0 (sW k r : Int) w) := by
  have HP := fun g w1 hg hb hT h0 h1 => sProg_at g w.heap.size (w.heap.size + 1) A n cap log t ht k u v x hx hop w w1 hg hc hTab hl.out hb hT h0 h1 _ hR
  have hmf : ∀ (fn : Fn) (first cap : Array Value) (w : World), (Instr.makeFunc fn first cap).run Tryd.prog w = .ok (.func fn first cap) w := fun _ _ _ _ => rfl
  clear ht hx hop hTab hc hR
  replace HP : ∀ g w1, w.heap.size ≤ g → Below w.heap.size w w1 → VarAt w1 g (tapeV A n cap true false (.int .i64 0) (.int .i64 0) (.int .u64 0) (.int .u64 0) (.slice none 0 0) (.slice none 0 0)) → VarAt w1 w.heap.size [.int .i64 (t : Int)] → VarAt w1 (w.heap.size + 1) [.int .i64 k, .int .i64 u, .int .i64 v, .int .u64 (x : Int)] → Calls Tryd.prog 37 #[doV g, .pointer (some ⟨w.heap.size, 0, none⟩), .pointer (some ⟨w.heap.size + 1, 0, none⟩)] w1 (ProgE g (sErr k) (sIs k r) 0 (sW k r : Int) false (.int .i64 0) (.int .i64 0) (.int .u64 0) (.int .u64 0) (.slice none 0 0) (.slice none 0 0) w1) := HP
  generalize sErr k = er at *
  generalize sIs k r = is at *
  generalize ((sW k r : Nat) : Int) = N at *
  go_enter Tryd.func14, Tryd.ntmps14
  go_wp2_with fail
  refine gen_w (P := fun W => Calls _ _ _ W _) (fun y => Below w.heap.size w y ∧ y.heap.size = w.heap.size + 1 + 1 + 1 + 1 ∧ VarAt y w.heap.size [.int .i64 (t : Int)] ∧ VarAt y (w.heap.size + 1) [.int .i64 k, .int .i64 u, .int .i64 v, .int .u64 (x : Int)] ∧ VarAt y (w.heap.size + 1 + 1) [.int .i64 0, .int .i64 0, .int .u64 0, .int .u64 0, .slice none 0 0, .slice none 0 0] ∧ VarAt y (w.heap.size + 1 + 1 + 1) [.int .i64 0, .bool false, .int .i64 0, .int .u64 0, .slice none 0 0]) ⟨(by repeat (first | with_reducible assumption | with_reducible exact Below.refl _ _ | with_reducible refine Below.drew ?_ | with_reducible refine below_al ?_ | (with_reducible refine below_set1 (by omega) _ ?_))), by simp, VarAt.mk1 (by simp <;> omega) (by go_simp) (by go_simp), VarAt.mk4 (by simp <;> omega) (by go_simp) (by go_simp) (by go_simp) (by go_simp) (by go_simp) (by go_simp) (by go_simp) (by go_simp), VarAt.mk6 (by simp <;> omega) (by go_simp) (by go_simp) (by go_simp) (by go_simp) (by go_simp) (by go_simp) (by go_simp) (by go_simp) (by go_simp) (by go_simp) (by go_simp) (by go_simp), VarAt.mk5 (by simp <;> omega) (by go_simp) (by go_simp) (by go_simp) (by go_simp) (by go_simp) (by go_simp) (by go_simp) (by go_simp) (by go_simp) (by go_simp)⟩ ?_
  rintro y ⟨k0, k1, k2, k3, k4, k5⟩
  have K0 := Lib.hid k0
  have K1 := Lib.hid k1
  have K4 := Lib.hid k4
  have K5 := Lib.hid k5
  have HQ : ∀ g w1, y.heap.size ≤ g → Below y.heap.size y w1 → VarAt w1 g (tapeV A n cap true false (.int .i64 0) (.int .i64 0) (.int .u64 0) (.int .u64 0) (.slice none 0 0) (.slice none 0 0)) → Calls Tryd.prog 37 #[doV g, .pointer (some ⟨w.heap.size, 0, none⟩), .pointer (some ⟨w.heap.size + 1, 0, none⟩)] w1 (ProgE g er is 0 N false (.int .i64 0) (.int .i64 0) (.int .u64 0) (.int .u64 0) (.slice none 0 0) (.slice none 0 0) w1) :=
    fun g w1 hg hb hT => HP g w1 (by omega) (k0.trans (hb.mono (by omega))) hT (k2.below hb) (k3.below hb)
  clear HP k0 k1 k2 k3 k4 k5
  refine (runSv_yes A n cap w.heap.size (w.heap.size + 1) er is 0 N y HQ).mono ?_
  clear HQ
  rintro e w2 ⟨rfl, hb2⟩
  obtain ⟨m1, ⟨a0, a1, a2, a3, a4, a5⟩, b0, b1, b2, b3, b4, b5⟩ := (K4.out.below hb2).six
  obtain ⟨m2, ⟨r1, r2, r3, r4, r5⟩, s1, s2, s3, s4, s5⟩ := (K5.out.below hb2).five
  have HB2 := Lib.hid (K0.out.trans (hb2.mono K0.out.size))
  clear hb2
  go_wp2_with fail
  have hb := HB2.out
  exact bodyPost_ret (v := .tuple #[.agg #[.int .i64 0, .int .i64 0, .int .u64 0, .int .u64 0, .slice none 0 0, .slice none 0 0], .agg #[.int .i64 er, .bool is, .int .i64 0, .int .u64 N, .slice none 0 0], .bool true]) (by simp [results, Tryd.results14, go_sem, a0, a1, a2, a3, a4, a5, r1, r2, r3, r4, r5]) rfl ⟨rfl, (by repeat (first | with_reducible assumption | with_reducible exact Below.refl _ _ | with_reducible refine Below.drew ?_ | with_reducible refine below_al ?_ | (with_reducible refine below_set1 (by omega) _ ?_)))⟩
theorem sNext_at (t : Nat) (ht : t ≤ 64) (c me k u v : Int) (x : Nat) (hx : x < 18446744073709551616) (hop : SOp k u v) (A : Option Addr) (n cap : Nat) (log : List Res) (hc : n ≤ cap) (w : World) (hTab : Tab w) (hl : Hid (LogAt w A n log)) (R : RanD (List Res)) (hR : sNextR t k u v x log = R) :
    Calls Tryd.prog 14 #[.int .i64 (t : Int), .int .i64 c, .int .i64 me, .agg #[.int .i64 k, .int .i64 u, .int .i64 v, .int .u64 (x : Int)], .slice A n cap] w (sNextEnd k w R) := by
  cases R with
  | bad => exact absurd hR (sNextR_ok t k u v x log)
  | left k' i a b d => exact sNext_left t ht c me k u v x hx hop A n cap log hc w hTab hl k' i a b d hR
  | done r s2 => exact sNext_done t ht c me k u v x hx hop A n cap log hc w hTab hl r s2 hR
end Go.Proofs.YtdbomlclkhkinaaDoor
