/-
  direct, which makes accesses at once, of a world in a variable: as who makes accesses.
-/
import Derived.Test.YtadknblgfcgkpaaPolAlone
import Derived.Test.YtadknblgfcgkpaaPolPlain
namespace Go.Proofs.Ytadknblgfcgkpaa
open Go.ChangeShapes Go.WideShapes Go.ChangeAt Go.RowKit Go.BigFrame
set_option linter.unusedVariables false
set_option maxRecDepth 100000

/-! ### direct -/
/-- The world in a variable, its memory apart from it; and the variable that tells where it lies, and the thread's. -/
structure DirC (Q : Nat → Prop) (c : Int) (r g p0 p1 n : Nat) (G : Nat → Nat) (x : World) : Prop where
  run : ∃ A ka R ra S sa, WdAt x g 1 c A n ka r R 1 ra S sa G (zerosS 1) (zerosS 1) ∧ OffW (Out g 1) A n ∧ OffS (Out g 1) x R 1 ∧ OffS (Out g 1) x S 1 ∧ OffW Q A n ∧ OffS Q x R 1 ∧ OffS Q x S 1
  v0 : VarAt x p0 [.pointer (some ⟨g, 0, none⟩)]
  v1 : VarAt x p1 [.int .i64 0]
theorem DirC.below {Q : Nat → Prop} {c : Int} {r g p0 p1 n : Nat} {G : Nat → Nat} {x y : World} (h : DirC Q c r g p0 p1 n G x) (hb : Below x.heap.size x y) : DirC Q c r g p0 p1 n G y := by
  obtain ⟨⟨A, ka, R, ra, S, sa, hw, o0, o1, o2, u0, u1, u2⟩, v0, v1⟩ := h
  exact ⟨⟨A, ka, R, ra, S, sa, hw.later hb, o0, o1.later hw.2.2.1 hb, o2.later hw.2.2.2 hb, u0, u1.later hw.2.2.1 hb, u2.later hw.2.2.2 hb⟩, v0.below hb, v1.below hb⟩
/-- Behind the call: the new world's variable, and what was told; the old world's variable is as it was. -/
def DirCE (Q : Nat → Prop) (c : Int) (r : Nat) (wr : World) (Nr g0 n : Nat) (OLD : List Value) (G : Nat → Nat) (s0 : Nat) (v9 v10 : Value) (y : World) : Prop :=
  ∃ b9 b10 A ka R ra S sa X kx, v9 = .pointer (some ⟨b9, 0, none⟩) ∧ v10 = .pointer (some ⟨b10, 0, none⟩) ∧ wr.heap.size ≤ b9 ∧ wr.heap.size ≤ b10 ∧ VarAt y b9 [.int .i64 1, .int .i64 c, .slice A n ka, .int .u64 (r : Int), .slice R 1 ra, .slice S 1 sa] ∧ VarAt y b10 [.int .u64 (s0 : Int), .slice X 0 kx, .bool false] ∧ VarAt y g0 OLD ∧
    AtW y A n G ∧ StmsAt y R 1 (zerosS 1) ∧ StmsAt y S 1 (zerosS 1) ∧ OffW (Out g0 1) A n ∧ OffS (Out g0 1) y R 1 ∧ OffS (Out g0 1) y S 1 ∧ (OffW (fun b => b ≠ Nr) A n ∧ OffS (fun b => b ≠ Nr) y R 1 ∧ OffS (fun b => b ≠ Nr) y S 1) ∧ (OffW Q A n ∧ OffS Q y R 1 ∧ OffS Q y S 1) ∧ Below wr.heap.size wr y
theorem DirCE.of {Q : Nat → Prop} {c : Int} {r : Nat} {wr w4 y : World} {Nr g0 n N2 s0 b9 b10 ka ra sa kx : Nat} {OLD : List Value} {G : Nat → Nat} {A R S X : Option Addr} (hk : Keep (Qn g0 wr.heap.size N2) w4 y) (n1 : wr.heap.size ≤ b9) (n2 : wr.heap.size ≤ b10) (v9 : VarAt y b9 [.int .i64 1, .int .i64 c, .slice A n ka, .int .u64 (r : Int), .slice R 1 ra, .slice S 1 sa]) (v10 : VarAt y b10 [.int .u64 (s0 : Int), .slice X 0 kx, .bool false]) (vg : VarAt y g0 OLD)
    (hA : AtW w4 A n G) (h0 : StmsAt w4 R 1 (zerosS 1)) (h1 : StmsAt w4 S 1 (zerosS 1)) (o0 : OffW (Qn g0 wr.heap.size N2) A n) (o1 : OffS (Qn g0 wr.heap.size N2) w4 R 1) (o2 : OffS (Qn g0 wr.heap.size N2) w4 S 1) (p0 : OffW (fun b => b ≠ Nr) A n) (p1 : OffS (fun b => b ≠ Nr) w4 R 1) (p2 : OffS (fun b => b ≠ Nr) w4 S 1) (u0 : OffW Q A n) (u1 : OffS Q w4 R 1) (u2 : OffS Q w4 S 1) (hb : Below wr.heap.size wr y) :
    DirCE Q c r wr Nr g0 n OLD G s0 (.pointer (some ⟨b9, 0, none⟩)) (.pointer (some ⟨b10, 0, none⟩)) y :=
  ⟨b9, b10, A, ka, R, ra, S, sa, X, kx, rfl, rfl, n1, n2, v9, v10, vg, hA.keep hk o0, h0.keep hk o1, h1.keep hk o2, o0.mono fun b hb => by unfold Qn at hb; unfold Out; omega,
    (o1.keep h0 hk o1).mono fun b hb => by unfold Qn at hb; unfold Out; omega, (o2.keep h1 hk o2).mono fun b hb => by unfold Qn at hb; unfold Out; omega, ⟨p0, p1.keep h0 hk o1, p2.keep h1 hk o2⟩, ⟨u0, u1.keep h0 hk o1, u2.keep h1 hk o2⟩, hb⟩
theorem armQ {wr wa w4 : World} {Q : Nat → Prop} {n m kx : Nat} {A3 A4 R3 R4 S3 S4 X : Option Addr} {l0 l1 : List Stm} (hwr : Below wr.heap.size wr wa)
    (hP : ∀ P : Nat → Prop, (∀ b, wa.heap.size ≤ b → P b) → OffW P A3 n → OffS P wa R3 m → OffS P wa S3 m → OffW P A4 n ∧ OffS P w4 R4 m ∧ OffS P w4 S4 m ∧ OffW P X kx) (h0 : StmsAt wr R3 m l0) (h1 : StmsAt wr S3 m l1) (u0 : OffW Q A3 n) (u1 : OffS Q wr R3 m) (u2 : OffS Q wr S3 m) (hQ : ∀ b, wr.heap.size ≤ b → Q b) :
    OffW Q A4 n ∧ OffS Q w4 R4 m ∧ OffS Q w4 S4 m := by
  obtain ⟨q0, q1, q2, _⟩ := hP Q (fun b hb => hQ b (Nat.le_trans hwr.size hb)) u0 (u1.later h0 hwr) (u2.later h1 hwr)
  exact ⟨q0, q1, q2⟩
def DirCP (Q : Nat → Prop) (c : Int) (r : Nat) (w : World) (g p0 p1 n : Nat) (G : Nat → Nat) (s0 : Nat) (e : Ending) (w' : World) : Prop :=
  ∃ v1 v2, e = .returned (.agg #[.int .u64 (s0 : Int), v1, v2]) ∧ (DirC Q c r g p0 p1 n G w' ∧ But g w w')
set_option maxRecDepth 100000 in
set_option maxHeartbeats 16000000 in
theorem dirC_word (Q : Nat → Prop) (c : Int) (r g p0 p1 n : Nat) (G : Nat → Nat) (K i a b : Nat) (G' : Nat → Nat) (s0 : Nat) (hK : K < 5) (hi : i < n) (hn : n ≤ 1000000) (ha : a < 18446744073709551616) (hb : b < 18446744073709551616) (hG' : setW G i (isN K a b (G i)) = G') (hs0 : toldN K a b (G i) = s0) (h0 : ¬ (p0 = g)) (h1 : ¬ (p1 = g)) (w : World) (hQ : ∀ b, w.heap.size ≤ b → Q b) (hD : Hid (DirC Q c r g p0 p1 n G w)) :
    Calls Try.prog 33 #[.agg #[.int .i64 (K : Int), .int .i64 (i : Int), .int .u64 (a : Int), .int .u64 (b : Int), .slice none 0 0, .slice none 0 0], .pointer (some ⟨p0, 0, none⟩), .pointer (some ⟨p1, 0, none⟩)] w (DirCP Q c r w g p0 p1 n G' s0) := by
  obtain ⟨⟨A3, ka3, R3, ra3, S3, sa3, hW3, o0, o1, o2, u0, u1, u2⟩, hv0, hv1⟩ := hD.out
  have HU := Lib.hid (And.intro u0 (And.intro u1 u2))
  have HO := Lib.hid (And.intro o0 (And.intro o1 o2))
  have HW3 := Lib.hid hW3
  have HV0 := Lib.hid hv0
  have HV1 := Lib.hid hv1
  have HADD : ∀ w : World, Hid (AtW w A3 n G) → Hid (StmsAt w R3 1 (zerosS 1)) → Hid (StmsAt w S3 1 (zerosS 1)) → Calls Try.prog 30 #[.agg #[.int .i64 1, .int .i64 c, .slice A3 n ka3, .int .u64 (r : Int), .slice R3 1 ra3, .slice S3 1 sa3], .int .i64 0, .agg #[.int .i64 (K : Int), .int .i64 (i : Int), .int .u64 (a : Int), .int .u64 (b : Int), .slice none 0 0, .slice none 0 0], .bool false] w (DoW w 1 c A3 n r R3 S3 1 G' (zerosS 1) (zerosS 1) s0 [] false) := by
    intro w h0 h1 h2
    have h := doWord 1 c A3 n ka3 G r R3 S3 1 ra3 sa3 (zerosS 1) (zerosS 1) 0 a b none 0 0 none 0 0 K i hK hi hn hW3.2.1.1 ha hb false w h0 h1 h2
    rw [hG', hs0] at h
    exact h
  clear hG' hs0 hK hi hn ha hb
  go_enter Try.func33, Try.ntmps33
  go_upto_region 1 with fail
  refine gen_w (P := fun W => Code.wp _ _ _ _ W) (fun y => Below w.heap.size w y ∧ y.heap.size = w.heap.size + 1 + 1 ∧ VarAt y w.heap.size [.int .i64 (K : Int), .int .i64 (i : Int), .int .u64 (a : Int), .int .u64 (b : Int), .slice none 0 0, .slice none 0 0] ∧ VarAt y (w.heap.size + 1) [.int .u64 0, .slice none 0 0, .bool false]) ⟨(by repeat (first | with_reducible assumption | with_reducible exact Below.refl _ _ | with_reducible refine Below.drew ?_ | with_reducible refine below_al ?_ | (with_reducible refine below_set1 (by omega) _ ?_))), by simp, VarAt.mk6 (by simp <;> omega) (by go_simp) (by go_simp) (by go_simp) (by go_simp) (by go_simp) (by go_simp) (by go_simp) (by go_simp) (by go_simp) (by go_simp) (by go_simp) (by go_simp), VarAt.mk3 (by simp <;> omega) (by go_simp) (by go_simp) (by go_simp) (by go_simp) (by go_simp) (by go_simp)⟩ ?_
  rintro wr ⟨k0, k1, k2, k3⟩
  have K0 := Lib.hid k0
  have K1 := Lib.hid k1
  have K3 := Lib.hid k3
  obtain ⟨Nb, hN⟩ : ∃ N, w.heap.size = N := ⟨_, rfl⟩
  rw [hN] at k1 k2 k3 K1 K3 ⊢
  have HN := Lib.hid hN
  have HWr := Lib.hid (HW3.out.later k0)
  have HOr := Lib.hid (And.intro HO.out.1 (And.intro (HO.out.2.1.later HW3.out.2.2.1 k0) (HO.out.2.2.later HW3.out.2.2.2 k0)))
  have HUr := Lib.hid (And.intro HU.out.1 (And.intro (HU.out.2.1.later HW3.out.2.2.1 k0) (HU.out.2.2.later HW3.out.2.2.2 k0)))
  have HQF : Hid (∀ b, wr.heap.size ≤ b → Q b) := Lib.hid (fun b hb => hQ b (Nat.le_trans k0.size hb))
  have HV0r := Lib.hid (HV0.out.below k0)
  have HV1r := Lib.hid (HV1.out.below k0)
  have K2 := Lib.hid k2
  have HSZ : Hid (g < wr.heap.size) := Lib.hid HWr.out.1.1
  clear hW3 o0 o1 o2 u0 u1 u2 hQ hv0 hv1 k0 k1 k2 k3 hN
  have rM0 : ∀ w', Below wr.heap.size wr w' → w'.cell? ⟨p0, 0, none⟩ = some (.pointer (some ⟨g, 0, none⟩)) := fun w' hb => (HV0r.out.below hb).2.1 0 _ rfl
  have rM1 : ∀ w', Below wr.heap.size wr w' → w'.cell? ⟨p1, 0, none⟩ = some (.int .i64 0) := fun w' hb => (HV1r.out.below hb).2.1 0 _ rfl
  have rC0 : ∀ w', Below wr.heap.size wr w' → w'.cell? ⟨g, 0, none⟩ = some (.int .i64 1) := fun w' hb => (HWr.out.later hb).cells.1
  have rC1 : ∀ w', Below wr.heap.size wr w' → w'.cell? ⟨g, 1, none⟩ = some (.int .i64 c) := fun w' hb => (HWr.out.later hb).cells.2.1
  have rC2 : ∀ w', Below wr.heap.size wr w' → w'.cell? ⟨g, 2, none⟩ = some (.slice A3 n ka3) := fun w' hb => (HWr.out.later hb).cells.2.2.1
  have rC3 : ∀ w', Below wr.heap.size wr w' → w'.cell? ⟨g, 3, none⟩ = some (.int .u64 (r : Int)) := fun w' hb => (HWr.out.later hb).cells.2.2.2.1
  have rC4 : ∀ w', Below wr.heap.size wr w' → w'.cell? ⟨g, 4, none⟩ = some (.slice R3 1 ra3) := fun w' hb => (HWr.out.later hb).cells.2.2.2.2.1
  have rC5 : ∀ w', Below wr.heap.size wr w' → w'.cell? ⟨g, 5, none⟩ = some (.slice S3 1 sa3) := fun w' hb => (HWr.out.later hb).cells.2.2.2.2.2
  have rA0 : ∀ w', Below wr.heap.size wr w' → w'.cell? ⟨Nb, 0, none⟩ = some (.int .i64 (K : Int)) := fun w' hb => (K2.out.below hb).2.1 0 _ rfl
  have rA1 : ∀ w', Below wr.heap.size wr w' → w'.cell? ⟨Nb, 1, none⟩ = some (.int .i64 (i : Int)) := fun w' hb => (K2.out.below hb).2.1 1 _ rfl
  have rA2 : ∀ w', Below wr.heap.size wr w' → w'.cell? ⟨Nb, 2, none⟩ = some (.int .u64 (a : Int)) := fun w' hb => (K2.out.below hb).2.1 2 _ rfl
  have rA3 : ∀ w', Below wr.heap.size wr w' → w'.cell? ⟨Nb, 3, none⟩ = some (.int .u64 (b : Int)) := fun w' hb => (K2.out.below hb).2.1 3 _ rfl
  have rA4 : ∀ w', Below wr.heap.size wr w' → w'.cell? ⟨Nb, 4, none⟩ = some (.slice none 0 0) := fun w' hb => (K2.out.below hb).2.1 4 _ rfl
  have rA5 : ∀ w', Below wr.heap.size wr w' → w'.cell? ⟨Nb, 5, none⟩ = some (.slice none 0 0) := fun w' hb => (K2.out.below hb).2.1 5 _ rfl
  have HB0 : Below wr.heap.size wr wr := Below.refl _ _
  go_cut [5, 6] from 7 to 15 (fun s5 s6 wx => DirCE Q c r wr (Nb + 1) g n [.int .i64 1, .int .i64 c, .slice A3 n ka3, .int .u64 (r : Int), .slice R3 1 ra3, .slice S3 1 sa3] G' s0 s5 s6 wx)
  case first =>
    go_region_held3 (fun w' => Below wr.heap.size wr w') (repeat (first | with_reducible assumption | with_reducible refine Below.drew ?_ | with_reducible refine below_al ?_ | (with_reducible refine below_set1 (by omega) _ ?_)))
      (first | (go_at_call 30; (with_reducible refine (HADD _ (HWr.out.later (by repeat (first | with_reducible assumption | with_reducible refine Below.drew ?_ | with_reducible refine below_al ?_))).gA (HWr.out.later (by repeat (first | with_reducible assumption | with_reducible refine Below.drew ?_ | with_reducible refine below_al ?_))).g0 (HWr.out.later (by repeat (first | with_reducible assumption | with_reducible refine Below.drew ?_ | with_reducible refine below_al ?_))).g1).mono ?_); rintro e w4 ⟨A4, ka4, R4, ra4, S4, sa4, X4, kx4, rfl, ha, hs0, hs1, hk, hx, hb, hP⟩; have hBw4 : Below wr.heap.size wr w4 := below_step hb (by repeat (first | with_reducible assumption | with_reducible refine Below.drew ?_ | with_reducible refine below_al ?_)); have hz4 := hBw4.size; have HA4 := Lib.hid ha; have HS4 := Lib.hid hs0; have HT4 := Lib.hid hs1; have HQ := Lib.hid (arm_fact (by repeat (first | with_reducible assumption | with_reducible refine Below.drew ?_ | with_reducible refine below_al ?_)) hb hP HWr.out.2.1 HWr.out.2.2.1 HWr.out.2.2.2 HOr.out.1 HOr.out.2.1 HOr.out.2.2 HSZ.out); have HQ2 := Lib.hid (dir_off HN.out K1.out K0.out (by repeat (first | with_reducible assumption | with_reducible refine Below.drew ?_ | with_reducible refine below_al ?_)) hP HW3.out.2.1 HW3.out.2.2.1 HW3.out.2.2.2); have HQ3 := Lib.hid (armQ (by repeat (first | with_reducible assumption | with_reducible refine Below.drew ?_ | with_reducible refine below_al ?_)) hP HWr.out.2.2.1 HWr.out.2.2.2 HUr.out.1 HUr.out.2.1 HUr.out.2.2 HQF.out); (try (have VBa : VarAt w4 wr.heap.size [.int .i64 0, .int .i64 0, .slice none 0 0, .int .u64 0, .slice none 0 0, .slice none 0 0] := VarAt.onto hb (VarAt.made wr #[.int .i64 0, .int .i64 0, .slice none 0 0, .int .u64 0, .slice none 0 0, .slice none 0 0] 51) rfl; obtain ⟨_, ⟨va0, va1, va2, va3, va4, va5⟩, wa0, wa1, wa2, wa3, wa4, wa5⟩ := VBa.six)); (try (have VBb : VarAt w4 wr.heap.size [.int .u64 0, .slice none 0 0, .bool false] := VarAt.onto hb (VarAt.made wr #[.int .u64 0, .slice none 0 0, .bool false] 80) rfl; obtain ⟨_, vb0, vb1, vb2, wb0, wb1, wb2⟩ := VBb.three)); (try (have VBc : VarAt w4 (wr.heap.size + 1) [.int .u64 0, .slice none 0 0, .bool false] := VarAt.onto hb (VarAt.made1 wr (.cells #[.int .i64 0, .int .i64 0, .slice none 0 0, .int .u64 0, .slice none 0 0, .slice none 0 0] 51) #[.int .u64 0, .slice none 0 0, .bool false] 80) rfl; obtain ⟨_, vc0, vc1, vc2, wc0, wc1, wc2⟩ := VBc.three)); (try (have VBd : VarAt w4 (wr.heap.size + 1) [.int .i64 0, .int .i64 0, .slice none 0 0, .int .u64 0, .slice none 0 0, .slice none 0 0] := VarAt.onto hb (VarAt.made1 wr (.cells #[.int .u64 0, .slice none 0 0, .bool false] 80) #[.int .i64 0, .int .i64 0, .slice none 0 0, .int .u64 0, .slice none 0 0, .slice none 0 0] 51) rfl; obtain ⟨_, ⟨vd0, vd1, vd2, vd3, vd4, vd5⟩, wd0, wd1, wd2, wd3, wd4, wd5⟩ := VBd.six)); (try (have VBe : VarAt w4 wr.heap.size [.int .i64 0, .int .i64 0, .slice none 0 0, .int .u64 0, .slice none 0 0, .slice none 0 0] := VarAt.onto hb ((VarAt.made wr #[.int .i64 0, .int .i64 0, .slice none 0 0, .int .u64 0, .slice none 0 0, .slice none 0 0] 51).below (al_below _ (.cells #[.int .u64 0, .slice none 0 0, .bool false] 80))) rfl; obtain ⟨_, ⟨ve0, ve1, ve2, ve3, ve4, ve5⟩, we0, we1, we2, we3, we4, we5⟩ := VBe.six)); (try (have VBf : VarAt w4 wr.heap.size [.int .u64 0, .slice none 0 0, .bool false] := VarAt.onto hb ((VarAt.made wr #[.int .u64 0, .slice none 0 0, .bool false] 80).below (al_below _ (.cells #[.int .i64 0, .int .i64 0, .slice none 0 0, .int .u64 0, .slice none 0 0, .slice none 0 0] 51))) rfl; obtain ⟨_, vf0, vf1, vf2, wf0, wf1, wf2⟩ := VBf.three)); clear ha hs0 hs1 hk hx hb hP))
    all_goals
      go_wp2_with fail
      go_meet
      obtain ⟨N2, hN2, hN3, hN4, o0, o1, o2⟩ := HQ.out
      have hgz := HSZ.out
      simp at hN2
      obtain ⟨_, ⟨c0, c1, c2, c3, c4, c5⟩, q0, q1, q2, q3, q4, q5⟩ := (HWr.out.later hBw4).1.six
      exact DirCE.of (N2 := N2) (w4 := w4) (ka := ka4) (ra := ra4) (sa := sa4) (X := X4) (kx := kx4) (by repeat (first | with_reducible exact Keep.refl _ _ | with_reducible refine Keep.drew ?_ | with_reducible refine Keep.alloc ?_ _ | (with_reducible refine Keep.set ?_ _ _ _ (by unfold Qn; omega)))) (by omega) (by omega) (VarAt.of6 (by first | (simp; done) | (simp; omega) | omega) (by go_simp) (by go_simp) (by go_simp) (by go_simp) (by go_simp) (by go_simp) (by go_simp) (by go_simp) (by go_simp) (by go_simp) (by go_simp) (by go_simp)) (VarAt.of3 (by first | (simp; done) | (simp; omega) | omega) (by go_simp) (by go_simp) (by go_simp) (by go_simp) (by go_simp) (by go_simp)) (VarAt.of6 (by first | (simp; done) | (simp; omega) | omega) (by go_simp) (by go_simp) (by go_simp) (by go_simp) (by go_simp) (by go_simp) (by go_simp) (by go_simp) (by go_simp) (by go_simp) (by go_simp) (by go_simp)) HA4.out HS4.out HT4.out o0 o1 o2 HQ2.out.1 HQ2.out.2.1 HQ2.out.2.2 HQ3.out.1 HQ3.out.2.1 HQ3.out.2.2 (by repeat (first | with_reducible assumption | with_reducible refine Below.drew ?_ | with_reducible refine below_al ?_ | (with_reducible refine below_set1 (by omega) _ ?_)))
  case rest =>
    obtain ⟨b9, b10, A4, ka4, R4, ra4, S4, sa4, X4, kx4, rfl, rfl, hn9, hn10, hv9, hv10, hvg, hA4, hS4, hT4, o0, o1, o2, hq, hu, hby⟩ := hcut
    have HU4 := Lib.hid hu
    have hgz := HSZ.out
    have hwz := K1.out
    have n1 : ¬ (b9 = g) := by omega
    have n2 : ¬ (g = b9) := by omega
    have n3 : ¬ (b10 = g) := by omega
    have n4 : ¬ (g = b10) := by omega
    have n5 : ¬ (p0 = g) := h0
    have n6 : ¬ (g = p0) := fun e => h0 e.symm
    have n7 : ¬ (p1 = g) := h1
    have n8 : ¬ (g = p1) := fun e => h1 e.symm
    have n9 : ¬ (g = Nb + 1) := by have := HW3.out.1.1; have := HN.out; omega
    have n10 : ¬ (Nb + 1 = g) := fun e => n9 e.symm
    have n11 : ¬ (p0 = Nb + 1) := by have := HV0.out.1; have := HN.out; omega
    have n12 : ¬ (p1 = Nb + 1) := by have := HV1.out.1; have := HN.out; omega
    have m0 := rM0 wc hby
    have HBY := Lib.hid hby
    have HF := Lib.hid (And.intro hA4 (And.intro hS4 (And.intro hT4 (And.intro o0 (And.intro o1 (And.intro o2 hq))))))
    have HV := Lib.hid hvg
    obtain ⟨_, ⟨c0, c1, c2, c3, c4, c5⟩, _⟩ := hv9.six
    obtain ⟨_, r0, r1, r2, _⟩ := hv10.three
    obtain ⟨_, ⟨d0, d1, d2, d3, d4, d5⟩, q0, q1, q2, q3, q4, q5⟩ := hvg.six
    obtain ⟨_, e0, e1, e2, f0, f1, f2⟩ := (K3.out.below hby).three
    clear hv9 hv10 hvg hA4 hS4 hT4 o0 o1 o2 hq hu hby rC0 rC1 rC2 rC3 rC4 rC5 rA0 rA1 rA2 rA3 rA4 rA5 rM0 rM1
    go_wp2_with fail
    obtain ⟨hA4, hS4, hT4, o0, o1, o2, z0, z1, z2⟩ := HF.out
    have hby := HBY.out
    have hbw : But g w wr := ⟨K0.out.mono (by have := HW3.out.1.1; omega), fun b hlt _ => K0.out.block b hlt⟩
    have hbc : But g w wc := hbw.later hby hgz
    have hgw := HW3.out.1.1
    have hgy := HV.out.1
    have hnw := HN.out
    have o1b := (o1.both z1)
    have o2b := (o2.both z2)
    refine bodyPost_ret (v := .agg #[.int .u64 (s0 : Int), .slice X4 0 kx4, .bool false]) (by simp [results, Try.results33, go_sem, e0, e1, e2]) rfl
      ⟨_, _, rfl, ⟨⟨A4, ka4, R4, ra4, S4, sa4, ⟨VarAt.of6 (by first | (simp; done) | (simp; omega) | omega) (by go_simp) (by go_simp) (by go_simp) (by go_simp) (by go_simp) (by go_simp) (by go_simp) (by go_simp) (by go_simp) (by go_simp) (by go_simp) (by go_simp), hA4.keep (Q := fun b => Out g 1 b ∧ b ≠ Nb + 1) (by repeat (first | with_reducible exact Keep.refl _ _ | with_reducible refine Keep.drew ?_ | with_reducible refine Keep.alloc ?_ _ | (with_reducible refine Keep.set ?_ _ _ _ (by unfold Out; omega)))) (fun hp b o e => ⟨o0 hp b o e, z0 hp b o e⟩), hS4.keep (Q := fun b => Out g 1 b ∧ b ≠ Nb + 1) (by repeat (first | with_reducible exact Keep.refl _ _ | with_reducible refine Keep.drew ?_ | with_reducible refine Keep.alloc ?_ _ | (with_reducible refine Keep.set ?_ _ _ _ (by unfold Out; omega)))) o1b, hT4.keep (Q := fun b => Out g 1 b ∧ b ≠ Nb + 1) (by repeat (first | with_reducible exact Keep.refl _ _ | with_reducible refine Keep.drew ?_ | with_reducible refine Keep.alloc ?_ _ | (with_reducible refine Keep.set ?_ _ _ _ (by unfold Out; omega)))) o2b⟩, o0, o1.keep (Q := fun b => Out g 1 b ∧ b ≠ Nb + 1) hS4 (by repeat (first | with_reducible exact Keep.refl _ _ | with_reducible refine Keep.drew ?_ | with_reducible refine Keep.alloc ?_ _ | (with_reducible refine Keep.set ?_ _ _ _ (by unfold Out; omega)))) o1b, o2.keep (Q := fun b => Out g 1 b ∧ b ≠ Nb + 1) hT4 (by repeat (first | with_reducible exact Keep.refl _ _ | with_reducible refine Keep.drew ?_ | with_reducible refine Keep.alloc ?_ _ | (with_reducible refine Keep.set ?_ _ _ _ (by unfold Out; omega)))) o2b, HU4.out.1, HU4.out.2.1.keep (Q := fun b => Out g 1 b ∧ b ≠ Nb + 1) hS4 (by repeat (first | with_reducible exact Keep.refl _ _ | with_reducible refine Keep.drew ?_ | with_reducible refine Keep.alloc ?_ _ | (with_reducible refine Keep.set ?_ _ _ _ (by unfold Out; omega)))) o1b, HU4.out.2.2.keep (Q := fun b => Out g 1 b ∧ b ≠ Nb + 1) hT4 (by repeat (first | with_reducible exact Keep.refl _ _ | with_reducible refine Keep.drew ?_ | with_reducible refine Keep.alloc ?_ _ | (with_reducible refine Keep.set ?_ _ _ _ (by unfold Out; omega)))) o2b⟩, (((((((((HV0r.out.below hby).apart _ _ (by omega)).apart _ _ (by omega)).apart _ _ (by omega)).apart _ _ (by omega)).apart _ _ (by omega)).apart _ _ (by omega)).apart _ _ (by omega)).apart _ _ (by omega)).apart _ _ (by omega), (((((((((HV1r.out.below hby).apart _ _ (by omega)).apart _ _ (by omega)).apart _ _ (by omega)).apart _ _ (by omega)).apart _ _ (by omega)).apart _ _ (by omega)).apart _ _ (by omega)).apart _ _ (by omega)).apart _ _ (by omega)⟩, (by repeat (first | with_reducible assumption | with_reducible exact But.refl _ _ | with_reducible refine But.drew ?_ | (with_reducible refine But.alloc ?_ _ (by omega)) | (with_reducible refine But.set ?_ _ _) | (with_reducible refine But.new ?_ _ _ _ (by omega) (by omega))))⟩

/-! ### As who makes accesses -/
theorem askC (p0 p1 : Nat) (k i : Int) (a b N : Nat) (P : World → Prop) (w : World) (h : Calls Try.prog 33 #[.agg #[.int .i64 k, .int .i64 i, .int .u64 (a : Int), .int .u64 (b : Int), .slice none 0 0, .slice none 0 0], .pointer (some ⟨p0, 0, none⟩), .pointer (some ⟨p1, 0, none⟩)] w (fun e w' => ∃ v1 v2, e = .returned (.agg #[.int .u64 (N : Int), v1, v2]) ∧ P w')) :
    Calls Try.prog 51 #[.func (.func 33) #[] #[.pointer (some ⟨p0, 0, none⟩), .pointer (some ⟨p1, 0, none⟩)], .int .i64 k, .int .i64 i, .int .u64 (a : Int), .int .u64 (b : Int)] w (Tells N P) := by
  have he := eql_do
  have hf := field_n
  go_enter Try.func51, Try.ntmps51
  go_wp2_with fail
  (with_reducible refine h.mono ?_)
  rintro e w' ⟨v1, v2, rfl, hp⟩
  have HP := Lib.hid hp
  clear hp
  go_wp2_with fail
  go_ret
  exact ⟨rfl, HP.out⟩
abbrev dirV (p0 p1 : Nat) : Value := .func (.func 33) #[] #[.pointer (some ⟨p0, 0, none⟩), .pointer (some ⟨p1, 0, none⟩)]
/-- What a memory of n words tells. -/
def memTell (n : Nat) (G : Nat → Nat) (k i : Int) (a b : Nat) : Tell (Nat → Nat) :=
  if 0 ≤ k ∧ k < 5 ∧ 0 ≤ i ∧ i < n then .told (toldN k.toNat a b (G i.toNat) % 18446744073709551616) (setW G i.toNat (isN k.toNat a b (G i.toNat))) else .bad
def dirSrv (Q : Nat → Prop) (NB : Nat) (c : Int) (r g p0 p1 n : Nat) (hn : n ≤ 1000000) (hQ : ∀ b, NB ≤ b → Q b) (h0 : ¬ (p0 = g)) (h1 : ¬ (p1 = g)) : Srv (dirV p0 p1) (Nat → Nat) where
  I G w := DirC Q c r g p0 p1 n G w ∧ NB ≤ w.heap.size
  g := g
  tell := memTell n
  pv := .nilIface
  L _ _ _ _ _ := False
  isFn := ⟨_, _, _, rfl⟩
  small := by
    intro s k i a b m s' h
    unfold memTell at h
    split at h
    · rename_i hc
      cases h
      exact Nat.mod_lt _ (by decide)
    · cases h
  B w := w.heap.size
  ble := fun _ => Nat.le_refl _
  stay := by
    rintro s w w' ⟨hd, hs⟩ hb
    exact ⟨hd.below hb, Nat.le_trans hs hb.size⟩
  told := by
    intro s k i a b m s' h hbd w hI
    unfold memTell at h
    split at h
    · rename_i hc
      obtain ⟨hk0, hk5, hi0, hin⟩ := hc
      obtain ⟨kn, rfl⟩ : ∃ kn : Nat, k = (kn : Int) := ⟨k.toNat, by omega⟩
      obtain ⟨ix, rfl⟩ : ∃ ix : Nat, i = (ix : Int) := ⟨i.toNat, by omega⟩
      rw [Int.toNat_natCast, Int.toNat_natCast] at h
      have hG : ∀ j, s j < 18446744073709551616 := by obtain ⟨_, _, _, _, _, _, hW, _⟩ := hI.1.run; exact hW.2.1.1
      rw [Nat.mod_eq_of_lt (toldN_lt (hG ix))] at h
      cases h
      refine askC p0 p1 _ _ a b _ _ w ((dirC_word Q c r g p0 p1 n s kn ix a b _ _ (by omega) (by omega) hn hbd.2.2.1 hbd.2.2.2 rfl rfl h0 h1 w (fun b hb => hQ b (Nat.le_trans hI.2 hb)) (Lib.hid hI.1)).mono ?_)
      rintro e w' ⟨v1, v2, rfl, hd, hB⟩
      exact ⟨v1, v2, rfl, ⟨hd, Nat.le_trans hI.2 hB.size⟩, hB⟩
    · cases h
  left := by
    intro s k i a b h
    unfold memTell at h
    split at h <;> cases h

/-! ### Pop and Push so, plain: what they do alone -/
theorem mem_none {t n : Nat} {G : Nat → Nat} (hG : ∀ j, G j < 18446744073709551616) (hn : 1 < n) (f : Nat) (h : firstN (G 1) = 0) : popRun (memTell n) t (f + 1) G = .done 0 G := by
  have h1 := mod64 (hG 1)
  have hi : ((1 : Int)).toNat = 1 := rfl
  have h0 : ((0 : Int)).toNat = 0 := rfl
  have hn1 : (1 : Int) < (n : Int) := by omega
  simp [popRun, memTell, toldN, isN, hi, h0, h1, h, hn1, setW_same]
theorem mem_pop {t c : Nat} {G : Nat → Nat} (hG : ∀ j, G j < 18446744073709551616) (f : Nat) {a : Nat} {l : List Nat} (hF : FreeIs t G (a :: l)) (ha : a ≤ c) : popRun (memTell (sizeN t c)) t (f + 1) G = .done a (popG t G) := by
  have h : firstN (G 1) ≠ 0 := by rw [hF.top.1]; have := hF.top.2; omega
  have hL : fieldN t (firstN (G 1)) 7 < sizeN t c := by rw [hF.top.1]; exact field_size hF.top.2 ha
  have e1 := hF.top.1
  have h1 := mod64 (hG 1)
  have h2 := mod64 (hG (fieldN t (firstN (G 1)) 7))
  have hi : ((1 : Int)).toNat = 1 := rfl
  have h0 : ((0 : Int)).toNat = 0 := rfl
  have h02 : ((2 : Int)).toNat = 2 := rfl
  have hn1 : (1 : Int) < (sizeN t c : Int) := by have := @size_pos t c; omega
  have hp : popG t G = setW G 1 (topN (firstN (G (fieldN t (firstN (G 1)) 7))) (tagN (G 1) + 1)) := rfl
  simp [popRun, memTell, toldN, isN, hi, h0, h02, h1, h2, h, hn1, hL, setW_same]
  rw [hp]
  exact ⟨e1, rfl⟩
theorem mem_push {t c : Nat} {G : Nat → Nat} (hG : ∀ j, G j < 18446744073709551616) (f r : Nat) (h1 : 1 ≤ r) (hr : r ≤ c) : pushRun (memTell (sizeN t c)) t r (f + 1) G = .done 0 (pushG t r G) := by
  have hL : fieldN t r 7 < sizeN t c := field_size h1 hr
  have hm := mod64 (hG 1)
  have hne : ¬ (1 = fieldN t r 7) := by have := @field_ge t r; omega
  have hi : ((1 : Int)).toNat = 1 := rfl
  have h0 : ((0 : Int)).toNat = 0 := rfl
  have h02 : ((2 : Int)).toNat = 2 := rfl
  have h3 : ∀ v, setW G (fieldN t r 7) v 1 = G 1 := fun v => by unfold setW; rw [if_neg hne]
  have hn1 : (1 : Int) < (sizeN t c : Int) := by have := @size_pos t c; omega
  simp [pushRun, memTell, toldN, isN, hi, h0, h02, hm, h3, hn1, hL, setW_same, pushG]
end Go.Proofs.Ytadknblgfcgkpaa
