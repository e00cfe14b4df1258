/- AccWord -/
import Derived.Test.YtibpfkcackdbgaaGreatDoorAccA
import Derived.Test.YtibpfkcackdbgaaGreatDoorSmal
namespace Go.Proofs.YtibpfkcackdbgaaGreatDoor
open Go.ChangeShapes Go.WideShapes Go.ChangeAt Go.RowKit Go.BigFrame
set_option linter.unusedVariables false
set_option maxRecDepth 100000
def WordW (w : World) (t c : Int) (A : Option Addr) (n : Nat) (G : Nat → Nat) (told : Nat) (e : Ending) (w' : World) : Prop :=
 ∃ A' k', e = .returned (.tuple #[.agg #[.int .i64 t, .int .i64 c, .slice A' n k'], .int .u64 (told : Int)]) ∧ AtW w' A' n G ∧ Below w.heap.size w w' ∧ ∀ P : Nat → Prop, (∀ b, w.heap.size ≤ b → P b) → OffW P A n → OffW P A' n
section
variable (t c : Int) (A : Option Addr) (n k : Nat) (F : Nat → Nat) (a b : Nat) (D : Option Addr) (dn dc : Nat) (W : Option Addr) (wn wc : Nat)
set_option maxHeartbeats 2000000 in
theorem ofWord_load_same (i x is told : Nat) (hi : i < n) (hn : n ≤ 1000000) (hx : F i = x) (his : is < 18446744073709551616) (hq : ((is : Int) != (x : Int)) = false)
  (hc : ∀ w, Calls Tryz.prog 171 #[.int .u64 (x : Int), .agg #[.int .i64 0, .int .i64 (i : Int), .int .u64 (a : Int), .int .u64 (b : Int), .slice D dn dc, .slice W wn wc]] w (Kept w (.tuple #[.int .u64 (is : Int), .int .u64 (told : Int)]))) (w : World) (hA : Hid (AtW w A n F)) :
  Calls Tryz.prog 76 #[.agg #[.int .i64 t, .int .i64 c, .slice A n k], .agg #[.int .i64 0, .int .i64 (i : Int), .int .u64 (a : Int), .int .u64 (b : Int), .slice D dn dc, .slice W wn wc]] w (WordW w t c A n F told) := by
 obtain ⟨b0, off, rfl, hlt, hcell⟩ := hA.out.2 (by omega)
 have hx0 := hcell i hi
 rw [hx] at hx0
 have HX0 := Lib.hid hx0
 have HLT := Lib.hid hlt
 have HI := Lib.hid hi
 have HN := Lib.hid hn
 have HIS := Lib.hid his
 have i0 : (0 : Int) ≤ (i : Int) := by omega
 have i1 : (i : Int) < (n : Int) := by omega
 have d3 : decide ((i : Int) < 0) = false := by rw [decide_eq_false_iff_not]; omega
 have d4 : decide ((n : Int) ≤ (i : Int)) = false := by rw [decide_eq_false_iff_not]; omega
 clear hcell hlt hx0 hx hn his
 have K0 : Kp w [(2, [.int .i64 0, .int .i64 0, .slice none 0 0]), (1, [.int .i64 0, .int .i64 (i : Int), .int .u64 (a : Int), .int .u64 (b : Int), .slice D dn dc, .slice W wn wc]), (0, [.int .i64 t, .int .i64 c, .slice (some ⟨b0, off, none⟩) n k])] [] (((w.alloc (.cells #[.int .i64 t, .int .i64 c, .slice (some ⟨b0, off, none⟩) n k] 26)).alloc (.cells #[.int .i64 0, .int .i64 (i : Int), .int .u64 (a : Int), .int .u64 (b : Int), .slice D dn dc, .slice W wn wc] 70)).alloc (.cells #[.int .i64 0, .int .i64 0, .slice none 0 0] 26)) :=
  (((Kp.nil w).var 0 rfl #[.int .i64 t, .int .i64 c, .slice (some ⟨b0, off, none⟩) n k] 26).var 1 (by simp) #[.int .i64 0, .int .i64 (i : Int), .int .u64 (a : Int), .int .u64 (b : Int), .slice D dn dc, .slice W wn wc] 70).var 2 (by simp) #[.int .i64 0, .int .i64 0, .slice none 0 0] 26
 have HK0 := Lib.hid K0
 clear K0
 go_enter Tryz.func76, Tryz.ntmps76
 go_wp2_with fail
 refine (turns_at _).mono ?_
 rintro e w2 ⟨rfl, hb⟩
 obtain ⟨x2, hx2⟩ : ∃ x, w2.alloc (.cells #[.func (.func 171) #[] #[], .func (.func 172) #[] #[], .func (.func 173) #[] #[], .func (.func 174) #[] #[], .func (.func 175) #[] #[]] 192) = x := ⟨_, rfl⟩
 have K2 : Hid (Kp w [(2, [.int .i64 0, .int .i64 0, .slice none 0 0]), (1, [.int .i64 0, .int .i64 (i : Int), .int .u64 (a : Int), .int .u64 (b : Int), .slice D dn dc, .slice W wn wc]), (0, [.int .i64 t, .int .i64 c, .slice (some ⟨b0, off, none⟩) n k])] [] x2) := Lib.hid (by rw [← hx2]; exact (HK0.out.later hb).alloc _)
 have T2 : Hid (VarAt x2 w2.heap.size [.func (.func 171) #[] #[], .func (.func 172) #[] #[], .func (.func 173) #[] #[], .func (.func 174) #[] #[], .func (.func 175) #[] #[]]) := Lib.hid (by rw [← hx2]; exact VarAt.made w2 #[.func (.func 171) #[] #[], .func (.func 172) #[] #[], .func (.func 173) #[] #[], .func (.func 174) #[] #[], .func (.func 175) #[] #[]] 192)
 obtain ⟨_, c0, c1, c2, f0, f1, f2⟩ := (K2.out.at_ (o := 0) (.tail _ (.tail _ (.head _)))).three
 obtain ⟨_, ⟨a0, a1, a2, a3, a4, a5⟩, _⟩ := (K2.out.at_ (o := 1) (.tail _ (.head _))).six
 obtain ⟨_, r0, r1, r2, g0, g1, g2⟩ := (K2.out.at_ (o := 2) (.head _)).three
 rw [Nat.add_zero] at c0 c1 c2 f0 f1 f2
 obtain ⟨bt, hbt⟩ : ∃ x, w2.heap.size = x := ⟨_, rfl⟩
 have HBT : Hid (w.heap.size + 3 ≤ bt) := Lib.hid (by have := (HK0.out.at_ (o := 2) (.head _)).1; have := hb.size; rw [← hbt]; omega)
 rw [hbt] at T2
 obtain ⟨_, ⟨t0, t1, t2, t3, t4⟩, _⟩ := T2.out.five
 clear hb HK0
 have x0 : x2.cell? ⟨b0, off + i, none⟩ = some (.int .u64 (x : Int)) := (K2.out.bel.cell (p := ⟨b0, off + i, none⟩) HLT.out).trans HX0.out
 go_wp2_with fail
 have rA0 : ∀ u : After x2, u.w.cell? ⟨w.heap.size + 1, 0, none⟩ = some (.int .i64 0) := After.cells a0 rfl
 have rA1 : ∀ u : After x2, u.w.cell? ⟨w.heap.size + 1, 1, none⟩ = some (.int .i64 (i : Int)) := After.cells a1 rfl
 have rA2 : ∀ u : After x2, u.w.cell? ⟨w.heap.size + 1, 2, none⟩ = some (.int .u64 (a : Int)) := After.cells a2 rfl
 have rA3 : ∀ u : After x2, u.w.cell? ⟨w.heap.size + 1, 3, none⟩ = some (.int .u64 (b : Int)) := After.cells a3 rfl
 have rA4 : ∀ u : After x2, u.w.cell? ⟨w.heap.size + 1, 4, none⟩ = some (.slice D dn dc) := After.cells a4 rfl
 have rA5 : ∀ u : After x2, u.w.cell? ⟨w.heap.size + 1, 5, none⟩ = some (.slice W wn wc) := After.cells a5 rfl
 have rT : ∀ u : After x2, u.w.cell? ⟨bt, 0, none⟩ = some (.func (.func 171) #[] #[]) := After.cells t0 rfl
 clear c0 c1 c2 f0 f1 f2 a0 a1 a2 a3 a4 a5 r0 r1 r2 g0 g1 g2 t0 t1 t2 t3 t4
 try rw [hx2]
 try rw [hbt]
 clear hx2
 refine wp_region_after _ (by kernel_rfl) (by kernel_rfl) rfl (by kernel_rfl) ?_
 repeat (go_big_quiet_step (with_reducible exact after_kept (hc _)))
 refine wpQuiet_nil ?_
 intro w3 hw3
 obtain ⟨u3, hu3⟩ := hw3
 subst hu3
 have K3 := Lib.hid (K2.out.later u3.below)
 clear rA0 rA1 rA2 rA3 rA4 rA5 rT
 obtain ⟨_, c0, c1, c2, f0, f1, f2⟩ := (K3.out.at_ (o := 0) (.tail _ (.tail _ (.head _)))).three
 obtain ⟨_, ⟨a0, a1, a2, a3, a4, a5⟩, _⟩ := (K3.out.at_ (o := 1) (.tail _ (.head _))).six
 obtain ⟨_, r0, r1, r2, g0, g1, g2⟩ := (K3.out.at_ (o := 2) (.head _)).three
 rw [Nat.add_zero] at c0 c1 c2 f0 f1 f2
 go_wp2_with fail
 exact bodyPost_ret (v := .tuple #[.agg #[.int .i64 t, .int .i64 c, .slice (some ⟨b0, off, none⟩) n k], .int .u64 (told : Int)]) (by simp [results, Tryz.results76, go_sem, r0, r1, r2]) rfl ⟨some ⟨b0, off, none⟩, k, rfl, ((hA.out.later K3.out.bel).alike (N := w.heap.size) (k := 3) (((Alike.refl _ _ u3.w).set (w.heap.size + 2) 0 _ (by omega) (by omega)).set (w.heap.size + 2) 1 _ (by omega) (by omega)  |>.set (w.heap.size + 2) 2 _ (by omega) (by omega)) (hA.out.old.mono fun b h => .inl h)), below_setCells (b := w.heap.size + 2) (Nat.le_add_right _ _) [.int .i64 t, .int .i64 c, .slice (some ⟨b0, off, none⟩) n k] 0 _ K3.out.bel, fun P _ h => h⟩
set_option maxHeartbeats 2000000 in
theorem ofWord_store_same (i x is told : Nat) (hi : i < n) (hn : n ≤ 1000000) (hx : F i = x) (his : is < 18446744073709551616) (hq : ((is : Int) != (x : Int)) = false)
  (hc : ∀ w, Calls Tryz.prog 172 #[.int .u64 (x : Int), .agg #[.int .i64 1, .int .i64 (i : Int), .int .u64 (a : Int), .int .u64 (b : Int), .slice D dn dc, .slice W wn wc]] w (Kept w (.tuple #[.int .u64 (is : Int), .int .u64 (told : Int)]))) (w : World) (hA : Hid (AtW w A n F)) :
  Calls Tryz.prog 76 #[.agg #[.int .i64 t, .int .i64 c, .slice A n k], .agg #[.int .i64 1, .int .i64 (i : Int), .int .u64 (a : Int), .int .u64 (b : Int), .slice D dn dc, .slice W wn wc]] w (WordW w t c A n F told) := by
 obtain ⟨b0, off, rfl, hlt, hcell⟩ := hA.out.2 (by omega)
 have hx0 := hcell i hi
 rw [hx] at hx0
 have HX0 := Lib.hid hx0
 have HLT := Lib.hid hlt
 have HI := Lib.hid hi
 have HN := Lib.hid hn
 have HIS := Lib.hid his
 have i0 : (0 : Int) ≤ (i : Int) := by omega
 have i1 : (i : Int) < (n : Int) := by omega
 have d3 : decide ((i : Int) < 0) = false := by rw [decide_eq_false_iff_not]; omega
 have d4 : decide ((n : Int) ≤ (i : Int)) = false := by rw [decide_eq_false_iff_not]; omega
 clear hcell hlt hx0 hx hn his
 have K0 : Kp w [(2, [.int .i64 0, .int .i64 0, .slice none 0 0]), (1, [.int .i64 1, .int .i64 (i : Int), .int .u64 (a : Int), .int .u64 (b : Int), .slice D dn dc, .slice W wn wc]), (0, [.int .i64 t, .int .i64 c, .slice (some ⟨b0, off, none⟩) n k])] [] (((w.alloc (.cells #[.int .i64 t, .int .i64 c, .slice (some ⟨b0, off, none⟩) n k] 26)).alloc (.cells #[.int .i64 1, .int .i64 (i : Int), .int .u64 (a : Int), .int .u64 (b : Int), .slice D dn dc, .slice W wn wc] 70)).alloc (.cells #[.int .i64 0, .int .i64 0, .slice none 0 0] 26)) :=
  (((Kp.nil w).var 0 rfl #[.int .i64 t, .int .i64 c, .slice (some ⟨b0, off, none⟩) n k] 26).var 1 (by simp) #[.int .i64 1, .int .i64 (i : Int), .int .u64 (a : Int), .int .u64 (b : Int), .slice D dn dc, .slice W wn wc] 70).var 2 (by simp) #[.int .i64 0, .int .i64 0, .slice none 0 0] 26
 have HK0 := Lib.hid K0
 clear K0
 go_enter Tryz.func76, Tryz.ntmps76
 go_wp2_with fail
 refine (turns_at _).mono ?_
 rintro e w2 ⟨rfl, hb⟩
 obtain ⟨x2, hx2⟩ : ∃ x, w2.alloc (.cells #[.func (.func 171) #[] #[], .func (.func 172) #[] #[], .func (.func 173) #[] #[], .func (.func 174) #[] #[], .func (.func 175) #[] #[]] 192) = x := ⟨_, rfl⟩
 have K2 : Hid (Kp w [(2, [.int .i64 0, .int .i64 0, .slice none 0 0]), (1, [.int .i64 1, .int .i64 (i : Int), .int .u64 (a : Int), .int .u64 (b : Int), .slice D dn dc, .slice W wn wc]), (0, [.int .i64 t, .int .i64 c, .slice (some ⟨b0, off, none⟩) n k])] [] x2) := Lib.hid (by rw [← hx2]; exact (HK0.out.later hb).alloc _)
 have T2 : Hid (VarAt x2 w2.heap.size [.func (.func 171) #[] #[], .func (.func 172) #[] #[], .func (.func 173) #[] #[], .func (.func 174) #[] #[], .func (.func 175) #[] #[]]) := Lib.hid (by rw [← hx2]; exact VarAt.made w2 #[.func (.func 171) #[] #[], .func (.func 172) #[] #[], .func (.func 173) #[] #[], .func (.func 174) #[] #[], .func (.func 175) #[] #[]] 192)
 obtain ⟨_, c0, c1, c2, f0, f1, f2⟩ := (K2.out.at_ (o := 0) (.tail _ (.tail _ (.head _)))).three
 obtain ⟨_, ⟨a0, a1, a2, a3, a4, a5⟩, _⟩ := (K2.out.at_ (o := 1) (.tail _ (.head _))).six
 obtain ⟨_, r0, r1, r2, g0, g1, g2⟩ := (K2.out.at_ (o := 2) (.head _)).three
 rw [Nat.add_zero] at c0 c1 c2 f0 f1 f2
 obtain ⟨bt, hbt⟩ : ∃ x, w2.heap.size = x := ⟨_, rfl⟩
 have HBT : Hid (w.heap.size + 3 ≤ bt) := Lib.hid (by have := (HK0.out.at_ (o := 2) (.head _)).1; have := hb.size; rw [← hbt]; omega)
 rw [hbt] at T2
 obtain ⟨_, ⟨t0, t1, t2, t3, t4⟩, _⟩ := T2.out.five
 clear hb HK0
 have x0 : x2.cell? ⟨b0, off + i, none⟩ = some (.int .u64 (x : Int)) := (K2.out.bel.cell (p := ⟨b0, off + i, none⟩) HLT.out).trans HX0.out
 go_wp2_with fail
 have rA0 : ∀ u : After x2, u.w.cell? ⟨w.heap.size + 1, 0, none⟩ = some (.int .i64 1) := After.cells a0 rfl
 have rA1 : ∀ u : After x2, u.w.cell? ⟨w.heap.size + 1, 1, none⟩ = some (.int .i64 (i : Int)) := After.cells a1 rfl
 have rA2 : ∀ u : After x2, u.w.cell? ⟨w.heap.size + 1, 2, none⟩ = some (.int .u64 (a : Int)) := After.cells a2 rfl
 have rA3 : ∀ u : After x2, u.w.cell? ⟨w.heap.size + 1, 3, none⟩ = some (.int .u64 (b : Int)) := After.cells a3 rfl
 have rA4 : ∀ u : After x2, u.w.cell? ⟨w.heap.size + 1, 4, none⟩ = some (.slice D dn dc) := After.cells a4 rfl
 have rA5 : ∀ u : After x2, u.w.cell? ⟨w.heap.size + 1, 5, none⟩ = some (.slice W wn wc) := After.cells a5 rfl
 have rT : ∀ u : After x2, u.w.cell? ⟨bt, 1, none⟩ = some (.func (.func 172) #[] #[]) := After.cells t1 rfl
 clear c0 c1 c2 f0 f1 f2 a0 a1 a2 a3 a4 a5 r0 r1 r2 g0 g1 g2 t0 t1 t2 t3 t4
 try rw [hx2]
 try rw [hbt]
 clear hx2
 refine wp_region_after _ (by kernel_rfl) (by kernel_rfl) rfl (by kernel_rfl) ?_
 repeat (go_big_quiet_step (with_reducible exact after_kept (hc _)))
 refine wpQuiet_nil ?_
 intro w3 hw3
 obtain ⟨u3, hu3⟩ := hw3
 subst hu3
 have K3 := Lib.hid (K2.out.later u3.below)
 clear rA0 rA1 rA2 rA3 rA4 rA5 rT
 obtain ⟨_, c0, c1, c2, f0, f1, f2⟩ := (K3.out.at_ (o := 0) (.tail _ (.tail _ (.head _)))).three
 obtain ⟨_, ⟨a0, a1, a2, a3, a4, a5⟩, _⟩ := (K3.out.at_ (o := 1) (.tail _ (.head _))).six
 obtain ⟨_, r0, r1, r2, g0, g1, g2⟩ := (K3.out.at_ (o := 2) (.head _)).three
 rw [Nat.add_zero] at c0 c1 c2 f0 f1 f2
 go_wp2_with fail
 exact bodyPost_ret (v := .tuple #[.agg #[.int .i64 t, .int .i64 c, .slice (some ⟨b0, off, none⟩) n k], .int .u64 (told : Int)]) (by simp [results, Tryz.results76, go_sem, r0, r1, r2]) rfl ⟨some ⟨b0, off, none⟩, k, rfl, ((hA.out.later K3.out.bel).alike (N := w.heap.size) (k := 3) (((Alike.refl _ _ u3.w).set (w.heap.size + 2) 0 _ (by omega) (by omega)).set (w.heap.size + 2) 1 _ (by omega) (by omega)  |>.set (w.heap.size + 2) 2 _ (by omega) (by omega)) (hA.out.old.mono fun b h => .inl h)), below_setCells (b := w.heap.size + 2) (Nat.le_add_right _ _) [.int .i64 t, .int .i64 c, .slice (some ⟨b0, off, none⟩) n k] 0 _ K3.out.bel, fun P _ h => h⟩
set_option maxHeartbeats 2000000 in
theorem ofWord_store_turn (i x is told : Nat) (hi : i < n) (hn : n ≤ 1000000) (hx : F i = x) (his : is < 18446744073709551616) (hq : ((is : Int) != (x : Int)) = true)
  (hc : ∀ w, Calls Tryz.prog 172 #[.int .u64 (x : Int), .agg #[.int .i64 1, .int .i64 (i : Int), .int .u64 (a : Int), .int .u64 (b : Int), .slice D dn dc, .slice W wn wc]] w (Kept w (.tuple #[.int .u64 (is : Int), .int .u64 (told : Int)]))) (w : World) (hA : Hid (AtW w A n F)) :
  Calls Tryz.prog 76 #[.agg #[.int .i64 t, .int .i64 c, .slice A n k], .agg #[.int .i64 1, .int .i64 (i : Int), .int .u64 (a : Int), .int .u64 (b : Int), .slice D dn dc, .slice W wn wc]] w (WordW w t c A n (setW F i is) told) := by
 obtain ⟨b0, off, rfl, hlt, hcell⟩ := hA.out.2 (by omega)
 have hx0 := hcell i hi
 rw [hx] at hx0
 have HX0 := Lib.hid hx0
 have HLT := Lib.hid hlt
 have HI := Lib.hid hi
 have HN := Lib.hid hn
 have HIS := Lib.hid his
 have i0 : (0 : Int) ≤ (i : Int) := by omega
 have i1 : (i : Int) < (n : Int) := by omega
 have d3 : decide ((i : Int) < 0) = false := by rw [decide_eq_false_iff_not]; omega
 have d4 : decide ((n : Int) ≤ (i : Int)) = false := by rw [decide_eq_false_iff_not]; omega
 clear hcell hlt hx0 hx hn his
 have K0 : Kp w [(2, [.int .i64 0, .int .i64 0, .slice none 0 0]), (1, [.int .i64 1, .int .i64 (i : Int), .int .u64 (a : Int), .int .u64 (b : Int), .slice D dn dc, .slice W wn wc]), (0, [.int .i64 t, .int .i64 c, .slice (some ⟨b0, off, none⟩) n k])] [] (((w.alloc (.cells #[.int .i64 t, .int .i64 c, .slice (some ⟨b0, off, none⟩) n k] 26)).alloc (.cells #[.int .i64 1, .int .i64 (i : Int), .int .u64 (a : Int), .int .u64 (b : Int), .slice D dn dc, .slice W wn wc] 70)).alloc (.cells #[.int .i64 0, .int .i64 0, .slice none 0 0] 26)) :=
  (((Kp.nil w).var 0 rfl #[.int .i64 t, .int .i64 c, .slice (some ⟨b0, off, none⟩) n k] 26).var 1 (by simp) #[.int .i64 1, .int .i64 (i : Int), .int .u64 (a : Int), .int .u64 (b : Int), .slice D dn dc, .slice W wn wc] 70).var 2 (by simp) #[.int .i64 0, .int .i64 0, .slice none 0 0] 26
 have HK0 := Lib.hid K0
 clear K0
 go_enter Tryz.func76, Tryz.ntmps76
 go_wp2_with fail
 refine (turns_at _).mono ?_
 rintro e w2 ⟨rfl, hb⟩
 obtain ⟨x2, hx2⟩ : ∃ x, w2.alloc (.cells #[.func (.func 171) #[] #[], .func (.func 172) #[] #[], .func (.func 173) #[] #[], .func (.func 174) #[] #[], .func (.func 175) #[] #[]] 192) = x := ⟨_, rfl⟩
 have K2 : Hid (Kp w [(2, [.int .i64 0, .int .i64 0, .slice none 0 0]), (1, [.int .i64 1, .int .i64 (i : Int), .int .u64 (a : Int), .int .u64 (b : Int), .slice D dn dc, .slice W wn wc]), (0, [.int .i64 t, .int .i64 c, .slice (some ⟨b0, off, none⟩) n k])] [] x2) := Lib.hid (by rw [← hx2]; exact (HK0.out.later hb).alloc _)
 have T2 : Hid (VarAt x2 w2.heap.size [.func (.func 171) #[] #[], .func (.func 172) #[] #[], .func (.func 173) #[] #[], .func (.func 174) #[] #[], .func (.func 175) #[] #[]]) := Lib.hid (by rw [← hx2]; exact VarAt.made w2 #[.func (.func 171) #[] #[], .func (.func 172) #[] #[], .func (.func 173) #[] #[], .func (.func 174) #[] #[], .func (.func 175) #[] #[]] 192)
 obtain ⟨_, c0, c1, c2, f0, f1, f2⟩ := (K2.out.at_ (o := 0) (.tail _ (.tail _ (.head _)))).three
 obtain ⟨_, ⟨a0, a1, a2, a3, a4, a5⟩, _⟩ := (K2.out.at_ (o := 1) (.tail _ (.head _))).six
 obtain ⟨_, r0, r1, r2, g0, g1, g2⟩ := (K2.out.at_ (o := 2) (.head _)).three
 rw [Nat.add_zero] at c0 c1 c2 f0 f1 f2
 obtain ⟨bt, hbt⟩ : ∃ x, w2.heap.size = x := ⟨_, rfl⟩
 have HBT : Hid (w.heap.size + 3 ≤ bt) := Lib.hid (by have := (HK0.out.at_ (o := 2) (.head _)).1; have := hb.size; rw [← hbt]; omega)
 rw [hbt] at T2
 obtain ⟨_, ⟨t0, t1, t2, t3, t4⟩, _⟩ := T2.out.five
 clear hb HK0
 have x0 : x2.cell? ⟨b0, off + i, none⟩ = some (.int .u64 (x : Int)) := (K2.out.bel.cell (p := ⟨b0, off + i, none⟩) HLT.out).trans HX0.out
 go_wp2_with fail
 have rA0 : ∀ u : After x2, u.w.cell? ⟨w.heap.size + 1, 0, none⟩ = some (.int .i64 1) := After.cells a0 rfl
 have rA1 : ∀ u : After x2, u.w.cell? ⟨w.heap.size + 1, 1, none⟩ = some (.int .i64 (i : Int)) := After.cells a1 rfl
 have rA2 : ∀ u : After x2, u.w.cell? ⟨w.heap.size + 1, 2, none⟩ = some (.int .u64 (a : Int)) := After.cells a2 rfl
 have rA3 : ∀ u : After x2, u.w.cell? ⟨w.heap.size + 1, 3, none⟩ = some (.int .u64 (b : Int)) := After.cells a3 rfl
 have rA4 : ∀ u : After x2, u.w.cell? ⟨w.heap.size + 1, 4, none⟩ = some (.slice D dn dc) := After.cells a4 rfl
 have rA5 : ∀ u : After x2, u.w.cell? ⟨w.heap.size + 1, 5, none⟩ = some (.slice W wn wc) := After.cells a5 rfl
 have rT : ∀ u : After x2, u.w.cell? ⟨bt, 1, none⟩ = some (.func (.func 172) #[] #[]) := After.cells t1 rfl
 clear c0 c1 c2 f0 f1 f2 a0 a1 a2 a3 a4 a5 r0 r1 r2 g0 g1 g2 t0 t1 t2 t3 t4
 try rw [hx2]
 try rw [hbt]
 clear hx2
 refine wp_region_after _ (by kernel_rfl) (by kernel_rfl) rfl (by kernel_rfl) ?_
 repeat (go_big_quiet_step (with_reducible exact after_kept (hc _)))
 refine wpQuiet_nil ?_
 intro w3 hw3
 obtain ⟨u3, hu3⟩ := hw3
 subst hu3
 have K3 := Lib.hid (K2.out.later u3.below)
 clear rA0 rA1 rA2 rA3 rA4 rA5 rT
 obtain ⟨_, c0, c1, c2, f0, f1, f2⟩ := (K3.out.at_ (o := 0) (.tail _ (.tail _ (.head _)))).three
 obtain ⟨_, ⟨a0, a1, a2, a3, a4, a5⟩, _⟩ := (K3.out.at_ (o := 1) (.tail _ (.head _))).six
 obtain ⟨_, r0, r1, r2, g0, g1, g2⟩ := (K3.out.at_ (o := 2) (.head _)).three
 rw [Nat.add_zero] at c0 c1 c2 f0 f1 f2
 go_wp2_with fail
 refine (cloneW_at (some ⟨b0, off, none⟩) n k F (by have := HI.out; omega) HN.out _ (Lib.hid (hA.out.later K3.out.bel))).mono ?_
 rintro e w4 ⟨g, cap, rfl, hcap, hg, hrow, hb⟩
 have K4 := Lib.hid (K3.out.later hb)
 have HG : Hid (w.heap.size + 3 ≤ g) := Lib.hid (by have := (K3.out.at_ (o := 2) (.head _)).1; omega)
 have HR := Lib.hid hrow
 clear c0 c1 c2 f0 f1 f2 a0 a1 a2 a3 a4 a5 r0 r1 r2 g0 g1 g2 hb hg hcap
 obtain ⟨_, c0, c1, c2, f0, f1, f2⟩ := (K4.out.at_ (o := 0) (.tail _ (.tail _ (.head _)))).three
 obtain ⟨_, ⟨a0, a1, a2, a3, a4, a5⟩, _⟩ := (K4.out.at_ (o := 1) (.tail _ (.head _))).six
 obtain ⟨_, r0, r1, r2, g0, g1, g2⟩ := (K4.out.at_ (o := 2) (.head _)).three
 rw [Nat.add_zero] at c0 c1 c2 f0 f1 f2
 have y0 := hrow.2.2.1 i HI.out
 have y1 := hrow.2.2.2 i
 have n0 : ¬ (w.heap.size = g) := by have := HG.out; omega
 have n1 : ¬ (g = w.heap.size) := by have := HG.out; omega
 have n2 : ¬ (w.heap.size + 1 = g) := by have := HG.out; omega
 have n3 : ¬ (g = w.heap.size + 1) := by have := HG.out; omega
 have n4 : ¬ (w.heap.size + 2 = g) := by have := HG.out; omega
 have n5 : ¬ (g = w.heap.size + 2) := by have := HG.out; omega
 clear hrow
 go_wp2_with fail
 have HROW := Lib.hid (((HR.out.apart w.heap.size 2 (.slice (some ⟨g, 0, none⟩) n cap) n1).stored i is HI.out (setW F i is) (setW_lt HR.out.2.1 HIS.out) (fun j _ => rfl)).set3 (w.heap.size + 2) (.int .i64 t) (.int .i64 c) (.slice (some ⟨g, 0, none⟩) n cap) n5)
 have HBE := Lib.hid (below_setCells (b := w.heap.size + 2) (Nat.le_add_right _ _) [.int .i64 t, .int .i64 c, .slice (some ⟨g, 0, none⟩) n cap] 0 _ (below_set1 (b := g) (j := i) (by have := HG.out; omega) (.int .u64 (is : Int)) (below_set1 (b := w.heap.size) (j := 2) (Nat.le_refl _) (.slice (some ⟨g, 0, none⟩) n cap) K4.out.bel)))
 exact bodyPost_ret (v := .tuple #[.agg #[.int .i64 t, .int .i64 c, .slice (some ⟨g, 0, none⟩) n cap], .int .u64 (told : Int)]) (by simp [results, Tryz.results76, go_sem, r0, r1, r2]) rfl ⟨some ⟨g, 0, none⟩, cap, rfl, HROW.out.at_, HBE.out, fun P hP _ => OffW.one n (hP g (by have := HG.out; omega))⟩
set_option maxHeartbeats 2000000 in
theorem ofWord_cas_same (i x is told : Nat) (hi : i < n) (hn : n ≤ 1000000) (hx : F i = x) (his : is < 18446744073709551616) (hq : ((is : Int) != (x : Int)) = false)
  (hc : ∀ w, Calls Tryz.prog 173 #[.int .u64 (x : Int), .agg #[.int .i64 2, .int .i64 (i : Int), .int .u64 (a : Int), .int .u64 (b : Int), .slice D dn dc, .slice W wn wc]] w (Kept w (.tuple #[.int .u64 (is : Int), .int .u64 (told : Int)]))) (w : World) (hA : Hid (AtW w A n F)) :
  Calls Tryz.prog 76 #[.agg #[.int .i64 t, .int .i64 c, .slice A n k], .agg #[.int .i64 2, .int .i64 (i : Int), .int .u64 (a : Int), .int .u64 (b : Int), .slice D dn dc, .slice W wn wc]] w (WordW w t c A n F told) := by
 obtain ⟨b0, off, rfl, hlt, hcell⟩ := hA.out.2 (by omega)
 have hx0 := hcell i hi
 rw [hx] at hx0
 have HX0 := Lib.hid hx0
 have HLT := Lib.hid hlt
 have HI := Lib.hid hi
 have HN := Lib.hid hn
 have HIS := Lib.hid his
 have i0 : (0 : Int) ≤ (i : Int) := by omega
 have i1 : (i : Int) < (n : Int) := by omega
 have d3 : decide ((i : Int) < 0) = false := by rw [decide_eq_false_iff_not]; omega
 have d4 : decide ((n : Int) ≤ (i : Int)) = false := by rw [decide_eq_false_iff_not]; omega
 clear hcell hlt hx0 hx hn his
 have K0 : Kp w [(2, [.int .i64 0, .int .i64 0, .slice none 0 0]), (1, [.int .i64 2, .int .i64 (i : Int), .int .u64 (a : Int), .int .u64 (b : Int), .slice D dn dc, .slice W wn wc]), (0, [.int .i64 t, .int .i64 c, .slice (some ⟨b0, off, none⟩) n k])] [] (((w.alloc (.cells #[.int .i64 t, .int .i64 c, .slice (some ⟨b0, off, none⟩) n k] 26)).alloc (.cells #[.int .i64 2, .int .i64 (i : Int), .int .u64 (a : Int), .int .u64 (b : Int), .slice D dn dc, .slice W wn wc] 70)).alloc (.cells #[.int .i64 0, .int .i64 0, .slice none 0 0] 26)) :=
  (((Kp.nil w).var 0 rfl #[.int .i64 t, .int .i64 c, .slice (some ⟨b0, off, none⟩) n k] 26).var 1 (by simp) #[.int .i64 2, .int .i64 (i : Int), .int .u64 (a : Int), .int .u64 (b : Int), .slice D dn dc, .slice W wn wc] 70).var 2 (by simp) #[.int .i64 0, .int .i64 0, .slice none 0 0] 26
 have HK0 := Lib.hid K0
 clear K0
 go_enter Tryz.func76, Tryz.ntmps76
 go_wp2_with fail
 refine (turns_at _).mono ?_
 rintro e w2 ⟨rfl, hb⟩
 obtain ⟨x2, hx2⟩ : ∃ x, w2.alloc (.cells #[.func (.func 171) #[] #[], .func (.func 172) #[] #[], .func (.func 173) #[] #[], .func (.func 174) #[] #[], .func (.func 175) #[] #[]] 192) = x := ⟨_, rfl⟩
 have K2 : Hid (Kp w [(2, [.int .i64 0, .int .i64 0, .slice none 0 0]), (1, [.int .i64 2, .int .i64 (i : Int), .int .u64 (a : Int), .int .u64 (b : Int), .slice D dn dc, .slice W wn wc]), (0, [.int .i64 t, .int .i64 c, .slice (some ⟨b0, off, none⟩) n k])] [] x2) := Lib.hid (by rw [← hx2]; exact (HK0.out.later hb).alloc _)
 have T2 : Hid (VarAt x2 w2.heap.size [.func (.func 171) #[] #[], .func (.func 172) #[] #[], .func (.func 173) #[] #[], .func (.func 174) #[] #[], .func (.func 175) #[] #[]]) := Lib.hid (by rw [← hx2]; exact VarAt.made w2 #[.func (.func 171) #[] #[], .func (.func 172) #[] #[], .func (.func 173) #[] #[], .func (.func 174) #[] #[], .func (.func 175) #[] #[]] 192)
 obtain ⟨_, c0, c1, c2, f0, f1, f2⟩ := (K2.out.at_ (o := 0) (.tail _ (.tail _ (.head _)))).three
 obtain ⟨_, ⟨a0, a1, a2, a3, a4, a5⟩, _⟩ := (K2.out.at_ (o := 1) (.tail _ (.head _))).six
 obtain ⟨_, r0, r1, r2, g0, g1, g2⟩ := (K2.out.at_ (o := 2) (.head _)).three
 rw [Nat.add_zero] at c0 c1 c2 f0 f1 f2
 obtain ⟨bt, hbt⟩ : ∃ x, w2.heap.size = x := ⟨_, rfl⟩
 have HBT : Hid (w.heap.size + 3 ≤ bt) := Lib.hid (by have := (HK0.out.at_ (o := 2) (.head _)).1; have := hb.size; rw [← hbt]; omega)
 rw [hbt] at T2
 obtain ⟨_, ⟨t0, t1, t2, t3, t4⟩, _⟩ := T2.out.five
 clear hb HK0
 have x0 : x2.cell? ⟨b0, off + i, none⟩ = some (.int .u64 (x : Int)) := (K2.out.bel.cell (p := ⟨b0, off + i, none⟩) HLT.out).trans HX0.out
 go_wp2_with fail
 have rA0 : ∀ u : After x2, u.w.cell? ⟨w.heap.size + 1, 0, none⟩ = some (.int .i64 2) := After.cells a0 rfl
 have rA1 : ∀ u : After x2, u.w.cell? ⟨w.heap.size + 1, 1, none⟩ = some (.int .i64 (i : Int)) := After.cells a1 rfl
 have rA2 : ∀ u : After x2, u.w.cell? ⟨w.heap.size + 1, 2, none⟩ = some (.int .u64 (a : Int)) := After.cells a2 rfl
 have rA3 : ∀ u : After x2, u.w.cell? ⟨w.heap.size + 1, 3, none⟩ = some (.int .u64 (b : Int)) := After.cells a3 rfl
 have rA4 : ∀ u : After x2, u.w.cell? ⟨w.heap.size + 1, 4, none⟩ = some (.slice D dn dc) := After.cells a4 rfl
 have rA5 : ∀ u : After x2, u.w.cell? ⟨w.heap.size + 1, 5, none⟩ = some (.slice W wn wc) := After.cells a5 rfl
 have rT : ∀ u : After x2, u.w.cell? ⟨bt, 2, none⟩ = some (.func (.func 173) #[] #[]) := After.cells t2 rfl
 clear c0 c1 c2 f0 f1 f2 a0 a1 a2 a3 a4 a5 r0 r1 r2 g0 g1 g2 t0 t1 t2 t3 t4
 try rw [hx2]
 try rw [hbt]
 clear hx2
 refine wp_region_after _ (by kernel_rfl) (by kernel_rfl) rfl (by kernel_rfl) ?_
 repeat (go_big_quiet_step (with_reducible exact after_kept (hc _)))
 refine wpQuiet_nil ?_
 intro w3 hw3
 obtain ⟨u3, hu3⟩ := hw3
 subst hu3
 have K3 := Lib.hid (K2.out.later u3.below)
 clear rA0 rA1 rA2 rA3 rA4 rA5 rT
 obtain ⟨_, c0, c1, c2, f0, f1, f2⟩ := (K3.out.at_ (o := 0) (.tail _ (.tail _ (.head _)))).three
 obtain ⟨_, ⟨a0, a1, a2, a3, a4, a5⟩, _⟩ := (K3.out.at_ (o := 1) (.tail _ (.head _))).six
 obtain ⟨_, r0, r1, r2, g0, g1, g2⟩ := (K3.out.at_ (o := 2) (.head _)).three
 rw [Nat.add_zero] at c0 c1 c2 f0 f1 f2
 go_wp2_with fail
 exact bodyPost_ret (v := .tuple #[.agg #[.int .i64 t, .int .i64 c, .slice (some ⟨b0, off, none⟩) n k], .int .u64 (told : Int)]) (by simp [results, Tryz.results76, go_sem, r0, r1, r2]) rfl ⟨some ⟨b0, off, none⟩, k, rfl, ((hA.out.later K3.out.bel).alike (N := w.heap.size) (k := 3) (((Alike.refl _ _ u3.w).set (w.heap.size + 2) 0 _ (by omega) (by omega)).set (w.heap.size + 2) 1 _ (by omega) (by omega)  |>.set (w.heap.size + 2) 2 _ (by omega) (by omega)) (hA.out.old.mono fun b h => .inl h)), below_setCells (b := w.heap.size + 2) (Nat.le_add_right _ _) [.int .i64 t, .int .i64 c, .slice (some ⟨b0, off, none⟩) n k] 0 _ K3.out.bel, fun P _ h => h⟩
set_option maxHeartbeats 2000000 in
theorem ofWord_cas_turn (i x is told : Nat) (hi : i < n) (hn : n ≤ 1000000) (hx : F i = x) (his : is < 18446744073709551616) (hq : ((is : Int) != (x : Int)) = true)
  (hc : ∀ w, Calls Tryz.prog 173 #[.int .u64 (x : Int), .agg #[.int .i64 2, .int .i64 (i : Int), .int .u64 (a : Int), .int .u64 (b : Int), .slice D dn dc, .slice W wn wc]] w (Kept w (.tuple #[.int .u64 (is : Int), .int .u64 (told : Int)]))) (w : World) (hA : Hid (AtW w A n F)) :
  Calls Tryz.prog 76 #[.agg #[.int .i64 t, .int .i64 c, .slice A n k], .agg #[.int .i64 2, .int .i64 (i : Int), .int .u64 (a : Int), .int .u64 (b : Int), .slice D dn dc, .slice W wn wc]] w (WordW w t c A n (setW F i is) told) := by
 obtain ⟨b0, off, rfl, hlt, hcell⟩ := hA.out.2 (by omega)
 have hx0 := hcell i hi
 rw [hx] at hx0
 have HX0 := Lib.hid hx0
 have HLT := Lib.hid hlt
 have HI := Lib.hid hi
 have HN := Lib.hid hn
 have HIS := Lib.hid his
 have i0 : (0 : Int) ≤ (i : Int) := by omega
 have i1 : (i : Int) < (n : Int) := by omega
 have d3 : decide ((i : Int) < 0) = false := by rw [decide_eq_false_iff_not]; omega
 have d4 : decide ((n : Int) ≤ (i : Int)) = false := by rw [decide_eq_false_iff_not]; omega
 clear hcell hlt hx0 hx hn his
 have K0 : Kp w [(2, [.int .i64 0, .int .i64 0, .slice none 0 0]), (1, [.int .i64 2, .int .i64 (i : Int), .int .u64 (a : Int), .int .u64 (b : Int), .slice D dn dc, .slice W wn wc]), (0, [.int .i64 t, .int .i64 c, .slice (some ⟨b0, off, none⟩) n k])] [] (((w.alloc (.cells #[.int .i64 t, .int .i64 c, .slice (some ⟨b0, off, none⟩) n k] 26)).alloc (.cells #[.int .i64 2, .int .i64 (i : Int), .int .u64 (a : Int), .int .u64 (b : Int), .slice D dn dc, .slice W wn wc] 70)).alloc (.cells #[.int .i64 0, .int .i64 0, .slice none 0 0] 26)) :=
  (((Kp.nil w).var 0 rfl #[.int .i64 t, .int .i64 c, .slice (some ⟨b0, off, none⟩) n k] 26).var 1 (by simp) #[.int .i64 2, .int .i64 (i : Int), .int .u64 (a : Int), .int .u64 (b : Int), .slice D dn dc, .slice W wn wc] 70).var 2 (by simp) #[.int .i64 0, .int .i64 0, .slice none 0 0] 26
 have HK0 := Lib.hid K0
 clear K0
 go_enter Tryz.func76, Tryz.ntmps76
 go_wp2_with fail
 refine (turns_at _).mono ?_
 rintro e w2 ⟨rfl, hb⟩
 obtain ⟨x2, hx2⟩ : ∃ x, w2.alloc (.cells #[.func (.func 171) #[] #[], .func (.func 172) #[] #[], .func (.func 173) #[] #[], .func (.func 174) #[] #[], .func (.func 175) #[] #[]] 192) = x := ⟨_, rfl⟩
 have K2 : Hid (Kp w [(2, [.int .i64 0, .int .i64 0, .slice none 0 0]), (1, [.int .i64 2, .int .i64 (i : Int), .int .u64 (a : Int), .int .u64 (b : Int), .slice D dn dc, .slice W wn wc]), (0, [.int .i64 t, .int .i64 c, .slice (some ⟨b0, off, none⟩) n k])] [] x2) := Lib.hid (by rw [← hx2]; exact (HK0.out.later hb).alloc _)
 have T2 : Hid (VarAt x2 w2.heap.size [.func (.func 171) #[] #[], .func (.func 172) #[] #[], .func (.func 173) #[] #[], .func (.func 174) #[] #[], .func (.func 175) #[] #[]]) := Lib.hid (by rw [← hx2]; exact VarAt.made w2 #[.func (.func 171) #[] #[], .func (.func 172) #[] #[], .func (.func 173) #[] #[], .func (.func 174) #[] #[], .func (.func 175) #[] #[]] 192)
 obtain ⟨_, c0, c1, c2, f0, f1, f2⟩ := (K2.out.at_ (o := 0) (.tail _ (.tail _ (.head _)))).three
 obtain ⟨_, ⟨a0, a1, a2, a3, a4, a5⟩, _⟩ := (K2.out.at_ (o := 1) (.tail _ (.head _))).six
 obtain ⟨_, r0, r1, r2, g0, g1, g2⟩ := (K2.out.at_ (o := 2) (.head _)).three
 rw [Nat.add_zero] at c0 c1 c2 f0 f1 f2
 obtain ⟨bt, hbt⟩ : ∃ x, w2.heap.size = x := ⟨_, rfl⟩
 have HBT : Hid (w.heap.size + 3 ≤ bt) := Lib.hid (by have := (HK0.out.at_ (o := 2) (.head _)).1; have := hb.size; rw [← hbt]; omega)
 rw [hbt] at T2
 obtain ⟨_, ⟨t0, t1, t2, t3, t4⟩, _⟩ := T2.out.five
 clear hb HK0
 have x0 : x2.cell? ⟨b0, off + i, none⟩ = some (.int .u64 (x : Int)) := (K2.out.bel.cell (p := ⟨b0, off + i, none⟩) HLT.out).trans HX0.out
 go_wp2_with fail
 have rA0 : ∀ u : After x2, u.w.cell? ⟨w.heap.size + 1, 0, none⟩ = some (.int .i64 2) := After.cells a0 rfl
 have rA1 : ∀ u : After x2, u.w.cell? ⟨w.heap.size + 1, 1, none⟩ = some (.int .i64 (i : Int)) := After.cells a1 rfl
 have rA2 : ∀ u : After x2, u.w.cell? ⟨w.heap.size + 1, 2, none⟩ = some (.int .u64 (a : Int)) := After.cells a2 rfl
 have rA3 : ∀ u : After x2, u.w.cell? ⟨w.heap.size + 1, 3, none⟩ = some (.int .u64 (b : Int)) := After.cells a3 rfl
 have rA4 : ∀ u : After x2, u.w.cell? ⟨w.heap.size + 1, 4, none⟩ = some (.slice D dn dc) := After.cells a4 rfl
 have rA5 : ∀ u : After x2, u.w.cell? ⟨w.heap.size + 1, 5, none⟩ = some (.slice W wn wc) := After.cells a5 rfl
 have rT : ∀ u : After x2, u.w.cell? ⟨bt, 2, none⟩ = some (.func (.func 173) #[] #[]) := After.cells t2 rfl
 clear c0 c1 c2 f0 f1 f2 a0 a1 a2 a3 a4 a5 r0 r1 r2 g0 g1 g2 t0 t1 t2 t3 t4
 try rw [hx2]
 try rw [hbt]
 clear hx2
 refine wp_region_after _ (by kernel_rfl) (by kernel_rfl) rfl (by kernel_rfl) ?_
 repeat (go_big_quiet_step (with_reducible exact after_kept (hc _)))
 refine wpQuiet_nil ?_
 intro w3 hw3
 obtain ⟨u3, hu3⟩ := hw3
 subst hu3
 have K3 := Lib.hid (K2.out.later u3.below)
 clear rA0 rA1 rA2 rA3 rA4 rA5 rT
 obtain ⟨_, c0, c1, c2, f0, f1, f2⟩ := (K3.out.at_ (o := 0) (.tail _ (.tail _ (.head _)))).three
 obtain ⟨_, ⟨a0, a1, a2, a3, a4, a5⟩, _⟩ := (K3.out.at_ (o := 1) (.tail _ (.head _))).six
 obtain ⟨_, r0, r1, r2, g0, g1, g2⟩ := (K3.out.at_ (o := 2) (.head _)).three
 rw [Nat.add_zero] at c0 c1 c2 f0 f1 f2
 go_wp2_with fail
 refine (cloneW_at (some ⟨b0, off, none⟩) n k F (by have := HI.out; omega) HN.out _ (Lib.hid (hA.out.later K3.out.bel))).mono ?_
 rintro e w4 ⟨g, cap, rfl, hcap, hg, hrow, hb⟩
 have K4 := Lib.hid (K3.out.later hb)
 have HG : Hid (w.heap.size + 3 ≤ g) := Lib.hid (by have := (K3.out.at_ (o := 2) (.head _)).1; omega)
 have HR := Lib.hid hrow
 clear c0 c1 c2 f0 f1 f2 a0 a1 a2 a3 a4 a5 r0 r1 r2 g0 g1 g2 hb hg hcap
 obtain ⟨_, c0, c1, c2, f0, f1, f2⟩ := (K4.out.at_ (o := 0) (.tail _ (.tail _ (.head _)))).three
 obtain ⟨_, ⟨a0, a1, a2, a3, a4, a5⟩, _⟩ := (K4.out.at_ (o := 1) (.tail _ (.head _))).six
 obtain ⟨_, r0, r1, r2, g0, g1, g2⟩ := (K4.out.at_ (o := 2) (.head _)).three
 rw [Nat.add_zero] at c0 c1 c2 f0 f1 f2
 have y0 := hrow.2.2.1 i HI.out
 have y1 := hrow.2.2.2 i
 have n0 : ¬ (w.heap.size = g) := by have := HG.out; omega
 have n1 : ¬ (g = w.heap.size) := by have := HG.out; omega
 have n2 : ¬ (w.heap.size + 1 = g) := by have := HG.out; omega
 have n3 : ¬ (g = w.heap.size + 1) := by have := HG.out; omega
 have n4 : ¬ (w.heap.size + 2 = g) := by have := HG.out; omega
 have n5 : ¬ (g = w.heap.size + 2) := by have := HG.out; omega
 clear hrow
 go_wp2_with fail
 have HROW := Lib.hid (((HR.out.apart w.heap.size 2 (.slice (some ⟨g, 0, none⟩) n cap) n1).stored i is HI.out (setW F i is) (setW_lt HR.out.2.1 HIS.out) (fun j _ => rfl)).set3 (w.heap.size + 2) (.int .i64 t) (.int .i64 c) (.slice (some ⟨g, 0, none⟩) n cap) n5)
 have HBE := Lib.hid (below_setCells (b := w.heap.size + 2) (Nat.le_add_right _ _) [.int .i64 t, .int .i64 c, .slice (some ⟨g, 0, none⟩) n cap] 0 _ (below_set1 (b := g) (j := i) (by have := HG.out; omega) (.int .u64 (is : Int)) (below_set1 (b := w.heap.size) (j := 2) (Nat.le_refl _) (.slice (some ⟨g, 0, none⟩) n cap) K4.out.bel)))
 exact bodyPost_ret (v := .tuple #[.agg #[.int .i64 t, .int .i64 c, .slice (some ⟨g, 0, none⟩) n cap], .int .u64 (told : Int)]) (by simp [results, Tryz.results76, go_sem, r0, r1, r2]) rfl ⟨some ⟨g, 0, none⟩, cap, rfl, HROW.out.at_, HBE.out, fun P hP _ => OffW.one n (hP g (by have := HG.out; omega))⟩
set_option maxHeartbeats 2000000 in
theorem ofWord_add_same (i x is told : Nat) (hi : i < n) (hn : n ≤ 1000000) (hx : F i = x) (his : is < 18446744073709551616) (hq : ((is : Int) != (x : Int)) = false)
  (hc : ∀ w, Calls Tryz.prog 174 #[.int .u64 (x : Int), .agg #[.int .i64 3, .int .i64 (i : Int), .int .u64 (a : Int), .int .u64 (b : Int), .slice D dn dc, .slice W wn wc]] w (Kept w (.tuple #[.int .u64 (is : Int), .int .u64 (told : Int)]))) (w : World) (hA : Hid (AtW w A n F)) :
  Calls Tryz.prog 76 #[.agg #[.int .i64 t, .int .i64 c, .slice A n k], .agg #[.int .i64 3, .int .i64 (i : Int), .int .u64 (a : Int), .int .u64 (b : Int), .slice D dn dc, .slice W wn wc]] w (WordW w t c A n F told) := by
 obtain ⟨b0, off, rfl, hlt, hcell⟩ := hA.out.2 (by omega)
 have hx0 := hcell i hi
 rw [hx] at hx0
 have HX0 := Lib.hid hx0
 have HLT := Lib.hid hlt
 have HI := Lib.hid hi
 have HN := Lib.hid hn
 have HIS := Lib.hid his
 have i0 : (0 : Int) ≤ (i : Int) := by omega
 have i1 : (i : Int) < (n : Int) := by omega
 have d3 : decide ((i : Int) < 0) = false := by rw [decide_eq_false_iff_not]; omega
 have d4 : decide ((n : Int) ≤ (i : Int)) = false := by rw [decide_eq_false_iff_not]; omega
 clear hcell hlt hx0 hx hn his
 have K0 : Kp w [(2, [.int .i64 0, .int .i64 0, .slice none 0 0]), (1, [.int .i64 3, .int .i64 (i : Int), .int .u64 (a : Int), .int .u64 (b : Int), .slice D dn dc, .slice W wn wc]), (0, [.int .i64 t, .int .i64 c, .slice (some ⟨b0, off, none⟩) n k])] [] (((w.alloc (.cells #[.int .i64 t, .int .i64 c, .slice (some ⟨b0, off, none⟩) n k] 26)).alloc (.cells #[.int .i64 3, .int .i64 (i : Int), .int .u64 (a : Int), .int .u64 (b : Int), .slice D dn dc, .slice W wn wc] 70)).alloc (.cells #[.int .i64 0, .int .i64 0, .slice none 0 0] 26)) :=
  (((Kp.nil w).var 0 rfl #[.int .i64 t, .int .i64 c, .slice (some ⟨b0, off, none⟩) n k] 26).var 1 (by simp) #[.int .i64 3, .int .i64 (i : Int), .int .u64 (a : Int), .int .u64 (b : Int), .slice D dn dc, .slice W wn wc] 70).var 2 (by simp) #[.int .i64 0, .int .i64 0, .slice none 0 0] 26
 have HK0 := Lib.hid K0
 clear K0
 go_enter Tryz.func76, Tryz.ntmps76
 go_wp2_with fail
 refine (turns_at _).mono ?_
 rintro e w2 ⟨rfl, hb⟩
 obtain ⟨x2, hx2⟩ : ∃ x, w2.alloc (.cells #[.func (.func 171) #[] #[], .func (.func 172) #[] #[], .func (.func 173) #[] #[], .func (.func 174) #[] #[], .func (.func 175) #[] #[]] 192) = x := ⟨_, rfl⟩
 have K2 : Hid (Kp w [(2, [.int .i64 0, .int .i64 0, .slice none 0 0]), (1, [.int .i64 3, .int .i64 (i : Int), .int .u64 (a : Int), .int .u64 (b : Int), .slice D dn dc, .slice W wn wc]), (0, [.int .i64 t, .int .i64 c, .slice (some ⟨b0, off, none⟩) n k])] [] x2) := Lib.hid (by rw [← hx2]; exact (HK0.out.later hb).alloc _)
 have T2 : Hid (VarAt x2 w2.heap.size [.func (.func 171) #[] #[], .func (.func 172) #[] #[], .func (.func 173) #[] #[], .func (.func 174) #[] #[], .func (.func 175) #[] #[]]) := Lib.hid (by rw [← hx2]; exact VarAt.made w2 #[.func (.func 171) #[] #[], .func (.func 172) #[] #[], .func (.func 173) #[] #[], .func (.func 174) #[] #[], .func (.func 175) #[] #[]] 192)
 obtain ⟨_, c0, c1, c2, f0, f1, f2⟩ := (K2.out.at_ (o := 0) (.tail _ (.tail _ (.head _)))).three
 obtain ⟨_, ⟨a0, a1, a2, a3, a4, a5⟩, _⟩ := (K2.out.at_ (o := 1) (.tail _ (.head _))).six
 obtain ⟨_, r0, r1, r2, g0, g1, g2⟩ := (K2.out.at_ (o := 2) (.head _)).three
 rw [Nat.add_zero] at c0 c1 c2 f0 f1 f2
 obtain ⟨bt, hbt⟩ : ∃ x, w2.heap.size = x := ⟨_, rfl⟩
 have HBT : Hid (w.heap.size + 3 ≤ bt) := Lib.hid (by have := (HK0.out.at_ (o := 2) (.head _)).1; have := hb.size; rw [← hbt]; omega)
 rw [hbt] at T2
 obtain ⟨_, ⟨t0, t1, t2, t3, t4⟩, _⟩ := T2.out.five
 clear hb HK0
 have x0 : x2.cell? ⟨b0, off + i, none⟩ = some (.int .u64 (x : Int)) := (K2.out.bel.cell (p := ⟨b0, off + i, none⟩) HLT.out).trans HX0.out
 go_wp2_with fail
 have rA0 : ∀ u : After x2, u.w.cell? ⟨w.heap.size + 1, 0, none⟩ = some (.int .i64 3) := After.cells a0 rfl
 have rA1 : ∀ u : After x2, u.w.cell? ⟨w.heap.size + 1, 1, none⟩ = some (.int .i64 (i : Int)) := After.cells a1 rfl
 have rA2 : ∀ u : After x2, u.w.cell? ⟨w.heap.size + 1, 2, none⟩ = some (.int .u64 (a : Int)) := After.cells a2 rfl
 have rA3 : ∀ u : After x2, u.w.cell? ⟨w.heap.size + 1, 3, none⟩ = some (.int .u64 (b : Int)) := After.cells a3 rfl
 have rA4 : ∀ u : After x2, u.w.cell? ⟨w.heap.size + 1, 4, none⟩ = some (.slice D dn dc) := After.cells a4 rfl
 have rA5 : ∀ u : After x2, u.w.cell? ⟨w.heap.size + 1, 5, none⟩ = some (.slice W wn wc) := After.cells a5 rfl
 have rT : ∀ u : After x2, u.w.cell? ⟨bt, 3, none⟩ = some (.func (.func 174) #[] #[]) := After.cells t3 rfl
 clear c0 c1 c2 f0 f1 f2 a0 a1 a2 a3 a4 a5 r0 r1 r2 g0 g1 g2 t0 t1 t2 t3 t4
 try rw [hx2]
 try rw [hbt]
 clear hx2
 refine wp_region_after _ (by kernel_rfl) (by kernel_rfl) rfl (by kernel_rfl) ?_
 repeat (go_big_quiet_step (with_reducible exact after_kept (hc _)))
 refine wpQuiet_nil ?_
 intro w3 hw3
 obtain ⟨u3, hu3⟩ := hw3
 subst hu3
 have K3 := Lib.hid (K2.out.later u3.below)
 clear rA0 rA1 rA2 rA3 rA4 rA5 rT
 obtain ⟨_, c0, c1, c2, f0, f1, f2⟩ := (K3.out.at_ (o := 0) (.tail _ (.tail _ (.head _)))).three
 obtain ⟨_, ⟨a0, a1, a2, a3, a4, a5⟩, _⟩ := (K3.out.at_ (o := 1) (.tail _ (.head _))).six
 obtain ⟨_, r0, r1, r2, g0, g1, g2⟩ := (K3.out.at_ (o := 2) (.head _)).three
 rw [Nat.add_zero] at c0 c1 c2 f0 f1 f2
 go_wp2_with fail
 exact bodyPost_ret (v := .tuple #[.agg #[.int .i64 t, .int .i64 c, .slice (some ⟨b0, off, none⟩) n k], .int .u64 (told : Int)]) (by simp [results, Tryz.results76, go_sem, r0, r1, r2]) rfl ⟨some ⟨b0, off, none⟩, k, rfl, ((hA.out.later K3.out.bel).alike (N := w.heap.size) (k := 3) (((Alike.refl _ _ u3.w).set (w.heap.size + 2) 0 _ (by omega) (by omega)).set (w.heap.size + 2) 1 _ (by omega) (by omega)  |>.set (w.heap.size + 2) 2 _ (by omega) (by omega)) (hA.out.old.mono fun b h => .inl h)), below_setCells (b := w.heap.size + 2) (Nat.le_add_right _ _) [.int .i64 t, .int .i64 c, .slice (some ⟨b0, off, none⟩) n k] 0 _ K3.out.bel, fun P _ h => h⟩
set_option maxHeartbeats 2000000 in
theorem ofWord_add_turn (i x is told : Nat) (hi : i < n) (hn : n ≤ 1000000) (hx : F i = x) (his : is < 18446744073709551616) (hq : ((is : Int) != (x : Int)) = true)
  (hc : ∀ w, Calls Tryz.prog 174 #[.int .u64 (x : Int), .agg #[.int .i64 3, .int .i64 (i : Int), .int .u64 (a : Int), .int .u64 (b : Int), .slice D dn dc, .slice W wn wc]] w (Kept w (.tuple #[.int .u64 (is : Int), .int .u64 (told : Int)]))) (w : World) (hA : Hid (AtW w A n F)) :
  Calls Tryz.prog 76 #[.agg #[.int .i64 t, .int .i64 c, .slice A n k], .agg #[.int .i64 3, .int .i64 (i : Int), .int .u64 (a : Int), .int .u64 (b : Int), .slice D dn dc, .slice W wn wc]] w (WordW w t c A n (setW F i is) told) := by
 obtain ⟨b0, off, rfl, hlt, hcell⟩ := hA.out.2 (by omega)
 have hx0 := hcell i hi
 rw [hx] at hx0
 have HX0 := Lib.hid hx0
 have HLT := Lib.hid hlt
 have HI := Lib.hid hi
 have HN := Lib.hid hn
 have HIS := Lib.hid his
 have i0 : (0 : Int) ≤ (i : Int) := by omega
 have i1 : (i : Int) < (n : Int) := by omega
 have d3 : decide ((i : Int) < 0) = false := by rw [decide_eq_false_iff_not]; omega
 have d4 : decide ((n : Int) ≤ (i : Int)) = false := by rw [decide_eq_false_iff_not]; omega
 clear hcell hlt hx0 hx hn his
 have K0 : Kp w [(2, [.int .i64 0, .int .i64 0, .slice none 0 0]), (1, [.int .i64 3, .int .i64 (i : Int), .int .u64 (a : Int), .int .u64 (b : Int), .slice D dn dc, .slice W wn wc]), (0, [.int .i64 t, .int .i64 c, .slice (some ⟨b0, off, none⟩) n k])] [] (((w.alloc (.cells #[.int .i64 t, .int .i64 c, .slice (some ⟨b0, off, none⟩) n k] 26)).alloc (.cells #[.int .i64 3, .int .i64 (i : Int), .int .u64 (a : Int), .int .u64 (b : Int), .slice D dn dc, .slice W wn wc] 70)).alloc (.cells #[.int .i64 0, .int .i64 0, .slice none 0 0] 26)) :=
  (((Kp.nil w).var 0 rfl #[.int .i64 t, .int .i64 c, .slice (some ⟨b0, off, none⟩) n k] 26).var 1 (by simp) #[.int .i64 3, .int .i64 (i : Int), .int .u64 (a : Int), .int .u64 (b : Int), .slice D dn dc, .slice W wn wc] 70).var 2 (by simp) #[.int .i64 0, .int .i64 0, .slice none 0 0] 26
 have HK0 := Lib.hid K0
 clear K0
 go_enter Tryz.func76, Tryz.ntmps76
 go_wp2_with fail
 refine (turns_at _).mono ?_
 rintro e w2 ⟨rfl, hb⟩
 obtain ⟨x2, hx2⟩ : ∃ x, w2.alloc (.cells #[.func (.func 171) #[] #[], .func (.func 172) #[] #[], .func (.func 173) #[] #[], .func (.func 174) #[] #[], .func (.func 175) #[] #[]] 192) = x := ⟨_, rfl⟩
 have K2 : Hid (Kp w [(2, [.int .i64 0, .int .i64 0, .slice none 0 0]), (1, [.int .i64 3, .int .i64 (i : Int), .int .u64 (a : Int), .int .u64 (b : Int), .slice D dn dc, .slice W wn wc]), (0, [.int .i64 t, .int .i64 c, .slice (some ⟨b0, off, none⟩) n k])] [] x2) := Lib.hid (by rw [← hx2]; exact (HK0.out.later hb).alloc _)
 have T2 : Hid (VarAt x2 w2.heap.size [.func (.func 171) #[] #[], .func (.func 172) #[] #[], .func (.func 173) #[] #[], .func (.func 174) #[] #[], .func (.func 175) #[] #[]]) := Lib.hid (by rw [← hx2]; exact VarAt.made w2 #[.func (.func 171) #[] #[], .func (.func 172) #[] #[], .func (.func 173) #[] #[], .func (.func 174) #[] #[], .func (.func 175) #[] #[]] 192)
 obtain ⟨_, c0, c1, c2, f0, f1, f2⟩ := (K2.out.at_ (o := 0) (.tail _ (.tail _ (.head _)))).three
 obtain ⟨_, ⟨a0, a1, a2, a3, a4, a5⟩, _⟩ := (K2.out.at_ (o := 1) (.tail _ (.head _))).six
 obtain ⟨_, r0, r1, r2, g0, g1, g2⟩ := (K2.out.at_ (o := 2) (.head _)).three
 rw [Nat.add_zero] at c0 c1 c2 f0 f1 f2
 obtain ⟨bt, hbt⟩ : ∃ x, w2.heap.size = x := ⟨_, rfl⟩
 have HBT : Hid (w.heap.size + 3 ≤ bt) := Lib.hid (by have := (HK0.out.at_ (o := 2) (.head _)).1; have := hb.size; rw [← hbt]; omega)
 rw [hbt] at T2
 obtain ⟨_, ⟨t0, t1, t2, t3, t4⟩, _⟩ := T2.out.five
 clear hb HK0
 have x0 : x2.cell? ⟨b0, off + i, none⟩ = some (.int .u64 (x : Int)) := (K2.out.bel.cell (p := ⟨b0, off + i, none⟩) HLT.out).trans HX0.out
 go_wp2_with fail
 have rA0 : ∀ u : After x2, u.w.cell? ⟨w.heap.size + 1, 0, none⟩ = some (.int .i64 3) := After.cells a0 rfl
 have rA1 : ∀ u : After x2, u.w.cell? ⟨w.heap.size + 1, 1, none⟩ = some (.int .i64 (i : Int)) := After.cells a1 rfl
 have rA2 : ∀ u : After x2, u.w.cell? ⟨w.heap.size + 1, 2, none⟩ = some (.int .u64 (a : Int)) := After.cells a2 rfl
 have rA3 : ∀ u : After x2, u.w.cell? ⟨w.heap.size + 1, 3, none⟩ = some (.int .u64 (b : Int)) := After.cells a3 rfl
 have rA4 : ∀ u : After x2, u.w.cell? ⟨w.heap.size + 1, 4, none⟩ = some (.slice D dn dc) := After.cells a4 rfl
 have rA5 : ∀ u : After x2, u.w.cell? ⟨w.heap.size + 1, 5, none⟩ = some (.slice W wn wc) := After.cells a5 rfl
 have rT : ∀ u : After x2, u.w.cell? ⟨bt, 3, none⟩ = some (.func (.func 174) #[] #[]) := After.cells t3 rfl
 clear c0 c1 c2 f0 f1 f2 a0 a1 a2 a3 a4 a5 r0 r1 r2 g0 g1 g2 t0 t1 t2 t3 t4
 try rw [hx2]
 try rw [hbt]
 clear hx2
 refine wp_region_after _ (by kernel_rfl) (by kernel_rfl) rfl (by kernel_rfl) ?_
 repeat (go_big_quiet_step (with_reducible exact after_kept (hc _)))
 refine wpQuiet_nil ?_
 intro w3 hw3
 obtain ⟨u3, hu3⟩ := hw3
 subst hu3
 have K3 := Lib.hid (K2.out.later u3.below)
 clear rA0 rA1 rA2 rA3 rA4 rA5 rT
 obtain ⟨_, c0, c1, c2, f0, f1, f2⟩ := (K3.out.at_ (o := 0) (.tail _ (.tail _ (.head _)))).three
 obtain ⟨_, ⟨a0, a1, a2, a3, a4, a5⟩, _⟩ := (K3.out.at_ (o := 1) (.tail _ (.head _))).six
 obtain ⟨_, r0, r1, r2, g0, g1, g2⟩ := (K3.out.at_ (o := 2) (.head _)).three
 rw [Nat.add_zero] at c0 c1 c2 f0 f1 f2
 go_wp2_with fail
 refine (cloneW_at (some ⟨b0, off, none⟩) n k F (by have := HI.out; omega) HN.out _ (Lib.hid (hA.out.later K3.out.bel))).mono ?_
 rintro e w4 ⟨g, cap, rfl, hcap, hg, hrow, hb⟩
 have K4 := Lib.hid (K3.out.later hb)
 have HG : Hid (w.heap.size + 3 ≤ g) := Lib.hid (by have := (K3.out.at_ (o := 2) (.head _)).1; omega)
 have HR := Lib.hid hrow
 clear c0 c1 c2 f0 f1 f2 a0 a1 a2 a3 a4 a5 r0 r1 r2 g0 g1 g2 hb hg hcap
 obtain ⟨_, c0, c1, c2, f0, f1, f2⟩ := (K4.out.at_ (o := 0) (.tail _ (.tail _ (.head _)))).three
 obtain ⟨_, ⟨a0, a1, a2, a3, a4, a5⟩, _⟩ := (K4.out.at_ (o := 1) (.tail _ (.head _))).six
 obtain ⟨_, r0, r1, r2, g0, g1, g2⟩ := (K4.out.at_ (o := 2) (.head _)).three
 rw [Nat.add_zero] at c0 c1 c2 f0 f1 f2
 have y0 := hrow.2.2.1 i HI.out
 have y1 := hrow.2.2.2 i
 have n0 : ¬ (w.heap.size = g) := by have := HG.out; omega
 have n1 : ¬ (g = w.heap.size) := by have := HG.out; omega
 have n2 : ¬ (w.heap.size + 1 = g) := by have := HG.out; omega
 have n3 : ¬ (g = w.heap.size + 1) := by have := HG.out; omega
 have n4 : ¬ (w.heap.size + 2 = g) := by have := HG.out; omega
 have n5 : ¬ (g = w.heap.size + 2) := by have := HG.out; omega
 clear hrow
 go_wp2_with fail
 have HROW := Lib.hid (((HR.out.apart w.heap.size 2 (.slice (some ⟨g, 0, none⟩) n cap) n1).stored i is HI.out (setW F i is) (setW_lt HR.out.2.1 HIS.out) (fun j _ => rfl)).set3 (w.heap.size + 2) (.int .i64 t) (.int .i64 c) (.slice (some ⟨g, 0, none⟩) n cap) n5)
 have HBE := Lib.hid (below_setCells (b := w.heap.size + 2) (Nat.le_add_right _ _) [.int .i64 t, .int .i64 c, .slice (some ⟨g, 0, none⟩) n cap] 0 _ (below_set1 (b := g) (j := i) (by have := HG.out; omega) (.int .u64 (is : Int)) (below_set1 (b := w.heap.size) (j := 2) (Nat.le_refl _) (.slice (some ⟨g, 0, none⟩) n cap) K4.out.bel)))
 exact bodyPost_ret (v := .tuple #[.agg #[.int .i64 t, .int .i64 c, .slice (some ⟨g, 0, none⟩) n cap], .int .u64 (told : Int)]) (by simp [results, Tryz.results76, go_sem, r0, r1, r2]) rfl ⟨some ⟨g, 0, none⟩, cap, rfl, HROW.out.at_, HBE.out, fun P hP _ => OffW.one n (hP g (by have := HG.out; omega))⟩
set_option maxHeartbeats 2000000 in
theorem ofWord_swap_same (i x is told : Nat) (hi : i < n) (hn : n ≤ 1000000) (hx : F i = x) (his : is < 18446744073709551616) (hq : ((is : Int) != (x : Int)) = false)
  (hc : ∀ w, Calls Tryz.prog 175 #[.int .u64 (x : Int), .agg #[.int .i64 4, .int .i64 (i : Int), .int .u64 (a : Int), .int .u64 (b : Int), .slice D dn dc, .slice W wn wc]] w (Kept w (.tuple #[.int .u64 (is : Int), .int .u64 (told : Int)]))) (w : World) (hA : Hid (AtW w A n F)) :
  Calls Tryz.prog 76 #[.agg #[.int .i64 t, .int .i64 c, .slice A n k], .agg #[.int .i64 4, .int .i64 (i : Int), .int .u64 (a : Int), .int .u64 (b : Int), .slice D dn dc, .slice W wn wc]] w (WordW w t c A n F told) := by
 obtain ⟨b0, off, rfl, hlt, hcell⟩ := hA.out.2 (by omega)
 have hx0 := hcell i hi
 rw [hx] at hx0
 have HX0 := Lib.hid hx0
 have HLT := Lib.hid hlt
 have HI := Lib.hid hi
 have HN := Lib.hid hn
 have HIS := Lib.hid his
 have i0 : (0 : Int) ≤ (i : Int) := by omega
 have i1 : (i : Int) < (n : Int) := by omega
 have d3 : decide ((i : Int) < 0) = false := by rw [decide_eq_false_iff_not]; omega
 have d4 : decide ((n : Int) ≤ (i : Int)) = false := by rw [decide_eq_false_iff_not]; omega
 clear hcell hlt hx0 hx hn his
 have K0 : Kp w [(2, [.int .i64 0, .int .i64 0, .slice none 0 0]), (1, [.int .i64 4, .int .i64 (i : Int), .int .u64 (a : Int), .int .u64 (b : Int), .slice D dn dc, .slice W wn wc]), (0, [.int .i64 t, .int .i64 c, .slice (some ⟨b0, off, none⟩) n k])] [] (((w.alloc (.cells #[.int .i64 t, .int .i64 c, .slice (some ⟨b0, off, none⟩) n k] 26)).alloc (.cells #[.int .i64 4, .int .i64 (i : Int), .int .u64 (a : Int), .int .u64 (b : Int), .slice D dn dc, .slice W wn wc] 70)).alloc (.cells #[.int .i64 0, .int .i64 0, .slice none 0 0] 26)) :=
  (((Kp.nil w).var 0 rfl #[.int .i64 t, .int .i64 c, .slice (some ⟨b0, off, none⟩) n k] 26).var 1 (by simp) #[.int .i64 4, .int .i64 (i : Int), .int .u64 (a : Int), .int .u64 (b : Int), .slice D dn dc, .slice W wn wc] 70).var 2 (by simp) #[.int .i64 0, .int .i64 0, .slice none 0 0] 26
 have HK0 := Lib.hid K0
 clear K0
 go_enter Tryz.func76, Tryz.ntmps76
 go_wp2_with fail
 refine (turns_at _).mono ?_
 rintro e w2 ⟨rfl, hb⟩
 obtain ⟨x2, hx2⟩ : ∃ x, w2.alloc (.cells #[.func (.func 171) #[] #[], .func (.func 172) #[] #[], .func (.func 173) #[] #[], .func (.func 174) #[] #[], .func (.func 175) #[] #[]] 192) = x := ⟨_, rfl⟩
 have K2 : Hid (Kp w [(2, [.int .i64 0, .int .i64 0, .slice none 0 0]), (1, [.int .i64 4, .int .i64 (i : Int), .int .u64 (a : Int), .int .u64 (b : Int), .slice D dn dc, .slice W wn wc]), (0, [.int .i64 t, .int .i64 c, .slice (some ⟨b0, off, none⟩) n k])] [] x2) := Lib.hid (by rw [← hx2]; exact (HK0.out.later hb).alloc _)
 have T2 : Hid (VarAt x2 w2.heap.size [.func (.func 171) #[] #[], .func (.func 172) #[] #[], .func (.func 173) #[] #[], .func (.func 174) #[] #[], .func (.func 175) #[] #[]]) := Lib.hid (by rw [← hx2]; exact VarAt.made w2 #[.func (.func 171) #[] #[], .func (.func 172) #[] #[], .func (.func 173) #[] #[], .func (.func 174) #[] #[], .func (.func 175) #[] #[]] 192)
 obtain ⟨_, c0, c1, c2, f0, f1, f2⟩ := (K2.out.at_ (o := 0) (.tail _ (.tail _ (.head _)))).three
 obtain ⟨_, ⟨a0, a1, a2, a3, a4, a5⟩, _⟩ := (K2.out.at_ (o := 1) (.tail _ (.head _))).six
 obtain ⟨_, r0, r1, r2, g0, g1, g2⟩ := (K2.out.at_ (o := 2) (.head _)).three
 rw [Nat.add_zero] at c0 c1 c2 f0 f1 f2
 obtain ⟨bt, hbt⟩ : ∃ x, w2.heap.size = x := ⟨_, rfl⟩
 have HBT : Hid (w.heap.size + 3 ≤ bt) := Lib.hid (by have := (HK0.out.at_ (o := 2) (.head _)).1; have := hb.size; rw [← hbt]; omega)
 rw [hbt] at T2
 obtain ⟨_, ⟨t0, t1, t2, t3, t4⟩, _⟩ := T2.out.five
 clear hb HK0
 have x0 : x2.cell? ⟨b0, off + i, none⟩ = some (.int .u64 (x : Int)) := (K2.out.bel.cell (p := ⟨b0, off + i, none⟩) HLT.out).trans HX0.out
 go_wp2_with fail
 have rA0 : ∀ u : After x2, u.w.cell? ⟨w.heap.size + 1, 0, none⟩ = some (.int .i64 4) := After.cells a0 rfl
 have rA1 : ∀ u : After x2, u.w.cell? ⟨w.heap.size + 1, 1, none⟩ = some (.int .i64 (i : Int)) := After.cells a1 rfl
 have rA2 : ∀ u : After x2, u.w.cell? ⟨w.heap.size + 1, 2, none⟩ = some (.int .u64 (a : Int)) := After.cells a2 rfl
 have rA3 : ∀ u : After x2, u.w.cell? ⟨w.heap.size + 1, 3, none⟩ = some (.int .u64 (b : Int)) := After.cells a3 rfl
 have rA4 : ∀ u : After x2, u.w.cell? ⟨w.heap.size + 1, 4, none⟩ = some (.slice D dn dc) := After.cells a4 rfl
 have rA5 : ∀ u : After x2, u.w.cell? ⟨w.heap.size + 1, 5, none⟩ = some (.slice W wn wc) := After.cells a5 rfl
 have rT : ∀ u : After x2, u.w.cell? ⟨bt, 4, none⟩ = some (.func (.func 175) #[] #[]) := After.cells t4 rfl
 clear c0 c1 c2 f0 f1 f2 a0 a1 a2 a3 a4 a5 r0 r1 r2 g0 g1 g2 t0 t1 t2 t3 t4
 try rw [hx2]
 try rw [hbt]
 clear hx2
 refine wp_region_after _ (by kernel_rfl) (by kernel_rfl) rfl (by kernel_rfl) ?_
 repeat (go_big_quiet_step (with_reducible exact after_kept (hc _)))
 refine wpQuiet_nil ?_
 intro w3 hw3
 obtain ⟨u3, hu3⟩ := hw3
 subst hu3
 have K3 := Lib.hid (K2.out.later u3.below)
 clear rA0 rA1 rA2 rA3 rA4 rA5 rT
 obtain ⟨_, c0, c1, c2, f0, f1, f2⟩ := (K3.out.at_ (o := 0) (.tail _ (.tail _ (.head _)))).three
 obtain ⟨_, ⟨a0, a1, a2, a3, a4, a5⟩, _⟩ := (K3.out.at_ (o := 1) (.tail _ (.head _))).six
 obtain ⟨_, r0, r1, r2, g0, g1, g2⟩ := (K3.out.at_ (o := 2) (.head _)).three
 rw [Nat.add_zero] at c0 c1 c2 f0 f1 f2
 go_wp2_with fail
 exact bodyPost_ret (v := .tuple #[.agg #[.int .i64 t, .int .i64 c, .slice (some ⟨b0, off, none⟩) n k], .int .u64 (told : Int)]) (by simp [results, Tryz.results76, go_sem, r0, r1, r2]) rfl ⟨some ⟨b0, off, none⟩, k, rfl, ((hA.out.later K3.out.bel).alike (N := w.heap.size) (k := 3) (((Alike.refl _ _ u3.w).set (w.heap.size + 2) 0 _ (by omega) (by omega)).set (w.heap.size + 2) 1 _ (by omega) (by omega)  |>.set (w.heap.size + 2) 2 _ (by omega) (by omega)) (hA.out.old.mono fun b h => .inl h)), below_setCells (b := w.heap.size + 2) (Nat.le_add_right _ _) [.int .i64 t, .int .i64 c, .slice (some ⟨b0, off, none⟩) n k] 0 _ K3.out.bel, fun P _ h => h⟩
set_option maxHeartbeats 2000000 in
theorem ofWord_swap_turn (i x is told : Nat) (hi : i < n) (hn : n ≤ 1000000) (hx : F i = x) (his : is < 18446744073709551616) (hq : ((is : Int) != (x : Int)) = true)
  (hc : ∀ w, Calls Tryz.prog 175 #[.int .u64 (x : Int), .agg #[.int .i64 4, .int .i64 (i : Int), .int .u64 (a : Int), .int .u64 (b : Int), .slice D dn dc, .slice W wn wc]] w (Kept w (.tuple #[.int .u64 (is : Int), .int .u64 (told : Int)]))) (w : World) (hA : Hid (AtW w A n F)) :
  Calls Tryz.prog 76 #[.agg #[.int .i64 t, .int .i64 c, .slice A n k], .agg #[.int .i64 4, .int .i64 (i : Int), .int .u64 (a : Int), .int .u64 (b : Int), .slice D dn dc, .slice W wn wc]] w (WordW w t c A n (setW F i is) told) := by
 obtain ⟨b0, off, rfl, hlt, hcell⟩ := hA.out.2 (by omega)
 have hx0 := hcell i hi
 rw [hx] at hx0
 have HX0 := Lib.hid hx0
 have HLT := Lib.hid hlt
 have HI := Lib.hid hi
 have HN := Lib.hid hn
 have HIS := Lib.hid his
 have i0 : (0 : Int) ≤ (i : Int) := by omega
 have i1 : (i : Int) < (n : Int) := by omega
 have d3 : decide ((i : Int) < 0) = false := by rw [decide_eq_false_iff_not]; omega
 have d4 : decide ((n : Int) ≤ (i : Int)) = false := by rw [decide_eq_false_iff_not]; omega
 clear hcell hlt hx0 hx hn his
 have K0 : Kp w [(2, [.int .i64 0, .int .i64 0, .slice none 0 0]), (1, [.int .i64 4, .int .i64 (i : Int), .int .u64 (a : Int), .int .u64 (b : Int), .slice D dn dc, .slice W wn wc]), (0, [.int .i64 t, .int .i64 c, .slice (some ⟨b0, off, none⟩) n k])] [] (((w.alloc (.cells #[.int .i64 t, .int .i64 c, .slice (some ⟨b0, off, none⟩) n k] 26)).alloc (.cells #[.int .i64 4, .int .i64 (i : Int), .int .u64 (a : Int), .int .u64 (b : Int), .slice D dn dc, .slice W wn wc] 70)).alloc (.cells #[.int .i64 0, .int .i64 0, .slice none 0 0] 26)) :=
  (((Kp.nil w).var 0 rfl #[.int .i64 t, .int .i64 c, .slice (some ⟨b0, off, none⟩) n k] 26).var 1 (by simp) #[.int .i64 4, .int .i64 (i : Int), .int .u64 (a : Int), .int .u64 (b : Int), .slice D dn dc, .slice W wn wc] 70).var 2 (by simp) #[.int .i64 0, .int .i64 0, .slice none 0 0] 26
 have HK0 := Lib.hid K0
 clear K0
 go_enter Tryz.func76, Tryz.ntmps76
 go_wp2_with fail
 refine (turns_at _).mono ?_
 rintro e w2 ⟨rfl, hb⟩
 obtain ⟨x2, hx2⟩ : ∃ x, w2.alloc (.cells #[.func (.func 171) #[] #[], .func (.func 172) #[] #[], .func (.func 173) #[] #[], .func (.func 174) #[] #[], .func (.func 175) #[] #[]] 192) = x := ⟨_, rfl⟩
 have K2 : Hid (Kp w [(2, [.int .i64 0, .int .i64 0, .slice none 0 0]), (1, [.int .i64 4, .int .i64 (i : Int), .int .u64 (a : Int), .int .u64 (b : Int), .slice D dn dc, .slice W wn wc]), (0, [.int .i64 t, .int .i64 c, .slice (some ⟨b0, off, none⟩) n k])] [] x2) := Lib.hid (by rw [← hx2]; exact (HK0.out.later hb).alloc _)
 have T2 : Hid (VarAt x2 w2.heap.size [.func (.func 171) #[] #[], .func (.func 172) #[] #[], .func (.func 173) #[] #[], .func (.func 174) #[] #[], .func (.func 175) #[] #[]]) := Lib.hid (by rw [← hx2]; exact VarAt.made w2 #[.func (.func 171) #[] #[], .func (.func 172) #[] #[], .func (.func 173) #[] #[], .func (.func 174) #[] #[], .func (.func 175) #[] #[]] 192)
 obtain ⟨_, c0, c1, c2, f0, f1, f2⟩ := (K2.out.at_ (o := 0) (.tail _ (.tail _ (.head _)))).three
 obtain ⟨_, ⟨a0, a1, a2, a3, a4, a5⟩, _⟩ := (K2.out.at_ (o := 1) (.tail _ (.head _))).six
 obtain ⟨_, r0, r1, r2, g0, g1, g2⟩ := (K2.out.at_ (o := 2) (.head _)).three
 rw [Nat.add_zero] at c0 c1 c2 f0 f1 f2
 obtain ⟨bt, hbt⟩ : ∃ x, w2.heap.size = x := ⟨_, rfl⟩
 have HBT : Hid (w.heap.size + 3 ≤ bt) := Lib.hid (by have := (HK0.out.at_ (o := 2) (.head _)).1; have := hb.size; rw [← hbt]; omega)
 rw [hbt] at T2
 obtain ⟨_, ⟨t0, t1, t2, t3, t4⟩, _⟩ := T2.out.five
 clear hb HK0
 have x0 : x2.cell? ⟨b0, off + i, none⟩ = some (.int .u64 (x : Int)) := (K2.out.bel.cell (p := ⟨b0, off + i, none⟩) HLT.out).trans HX0.out
 go_wp2_with fail
 have rA0 : ∀ u : After x2, u.w.cell? ⟨w.heap.size + 1, 0, none⟩ = some (.int .i64 4) := After.cells a0 rfl
 have rA1 : ∀ u : After x2, u.w.cell? ⟨w.heap.size + 1, 1, none⟩ = some (.int .i64 (i : Int)) := After.cells a1 rfl
 have rA2 : ∀ u : After x2, u.w.cell? ⟨w.heap.size + 1, 2, none⟩ = some (.int .u64 (a : Int)) := After.cells a2 rfl
 have rA3 : ∀ u : After x2, u.w.cell? ⟨w.heap.size + 1, 3, none⟩ = some (.int .u64 (b : Int)) := After.cells a3 rfl
 have rA4 : ∀ u : After x2, u.w.cell? ⟨w.heap.size + 1, 4, none⟩ = some (.slice D dn dc) := After.cells a4 rfl
 have rA5 : ∀ u : After x2, u.w.cell? ⟨w.heap.size + 1, 5, none⟩ = some (.slice W wn wc) := After.cells a5 rfl
 have rT : ∀ u : After x2, u.w.cell? ⟨bt, 4, none⟩ = some (.func (.func 175) #[] #[]) := After.cells t4 rfl
 clear c0 c1 c2 f0 f1 f2 a0 a1 a2 a3 a4 a5 r0 r1 r2 g0 g1 g2 t0 t1 t2 t3 t4
 try rw [hx2]
 try rw [hbt]
 clear hx2
 refine wp_region_after _ (by kernel_rfl) (by kernel_rfl) rfl (by kernel_rfl) ?_
 repeat (go_big_quiet_step (with_reducible exact after_kept (hc _)))
 refine wpQuiet_nil ?_
 intro w3 hw3
 obtain ⟨u3, hu3⟩ := hw3
 subst hu3
 have K3 := Lib.hid (K2.out.later u3.below)
 clear rA0 rA1 rA2 rA3 rA4 rA5 rT
 obtain ⟨_, c0, c1, c2, f0, f1, f2⟩ := (K3.out.at_ (o := 0) (.tail _ (.tail _ (.head _)))).three
 obtain ⟨_, ⟨a0, a1, a2, a3, a4, a5⟩, _⟩ := (K3.out.at_ (o := 1) (.tail _ (.head _))).six
 obtain ⟨_, r0, r1, r2, g0, g1, g2⟩ := (K3.out.at_ (o := 2) (.head _)).three
 rw [Nat.add_zero] at c0 c1 c2 f0 f1 f2
 go_wp2_with fail
 refine (cloneW_at (some ⟨b0, off, none⟩) n k F (by have := HI.out; omega) HN.out _ (Lib.hid (hA.out.later K3.out.bel))).mono ?_
 rintro e w4 ⟨g, cap, rfl, hcap, hg, hrow, hb⟩
 have K4 := Lib.hid (K3.out.later hb)
 have HG : Hid (w.heap.size + 3 ≤ g) := Lib.hid (by have := (K3.out.at_ (o := 2) (.head _)).1; omega)
 have HR := Lib.hid hrow
 clear c0 c1 c2 f0 f1 f2 a0 a1 a2 a3 a4 a5 r0 r1 r2 g0 g1 g2 hb hg hcap
 obtain ⟨_, c0, c1, c2, f0, f1, f2⟩ := (K4.out.at_ (o := 0) (.tail _ (.tail _ (.head _)))).three
 obtain ⟨_, ⟨a0, a1, a2, a3, a4, a5⟩, _⟩ := (K4.out.at_ (o := 1) (.tail _ (.head _))).six
 obtain ⟨_, r0, r1, r2, g0, g1, g2⟩ := (K4.out.at_ (o := 2) (.head _)).three
 rw [Nat.add_zero] at c0 c1 c2 f0 f1 f2
 have y0 := hrow.2.2.1 i HI.out
 have y1 := hrow.2.2.2 i
 have n0 : ¬ (w.heap.size = g) := by have := HG.out; omega
 have n1 : ¬ (g = w.heap.size) := by have := HG.out; omega
 have n2 : ¬ (w.heap.size + 1 = g) := by have := HG.out; omega
 have n3 : ¬ (g = w.heap.size + 1) := by have := HG.out; omega
 have n4 : ¬ (w.heap.size + 2 = g) := by have := HG.out; omega
 have n5 : ¬ (g = w.heap.size + 2) := by have := HG.out; omega
 clear hrow
 go_wp2_with fail
 have HROW := Lib.hid (((HR.out.apart w.heap.size 2 (.slice (some ⟨g, 0, none⟩) n cap) n1).stored i is HI.out (setW F i is) (setW_lt HR.out.2.1 HIS.out) (fun j _ => rfl)).set3 (w.heap.size + 2) (.int .i64 t) (.int .i64 c) (.slice (some ⟨g, 0, none⟩) n cap) n5)
 have HBE := Lib.hid (below_setCells (b := w.heap.size + 2) (Nat.le_add_right _ _) [.int .i64 t, .int .i64 c, .slice (some ⟨g, 0, none⟩) n cap] 0 _ (below_set1 (b := g) (j := i) (by have := HG.out; omega) (.int .u64 (is : Int)) (below_set1 (b := w.heap.size) (j := 2) (Nat.le_refl _) (.slice (some ⟨g, 0, none⟩) n cap) K4.out.bel)))
 exact bodyPost_ret (v := .tuple #[.agg #[.int .i64 t, .int .i64 c, .slice (some ⟨g, 0, none⟩) n cap], .int .u64 (told : Int)]) (by simp [results, Tryz.results76, go_sem, r0, r1, r2]) rfl ⟨some ⟨g, 0, none⟩, cap, rfl, HROW.out.at_, HBE.out, fun P hP _ => OffW.one n (hP g (by have := HG.out; omega))⟩
end
end Go.Proofs.YtibpfkcackdbgaaGreatDoor
