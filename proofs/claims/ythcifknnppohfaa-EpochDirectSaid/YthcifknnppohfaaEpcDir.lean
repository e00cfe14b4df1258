/-
  direct, which makes accesses at once, of a world of two threads in a variable: as who makes accesses; and what a loop keeps of it.
-/
import Derived.Test.YthcifknnppohfaaPolB
import Derived.Test.YthcifknnppohfaaEpcE
import Derived.Test.YthcifknnppohfaaEpcLaw
namespace Go.Proofs.Ythcifknnppohfaa
open Go.ChangeShapes Go.WideShapes Go.ChangeAt Go.RowKit Go.BigFrame
set_option linter.unusedVariables false
set_option maxRecDepth 100000

/-! ### direct -/
/-- The world in a variable, its memory apart from it; and the variable that tells where it lies, and the thread's. -/
structure DirE (Q : Nat → Prop) (c : Int) (me r g p0 p1 n : Nat) (G : Nat → Nat) (x : World) : Prop where
  run : ∃ A ka R ra S sa, WdAt x g 2 c A n ka r R 2 ra S sa G (zerosS 2) (zerosS 2) ∧ OffW (Out g 1) A n ∧ OffS (Out g 1) x R 2 ∧ OffS (Out g 1) x S 2 ∧ OffW Q A n ∧ OffS Q x R 2 ∧ OffS Q x S 2
  v0 : VarAt x p0 [.pointer (some ⟨g, 0, none⟩)]
  v1 : VarAt x p1 [.int .i64 (me : Int)]
theorem DirE.below {Q : Nat → Prop} {c : Int} {me r g p0 p1 n : Nat} {G : Nat → Nat} {x y : World} (h : DirE Q c me r g p0 p1 n G x) (hb : Below x.heap.size x y) : DirE Q c me r g p0 p1 n G y := by
  obtain ⟨⟨A, ka, R, ra, S, sa, hw, o0, o1, o2, u0, u1, u2⟩, v0, v1⟩ := h
  exact ⟨⟨A, ka, R, ra, S, sa, hw.later hb, o0, o1.later hw.2.2.1 hb, o2.later hw.2.2.2 hb, u0, u1.later hw.2.2.1 hb, u2.later hw.2.2.2 hb⟩, v0.below hb, v1.below hb⟩
/-- Behind the call: the new world's variable, and what was told; the old world's variable is as it was. -/
def DirEE (Q : Nat → Prop) (c : Int) (r : Nat) (wr : World) (Nr g0 n : Nat) (OLD : List Value) (G : Nat → Nat) (s0 : Nat) (v9 v10 : Value) (y : World) : Prop :=
  ∃ b9 b10 A ka R ra S sa X kx, v9 = .pointer (some ⟨b9, 0, none⟩) ∧ v10 = .pointer (some ⟨b10, 0, none⟩) ∧ wr.heap.size ≤ b9 ∧ wr.heap.size ≤ b10 ∧ VarAt y b9 [.int .i64 2, .int .i64 c, .slice A n ka, .int .u64 (r : Int), .slice R 2 ra, .slice S 2 sa] ∧ VarAt y b10 [.int .u64 (s0 : Int), .slice X 0 kx, .bool false] ∧ VarAt y g0 OLD ∧
    AtW y A n G ∧ StmsAt y R 2 (zerosS 2) ∧ StmsAt y S 2 (zerosS 2) ∧ OffW (Out g0 1) A n ∧ OffS (Out g0 1) y R 2 ∧ OffS (Out g0 1) y S 2 ∧ (OffW (fun b => b ≠ Nr) A n ∧ OffS (fun b => b ≠ Nr) y R 2 ∧ OffS (fun b => b ≠ Nr) y S 2) ∧ (OffW Q A n ∧ OffS Q y R 2 ∧ OffS Q y S 2) ∧ Below wr.heap.size wr y
theorem DirEE.of {Q : Nat → Prop} {c : Int} {r : Nat} {wr w4 y : World} {Nr g0 n N2 s0 b9 b10 ka ra sa kx : Nat} {OLD : List Value} {G : Nat → Nat} {A R S X : Option Addr} (hk : Keep (Qn g0 wr.heap.size N2) w4 y) (n1 : wr.heap.size ≤ b9) (n2 : wr.heap.size ≤ b10) (v9 : VarAt y b9 [.int .i64 2, .int .i64 c, .slice A n ka, .int .u64 (r : Int), .slice R 2 ra, .slice S 2 sa]) (v10 : VarAt y b10 [.int .u64 (s0 : Int), .slice X 0 kx, .bool false]) (vg : VarAt y g0 OLD)
    (hA : AtW w4 A n G) (h0 : StmsAt w4 R 2 (zerosS 2)) (h1 : StmsAt w4 S 2 (zerosS 2)) (o0 : OffW (Qn g0 wr.heap.size N2) A n) (o1 : OffS (Qn g0 wr.heap.size N2) w4 R 2) (o2 : OffS (Qn g0 wr.heap.size N2) w4 S 2) (p0 : OffW (fun b => b ≠ Nr) A n) (p1 : OffS (fun b => b ≠ Nr) w4 R 2) (p2 : OffS (fun b => b ≠ Nr) w4 S 2) (u0 : OffW Q A n) (u1 : OffS Q w4 R 2) (u2 : OffS Q w4 S 2) (hb : Below wr.heap.size wr y) :
    DirEE Q c r wr Nr g0 n OLD G s0 (.pointer (some ⟨b9, 0, none⟩)) (.pointer (some ⟨b10, 0, none⟩)) y :=
  ⟨b9, b10, A, ka, R, ra, S, sa, X, kx, rfl, rfl, n1, n2, v9, v10, vg, hA.keep hk o0, h0.keep hk o1, h1.keep hk o2, o0.mono fun b hb => by unfold Qn at hb; unfold Out; omega,
    (o1.keep h0 hk o1).mono fun b hb => by unfold Qn at hb; unfold Out; omega, (o2.keep h1 hk o2).mono fun b hb => by unfold Qn at hb; unfold Out; omega, ⟨p0, p1.keep h0 hk o1, p2.keep h1 hk o2⟩, ⟨u0, u1.keep h0 hk o1, u2.keep h1 hk o2⟩, hb⟩
def DirEP (Q : Nat → Prop) (c : Int) (me r : Nat) (w : World) (g p0 p1 n : Nat) (G : Nat → Nat) (s0 : Nat) (e : Ending) (w' : World) : Prop :=
  ∃ v1 v2, e = .returned (.agg #[.int .u64 (s0 : Int), v1, v2]) ∧ (DirE Q c me r g p0 p1 n G w' ∧ But g w w')
set_option maxRecDepth 100000 in
set_option maxHeartbeats 16000000 in
theorem dirE_word (Q : Nat → Prop) (c : Int) (me r g p0 p1 n : Nat) (G : Nat → Nat) (K i a b : Nat) (G' : Nat → Nat) (s0 : Nat) (hK : K < 5) (hi : i < n) (hn : n ≤ 1000000) (ha : a < 18446744073709551616) (hb : b < 18446744073709551616) (hG' : setW G i (isN K a b (G i)) = G') (hs0 : toldN K a b (G i) = s0) (h0 : ¬ (p0 = g)) (h1 : ¬ (p1 = g)) (w : World) (hQ : ∀ b, w.heap.size ≤ b → Q b) (hD : Hid (DirE Q c me r g p0 p1 n G w)) :
    Calls Try.prog 44 #[.agg #[.int .i64 (K : Int), .int .i64 (i : Int), .int .u64 (a : Int), .int .u64 (b : Int), .slice none 0 0, .slice none 0 0], .pointer (some ⟨p0, 0, none⟩), .pointer (some ⟨p1, 0, none⟩)] w (DirEP Q c me r w g p0 p1 n G' s0) := by
  obtain ⟨⟨A3, ka3, R3, ra3, S3, sa3, hW3, o0, o1, o2, u0, u1, u2⟩, hv0, hv1⟩ := hD.out
  have HU := Lib.hid (And.intro u0 (And.intro u1 u2))
  have HO := Lib.hid (And.intro o0 (And.intro o1 o2))
  have HW3 := Lib.hid hW3
  have HV0 := Lib.hid hv0
  have HV1 := Lib.hid hv1
  have HADD : ∀ w : World, Hid (AtW w A3 n G) → Hid (StmsAt w R3 2 (zerosS 2)) → Hid (StmsAt w S3 2 (zerosS 2)) → Calls Try.prog 18 #[.agg #[.int .i64 2, .int .i64 c, .slice A3 n ka3, .int .u64 (r : Int), .slice R3 2 ra3, .slice S3 2 sa3], .int .i64 (me : Int), .agg #[.int .i64 (K : Int), .int .i64 (i : Int), .int .u64 (a : Int), .int .u64 (b : Int), .slice none 0 0, .slice none 0 0], .bool false] w (DoW w 2 c A3 n r R3 S3 2 G' (zerosS 2) (zerosS 2) s0 [] false) := by
    intro w h0 h1 h2
    have h := doWord 2 c A3 n ka3 G r R3 S3 2 ra3 sa3 (zerosS 2) (zerosS 2) (me : Int) a b none 0 0 none 0 0 K i hK hi hn hW3.2.1.1 ha hb false w h0 h1 h2
    rw [hG', hs0] at h
    exact h
  clear hG' hs0 hK hi hn ha hb
  go_enter Try.func44, Try.ntmps44
  go_upto_region 1 with fail
  refine gen_w (P := fun W => Code.wp _ _ _ _ W) (fun y => Below w.heap.size w y ∧ y.heap.size = w.heap.size + 1 + 1 ∧ VarAt y w.heap.size [.int .i64 (K : Int), .int .i64 (i : Int), .int .u64 (a : Int), .int .u64 (b : Int), .slice none 0 0, .slice none 0 0] ∧ VarAt y (w.heap.size + 1) [.int .u64 0, .slice none 0 0, .bool false]) ⟨(by repeat (first | with_reducible assumption | with_reducible exact Below.refl _ _ | with_reducible refine Below.drew ?_ | with_reducible refine below_al ?_ | (with_reducible refine below_set1 (by omega) _ ?_))), by simp, VarAt.mk6 (by simp <;> omega) (by go_simp) (by go_simp) (by go_simp) (by go_simp) (by go_simp) (by go_simp) (by go_simp) (by go_simp) (by go_simp) (by go_simp) (by go_simp) (by go_simp), VarAt.mk3 (by simp <;> omega) (by go_simp) (by go_simp) (by go_simp) (by go_simp) (by go_simp) (by go_simp)⟩ ?_
  rintro wr ⟨k0, k1, k2, k3⟩
  have K0 := Lib.hid k0
  have K1 := Lib.hid k1
  have K3 := Lib.hid k3
  obtain ⟨Nb, hN⟩ : ∃ N, w.heap.size = N := ⟨_, rfl⟩
  rw [hN] at k1 k2 k3 K1 K3 ⊢
  have HN := Lib.hid hN
  have HWr := Lib.hid (HW3.out.later k0)
  have HOr := Lib.hid (And.intro HO.out.1 (And.intro (HO.out.2.1.later HW3.out.2.2.1 k0) (HO.out.2.2.later HW3.out.2.2.2 k0)))
  have HUr := Lib.hid (And.intro HU.out.1 (And.intro (HU.out.2.1.later HW3.out.2.2.1 k0) (HU.out.2.2.later HW3.out.2.2.2 k0)))
  have HQF : Hid (∀ b, wr.heap.size ≤ b → Q b) := Lib.hid (fun b hb => hQ b (Nat.le_trans k0.size hb))
  have HV0r := Lib.hid (HV0.out.below k0)
  have HV1r := Lib.hid (HV1.out.below k0)
  have K2 := Lib.hid k2
  have HSZ : Hid (g < wr.heap.size) := Lib.hid HWr.out.1.1
  clear hW3 o0 o1 o2 u0 u1 u2 hQ hv0 hv1 k0 k1 k2 k3 hN
  have rM0 : ∀ w', Below wr.heap.size wr w' → w'.cell? ⟨p0, 0, none⟩ = some (.pointer (some ⟨g, 0, none⟩)) := fun w' hb => (HV0r.out.below hb).2.1 0 _ rfl
  have rM1 : ∀ w', Below wr.heap.size wr w' → w'.cell? ⟨p1, 0, none⟩ = some (.int .i64 (me : Int)) := fun w' hb => (HV1r.out.below hb).2.1 0 _ rfl
  have rC0 : ∀ w', Below wr.heap.size wr w' → w'.cell? ⟨g, 0, none⟩ = some (.int .i64 2) := fun w' hb => (HWr.out.later hb).cells.1
  have rC1 : ∀ w', Below wr.heap.size wr w' → w'.cell? ⟨g, 1, none⟩ = some (.int .i64 c) := fun w' hb => (HWr.out.later hb).cells.2.1
  have rC2 : ∀ w', Below wr.heap.size wr w' → w'.cell? ⟨g, 2, none⟩ = some (.slice A3 n ka3) := fun w' hb => (HWr.out.later hb).cells.2.2.1
  have rC3 : ∀ w', Below wr.heap.size wr w' → w'.cell? ⟨g, 3, none⟩ = some (.int .u64 (r : Int)) := fun w' hb => (HWr.out.later hb).cells.2.2.2.1
  have rC4 : ∀ w', Below wr.heap.size wr w' → w'.cell? ⟨g, 4, none⟩ = some (.slice R3 2 ra3) := fun w' hb => (HWr.out.later hb).cells.2.2.2.2.1
  have rC5 : ∀ w', Below wr.heap.size wr w' → w'.cell? ⟨g, 5, none⟩ = some (.slice S3 2 sa3) := fun w' hb => (HWr.out.later hb).cells.2.2.2.2.2
  have rA0 : ∀ w', Below wr.heap.size wr w' → w'.cell? ⟨Nb, 0, none⟩ = some (.int .i64 (K : Int)) := fun w' hb => (K2.out.below hb).2.1 0 _ rfl
  have rA1 : ∀ w', Below wr.heap.size wr w' → w'.cell? ⟨Nb, 1, none⟩ = some (.int .i64 (i : Int)) := fun w' hb => (K2.out.below hb).2.1 1 _ rfl
  have rA2 : ∀ w', Below wr.heap.size wr w' → w'.cell? ⟨Nb, 2, none⟩ = some (.int .u64 (a : Int)) := fun w' hb => (K2.out.below hb).2.1 2 _ rfl
  have rA3 : ∀ w', Below wr.heap.size wr w' → w'.cell? ⟨Nb, 3, none⟩ = some (.int .u64 (b : Int)) := fun w' hb => (K2.out.below hb).2.1 3 _ rfl
  have rA4 : ∀ w', Below wr.heap.size wr w' → w'.cell? ⟨Nb, 4, none⟩ = some (.slice none 0 0) := fun w' hb => (K2.out.below hb).2.1 4 _ rfl
  have rA5 : ∀ w', Below wr.heap.size wr w' → w'.cell? ⟨Nb, 5, none⟩ = some (.slice none 0 0) := fun w' hb => (K2.out.below hb).2.1 5 _ rfl
  have HB0 : Below wr.heap.size wr wr := Below.refl _ _
  go_cut [5, 6] from 7 to 15 (fun s5 s6 wx => DirEE Q c r wr (Nb + 1) g n [.int .i64 2, .int .i64 c, .slice A3 n ka3, .int .u64 (r : Int), .slice R3 2 ra3, .slice S3 2 sa3] G' s0 s5 s6 wx)
  case first =>
    go_region_held3 (fun w' => Below wr.heap.size wr w') (repeat (first | with_reducible assumption | with_reducible refine Below.drew ?_ | with_reducible refine below_al ?_ | (with_reducible refine below_set1 (by omega) _ ?_)))
      (first | (go_at_call 18; (with_reducible refine (HADD _ (HWr.out.later (by repeat (first | with_reducible assumption | with_reducible refine Below.drew ?_ | with_reducible refine below_al ?_))).gA (HWr.out.later (by repeat (first | with_reducible assumption | with_reducible refine Below.drew ?_ | with_reducible refine below_al ?_))).g0 (HWr.out.later (by repeat (first | with_reducible assumption | with_reducible refine Below.drew ?_ | with_reducible refine below_al ?_))).g1).mono ?_); rintro e w4 ⟨A4, ka4, R4, ra4, S4, sa4, X4, kx4, rfl, ha, hs0, hs1, hk, hx, hb, hP⟩; have hBw4 : Below wr.heap.size wr w4 := below_step hb (by repeat (first | with_reducible assumption | with_reducible refine Below.drew ?_ | with_reducible refine below_al ?_)); have hz4 := hBw4.size; have HA4 := Lib.hid ha; have HS4 := Lib.hid hs0; have HT4 := Lib.hid hs1; have HQ := Lib.hid (arm_fact (by repeat (first | with_reducible assumption | with_reducible refine Below.drew ?_ | with_reducible refine below_al ?_)) hb hP HWr.out.2.1 HWr.out.2.2.1 HWr.out.2.2.2 HOr.out.1 HOr.out.2.1 HOr.out.2.2 HSZ.out); have HQ2 := Lib.hid (dir_off HN.out K1.out K0.out (by repeat (first | with_reducible assumption | with_reducible refine Below.drew ?_ | with_reducible refine below_al ?_)) hP HW3.out.2.1 HW3.out.2.2.1 HW3.out.2.2.2); have HQ3 := Lib.hid (armQ (by repeat (first | with_reducible assumption | with_reducible refine Below.drew ?_ | with_reducible refine below_al ?_)) hP HWr.out.2.2.1 HWr.out.2.2.2 HUr.out.1 HUr.out.2.1 HUr.out.2.2 HQF.out); (try (have VBa : VarAt w4 wr.heap.size [.int .i64 0, .int .i64 0, .slice none 0 0, .int .u64 0, .slice none 0 0, .slice none 0 0] := VarAt.onto hb (VarAt.made wr #[.int .i64 0, .int .i64 0, .slice none 0 0, .int .u64 0, .slice none 0 0, .slice none 0 0] 51) rfl; obtain ⟨_, ⟨va0, va1, va2, va3, va4, va5⟩, wa0, wa1, wa2, wa3, wa4, wa5⟩ := VBa.six)); (try (have VBb : VarAt w4 wr.heap.size [.int .u64 0, .slice none 0 0, .bool false] := VarAt.onto hb (VarAt.made wr #[.int .u64 0, .slice none 0 0, .bool false] 59) rfl; obtain ⟨_, vb0, vb1, vb2, wb0, wb1, wb2⟩ := VBb.three)); (try (have VBc : VarAt w4 (wr.heap.size + 1) [.int .u64 0, .slice none 0 0, .bool false] := VarAt.onto hb (VarAt.made1 wr (.cells #[.int .i64 0, .int .i64 0, .slice none 0 0, .int .u64 0, .slice none 0 0, .slice none 0 0] 51) #[.int .u64 0, .slice none 0 0, .bool false] 59) rfl; obtain ⟨_, vc0, vc1, vc2, wc0, wc1, wc2⟩ := VBc.three)); (try (have VBd : VarAt w4 (wr.heap.size + 1) [.int .i64 0, .int .i64 0, .slice none 0 0, .int .u64 0, .slice none 0 0, .slice none 0 0] := VarAt.onto hb (VarAt.made1 wr (.cells #[.int .u64 0, .slice none 0 0, .bool false] 59) #[.int .i64 0, .int .i64 0, .slice none 0 0, .int .u64 0, .slice none 0 0, .slice none 0 0] 51) rfl; obtain ⟨_, ⟨vd0, vd1, vd2, vd3, vd4, vd5⟩, wd0, wd1, wd2, wd3, wd4, wd5⟩ := VBd.six)); (try (have VBe : VarAt w4 wr.heap.size [.int .i64 0, .int .i64 0, .slice none 0 0, .int .u64 0, .slice none 0 0, .slice none 0 0] := VarAt.onto hb ((VarAt.made wr #[.int .i64 0, .int .i64 0, .slice none 0 0, .int .u64 0, .slice none 0 0, .slice none 0 0] 51).below (al_below _ (.cells #[.int .u64 0, .slice none 0 0, .bool false] 59))) rfl; obtain ⟨_, ⟨ve0, ve1, ve2, ve3, ve4, ve5⟩, we0, we1, we2, we3, we4, we5⟩ := VBe.six)); (try (have VBf : VarAt w4 wr.heap.size [.int .u64 0, .slice none 0 0, .bool false] := VarAt.onto hb ((VarAt.made wr #[.int .u64 0, .slice none 0 0, .bool false] 59).below (al_below _ (.cells #[.int .i64 0, .int .i64 0, .slice none 0 0, .int .u64 0, .slice none 0 0, .slice none 0 0] 51))) rfl; obtain ⟨_, vf0, vf1, vf2, wf0, wf1, wf2⟩ := VBf.three)); clear ha hs0 hs1 hk hx hb hP))
    all_goals
      go_wp2_with fail
      go_meet
      obtain ⟨N2, hN2, hN3, hN4, o0, o1, o2⟩ := HQ.out
      have hgz := HSZ.out
      simp at hN2
      obtain ⟨_, ⟨c0, c1, c2, c3, c4, c5⟩, q0, q1, q2, q3, q4, q5⟩ := (HWr.out.later hBw4).1.six
      exact DirEE.of (N2 := N2) (w4 := w4) (ka := ka4) (ra := ra4) (sa := sa4) (X := X4) (kx := kx4) (by repeat (first | with_reducible exact Keep.refl _ _ | with_reducible refine Keep.drew ?_ | with_reducible refine Keep.alloc ?_ _ | (with_reducible refine Keep.set ?_ _ _ _ (by unfold Qn; omega)))) (by omega) (by omega) (VarAt.of6 (by first | (simp; done) | (simp; omega) | omega) (by go_simp) (by go_simp) (by go_simp) (by go_simp) (by go_simp) (by go_simp) (by go_simp) (by go_simp) (by go_simp) (by go_simp) (by go_simp) (by go_simp)) (VarAt.of3 (by first | (simp; done) | (simp; omega) | omega) (by go_simp) (by go_simp) (by go_simp) (by go_simp) (by go_simp) (by go_simp)) (VarAt.of6 (by first | (simp; done) | (simp; omega) | omega) (by go_simp) (by go_simp) (by go_simp) (by go_simp) (by go_simp) (by go_simp) (by go_simp) (by go_simp) (by go_simp) (by go_simp) (by go_simp) (by go_simp)) HA4.out HS4.out HT4.out o0 o1 o2 HQ2.out.1 HQ2.out.2.1 HQ2.out.2.2 HQ3.out.1 HQ3.out.2.1 HQ3.out.2.2 (by repeat (first | with_reducible assumption | with_reducible refine Below.drew ?_ | with_reducible refine below_al ?_ | (with_reducible refine below_set1 (by omega) _ ?_)))
  case rest =>
    obtain ⟨b9, b10, A4, ka4, R4, ra4, S4, sa4, X4, kx4, rfl, rfl, hn9, hn10, hv9, hv10, hvg, hA4, hS4, hT4, o0, o1, o2, hq, hu, hby⟩ := hcut
    have HU4 := Lib.hid hu
    have hgz := HSZ.out
    have hwz := K1.out
    have n1 : ¬ (b9 = g) := by omega
    have n2 : ¬ (g = b9) := by omega
    have n3 : ¬ (b10 = g) := by omega
    have n4 : ¬ (g = b10) := by omega
    have n5 : ¬ (p0 = g) := h0
    have n6 : ¬ (g = p0) := fun e => h0 e.symm
    have n7 : ¬ (p1 = g) := h1
    have n8 : ¬ (g = p1) := fun e => h1 e.symm
    have n9 : ¬ (g = Nb + 1) := by have := HW3.out.1.1; have := HN.out; omega
    have n10 : ¬ (Nb + 1 = g) := fun e => n9 e.symm
    have n11 : ¬ (p0 = Nb + 1) := by have := HV0.out.1; have := HN.out; omega
    have n12 : ¬ (p1 = Nb + 1) := by have := HV1.out.1; have := HN.out; omega
    have m0 := rM0 wc hby
    have HBY := Lib.hid hby
    have HF := Lib.hid (And.intro hA4 (And.intro hS4 (And.intro hT4 (And.intro o0 (And.intro o1 (And.intro o2 hq))))))
    have HV := Lib.hid hvg
    obtain ⟨_, ⟨c0, c1, c2, c3, c4, c5⟩, _⟩ := hv9.six
    obtain ⟨_, r0, r1, r2, _⟩ := hv10.three
    obtain ⟨_, ⟨d0, d1, d2, d3, d4, d5⟩, q0, q1, q2, q3, q4, q5⟩ := hvg.six
    obtain ⟨_, e0, e1, e2, f0, f1, f2⟩ := (K3.out.below hby).three
    clear hv9 hv10 hvg hA4 hS4 hT4 o0 o1 o2 hq hu hby rC0 rC1 rC2 rC3 rC4 rC5 rA0 rA1 rA2 rA3 rA4 rA5 rM0 rM1
    go_wp2_with fail
    obtain ⟨hA4, hS4, hT4, o0, o1, o2, z0, z1, z2⟩ := HF.out
    have hby := HBY.out
    have hbw : But g w wr := ⟨K0.out.mono (by have := HW3.out.1.1; omega), fun b hlt _ => K0.out.block b hlt⟩
    have hbc : But g w wc := hbw.later hby hgz
    have hgw := HW3.out.1.1
    have hgy := HV.out.1
    have hnw := HN.out
    have o1b := (o1.both z1)
    have o2b := (o2.both z2)
    refine bodyPost_ret (v := .agg #[.int .u64 (s0 : Int), .slice X4 0 kx4, .bool false]) (by simp [results, Try.results44, go_sem, e0, e1, e2]) rfl
      ⟨_, _, rfl, ⟨⟨A4, ka4, R4, ra4, S4, sa4, ⟨VarAt.of6 (by first | (simp; done) | (simp; omega) | omega) (by go_simp) (by go_simp) (by go_simp) (by go_simp) (by go_simp) (by go_simp) (by go_simp) (by go_simp) (by go_simp) (by go_simp) (by go_simp) (by go_simp), hA4.keep (Q := fun b => Out g 1 b ∧ b ≠ Nb + 1) (by repeat (first | with_reducible exact Keep.refl _ _ | with_reducible refine Keep.drew ?_ | with_reducible refine Keep.alloc ?_ _ | (with_reducible refine Keep.set ?_ _ _ _ (by unfold Out; omega)))) (fun hp b o e => ⟨o0 hp b o e, z0 hp b o e⟩), hS4.keep (Q := fun b => Out g 1 b ∧ b ≠ Nb + 1) (by repeat (first | with_reducible exact Keep.refl _ _ | with_reducible refine Keep.drew ?_ | with_reducible refine Keep.alloc ?_ _ | (with_reducible refine Keep.set ?_ _ _ _ (by unfold Out; omega)))) o1b, hT4.keep (Q := fun b => Out g 1 b ∧ b ≠ Nb + 1) (by repeat (first | with_reducible exact Keep.refl _ _ | with_reducible refine Keep.drew ?_ | with_reducible refine Keep.alloc ?_ _ | (with_reducible refine Keep.set ?_ _ _ _ (by unfold Out; omega)))) o2b⟩, o0, o1.keep (Q := fun b => Out g 1 b ∧ b ≠ Nb + 1) hS4 (by repeat (first | with_reducible exact Keep.refl _ _ | with_reducible refine Keep.drew ?_ | with_reducible refine Keep.alloc ?_ _ | (with_reducible refine Keep.set ?_ _ _ _ (by unfold Out; omega)))) o1b, o2.keep (Q := fun b => Out g 1 b ∧ b ≠ Nb + 1) hT4 (by repeat (first | with_reducible exact Keep.refl _ _ | with_reducible refine Keep.drew ?_ | with_reducible refine Keep.alloc ?_ _ | (with_reducible refine Keep.set ?_ _ _ _ (by unfold Out; omega)))) o2b, HU4.out.1, HU4.out.2.1.keep (Q := fun b => Out g 1 b ∧ b ≠ Nb + 1) hS4 (by repeat (first | with_reducible exact Keep.refl _ _ | with_reducible refine Keep.drew ?_ | with_reducible refine Keep.alloc ?_ _ | (with_reducible refine Keep.set ?_ _ _ _ (by unfold Out; omega)))) o1b, HU4.out.2.2.keep (Q := fun b => Out g 1 b ∧ b ≠ Nb + 1) hT4 (by repeat (first | with_reducible exact Keep.refl _ _ | with_reducible refine Keep.drew ?_ | with_reducible refine Keep.alloc ?_ _ | (with_reducible refine Keep.set ?_ _ _ _ (by unfold Out; omega)))) o2b⟩, (((((((((HV0r.out.below hby).apart _ _ (by omega)).apart _ _ (by omega)).apart _ _ (by omega)).apart _ _ (by omega)).apart _ _ (by omega)).apart _ _ (by omega)).apart _ _ (by omega)).apart _ _ (by omega)).apart _ _ (by omega), (((((((((HV1r.out.below hby).apart _ _ (by omega)).apart _ _ (by omega)).apart _ _ (by omega)).apart _ _ (by omega)).apart _ _ (by omega)).apart _ _ (by omega)).apart _ _ (by omega)).apart _ _ (by omega)).apart _ _ (by omega)⟩, (by repeat (first | with_reducible assumption | with_reducible exact But.refl _ _ | with_reducible refine But.drew ?_ | (with_reducible refine But.alloc ?_ _ (by omega)) | (with_reducible refine But.set ?_ _ _) | (with_reducible refine But.new ?_ _ _ _ (by omega) (by omega))))⟩

/-! ### As who makes accesses -/
theorem askE (p0 p1 : Nat) (k i : Int) (a b N : Nat) (P : World → Prop) (w : World) (h : Calls Try.prog 44 #[.agg #[.int .i64 k, .int .i64 i, .int .u64 (a : Int), .int .u64 (b : Int), .slice none 0 0, .slice none 0 0], .pointer (some ⟨p0, 0, none⟩), .pointer (some ⟨p1, 0, none⟩)] w (fun e w' => ∃ v1 v2, e = .returned (.agg #[.int .u64 (N : Int), v1, v2]) ∧ P w')) :
    Calls Try.prog 77 #[.func (.func 44) #[] #[.pointer (some ⟨p0, 0, none⟩), .pointer (some ⟨p1, 0, none⟩)], .int .i64 k, .int .i64 i, .int .u64 (a : Int), .int .u64 (b : Int)] w (Tells N P) := by
  have he := eql_do
  have hf := field_n
  go_enter Try.func77, Try.ntmps77
  go_wp2_with fail
  (with_reducible refine h.mono ?_)
  rintro e w' ⟨v1, v2, rfl, hp⟩
  have HP := Lib.hid hp
  clear hp
  go_wp2_with fail
  go_ret
  exact ⟨rfl, HP.out⟩
abbrev dirW (p0 p1 : Nat) : Value := .func (.func 44) #[] #[.pointer (some ⟨p0, 0, none⟩), .pointer (some ⟨p1, 0, none⟩)]
def dirSrvE (Q : Nat → Prop) (NB : Nat) (c : Int) (me r g p0 p1 n : Nat) (hn : n ≤ 1000000) (hQ : ∀ b, NB ≤ b → Q b) (h0 : ¬ (p0 = g)) (h1 : ¬ (p1 = g)) : Srv (dirW p0 p1) (Nat → Nat) where
  I G w := DirE Q c me r g p0 p1 n G w ∧ NB ≤ w.heap.size
  g := g
  tell := memTell n
  pv := .nilIface
  L _ _ _ _ _ := False
  isFn := ⟨_, _, _, rfl⟩
  small := by
    intro s k i a b m s' h
    unfold memTell at h
    split at h
    · rename_i hc
      cases h
      exact Nat.mod_lt _ (by decide)
    · cases h
  B w := w.heap.size
  ble := fun _ => Nat.le_refl _
  stay := by
    rintro s w w' ⟨hd, hs⟩ hb
    exact ⟨hd.below hb, Nat.le_trans hs hb.size⟩
  told := by
    intro s k i a b m s' h hbd w hI
    unfold memTell at h
    split at h
    · rename_i hc
      obtain ⟨hk0, hk5, hi0, hin⟩ := hc
      obtain ⟨kn, rfl⟩ : ∃ kn : Nat, k = (kn : Int) := ⟨k.toNat, by omega⟩
      obtain ⟨ix, rfl⟩ : ∃ ix : Nat, i = (ix : Int) := ⟨i.toNat, by omega⟩
      rw [Int.toNat_natCast, Int.toNat_natCast] at h
      have hG : ∀ j, s j < 18446744073709551616 := by obtain ⟨_, _, _, _, _, _, hW, _⟩ := hI.1.run; exact hW.2.1.1
      rw [Nat.mod_eq_of_lt (toldN_lt (hG ix))] at h
      cases h
      refine askE p0 p1 _ _ a b _ _ w ((dirE_word Q c me r g p0 p1 n s kn ix a b _ _ (by omega) (by omega) hn hbd.2.2.1 hbd.2.2.2 rfl rfl h0 h1 w (fun b hb => hQ b (Nat.le_trans hI.2 hb)) (Lib.hid hI.1)).mono ?_)
      rintro e w' ⟨v1, v2, rfl, hd, hB⟩
      exact ⟨v1, v2, rfl, ⟨hd, Nat.le_trans hI.2 hB.size⟩, hB⟩
    · cases h
  left := by
    intro s k i a b h
    unfold memTell at h
    split at h <;> cases h


/-! ### A block that is no variable turns nothing of it -/
theorem cell_not {w : World} {l : Nat} {o : Obj} (hl : w.heap[l]? = some o) (ho : o.isCells = false) {b : Nat} {j : Nat} {v : Value} (h : w.cell? ⟨b, j, none⟩ = some v) : b ≠ l := by
  rintro rfl
  unfold World.cell? at h
  simp only [hl] at h
  cases o <;> simp_all [Obj.isCells]
theorem Keep.putObj {w : World} (l : Nat) (o : Obj) : Keep (fun b => b ≠ l) w (w.putObj l o) := ⟨by simp, fun b j _ hb => by
  have hh : (w.putObj l o).heap[b]? = w.heap[b]? := World.putObj_heap_other hb
  unfold World.cell?
  simp only [hh]⟩
theorem AtW.offObj {w : World} {l n : Nat} {o : Obj} {A : Option Addr} {f : Nat → Nat} (h : AtW w A n f) (hl : w.heap[l]? = some o) (ho : o.isCells = false) : OffW (fun b => b ≠ l) A n := fun hp b off e => by
  obtain ⟨b', off', e', _, hc⟩ := h.2 hp
  rw [e'] at e
  cases e
  exact cell_not hl ho (hc 0 hp)
theorem StmsAt.offObj {w : World} {l n : Nat} {o : Obj} {A : Option Addr} {xs : List Stm} (h : StmsAt w A n xs) (hl : w.heap[l]? = some o) (ho : o.isCells = false) : OffS (fun b => b ≠ l) w A n := fun b off e hn => by
  obtain ⟨b', off', e', _, hc⟩ := h.2.2 hn
  rw [e'] at e
  cases e
  have hx : ∀ j, j < n → ∃ x, xs[j]? = some x := fun j hj => ⟨_, List.getElem?_eq_getElem (by rw [h.1]; exact hj)⟩
  refine ⟨?_, fun j hj ad len c hcell hlen => ?_⟩
  · obtain ⟨x, hx⟩ := hx 0 hn
    obtain ⟨A, cap, h1, _⟩ := hc 0 x hx
    exact cell_not hl ho h1
  · obtain ⟨x, hx⟩ := hx j hj
    obtain ⟨A, cap, h1, _, _, h4, _⟩ := hc j x hx
    rw [h1] at hcell
    cases hcell
    obtain ⟨b2, off2, e2, _, hc2⟩ := h4.2.2.2 hlen
    cases e2
    exact cell_not hl ho (hc2 0 hlen)
theorem VarAt.putObj {w : World} {l b : Nat} {o o' : Obj} {v : Value} {vs : List Value} (h : VarAt w b (v :: vs)) (hl : w.heap[l]? = some o) (ho : o.isCells = false) : VarAt (w.putObj l o') b (v :: vs) := h.put _ (cell_not hl ho (h.2.1 0 v rfl))
theorem DirE.putObj {Q : Nat → Prop} {c : Int} {me r g p0 p1 n l : Nat} {G : Nat → Nat} {x : World} {o o' : Obj} (h : DirE Q c me r g p0 p1 n G x) (hl : x.heap[l]? = some o) (ho : o.isCells = false) : DirE Q c me r g p0 p1 n G (x.putObj l o') := by
  obtain ⟨⟨A, ka, R, ra, S, sa, ⟨hw, hA, h0, h1⟩, o0, o1, o2, u0, u1, u2⟩, v0, v1⟩ := h
  have k := Keep.putObj (w := x) l o'
  exact ⟨⟨A, ka, R, ra, S, sa, ⟨hw.putObj hl ho, hA.keep k (hA.offObj hl ho), h0.keep k (h0.offObj hl ho), h1.keep k (h1.offObj hl ho)⟩, o0, o1.keep h0 k (h0.offObj hl ho), o2.keep h1 k (h1.offObj hl ho), u0, u1.keep h0 k (h0.offObj hl ho), u2.keep h1 k (h1.offObj hl ho)⟩, v0.putObj hl ho, v1.putObj hl ho⟩
theorem dirE_aside (Q : Nat → Prop) (NB : Nat) (c : Int) (me r g p0 p1 n : Nat) (hn : n ≤ 1000000) (hQ : ∀ b, NB ≤ b → Q b) (h0 : ¬ (p0 = g)) (h1 : ¬ (p1 = g)) : (dirSrvE Q NB c me r g p0 p1 n hn hQ h0 h1).Aside 0 where
  I := fun h _ hl ho _ => ⟨h.1.putObj hl ho, by simpa using h.2⟩
  L := fun h _ _ _ _ => h.elim
  g := fun h => by obtain ⟨_, _, _, _, _, _, hW, _⟩ := h.1.run; exact hW.1.1
  lo := fun _ => Nat.zero_le _
section
variable {Q Q' : Nat → Prop} {c : Int} {me r g p0 p1 n : Nat} {G : Nat → Nat} {x y : World}
theorem DirE.keep (h : DirE Q c me r g p0 p1 n G x) (hK : Keep Q x y) (hv : ∀ b vs, b = g ∨ b = p0 ∨ b = p1 → VarAt x b vs → VarAt y b vs) : DirE Q c me r g p0 p1 n G y := by
  obtain ⟨⟨A, ka, R, ra, S, sa, ⟨hw, hA, h0, h1⟩, o0, o1, o2, u0, u1, u2⟩, v0, v1⟩ := h
  exact ⟨⟨A, ka, R, ra, S, sa, ⟨hv _ _ (.inl rfl) hw, hA.keep hK u0, h0.keep hK u1, h1.keep hK u2⟩, o0, o1.keep h0 hK u1, o2.keep h1 hK u2, u0, u1.keep h0 hK u1, u2.keep h1 hK u2⟩, hv _ _ (.inr (.inl rfl)) v0, hv _ _ (.inr (.inr rfl)) v1⟩
theorem DirE.sub (h : DirE Q c me r g p0 p1 n G x) (hQ : ∀ b, b < x.heap.size → Q b → Q' b) : DirE Q' c me r g p0 p1 n G x := by
  obtain ⟨⟨A, ka, R, ra, S, sa, hw, o0, o1, o2, u0, u1, u2⟩, v0, v1⟩ := h
  exact ⟨⟨A, ka, R, ra, S, sa, hw, o0, o1, o2, fun hp b off e => hQ b (hw.2.1.old hp b off e) (u0 hp b off e), ((u1.both hw.2.2.1.old).mono fun b h => hQ b h.2 h.1), ((u2.both hw.2.2.2.old).mono fun b h => hQ b h.2 h.1)⟩, v0, v1⟩
end

/-- Off both worlds' variables, the row, and the round's variables. -/
def NtX (b0 b1 : Nat) (v : Value) (L : List (Nat × List Value)) (b : Nat) : Prop := Nt b0 b1 v b ∧ ∀ p ∈ L, b ≠ p.1
/-- A loop's state: the worlds at b0 (whose accesses are made at once) and b1, a row of records that are had, and the round's variables. -/
structure RunX (y0 : World) (b0 b1 B0 c n r : Nat) (v : Value) (hs : List Nat) (L : List (Nat × List Value)) (Gd Gv : Nat → Nat) (x : World) : Prop where
  below : Below y0.heap.size y0 x
  size : B0 ≤ x.heap.size
  lt : (y0.heap.size ≤ b0 ∧ b0 < B0) ∧ (y0.heap.size ≤ b1 ∧ b1 < B0) ∧ b0 ≠ b1
  dir : WdFrom (NtX b0 b1 v L) (fun _ => False) x b0 2 (c : Int) n r 2 Gd (zerosS 2) (zerosS 2)
  run : WdFrom (NtX b0 b1 v L) (fun _ => False) x b1 2 (c : Int) n r 2 Gv (zerosS 2) (zerosS 2)
  own : OwnI x B0 v hs
  vars : ∀ p ∈ L, VarAt x p.1 p.2 ∧ B0 ≤ p.1 ∧ ∀ k, v.ownBlock = some k → p.1 ≠ k
section
variable {y0 : World} {b0 b1 B0 c n r : Nat} {v : Value} {hs : List Nat} {L : List (Nat × List Value)} {Gd Gv Gd' Gv' : Nat → Nat} {x x' : World}
theorem RunX.later (h : RunX y0 b0 b1 B0 c n r v hs L Gd Gv x) (hb : Below x.heap.size x x') : RunX y0 b0 b1 B0 c n r v hs L Gd Gv x' :=
  ⟨h.below.trans (hb.mono h.below.size), Nat.le_trans h.size hb.size, h.lt, h.dir.later hb, h.run.later hb, h.own.later hb, fun p hp => ⟨(h.vars p hp).1.below hb, (h.vars p hp).2⟩⟩
theorem RunX.less {L' : List (Nat × List Value)} (h : RunX y0 b0 b1 B0 c n r v hs L Gd Gv x) (hL : ∀ p ∈ L', p ∈ L) : RunX y0 b0 b1 B0 c n r v hs L' Gd Gv x :=
  ⟨h.below, h.size, h.lt, h.dir.sub fun b _ hn => ⟨hn.1, fun p hp => hn.2 p (hL p hp)⟩, h.run.sub fun b _ hn => ⟨hn.1, fun p hp => hn.2 p (hL p hp)⟩, h.own, fun p hp => h.vars p (hL p hp)⟩
theorem RunX.new {b : Nat} {vs : List Value} (h : RunX y0 b0 b1 B0 c n r v hs L Gd Gv x) (hb : Below x.heap.size x x') (hv : VarAt x' b vs) (hx : x.heap.size ≤ b) : RunX y0 b0 b1 B0 c n r v hs ((b, vs) :: L) Gd Gv x' := by
  have h2 := h.later hb
  have hsub : ∀ b', b' < x.heap.size → NtX b0 b1 v L b' → NtX b0 b1 v ((b, vs) :: L) b' := fun b' hlt hn => ⟨hn.1, fun p hp => by
    rcases List.mem_cons.1 hp with rfl | hp
    · show b' ≠ b; omega
    · exact hn.2 p hp⟩
  exact ⟨h2.below, h2.size, h2.lt, (h.dir.sub hsub).later hb, (h.run.sub hsub).later hb, h2.own, fun p hp => by
    rcases List.mem_cons.1 hp with rfl | hp
    · exact ⟨hv, Nat.le_trans h.size hx, fun k hk => by have := (h.own.lt k hk).2; show b ≠ k; omega⟩
    · exact h2.vars p hp⟩
theorem RunX.old (h : RunX y0 b0 b1 B0 c n r v hs L Gd Gv x) : ∀ b, x.heap.size ≤ b → NtX b0 b1 v L b := fun b hb => ⟨⟨by have := h.lt; have := h.size; omega, by have := h.lt; have := h.size; omega, fun k hk => by have := (h.own.lt k hk).2; omega⟩, fun p hp => by have := (h.vars p hp).1.1; omega⟩
theorem RunX.next {v' : Value} {hs' : List Nat} {w' : World} (h : RunX y0 b0 b1 B0 c n r v hs L Gd Gv x) (hown : OwnI w' B0 v' hs') (hg : x.grownBy w' v.ownBlock) (hv : v'.ownBlock = v.ownBlock ∨ v'.ownBlock = some x.heap.size) : RunX y0 b0 b1 B0 c n r v' hs' L Gd Gv w' := by
  have hrow : ∀ k, v.ownBlock = some k → B0 ≤ k := fun k hk => (h.own.lt k hk).1
  have hK : Keep (fun b => NtX b0 b1 v L b ∧ NtX b0 b1 v' L b) x w' := Keep.grown hg (fun b hb k hk => hb.1.1.2.2 k hk)
  have sub : ∀ b, b < x.heap.size → NtX b0 b1 v L b → NtX b0 b1 v L b ∧ NtX b0 b1 v' L b := fun b hb hn => ⟨hn, hn.1.both hv hb, hn.2⟩
  have hlt := h.lt
  have hvx : ∀ b us, b < B0 → VarAt x b us → VarAt w' b us := fun b us hb hu => hu.grown hg (fun k hk e => by have := hrow k hk; omega)
  have hb : Below y0.heap.size y0 w' := h.below.grown hg h.below.size (fun k hk => by have := hrow k hk; omega)
  refine ⟨hb, Nat.le_trans h.size hg.size, hlt, ((h.dir.sub sub).keep hK (fun us hu => hvx _ us hlt.1.2 hu)).sub fun b _ h => h.2, ((h.run.sub sub).keep hK (fun us hu => hvx _ us hlt.2.1.2 hu)).sub fun b _ h => h.2, hown, fun p hp => ?_⟩
  obtain ⟨h1, h2, h3⟩ := h.vars p hp
  refine ⟨h1.grown hg (fun k hk => h3 k hk), h2, fun k hk => ?_⟩
  rcases hv with e | e
  · exact h3 k (by rw [← e]; exact hk)
  · rw [e] at hk
    cases hk
    have := h1.1
    omega
theorem RunX.cut {a : Option Addr} {k cap m : Nat} (h : RunX y0 b0 b1 B0 c n r (.slice a k cap) hs L Gd Gv x) (hm : m ≤ hs.length) (hz : a ≠ none) : RunX y0 b0 b1 B0 c n r (.slice a m cap) (hs.take m) L Gd Gv x := by
  have hn : ∀ b, b < x.heap.size → NtX b0 b1 (.slice a k cap) L b → NtX b0 b1 (.slice a m cap) L b := fun b _ hn => ⟨⟨hn.1.1, hn.1.2.1, fun k hk => hn.1.2.2 k (by cases a <;> exact hk)⟩, hn.2⟩
  exact ⟨h.below, h.size, h.lt, h.dir.sub hn, h.run.sub hn, h.own.cut hm hz, fun p hp => ⟨(h.vars p hp).1, (h.vars p hp).2.1, fun k hk => (h.vars p hp).2.2 k (by cases a <;> exact hk)⟩⟩
/-- Behind a store into the other world's variable. -/
theorem RunX.put (h : RunX y0 b0 b1 B0 c n r v hs [] Gd Gv x) (hK : Keep (NtX b0 b1 v []) x x') (hv : ∀ b vs, b ≠ b1 → VarAt x b vs → VarAt x' b vs) (hb : Below y0.heap.size y0 x') (hown : OwnI x' B0 v hs) (hrun : WdFrom (NtX b0 b1 v []) (fun _ => False) x' b1 2 (c : Int) n r 2 Gv' (zerosS 2) (zerosS 2)) : RunX y0 b0 b1 B0 c n r v hs [] Gd Gv' x' := by
  have hlt := h.lt
  exact ⟨hb, Nat.le_trans h.size hK.1, hlt, h.dir.keep hK (fun us hu => hv _ us hlt.2.2 hu), hrun, hown, fun p hp => by cases hp⟩
/-- A store into a variable of the round. -/
theorem RunX.set0 {b : Nat} {vs : List Value} (h : RunX y0 b0 b1 B0 c n r v hs ((b, vs) :: L) Gd Gv x) (j : Nat) (u : Value) (hj : j < vs.length) (hn : ∀ p ∈ L, p.1 ≠ b) : RunX y0 b0 b1 B0 c n r v hs ((b, vs.set j u) :: L) Gd Gv (x.setCell ⟨b, j, none⟩ u) := by
  obtain ⟨hv, hB, ho⟩ := h.vars (b, vs) (by simp)
  have hbut : But b x (x.setCell ⟨b, j, none⟩ u) := (But.refl _ _).set _ _
  have hg : x.grownBy (x.setCell ⟨b, j, none⟩ u) (some b) := ⟨hbut.below.os, hbut.below.tape, hbut.below.output, hbut.below.size, fun k hk hne => hbut.block k hk (fun e => hne (by rw [e]))⟩
  have hK : Keep (NtX b0 b1 v ((b, vs) :: L)) x (x.setCell ⟨b, j, none⟩ u) := ⟨hbut.size, fun b' o hb hq => hbut.cell hb (hq.2 (b, vs) (by simp))⟩
  have sub : ∀ b', NtX b0 b1 v ((b, vs) :: L) b' → NtX b0 b1 v ((b, vs.set j u) :: L) b' := fun b' hq => ⟨hq.1, fun p hp => by
    rcases List.mem_cons.1 hp with rfl | hp
    · exact hq.2 (b, vs) (by simp)
    · exact hq.2 p (by simp [hp])⟩
  have hlt := h.lt
  have hB' : B0 ≤ b := hB
  refine ⟨h.below.trans (hbut.below.mono (by omega)), Nat.le_trans h.size hbut.size, hlt, (h.dir.keep hK (fun us hu => hu.but hbut (by omega))).sub fun b' _ hq => sub b' hq, (h.run.keep hK (fun us hu => hu.but hbut (by omega))).sub fun b' _ hq => sub b' hq, h.own.kept hg ?_, fun p hp => ?_⟩
  · cases hv : v.ownBlock with
    | none => exact .inl rfl
    | some k => exact .inr (fun e => by cases e; exact ho b hv rfl)
  · rcases List.mem_cons.1 hp with rfl | hp
    · exact ⟨hv.setAt j u hj, hB, ho⟩
    · obtain ⟨h1, h2, h3⟩ := h.vars p (by simp [hp])
      exact ⟨h1.but hbut (hn p hp), h2, h3⟩
theorem RunX.set1 {b b2 : Nat} {vs us : List Value} (h : RunX y0 b0 b1 B0 c n r v hs ((b2, us) :: (b, vs) :: L) Gd Gv x) (j : Nat) (u : Value) (hj : j < vs.length) (hn : ∀ p ∈ (b2, us) :: L, p.1 ≠ b) : RunX y0 b0 b1 B0 c n r v hs ((b2, us) :: (b, vs.set j u) :: L) Gd Gv (x.setCell ⟨b, j, none⟩ u) :=
  ((h.less (L' := (b, vs) :: (b2, us) :: L) (fun p hp => by simp at hp ⊢; rcases hp with h | h | h <;> simp [h])).set0 j u hj hn).less (fun p hp => by simp at hp ⊢; rcases hp with h | h | h <;> simp [h])
/-- The state as the server's, where the accesses' variables lie. -/
theorem RunX.toDir {me p0 p1 : Nat} (h : RunX y0 b0 b1 B0 c n r v hs L Gd Gv x) (h0 : VarAt x p0 [.pointer (some ⟨b0, 0, none⟩)]) (h1 : VarAt x p1 [.int .i64 (me : Int)]) : DirE (NtX b0 b1 v L) (c : Int) me r b0 p0 p1 n Gd x := by
  obtain ⟨A, ka, R, ra, S, sa, hW, o0, o1, o2, _⟩ := h.dir
  have f1 : ∀ b, NtX b0 b1 v L b → Out b0 1 b := fun b hb => by have := hb.1.1; unfold Out; omega
  exact ⟨⟨A, ka, R, ra, S, sa, hW, o0.mono f1, o1.mono f1, o2.mono f1, o0, o1, o2⟩, h0, h1⟩
/-- Behind accesses that are made at once. -/
theorem RunX.made {me p0 p1 : Nat} (h : RunX y0 b0 b1 B0 c n r v hs L Gd Gv x) (hd : DirE (NtX b0 b1 v L) (c : Int) me r b0 p0 p1 n Gd' x') (hB : But b0 x x') : RunX y0 b0 b1 B0 c n r v hs L Gd' Gv x' := by
  have hlt := h.lt
  have hg : x.grownBy x' (some b0) := ⟨hB.below.os, hB.below.tape, hB.below.output, hB.below.size, fun k hk hne => hB.block k hk (fun e => hne (by rw [e]))⟩
  have hK : Keep (NtX b0 b1 v L) x x' := ⟨hB.size, fun b o hb hq => hB.cell hb hq.1.1⟩
  obtain ⟨⟨A, ka, R, ra, S, sa, hW, _, _, _, u0, u1, u2⟩, _, _⟩ := hd
  refine ⟨h.below.trans (hB.below.mono (by omega)), Nat.le_trans h.size hB.size, hlt, ⟨A, ka, R, ra, S, sa, hW, u0, u1, u2, fun P h => h.elim⟩, h.run.keep hK (fun us hu => hu.but hB (by omega)), h.own.kept hg ?_, fun p hp => ?_⟩
  · cases hv : v.ownBlock with
    | none => exact .inl rfl
    | some k => exact .inr (fun e => by cases e; have := (h.own.lt b0 hv).1; omega)
  · obtain ⟨h1, h2, h3⟩ := h.vars p hp
    exact ⟨h1.but hB (by omega), h2, h3⟩
end

/-! ### The operations at once -/
section
variable {y0 : World} {b0 b1 B0 c r me p0 p1 : Nat} {v : Value} {hs : List Nat} {L : List (Nat × List Value)} {G Gv : Nat → Nat} {x : World} (hc : c ≤ 65536) (h : RunX y0 b0 b1 B0 c (sizeN 2 c) r v hs L G Gv x) (h0 : VarAt x p0 [.pointer (some ⟨b0, 0, none⟩)]) (h1 : VarAt x p1 [.int .i64 (me : Int)]) (n0 : p0 ≠ b0) (n1 : p1 ≠ b0)
include hc h h0 h1 n0 n1
/-- An operation's part, called over the server, ends as it runs over the words. -/
theorem runX_ends {F : FuncId} {args : Array Value} {ret : Nat → Value} {p : Prg} {d : Nat} {G' : Nat → Nat} (hp : p.run (memTell (sizeN 2 c)) G = .done d G')
    (hcall : ∀ (V : Srv (dirW p0 p1) (Nat → Nat)), V.tell = memTell (sizeN 2 c) → V.Aside 0 → V.I G x → Calls Try.prog F args x (RunEnd V x ret (p.run V.tell G))) :
    Calls Try.prog F args x (fun e w' => e = .returned (ret d) ∧ RunX y0 b0 b1 B0 c (sizeN 2 c) r v hs L G' Gv w') := by
  have h2 := hcall (dirSrvE (NtX b0 b1 v L) x.heap.size (c : Int) me r b0 p0 p1 (sizeN 2 c) (by unfold sizeN; omega) h.old n0 n1) rfl (dirE_aside _ _ _ _ _ _ _ _ _ _ _ _ _) ⟨h.toDir h0 h1, Nat.le_refl _⟩
  rw [show (dirSrvE (NtX b0 b1 v L) x.heap.size (c : Int) me r b0 p0 p1 (sizeN 2 c) (by unfold sizeN; omega) h.old n0 n1).tell = memTell (sizeN 2 c) from rfl, hp] at h2
  refine h2.mono ?_
  rintro e w' ⟨rfl, hd, hB⟩
  exact ⟨rfl, h.made hd.1 hB⟩
theorem pinD {u : Int} {d s : Nat} {G' : Nat → Nat} (hme : me < 2) (ho : Ops 2 me 3 u (sizeN 2 c) G d G' s) :
    Calls Try.prog 21 #[dirW p0 p1, .int .i64 (me : Int)] x (fun e w' => e = .returned (.tuple #[]) ∧ RunX y0 b0 b1 B0 c (sizeN 2 c) r v hs L G' Gv w') :=
  runX_ends hc h h0 h1 n0 n1 (p := Prg.pin me) (ret := fun _ => .tuple #[]) ho.1 fun V ht hA hI => pin_prg V me (by omega) G (by rw [ht]; have := ho.1; rw [show ePrg 2 me 3 u 2000 = Prg.pin me from rfl] at this; rw [this]; simp) x hI
theorem unpinD {u : Int} {d s : Nat} {G' : Nat → Nat} (hme : me < 2) (ho : Ops 2 me 4 u (sizeN 2 c) G d G' s) :
    Calls Try.prog 22 #[dirW p0 p1, .int .i64 (me : Int)] x (fun e w' => e = .returned (.tuple #[]) ∧ RunX y0 b0 b1 B0 c (sizeN 2 c) r v hs L G' Gv w') :=
  runX_ends hc h h0 h1 n0 n1 (p := Prg.unpin me) (ret := fun _ => .tuple #[]) ho.1 fun V ht hA hI => unpin_prg V me (by omega) G (by rw [ht]; have := ho.1; rw [show ePrg 2 me 4 u 2000 = Prg.unpin me from rfl] at this; rw [this]; simp) x hI
theorem retireD {q d s : Nat} {G' : Nat → Nat} (hq1 : 1 ≤ q) (hq : q < 1048576) (ho : Ops 2 me 5 (q : Int) (sizeN 2 c) G d G' s) :
    Calls Try.prog 24 #[dirW p0 p1, .int .i64 2, .int .i64 (q : Int)] x (fun e w' => e = .returned (.tuple #[]) ∧ RunX y0 b0 b1 B0 c (sizeN 2 c) r v hs L G' Gv w') := by
  have e : ePrg 2 me 5 (q : Int) 2000 = Prg.retire 2 q 2000 := by unfold ePrg; rw [Int.toNat_natCast]; rfl
  have hr := ho.1
  rw [e] at hr
  exact runX_ends hc h h0 h1 n0 n1 (p := Prg.retire 2 q 2000) (ret := fun _ => .tuple #[]) hr fun V ht hA hI => retire_prg V 2 (by decide) q hq1 hq 2000 G (by rw [ht, hr]; simp) x hI
theorem advanceD {u : Int} {d s : Nat} {G' : Nat → Nat} (ho : Ops 2 me 19 u (sizeN 2 c) G d G' s) :
    Calls Try.prog 25 #[dirW p0 p1, .int .i64 2] x (fun e w' => e = .returned (.bool ((d : Int) == 1)) ∧ RunX y0 b0 b1 B0 c (sizeN 2 c) r v hs L G' Gv w') :=
  runX_ends hc h h0 h1 n0 n1 (p := Prg.advance 2 2000 2000) (ret := fun d => .bool ((d : Int) == 1)) ho.1 fun V ht hA hI => advance_prg V 0 hA 2 (by decide) 2000 2000 G (by rw [ht]; have := ho.1; rw [show ePrg 2 me 19 u 2000 = Prg.advance 2 2000 2000 from rfl] at this; rw [this]; simp) x hI
theorem allocD {u : Int} {d s : Nat} {G' : Nat → Nat} (hme : me < 2) (ho : Ops 2 me 6 u (sizeN 2 c) G d G' s) :
    Calls Try.prog 23 #[dirW p0 p1, .int .i64 2, .int .i64 (me : Int)] x (fun e w' => e = .returned (.int .i64 (d : Int)) ∧ RunX y0 b0 b1 B0 c (sizeN 2 c) r v hs L G' Gv w') :=
  runX_ends hc h h0 h1 n0 n1 (p := Prg.alloc 2 me 2000 2000) (ret := fun d => .int .i64 (d : Int)) ho.1 fun V ht hA hI => alloc_prg V 2 (by decide) me (by omega) 2000 2000 (fun s hb w hI => advance_prg V 0 hA 2 (by decide) 2000 2000 s hb w hI) G (by rw [ht]; have := ho.1; rw [show ePrg 2 me 6 u 2000 = Prg.alloc 2 me 2000 2000 from rfl] at this; rw [this]; simp) x hI
end
theorem directE_at (b0 me : Nat) (w : World) : Calls Try.prog 20 #[.pointer (some ⟨b0, 0, none⟩), .int .i64 (me : Int)] w (fun e w' => ∃ p0 p1, e = .returned (dirW p0 p1) ∧ VarAt w' p0 [.pointer (some ⟨b0, 0, none⟩)] ∧ VarAt w' p1 [.int .i64 (me : Int)] ∧ w.heap.size ≤ p0 ∧ w.heap.size ≤ p1 ∧ Below w.heap.size w w') := by
  have hmf : ∀ (fn : Fn) (first cap : Array Value) (w : World), (Instr.makeFunc fn first cap).run Try.prog w = .ok (.func fn first cap) w := fun _ _ _ _ => rfl
  go_enter Try.func20, Try.ntmps20
  go_wp2_with fail
  go_ret
  exact ⟨w.heap.size, w.heap.size + 1, rfl, VarAt.mk1 (by simp <;> omega) (by go_simp) (by go_simp), VarAt.mk1 (by simp <;> omega) (by go_simp) (by go_simp), Nat.le_refl _, by omega, below_pair _ _ _⟩

/-! ### EpochDirect, plain -/
def ED (c : Nat) (G : Nat → Nat) (hs : List Nat) : Prop := ∃ free lim, EpcM 2 c G free lim hs
theorem ED.start {c : Nat} (hc : c ≤ 65536) : ED c (newF 2 c) [] := ⟨_, _, EpcM.new hc⟩
theorem ED.lt {c : Nat} {G : Nat → Nat} {hs : List Nat} (h : ED c G hs) : ∀ j, G j < 18446744073709551616 := by obtain ⟨_, _, hM⟩ := h; exact hM.lt
theorem ED.le {c : Nat} {G : Nat → Nat} {hs : List Nat} (h : ED c G hs) : hs.length ≤ c := by
  obtain ⟨free, lim, hM⟩ := h
  have := hM.limN_le
  omega
theorem ED.pin {c me : Nat} {G : Nat → Nat} {hs : List Nat} (h : ED c G hs) (hme : me < 2) : ∃ G', Ops 2 me 3 0 (sizeN 2 c) G 0 G' 300 ∧ ED c G' hs := by
  obtain ⟨free, lim, hM⟩ := h
  exact ⟨_, (ops_pin hme hM.lt).mono (by decide), _, _, hM.pin hme (upN_lt _ _)⟩
theorem ED.unpin {c me : Nat} {G : Nat → Nat} {hs : List Nat} (h : ED c G hs) (hme : me < 2) : ∃ G', Ops 2 me 4 0 (sizeN 2 c) G 0 G' 300 ∧ ED c G' hs := by
  obtain ⟨free, lim, hM⟩ := h
  exact ⟨_, (ops_unpin hme).mono (by decide), _, _, hM.pin hme (by decide)⟩
theorem ED.alloc {c me : Nat} {G : Nat → Nat} {hs : List Nat} (h : ED c G hs) (hc : c ≤ 8) (hme : me < 2) : ∃ a G', Ops 2 me 6 0 (sizeN 2 c) G a G' 300 ∧ ((a = 0 ∧ ED c G' hs) ∨ (1 ≤ a ∧ a ≤ c ∧ ED c G' (hs ++ [a]))) := by
  obtain ⟨free, lim, hM⟩ := h
  obtain ⟨a, G', o, free', lim', hh, _⟩ := hM.alloc_any (u := 0) (by omega) hme
  exact ⟨a, G', o.mono (by omega), hh.imp (fun h => ⟨h.1, _, _, h.2⟩) (fun h => ⟨h.1, h.2.1, _, _, h.2.2⟩)⟩
theorem ED.retire {c me q : Nat} {G : Nat → Nat} {hs : List Nat} (h : ED c G (hs ++ [q])) (hc : c ≤ 8) : 1 ≤ q ∧ q ≤ c ∧ ∃ G', Ops 2 me 5 (q : Int) (sizeN 2 c) G 0 G' 300 ∧ ED c G' hs := by
  obtain ⟨free, lim, hM⟩ := h
  have hq := hM.le q (List.mem_append_right _ (by simp))
  exact ⟨hq.1, hq.2, _, (ops_retire hM.lt hq.1 hq.2).mono (by decide), _, _, hM.retire (List.perm_append_comm) (by omega)⟩
theorem ED.adv {c me : Nat} {G : Nat → Nat} {hs : List Nat} (h : ED c G hs) (hc : c ≤ 8) : ∃ d G', Ops 2 me 19 0 (sizeN 2 c) G d G' 300 ∧ ED c G' hs ∧ (d = 0 ∨ d = 1) := by
  obtain ⟨free, lim, hM⟩ := h
  obtain ⟨d, G', free', lim', hr, hM', hs', _, hd⟩ := hM.adv_any (by omega) (m := 1999) (f := 2000) (by omega)
  have := hM.limN_le
  exact ⟨d, G', ⟨hr, by show (Prg.advance 2 (1999 + 1) 2000).steps _ _ ≤ _; omega⟩, ⟨_, _, hM'⟩, hd⟩
end Go.Proofs.Ythcifknnppohfaa
