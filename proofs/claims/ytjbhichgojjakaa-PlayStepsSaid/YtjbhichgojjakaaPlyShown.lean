/-
  The document's example (stage 11).
-/
import Derived.Test.YtjbhichgojjakaaPlyRef
namespace Go.Proofs.Ytjbhichgojjakaa
open Go.ChangeShapes Go.WideShapes Go.ChangeAt Go.RowKit Go.BigFrame
set_option linter.unusedVariables false
set_option maxRecDepth 100000

theorem AccsAt.two {w : World} {b : Nat} {x y : Acc} (hlt : b < w.heap.size) (hx : AccP w x none 0 none 0) (hy : AccP w y none 0 none 0) (c0 : CellsA w b 0 x none 0 none 0) (c1 : CellsA w b 6 y none 0 none 0) : AccsAt w (some ⟨b, 0, none⟩) 2 [x, y] := by
  refine ⟨rfl, by omega, fun _ => ⟨b, 0, rfl, hlt, fun j z hz => ?_⟩⟩
  obtain rfl | rfl : j = 0 ∨ j = 1 := by have := (List.getElem?_eq_some_iff.1 hz).1; simp at this; omega
  · cases hz; exact ⟨none, 0, none, 0, c0, hx⟩
  · cases hz; exact ⟨none, 0, none, 0, c1, hy⟩
theorem LogAt.one {w : World} {b : Nat} {x : Res} (hlt : b < w.heap.size) (hx : ResP w x none 0) (c0 : CellsR w b 0 x none 0) : LogAt w (some ⟨b, 0, none⟩) 1 [x] := by
  refine ⟨rfl, by omega, fun _ => ⟨b, 0, rfl, hlt, fun j z hz => ?_⟩⟩
  obtain rfl : j = 0 := by have := (List.getElem?_eq_some_iff.1 hz).1; simp at this; omega
  cases hz; exact ⟨none, 0, c0, hx⟩
theorem LogAt.three {w : World} {b : Nat} {x y z : Res} (hlt : b < w.heap.size) (hx : ResP w x none 0) (hy : ResP w y none 0) (hz : ResP w z none 0) (c0 : CellsR w b 0 x none 0) (c1 : CellsR w b 3 y none 0) (c2 : CellsR w b 6 z none 0) : LogAt w (some ⟨b, 0, none⟩) 3 [x, y, z] := by
  refine ⟨rfl, by omega, fun _ => ⟨b, 0, rfl, hlt, fun j r hr => ?_⟩⟩
  obtain rfl | rfl | rfl : j = 0 ∨ j = 1 ∨ j = 2 := by have := (List.getElem?_eq_some_iff.1 hr).1; simp at this; omega
  · cases hr; exact ⟨none, 0, c0, hx⟩
  · cases hr; exact ⟨none, 0, c1, hy⟩
  · cases hr; exact ⟨none, 0, c2, hz⟩
def accN (c : Int) : Acc := ⟨0, c, 0, 0, [], 0, fun _ => 0⟩
theorem accN_P (w : World) (c : Int) (h : -9223372036854775808 ≤ c ∧ c < 9223372036854775808) : AccP w (accN c) none 0 none 0 :=
  ⟨by show (-9223372036854775808 : Int) ≤ 0 ∧ (0 : Int) < 9223372036854775808; decide, h, by show (0 : Nat) < _; decide, by show (0 : Nat) < _; decide, ⟨Nat.le_refl 0, Nat.zero_le _⟩, ⟨Nat.le_refl 0, Nat.zero_le _⟩, AtB.nil _ _, AtW.nil _ _⟩
set_option maxHeartbeats 2000000 in
theorem playShown (w : World) : Calls Try.prog 12 #[] w (Kept w (.bool true)) := by
  go_enter Try.func12, Try.ntmps12
  go_wp2_with fail
  refine gen_w (P := fun W => Calls _ _ _ W _) (fun y => Below w.heap.size w y ∧ AccsAt y (some ⟨w.heap.size, 0, none⟩) 2 [accN 4, accN 5]) ⟨(by repeat (first | with_reducible assumption | with_reducible exact Below.refl _ _ | with_reducible refine Below.drew ?_ | with_reducible refine below_al ?_ | (with_reducible refine below_set1 (by omega) _ ?_))), AccsAt.two (by simp) (accN_P _ 4 (by decide)) (accN_P _ 5 (by decide)) ⟨by go_simp; rfl, by go_simp; rfl, by go_simp; rfl, by go_simp; rfl, by go_simp; rfl, by go_simp; rfl⟩ ⟨by go_simp; rfl, by go_simp; rfl, by go_simp; rfl, by go_simp; rfl, by go_simp; rfl, by go_simp; rfl⟩⟩ ?_
  rintro y ⟨k0, k1⟩
  have hm : ∀ x ∈ [accN 4, accN 5], x.m ≤ 1000000 := by
    intro x hx
    simp only [List.mem_cons, List.not_mem_nil, or_false] at hx
    rcases hx with rfl | rfl <;> exact Nat.zero_le _
  have HM := Lib.hid hm
  have HA := Lib.hid k1
  have HB := Lib.hid k0
  clear k0 k1 hm
  obtain ⟨g, hg⟩ : ∃ g, w.heap.size = g := ⟨_, rfl⟩
  rw [hg] at HA ⊢
  have HG := Lib.hid hg
  clear hg
  (with_reducible refine (line_no (some ⟨g, 0, none⟩) 2 2 [accN 4, accN 5] none 0 0 [] (by decide) (by decide) HM.out y HA (Lib.hid (LogAt.nil _ _))).mono ?_)
  rintro e w2 ⟨D, dc, E, ec, rfl, _, hb2, _, _⟩
  go_upto_region 3 with fail
  refine gen_w (P := fun W => Code.wp _ _ _ _ W) (fun x => Below w.heap.size w x ∧ AccsAt x (some ⟨g, 0, none⟩) 2 [accN 4, accN 5] ∧ w2.heap.size < x.heap.size ∧ x.cell? ⟨w2.heap.size, 1, none⟩ = some (.int .i64 4)) ⟨(HB.out.trans (hb2.mono HB.out.size)).trans (Below.mono (B := w2.heap.size) (by repeat (first | with_reducible assumption | with_reducible exact Below.refl _ _ | with_reducible refine Below.drew ?_ | with_reducible refine below_al ?_ | (with_reducible refine below_set1 (by omega) _ ?_))) (Nat.le_trans HB.out.size hb2.size)), (HA.out.later hb2).later (by repeat (first | with_reducible assumption | with_reducible exact Below.refl _ _ | with_reducible refine Below.drew ?_ | with_reducible refine below_al ?_ | (with_reducible refine below_set1 (by omega) _ ?_))), by simp; omega, by go_simp; rfl⟩ ?_
  rintro x ⟨k0, k1, k2, k3⟩
  have HB2 := Lib.hid k0
  have HA2 := Lib.hid k1
  have HZ2 := Lib.hid k2
  have HC2 := Lib.hid k3
  clear k0 k1 k2 k3 hb2 HB HA
  generalize w2.heap.size = b2 at HZ2 HC2 ⊢
  go_wp2_with fail
  refine gen_w (P := fun W => Calls _ _ _ W _) (fun y => Below x.heap.size x y ∧ LogAt y (some ⟨x.heap.size, 0, none⟩) 1 [⟨7, [], false⟩]) ⟨(by repeat (first | with_reducible assumption | with_reducible exact Below.refl _ _ | with_reducible refine Below.drew ?_ | with_reducible refine below_al ?_ | (with_reducible refine below_set1 (by omega) _ ?_))), LogAt.one (by simp) (ResP.num _ 7 (by decide)) ⟨by go_simp, by go_simp, by go_simp⟩⟩ ?_
  rintro y3 ⟨k0, k1⟩
  have HB3 := Lib.hid k0
  have HL3 := Lib.hid k1
  clear k0 k1
  (with_reducible refine (line_no (some ⟨g, 0, none⟩) 2 2 [accN 4, accN 5] (some ⟨x.heap.size, 0, none⟩) 1 1 [⟨7, [], false⟩] (by decide) (by decide) HM.out y3 (Lib.hid (HA2.out.later HB3.out)) HL3).mono ?_)
  rintro e w4 ⟨D4, dc4, E4, ec4, rfl, _, hb4, _, _⟩
  go_upto_region 4 with fail
  have hz2 := HZ2.out
  have hx4 := HB3.out.trans (hb4.mono HB3.out.size)
  refine gen_w (P := fun W => Code.wp _ _ _ _ W) (fun z => Below x.heap.size x z ∧ x.heap.size ≤ w4.heap.size ∧ w4.heap.size < z.heap.size ∧ z.cell? ⟨w4.heap.size, 1, none⟩ = some (.int .i64 5)) ⟨hx4.trans (Below.mono (B := w4.heap.size) (by repeat (first | with_reducible assumption | with_reducible exact Below.refl _ _ | with_reducible refine Below.drew ?_ | with_reducible refine below_al ?_ | (with_reducible refine below_set1 (by omega) _ ?_))) hx4.size), hx4.size, by simp; omega, by go_simp; rfl⟩ ?_
  rintro z ⟨k0, k4, k2, k3⟩
  have HB5 := Lib.hid k0
  have HA5 := Lib.hid (HA2.out.later k0)
  have HZ5 := Lib.hid k2
  have HC5 := Lib.hid k3
  have HC2' := Lib.hid ((keptCells k0 b2 1 HZ2.out).trans HC2.out)
  have HZ2' := Lib.hid (Nat.lt_of_lt_of_le HZ2.out k0.size)
  clear k0 k2 k3 k4 hb4 hz2 hx4
  generalize w4.heap.size = b5 at HZ5 HC5 ⊢
  go_wp2_with fail
  refine gen_w (P := fun W => Calls _ _ _ W _) (fun y => Below z.heap.size z y ∧ LogAt y (some ⟨z.heap.size, 0, none⟩) 3 [⟨7, [], false⟩, ⟨8, [], false⟩, ⟨9, [], false⟩]) ⟨(by repeat (first | with_reducible assumption | with_reducible exact Below.refl _ _ | with_reducible refine Below.drew ?_ | with_reducible refine below_al ?_ | (with_reducible refine below_set1 (by omega) _ ?_))), LogAt.three (by simp) (ResP.num _ 7 (by decide)) (ResP.num _ 8 (by decide)) (ResP.num _ 9 (by decide)) ⟨by go_simp, by go_simp, by go_simp⟩ ⟨by go_simp, by go_simp, by go_simp⟩ ⟨by go_simp, by go_simp, by go_simp⟩⟩ ?_
  rintro y6 ⟨k0, k1⟩
  have HB6 := Lib.hid k0
  have HL6 := Lib.hid k1
  clear k0 k1
  (with_reducible refine (line_yes (some ⟨g, 0, none⟩) 2 2 [accN 4, accN 5] (some ⟨z.heap.size, 0, none⟩) 3 3 [⟨7, [], false⟩, ⟨8, [], false⟩, ⟨9, [], false⟩] (by decide) (by decide) HM.out y6 (Lib.hid (HA5.out.later HB6.out)) HL6).mono ?_)
  rintro e w7 ⟨rfl, hb7⟩
  have hz7 := HB6.out.trans (hb7.mono HB6.out.size)
  have c2 := (keptCells hz7 b2 1 HZ2'.out).trans HC2'.out
  have c5 := (keptCells hz7 b5 1 HZ5.out).trans HC5.out
  have l2 := Nat.lt_of_lt_of_le HZ2'.out hz7.size
  have l5 := Nat.lt_of_lt_of_le HZ5.out hz7.size
  have n2 : ¬ (b2 = w7.heap.size) := by omega
  have n5 : ¬ (b5 = w7.heap.size) := by omega
  have n2' : ¬ (b2 = w7.heap.size + 1) := by omega
  have n5' : ¬ (b5 = w7.heap.size + 1) := by omega
  have l2' : b2 < w7.heap.size + 1 := by omega
  have l5' : b5 < w7.heap.size + 1 := by omega
  have HBW := Lib.hid ((HB2.out.trans (HB5.out.mono HB2.out.size)).trans (hz7.mono (Nat.le_trans HB2.out.size HB5.out.size)))
  have hsum : sumR [⟨7, [], false⟩, ⟨8, [], false⟩, ⟨9, [], false⟩] 2 = 15 := by decide
  rw [hsum]
  clear hb7 hz7 hsum
  go_wp2_with fail
  have hb := HBW.out
  exact bodyPost_ret (v := .bool true) (by simp [results, Try.results12, go_sem]) rfl ⟨rfl, (by repeat (first | with_reducible assumption | with_reducible exact Below.refl _ _ | with_reducible refine Below.drew ?_ | with_reducible refine below_al ?_ | (with_reducible refine below_set1 (by omega) _ ?_)))⟩
end Go.Proofs.Ytjbhichgojjakaa
