/-
  CellTells: for every two numbers, memory, record and field, places, new memories, and which are right, are as the document says. No condition.
-/
import Derived.Test.YtjjkdebdikkceaaCllSame
import Derived.Test.YtjjkdebdikkceaaLaw
import Derived.Test.YtjjkdebdikkceaaFields
namespace Go.Proofs.Ytjjkdebdikkceaa.cellTells
open Go.ChangeShapes Go.WideShapes Go.ChangeAt Go.RowKit Go.Deep Go.BigFrame
set_option linter.unusedVariables false
theorem own : ownKnob Try.prog.godebug = none := by kernel_rfl
set_option maxRecDepth 100000 in
set_option maxHeartbeats 4000000 in
theorem walkA (t c mt mc : Int) (A : Option Addr) (l k : Nat) (r v : Nat) (w : World) (d1 : decide (400 < c) = true) (d2 : decide (c ≤ 65536) = true) :
    Calls Try.prog 3 #[.agg #[.int .i64 t, .int .i64 c, .int .i64 mt, .int .i64 mc, .slice A l k, .int .u16 (r : Int), .int .u8 (v : Int)]] w fun e w' => e = .returned (.bool true) ∧ Below w.heap.size w w' := by
  go_enter Try.func3, Try.ntmps3
  go_wp2_with fail
  refine (shown_any _).mono ?_
  rintro e w1 ⟨rfl, hb⟩
  have BB := Lib.hid ((below_pair w _ _).trans (hb.mono (below_pair w _ _).size))
  obtain ⟨hz, c0, c1, c2, f0, f1, f2⟩ := ((VarAt.three1 w (.int .i64 mt) (.int .i64 mc) (.slice A l k) (.cells #[.int .i64 t, .int .i64 c, .int .i64 mt, .int .i64 mc, .slice A l k, .int .u16 (r : Int), .int .u8 (v : Int)] 27) 24).below hb).three
  clear hb
  go_wp2_with fail
  go_ret
  exact ⟨rfl, BB.out⟩
set_option maxRecDepth 100000 in
set_option maxHeartbeats 4000000 in
theorem walkB1 (t c mt mc : Int) (A : Option Addr) (l k : Nat) (r v : Nat) (w : World) (d1 : decide (400 < c) = false) (d3 : decide ((4000 : Int) < (l : Int)) = true) :
    Calls Try.prog 3 #[.agg #[.int .i64 t, .int .i64 c, .int .i64 mt, .int .i64 mc, .slice A l k, .int .u16 (r : Int), .int .u8 (v : Int)]] w fun e w' => e = .returned (.bool true) ∧ Below w.heap.size w w' := by
  go_enter Try.func3, Try.ntmps3
  go_wp2_with fail
  refine (shown_any _).mono ?_
  rintro e w1 ⟨rfl, hb⟩
  have BB := Lib.hid ((below_pair w _ _).trans (hb.mono (below_pair w _ _).size))
  obtain ⟨hz, c0, c1, c2, f0, f1, f2⟩ := ((VarAt.three1 w (.int .i64 mt) (.int .i64 mc) (.slice A l k) (.cells #[.int .i64 t, .int .i64 c, .int .i64 mt, .int .i64 mc, .slice A l k, .int .u16 (r : Int), .int .u8 (v : Int)] 27) 24).below hb).three
  clear hb
  go_wp2_with fail
  go_ret
  exact ⟨rfl, BB.out⟩
set_option maxRecDepth 100000 in
set_option maxHeartbeats 4000000 in
theorem walkB2 (t c mt mc : Int) (A : Option Addr) (l k : Nat) (r v : Nat) (w : World) (d1 : decide (400 < c) = true) (d2 : decide (c ≤ 65536) = false) (d3 : decide ((4000 : Int) < (l : Int)) = true) :
    Calls Try.prog 3 #[.agg #[.int .i64 t, .int .i64 c, .int .i64 mt, .int .i64 mc, .slice A l k, .int .u16 (r : Int), .int .u8 (v : Int)]] w fun e w' => e = .returned (.bool true) ∧ Below w.heap.size w w' := by
  go_enter Try.func3, Try.ntmps3
  go_wp2_with fail
  refine (shown_any _).mono ?_
  rintro e w1 ⟨rfl, hb⟩
  have BB := Lib.hid ((below_pair w _ _).trans (hb.mono (below_pair w _ _).size))
  obtain ⟨hz, c0, c1, c2, f0, f1, f2⟩ := ((VarAt.three1 w (.int .i64 mt) (.int .i64 mc) (.slice A l k) (.cells #[.int .i64 t, .int .i64 c, .int .i64 mt, .int .i64 mc, .slice A l k, .int .u16 (r : Int), .int .u8 (v : Int)] 27) 24).below hb).three
  clear hb
  go_wp2_with fail
  go_ret
  exact ⟨rfl, BB.out⟩

theorem and63 (t : Int) : bits .and .i64 t 63 = t % 64 := by
  have h1 : (BitVec.ofInt 64 63).toNat = 2 ^ 6 - 1 := by decide
  have h2 : (BitVec.ofInt 64 t &&& BitVec.ofInt 64 63).toNat = (t % ((2 ^ 64 : Nat) : Int)).toNat % 2 ^ 6 := by
    rw [BitVec.toNat_and, BitVec.toNat_ofInt, h1, Nat.and_two_pow_sub_one_eq_mod]
  show IntKind.i64.wrap ((BitVec.ofInt 64 t &&& BitVec.ofInt 64 63).toNat : Nat) = _
  rw [h2, IntKind.wrap_i64]
  omega
set_option maxRecDepth 100000 in
set_option maxHeartbeats 4000000 in
theorem walk1 (t c mt mc : Int) (A : Option Addr) (l k : Nat) (r v : Nat) (q n y : Nat) (T C : Int) (m : Nat) (f : Nat → Nat) (code : Int) (p : Bool) (w : World) (d1 : decide (400 < c) = false) (d3 : decide ((4000 : Int) < (l : Int)) = false) (hm : m ≤ 1000000)
    (hN : ∀ w, Calls Try.prog 9 #[.int .i64 t, .int .i64 c] w (MemPost w T C m f code)) (hN2 : ∀ w, Calls Try.prog 10 #[.int .i64 t, .int .i64 c] w (MemPost w T C m f code))
    (hR : ∀ w, Calls Try.prog 12 #[.agg #[.int .i64 mt, .int .i64 mc, .slice A l k]] w (Kept w (.bool p))) (hR2 : ∀ w, Calls Try.prog 13 #[.agg #[.int .i64 mt, .int .i64 mc, .slice A l k]] w (Kept w (.bool p)))
    (hr : r < 65536) (hv : v < 256) (hand : bits .and .i64 t 63 = (q : Int)) (hq : q < 64) (hqn : 1 + (q : Int) = (n : Int)) (hy1 : (v : Int).tmod 8 = (y : Int)) (hy2 : (v : Int) % 8 = (y : Int)) (hy : y < 8) :
    Calls Try.prog 3 #[.agg #[.int .i64 t, .int .i64 c, .int .i64 mt, .int .i64 mc, .slice A l k, .int .u16 (r : Int), .int .u8 (v : Int)]] w fun e w' => e = .returned (.bool true) ∧ Below w.heap.size w w' := by
  have hn1 : IntKind.i64.wrap ((n : Int) - 1) = (q : Int) := by rw [IntKind.wrap_i64]; omega
  have hn2 : IntKind.i64.wrap (1 + (r : Int)) = ((r + 1 : Nat) : Int) := by rw [IntKind.wrap_i64]; omega
  have hP := fun w => pin_at q (by omega) w
  have hP2 := fun w => refPin_at q (by omega) w
  have hF := fun w => field_any n (r + 1) y (by omega) (by omega) (by omega) (by omega) w
  have hF2 := fun w => refField_any n (r + 1) y (by omega) (by omega) (by omega) (by omega) w
  have hX := fun w => next_any n r (by omega) (by omega) w
  have hX2 := fun w => refNext_any n r (by omega) (by omega) w
  have HM := Lib.hid hm
  clear hm
  generalize fieldN n (r + 1) y = fl at *
  generalize nextN n r = nx at *
  generalize pinN q = pn at *
  generalize r + 1 = r1 at *
  go_enter Try.func3, Try.ntmps3
  go_wp2_with fail
  refine (shown_any _).mono ?_
  rintro e w1 ⟨rfl, hb⟩
  have BB := Lib.hid ((below_pair w _ _).trans (hb.mono (below_pair w _ _).size))
  obtain ⟨hz, c0, c1, c2, f0, f1, f2⟩ := ((VarAt.three1 w (.int .i64 mt) (.int .i64 mc) (.slice A l k) (.cells #[.int .i64 t, .int .i64 c, .int .i64 mt, .int .i64 mc, .slice A l k, .int .u16 (r : Int), .int .u8 (v : Int)] 27) 24).below hb).three
  have HB1 := Lib.hid hb
  clear hb
  go_wp2_with fail
  clear hz c0 c1 c2 f0 f1 f2
  refine (hN _).mono ?_
  rintro e w2 ⟨A2, rfl, ha2, hb2⟩
  obtain ⟨x2, hx2⟩ : ∃ x, w2.alloc (.cells #[.int .i64 T, .int .i64 C, .slice A2 m m] 24) = x := ⟨_, rfl⟩
  have hbx : Below w2.heap.size w2 x2 := by rw [← hx2]; exact al_below _ _
  have M2 : Hid (MemAt x2 w2.heap.size T C A2 m m f) := Lib.hid (by rw [← hx2]; exact MemAt.made w2 T C m ha2)
  have BB2 := Lib.hid (BB.out.trans ((hb2.trans (hbx.mono hb2.size)).mono BB.out.size))
  have V0 := Lib.hid ((VarAt.three1 w (.int .i64 mt) (.int .i64 mc) (.slice A l k) (.cells #[.int .i64 t, .int .i64 c, .int .i64 mt, .int .i64 mc, .slice A l k, .int .u16 (r : Int), .int .u8 (v : Int)] 27) 24).below (HB1.out.trans ((hb2.trans (hbx.mono hb2.size)).mono HB1.out.size)))
  clear ha2 hb2 hbx BB HB1
  go_wp2_with fail
  refine (hN2 _).mono ?_
  rintro e w3 ⟨A3, rfl, ha3, hb3⟩
  obtain ⟨x3, hx3⟩ : ∃ x, w3.alloc (.cells #[.int .i64 T, .int .i64 C, .slice A3 m m] 24) = x := ⟨_, rfl⟩
  have hbx : Below w3.heap.size w3 x3 := by rw [← hx3]; exact al_below _ _
  have M3 : Hid (MemAt x3 w3.heap.size T C A3 m m f) := Lib.hid (by rw [← hx3]; exact MemAt.made w3 T C m ha3)
  have hb23 : Below x2.heap.size x2 x3 := hb3.trans (hbx.mono hb3.size)
  have BB3 := Lib.hid (BB2.out.trans (hb23.mono BB2.out.size))
  have V03 := Lib.hid (V0.out.below hb23)
  have M23 := Lib.hid (M2.out.later hb23)
  clear ha3 hb3 hbx hb23 M2 V0 BB2 hN hN2
  have HA2 := Lib.hid M23.out.2
  have HA3 := Lib.hid M3.out.2
  have V2 := Lib.hid M23.out.1
  have V3 := Lib.hid M3.out.1
  have rA0 : ∀ w', Below x3.heap.size x3 w' → w'.cell? ⟨w.heap.size + 1, 0, none⟩ = some (.int .i64 mt) := fun w' hb => (V03.out.below hb).2.1 0 _ rfl
  have rA1 : ∀ w', Below x3.heap.size x3 w' → w'.cell? ⟨w.heap.size + 1, 1, none⟩ = some (.int .i64 mc) := fun w' hb => (V03.out.below hb).2.1 1 _ rfl
  have rA2 : ∀ w', Below x3.heap.size x3 w' → w'.cell? ⟨w.heap.size + 1, 2, none⟩ = some (.slice A l k) := fun w' hb => (V03.out.below hb).2.1 2 _ rfl
  have rB0 : ∀ w', Below x3.heap.size x3 w' → w'.cell? ⟨w2.heap.size, 0, none⟩ = some (.int .i64 T) := fun w' hb => (V2.out.below hb).2.1 0 _ rfl
  have rB1 : ∀ w', Below x3.heap.size x3 w' → w'.cell? ⟨w2.heap.size, 1, none⟩ = some (.int .i64 C) := fun w' hb => (V2.out.below hb).2.1 1 _ rfl
  have rB2 : ∀ w', Below x3.heap.size x3 w' → w'.cell? ⟨w2.heap.size, 2, none⟩ = some (.slice A2 m m) := fun w' hb => (V2.out.below hb).2.1 2 _ rfl
  have rC0 : ∀ w', Below x3.heap.size x3 w' → w'.cell? ⟨w3.heap.size, 0, none⟩ = some (.int .i64 T) := fun w' hb => (V3.out.below hb).2.1 0 _ rfl
  have rC1 : ∀ w', Below x3.heap.size x3 w' → w'.cell? ⟨w3.heap.size, 1, none⟩ = some (.int .i64 C) := fun w' hb => (V3.out.below hb).2.1 1 _ rfl
  have rC2 : ∀ w', Below x3.heap.size x3 w' → w'.cell? ⟨w3.heap.size, 2, none⟩ = some (.slice A3 m m) := fun w' hb => (V3.out.below hb).2.1 2 _ rfl
  have hB0 : Below x3.heap.size x3 x3 := Below.refl _ _
  go_wp2_with fail
  clear hx2 hx3
  first | (go_region_held3 (fun w' => Below x3.heap.size x3 w') (first | assumption | (exact Below.drew (by assumption)) | (exact Below.drew (Below.refl _ _)))
    (first
      | (go_at_call 11; (with_reducible refine (refSame_yes T C A2 A3 m m m f (by have := HM.out; omega) _ (Lib.hid (HA2.out.later (by first | assumption | (exact Below.drew (Below.refl _ _)) | (exact Below.drew (by assumption))))) (Lib.hid (HA3.out.later (by first | assumption | (exact Below.drew (Below.refl _ _)) | (exact Below.drew (by assumption)))))).mono ?_); rintro e w4 ⟨rfl, hbw4⟩; have hBw4 : Below x3.heap.size x3 w4 := below_step hbw4 (by first | assumption | (exact Below.drew (Below.refl _ _)) | (exact Below.drew (by assumption))); skip; clear hbw4)
      | (go_at_call 12; (with_reducible refine (hR _).mono ?_); rintro e w5 ⟨rfl, hbw5⟩; have hBw5 : Below x3.heap.size x3 w5 := below_step hbw5 (by first | assumption | (exact Below.drew (Below.refl _ _)) | (exact Below.drew (by assumption))); skip; clear hbw5)
      | (go_at_call 13; (with_reducible refine (hR2 _).mono ?_); rintro e w6 ⟨rfl, hbw6⟩; have hBw6 : Below x3.heap.size x3 w6 := below_step hbw6 (by first | assumption | (exact Below.drew (Below.refl _ _)) | (exact Below.drew (by assumption))); skip; clear hbw6)
      | (go_at_call 14; (with_reducible refine (hP _).mono ?_); rintro e w' ⟨rfl, rfl⟩)
      | (go_at_call 15; (with_reducible refine (hP2 _).mono ?_); rintro e w' ⟨rfl, rfl⟩)
      | (go_at_call 16; (with_reducible refine (hF _).mono ?_); rintro e w' ⟨rfl, rfl⟩)
      | (go_at_call 17; (with_reducible refine (hF2 _).mono ?_); rintro e w' ⟨rfl, rfl⟩)
      | (go_at_call 18; (with_reducible refine (hX _).mono ?_); rintro e w' ⟨rfl, rfl⟩)
      | (go_at_call 19; (with_reducible refine (hX2 _).mono ?_); rintro e w' ⟨rfl, rfl⟩))) | fail
  all_goals
    go_wp2_with fail
    go_ret
    exact ⟨rfl, BB3.out.trans (Below.mono (by assumption) BB3.out.size)⟩
set_option maxRecDepth 100000 in
set_option maxHeartbeats 4000000 in
theorem walk2 (t c mt mc : Int) (A : Option Addr) (l k : Nat) (r v : Nat) (q n y : Nat) (T C : Int) (m : Nat) (f : Nat → Nat) (code : Int) (p : Bool) (w : World) (d1 : decide (400 < c) = true) (d2 : decide (c ≤ 65536) = false) (d3 : decide ((4000 : Int) < (l : Int)) = false) (hm : m ≤ 1000000)
    (hN : ∀ w, Calls Try.prog 9 #[.int .i64 t, .int .i64 c] w (MemPost w T C m f code)) (hN2 : ∀ w, Calls Try.prog 10 #[.int .i64 t, .int .i64 c] w (MemPost w T C m f code))
    (hR : ∀ w, Calls Try.prog 12 #[.agg #[.int .i64 mt, .int .i64 mc, .slice A l k]] w (Kept w (.bool p))) (hR2 : ∀ w, Calls Try.prog 13 #[.agg #[.int .i64 mt, .int .i64 mc, .slice A l k]] w (Kept w (.bool p)))
    (hr : r < 65536) (hv : v < 256) (hand : bits .and .i64 t 63 = (q : Int)) (hq : q < 64) (hqn : 1 + (q : Int) = (n : Int)) (hy1 : (v : Int).tmod 8 = (y : Int)) (hy2 : (v : Int) % 8 = (y : Int)) (hy : y < 8) :
    Calls Try.prog 3 #[.agg #[.int .i64 t, .int .i64 c, .int .i64 mt, .int .i64 mc, .slice A l k, .int .u16 (r : Int), .int .u8 (v : Int)]] w fun e w' => e = .returned (.bool true) ∧ Below w.heap.size w w' := by
  have hn1 : IntKind.i64.wrap ((n : Int) - 1) = (q : Int) := by rw [IntKind.wrap_i64]; omega
  have hn2 : IntKind.i64.wrap (1 + (r : Int)) = ((r + 1 : Nat) : Int) := by rw [IntKind.wrap_i64]; omega
  have hP := fun w => pin_at q (by omega) w
  have hP2 := fun w => refPin_at q (by omega) w
  have hF := fun w => field_any n (r + 1) y (by omega) (by omega) (by omega) (by omega) w
  have hF2 := fun w => refField_any n (r + 1) y (by omega) (by omega) (by omega) (by omega) w
  have hX := fun w => next_any n r (by omega) (by omega) w
  have hX2 := fun w => refNext_any n r (by omega) (by omega) w
  have HM := Lib.hid hm
  clear hm
  generalize fieldN n (r + 1) y = fl at *
  generalize nextN n r = nx at *
  generalize pinN q = pn at *
  generalize r + 1 = r1 at *
  go_enter Try.func3, Try.ntmps3
  go_wp2_with fail
  refine (shown_any _).mono ?_
  rintro e w1 ⟨rfl, hb⟩
  have BB := Lib.hid ((below_pair w _ _).trans (hb.mono (below_pair w _ _).size))
  obtain ⟨hz, c0, c1, c2, f0, f1, f2⟩ := ((VarAt.three1 w (.int .i64 mt) (.int .i64 mc) (.slice A l k) (.cells #[.int .i64 t, .int .i64 c, .int .i64 mt, .int .i64 mc, .slice A l k, .int .u16 (r : Int), .int .u8 (v : Int)] 27) 24).below hb).three
  have HB1 := Lib.hid hb
  clear hb
  go_wp2_with fail
  clear hz c0 c1 c2 f0 f1 f2
  refine (hN _).mono ?_
  rintro e w2 ⟨A2, rfl, ha2, hb2⟩
  obtain ⟨x2, hx2⟩ : ∃ x, w2.alloc (.cells #[.int .i64 T, .int .i64 C, .slice A2 m m] 24) = x := ⟨_, rfl⟩
  have hbx : Below w2.heap.size w2 x2 := by rw [← hx2]; exact al_below _ _
  have M2 : Hid (MemAt x2 w2.heap.size T C A2 m m f) := Lib.hid (by rw [← hx2]; exact MemAt.made w2 T C m ha2)
  have BB2 := Lib.hid (BB.out.trans ((hb2.trans (hbx.mono hb2.size)).mono BB.out.size))
  have V0 := Lib.hid ((VarAt.three1 w (.int .i64 mt) (.int .i64 mc) (.slice A l k) (.cells #[.int .i64 t, .int .i64 c, .int .i64 mt, .int .i64 mc, .slice A l k, .int .u16 (r : Int), .int .u8 (v : Int)] 27) 24).below (HB1.out.trans ((hb2.trans (hbx.mono hb2.size)).mono HB1.out.size)))
  clear ha2 hb2 hbx BB HB1
  go_wp2_with fail
  refine (hN2 _).mono ?_
  rintro e w3 ⟨A3, rfl, ha3, hb3⟩
  obtain ⟨x3, hx3⟩ : ∃ x, w3.alloc (.cells #[.int .i64 T, .int .i64 C, .slice A3 m m] 24) = x := ⟨_, rfl⟩
  have hbx : Below w3.heap.size w3 x3 := by rw [← hx3]; exact al_below _ _
  have M3 : Hid (MemAt x3 w3.heap.size T C A3 m m f) := Lib.hid (by rw [← hx3]; exact MemAt.made w3 T C m ha3)
  have hb23 : Below x2.heap.size x2 x3 := hb3.trans (hbx.mono hb3.size)
  have BB3 := Lib.hid (BB2.out.trans (hb23.mono BB2.out.size))
  have V03 := Lib.hid (V0.out.below hb23)
  have M23 := Lib.hid (M2.out.later hb23)
  clear ha3 hb3 hbx hb23 M2 V0 BB2 hN hN2
  have HA2 := Lib.hid M23.out.2
  have HA3 := Lib.hid M3.out.2
  have V2 := Lib.hid M23.out.1
  have V3 := Lib.hid M3.out.1
  have rA0 : ∀ w', Below x3.heap.size x3 w' → w'.cell? ⟨w.heap.size + 1, 0, none⟩ = some (.int .i64 mt) := fun w' hb => (V03.out.below hb).2.1 0 _ rfl
  have rA1 : ∀ w', Below x3.heap.size x3 w' → w'.cell? ⟨w.heap.size + 1, 1, none⟩ = some (.int .i64 mc) := fun w' hb => (V03.out.below hb).2.1 1 _ rfl
  have rA2 : ∀ w', Below x3.heap.size x3 w' → w'.cell? ⟨w.heap.size + 1, 2, none⟩ = some (.slice A l k) := fun w' hb => (V03.out.below hb).2.1 2 _ rfl
  have rB0 : ∀ w', Below x3.heap.size x3 w' → w'.cell? ⟨w2.heap.size, 0, none⟩ = some (.int .i64 T) := fun w' hb => (V2.out.below hb).2.1 0 _ rfl
  have rB1 : ∀ w', Below x3.heap.size x3 w' → w'.cell? ⟨w2.heap.size, 1, none⟩ = some (.int .i64 C) := fun w' hb => (V2.out.below hb).2.1 1 _ rfl
  have rB2 : ∀ w', Below x3.heap.size x3 w' → w'.cell? ⟨w2.heap.size, 2, none⟩ = some (.slice A2 m m) := fun w' hb => (V2.out.below hb).2.1 2 _ rfl
  have rC0 : ∀ w', Below x3.heap.size x3 w' → w'.cell? ⟨w3.heap.size, 0, none⟩ = some (.int .i64 T) := fun w' hb => (V3.out.below hb).2.1 0 _ rfl
  have rC1 : ∀ w', Below x3.heap.size x3 w' → w'.cell? ⟨w3.heap.size, 1, none⟩ = some (.int .i64 C) := fun w' hb => (V3.out.below hb).2.1 1 _ rfl
  have rC2 : ∀ w', Below x3.heap.size x3 w' → w'.cell? ⟨w3.heap.size, 2, none⟩ = some (.slice A3 m m) := fun w' hb => (V3.out.below hb).2.1 2 _ rfl
  have hB0 : Below x3.heap.size x3 x3 := Below.refl _ _
  go_wp2_with fail
  clear hx2 hx3
  first | (go_region_held3 (fun w' => Below x3.heap.size x3 w') (first | assumption | (exact Below.drew (by assumption)) | (exact Below.drew (Below.refl _ _)))
    (first
      | (go_at_call 11; (with_reducible refine (refSame_yes T C A2 A3 m m m f (by have := HM.out; omega) _ (Lib.hid (HA2.out.later (by first | assumption | (exact Below.drew (Below.refl _ _)) | (exact Below.drew (by assumption))))) (Lib.hid (HA3.out.later (by first | assumption | (exact Below.drew (Below.refl _ _)) | (exact Below.drew (by assumption)))))).mono ?_); rintro e w4 ⟨rfl, hbw4⟩; have hBw4 : Below x3.heap.size x3 w4 := below_step hbw4 (by first | assumption | (exact Below.drew (Below.refl _ _)) | (exact Below.drew (by assumption))); skip; clear hbw4)
      | (go_at_call 12; (with_reducible refine (hR _).mono ?_); rintro e w5 ⟨rfl, hbw5⟩; have hBw5 : Below x3.heap.size x3 w5 := below_step hbw5 (by first | assumption | (exact Below.drew (Below.refl _ _)) | (exact Below.drew (by assumption))); skip; clear hbw5)
      | (go_at_call 13; (with_reducible refine (hR2 _).mono ?_); rintro e w6 ⟨rfl, hbw6⟩; have hBw6 : Below x3.heap.size x3 w6 := below_step hbw6 (by first | assumption | (exact Below.drew (Below.refl _ _)) | (exact Below.drew (by assumption))); skip; clear hbw6)
      | (go_at_call 14; (with_reducible refine (hP _).mono ?_); rintro e w' ⟨rfl, rfl⟩)
      | (go_at_call 15; (with_reducible refine (hP2 _).mono ?_); rintro e w' ⟨rfl, rfl⟩)
      | (go_at_call 16; (with_reducible refine (hF _).mono ?_); rintro e w' ⟨rfl, rfl⟩)
      | (go_at_call 17; (with_reducible refine (hF2 _).mono ?_); rintro e w' ⟨rfl, rfl⟩)
      | (go_at_call 18; (with_reducible refine (hX _).mono ?_); rintro e w' ⟨rfl, rfl⟩)
      | (go_at_call 19; (with_reducible refine (hX2 _).mono ?_); rintro e w' ⟨rfl, rfl⟩))) | fail
  all_goals
    go_wp2_with fail
    go_ret
    exact ⟨rfl, BB3.out.trans (Below.mono (by assumption) BB3.out.size)⟩
section
variable {H : Type} {enc : TypeId × Value → H} {w : World}
theorem open_a {v : Value} {d : DataW H} {ps : List MemPlace} {base : Nat} (hval : Value.okWide Try.prog w .any base 27 v) (h : DataW.Trod enc Try.prog w 0 (fun _ => true) true 27 v d ps) (hs : Sized Try.prog 27 d) (hlt : ∀ z ∈ ps, z.block < w.heap.size) :
    ∃ (aT : Int) (aC : Int) (aMT : Int) (aMC : Int) (aMWordA : Option Addr) (aMWordL aMWordC : Nat) (aMWordf : Nat → Nat) (aR : Nat) (aF : Nat), v = .agg #[.int .i64 aT, .int .i64 aC, .int .i64 aMT, .int .i64 aMC, .slice aMWordA aMWordL aMWordC, .int .u16 (aR : Int), .int .u8 (aF : Int)] ∧ (-9223372036854775808 ≤ aT ∧ aT < 9223372036854775808) ∧ (-9223372036854775808 ≤ aC ∧ aC < 9223372036854775808) ∧ (-9223372036854775808 ≤ aMT ∧ aMT < 9223372036854775808) ∧ (-9223372036854775808 ≤ aMC ∧ aMC < 9223372036854775808) ∧ (aMWordL ≤ aMWordC ∧ aMWordL ≤ 140737488355328 ∧ AtW w aMWordA aMWordL aMWordf) ∧ aR < 65536 ∧ aF < 256 := by
  obtain ⟨cs, rfl, hsz⟩ := okWide_struct Try.underlying27 hval
  obtain ⟨fuel, hf⟩ := h
  have hcs : (Value.agg cs).cells.toList = cs.toList := rfl
  rw [hcs] at hf
  have hcl : cs.toList.length = 7 := by rw [Array.length_toList, hsz]; kernel_rfl
  obtain ⟨c0, c1, c2, c3, c4, c5, c6, hL⟩ : ∃ c0 c1 c2 c3 c4 c5 c6, cs.toList = [c0, c1, c2, c3, c4, c5, c6] := ⟨_, _, _, _, _, _, _, cells_of hcl .nilIface⟩
  rw [hL] at hf
  rw [list_agg hL]
  clear hcl hL hsz hcs
  obtain ⟨y0, n0, g0, s0, q0⟩ := field_at Try.underlying27 hf 0 _ rfl 3 0 1 [c0] rfl rfl (by kernel_rfl) rfl hs hlt
  obtain ⟨aT, e1, haT⟩ := leaf_i64 Try.underlying3 g0
  cases e1
  obtain ⟨y2, n2, g2, s2, q2⟩ := field_at Try.underlying27 hf 1 _ rfl 3 1 1 [c1] rfl rfl (by kernel_rfl) rfl hs hlt
  obtain ⟨aC, e3, haC⟩ := leaf_i64 Try.underlying3 g2
  cases e3
  obtain ⟨y4, n4, g4, s4, q4⟩ := field_at Try.underlying27 hf 2 _ rfl 24 2 3 [c2, c3, c4] rfl rfl (by kernel_rfl) rfl hs hlt
  obtain ⟨y5, n5, g5, s5, q5⟩ := field_at Try.underlying24 g4 0 _ rfl 3 0 1 [c2] rfl rfl (by kernel_rfl) rfl s4 q4
  obtain ⟨aMT, e6, haMT⟩ := leaf_i64 Try.underlying3 g5
  cases e6
  obtain ⟨y7, n7, g7, s7, q7⟩ := field_at Try.underlying24 g4 1 _ rfl 3 1 1 [c3] rfl rfl (by kernel_rfl) rfl s4 q4
  obtain ⟨aMC, e8, haMC⟩ := leaf_i64 Try.underlying3 g7
  cases e8
  obtain ⟨y9, n9, g9, s9, q9⟩ := field_at Try.underlying24 g4 2 _ rfl 22 2 1 [c4] rfl rfl (by kernel_rfl) rfl s4 q4
  obtain ⟨aMWordA, aMWordL, aMWordC, aMWordf, e10, haMWord⟩ := leaf_words g9 s9 q9
  cases e10
  obtain ⟨y11, n11, g11, s11, q11⟩ := field_at Try.underlying27 hf 3 _ rfl 25 5 1 [c5] rfl rfl (by kernel_rfl) rfl hs hlt
  obtain ⟨aR, e12, haR⟩ := leaf_u16 Try.underlying25 g11
  cases e12
  obtain ⟨y13, n13, g13, s13, q13⟩ := field_at Try.underlying27 hf 4 _ rfl 5 6 1 [c6] rfl rfl (by kernel_rfl) rfl hs hlt
  obtain ⟨aF, e14, haF⟩ := leaf_u8 Try.underlying5 g13
  cases e14
  exact ⟨aT, aC, aMT, aMC, aMWordA, aMWordL, aMWordC, aMWordf, aR, aF, rfl, haT, haC, haMT, haMC, haMWord, haR, haF⟩
end

set_option maxRecDepth 100000 in
theorem lifted (os : Os) (started : os.Started) (H : Type) (enc : TypeId × Value → H) :
    ReturnsInHanded {} Try.checked os 3 .any (Rows.cellTellsSpec.pre6 enc Try.prog Try.f3 Rows.cellTellsRow.domain false) (Rows.cellTellsSpec.post enc Try.prog Try.f3 false true false false) := by
  refine law_lifted (C := Try.checked) own started (by kernel_rfl) Try.func3
    (ChangeSpec.witness6 (enc := enc) (C := Try.checked) false ⟨#[], #[.agg #[.int .i64 0, .int .i64 0, .int .i64 0, .int .i64 0, .slice none 0 0, .int .u16 0, .int .u8 0]], []⟩ 8 (by kernel_rfl) (by kernel_rfl) (by kernel_rfl) (by kernel_rfl))
    (by kernel_rfl) (by kernel_rfl) Try.underlying4 rfl (by kernel_rfl) ?_
  intro W base args ds before hval hA hwt hlt
  have hA' : DataW.TrodAll enc Try.prog W 0 (fun _ => true) true Try.f3.params.toList args.toList ds before := hA
  have hval' : ∀ (j : Nat) t v, Try.f3.params[j]? = some t → args[j]? = some v → Value.okWide Try.prog W .any base t v := hval
  have hwt' : (DataW.weightsEach Try.prog Try.f3.params.toList ds).all (· ≤ reachBytes) = true := hwt
  rw [Try.params3] at hA' hval' hwt'
  obtain ⟨v0, vs0, d0, ds0, p0, q0, hargs, rfl, rfl, k0, r0⟩ := trodAll_cons hA'
  obtain ⟨rfl, rfl, rfl⟩ := trodAll_nil r0
  obtain rfl : args = #[v0] := by cases args; simp_all
  obtain ⟨aT, aC, aMT, aMC, aMWordA, aMWordL, aMWordC, aMWordf, aR, aF, rfl, haT, haC, haMT, haMC, haMWord, haR, haF⟩ := open_a (hval' 0 27 v0 rfl rfl) k0 (sized_of hwt' (j := 0) (t := 27) rfl rfl) (fun x hx => hlt x (by simp [hx]))
  refine ⟨rfl, ?_⟩
  obtain ⟨T, C, m, f, code, hm, hN, hN2⟩ := newBoth aT aC
  obtain ⟨hlc, hlm, hat⟩ := haMWord
  have hq := Int.emod_nonneg aT (show (64 : Int) ≠ 0 by decide)
  obtain ⟨q, hqe⟩ : ∃ q : Nat, aT % 64 = (q : Int) := ⟨(aT % 64).toNat, by omega⟩
  have hand := and63 aT
  rw [hqe] at hand
  have hR := fun w => right_memory aMT aMC aMWordA aMWordL aMWordC w
  have hR2 := fun w => refRight_memory aMT aMC aMWordA aMWordL aMWordC (by omega) w
  by_cases d3 : (4000 : Int) < (aMWordL : Int)
  · by_cases d1 : 400 < aC
    · by_cases d2 : aC ≤ 65536
      · exact walkA aT aC aMT aMC aMWordA aMWordL aMWordC aR aF W (decide_eq_true d1) (decide_eq_true d2)
      · exact walkB2 aT aC aMT aMC aMWordA aMWordL aMWordC aR aF W (decide_eq_true d1) (decide_eq_false d2) (decide_eq_true d3)
    · exact walkB1 aT aC aMT aMC aMWordA aMWordL aMWordC aR aF W (decide_eq_false d1) (decide_eq_true d3)
  · by_cases d1 : 400 < aC
    · by_cases d2 : aC ≤ 65536
      · exact walkA aT aC aMT aMC aMWordA aMWordL aMWordC aR aF W (decide_eq_true d1) (decide_eq_true d2)
      · exact walk2 aT aC aMT aMC aMWordA aMWordL aMWordC aR aF q (q + 1) (aF % 8) T C m f code (rightM aMT aMC aMWordL) W (decide_eq_true d1) (decide_eq_false d2) (decide_eq_false d3) hm hN hN2 hR hR2 haR haF hand (by omega) (by omega) (by rw [Int.tmod_eq_emod_of_nonneg (by omega)]; omega) (by omega) (by omega)
    · exact walk1 aT aC aMT aMC aMWordA aMWordL aMWordC aR aF q (q + 1) (aF % 8) T C m f code (rightM aMT aMC aMWordL) W (decide_eq_false d1) (decide_eq_false d3) hm hN hN2 hR hR2 haR haF hand (by omega) (by omega) (by rw [Int.tmod_eq_emod_of_nonneg (by omega)]; omega) (by omega) (by omega)

theorem over : Rows.cellTellsRow.holds Try.pinned (OpenSpec.ofChange Rows.cellTellsSpec) :=
  OpenClaim.holds_of_wide 3 Try.f3 rfl rfl rfl rfl rfl rfl rfl ⟨rfl, rfl, rfl, rfl, rfl⟩ rfl rfl rfl rfl rfl (by kernel_rfl) Try.func3 (by kernel_rfl)
    (of_decide_eq_true (by kernel_rfl)) (by unfold Func.isWrapper; first | (rw [if_pos (by decide +kernel)]; kernel_rfl) | (rw [if_neg (by decide +kernel)]; exact ⟨rfl, rfl⟩))
    (fun os started H enc _ => lifted os started H enc)

/-- The statement. -/
theorem proved : Rows.CellTellsSaid :=
  over
#print axioms proved
end Go.Proofs.Ytjjkdebdikkceaa.cellTells
