/-
  CellApart: for every numbers of threads and records, two pins, two records and fields, no two places are the same, each is one of the memory, and all of these are told. No condition.
-/
import Derived.Test.YtjjkdebdikkceaaCllSame
import Derived.Test.YtjjkdebdikkceaaAfter
import Derived.Test.YtjjkdebdikkceaaLaw
import Derived.Test.YtjjkdebdikkceaaFields
namespace Go.Proofs.Ytjjkdebdikkceaa.cellApart
open Go.ChangeShapes Go.WideShapes Go.ChangeAt Go.RowKit Go.Deep Go.BigFrame
set_option linter.unusedVariables false
theorem own : ownKnob Try.prog.godebug = none := by kernel_rfl

theorem field_inj (n a b y z : Nat) (ha : 1 ≤ a) (hb : 1 ≤ b) (hy : y < 8) (hz : z < 8) : fieldN n a y = fieldN n b z ↔ a = b ∧ y = z := by unfold fieldN; omega

set_option maxRecDepth 100000 in
set_option maxHeartbeats 4000000 in
theorem walk1 (t c i r f j s g n k tq kc ra sa a b y1 y2 im jm x y p q u l n8 sz : Nat) (F : Nat → Nat) (sm pq : Bool) (ht : t < 256) (hc : c < 65536) (hi : i < 256) (hr : r < 65536) (hf : f < 256) (hj : j < 256) (hs : s < 65536) (hg : g < 256)
    (e1 : (t : Int) % 64 = (tq : Int)) (e1' : (t : Int).tmod 64 = (tq : Int)) (e2 : 1 + (tq : Int) = (n : Int)) (e3 : (c : Int) % 300 = (kc : Int)) (e3' : (c : Int).tmod 300 = (kc : Int)) (e4 : 1 + (kc : Int) = (k : Int)) (e5 : (r : Int) % (k : Int) = (ra : Int)) (e5' : (r : Int).tmod (k : Int) = (ra : Int)) (e6 : 1 + (ra : Int) = (a : Int)) (e7 : (s : Int) % (k : Int) = (sa : Int)) (e7' : (s : Int).tmod (k : Int) = (sa : Int)) (e8 : 1 + (sa : Int) = (b : Int))
    (e9 : (f : Int) % 8 = (y1 : Int)) (e9' : (f : Int).tmod 8 = (y1 : Int)) (e10 : (g : Int) % 8 = (y2 : Int)) (e10' : (g : Int).tmod 8 = (y2 : Int)) (e11 : (i : Int) % (n : Int) = (im : Int)) (e11' : (i : Int).tmod (n : Int) = (im : Int)) (e12 : (j : Int) % (n : Int) = (jm : Int)) (e12' : (j : Int).tmod (n : Int) = (jm : Int))
    (him : im < 256) (hjm : jm < 256) (hn0 : 0 < n) (hn : n ≤ 64) (hk0 : 0 < k) (hk : k ≤ 300) (hsz : sz ≤ 10000) (ha : a ≤ 300) (hb0 : b ≤ 300)
    (c1 : ∀ w, Calls Try.prog 16 #[.int .i64 (n : Int), .int .i64 (a : Int), .int .i64 (y1 : Int)] w (fun e w' => e = .returned (.int .i64 (x : Int)) ∧ w = w'))
    (c2 : ∀ w, Calls Try.prog 16 #[.int .i64 (n : Int), .int .i64 (b : Int), .int .i64 (y2 : Int)] w (fun e w' => e = .returned (.int .i64 (y : Int)) ∧ w = w'))
    (c3 : ∀ w, Calls Try.prog 14 #[.int .i64 (im : Int)] w (fun e w' => e = .returned (.int .i64 (p : Int)) ∧ w = w')) (c4 : ∀ w, Calls Try.prog 14 #[.int .i64 (jm : Int)] w (fun e w' => e = .returned (.int .i64 (q : Int)) ∧ w = w'))
    (c5 : ∀ w, Calls Try.prog 18 #[.int .i64 (n : Int), .int .i64 (a : Int)] w (fun e w' => e = .returned (.int .i64 (u : Int)) ∧ w = w')) (c6 : ∀ w, Calls Try.prog 16 #[.int .i64 (n : Int), .int .i64 (a : Int), .int .i64 0] w (fun e w' => e = .returned (.int .i64 (u : Int)) ∧ w = w'))
    (c7 : ∀ w, Calls Try.prog 16 #[.int .i64 (n : Int), .int .i64 (k : Int), .int .i64 7] w (fun e w' => e = .returned (.int .i64 (l : Int)) ∧ w = w')) (c8 : ∀ w, Calls Try.prog 16 #[.int .i64 (n : Int), .int .i64 1, .int .i64 0] w (fun e w' => e = .returned (.int .i64 (n8 : Int)) ∧ w = w'))
    (cN : ∀ w, Calls Try.prog 9 #[.int .i64 (n : Int), .int .i64 (k : Int)] w (MemPost w n k sz F 0))
    (cR : ∀ (A : Option Addr) (w : World), Calls Try.prog 12 #[.agg #[.int .i64 (n : Int), .int .i64 (k : Int), .slice A sz sz]] w (Kept w (.bool true)))
    (q1 : ((x : Int) == (y : Int)) = sm) (q2 : ((a : Int) == (b : Int)) = true) (q3 : ((y1 : Int) == (y2 : Int)) = sm) (q4 : ((p : Int) == (q : Int)) = pq) (q5 : ((im : Int) == (jm : Int)) = pq) (q6 : ((p : Int) != (x : Int)) = true) (q7 : decide ((8 : Int) ≤ (p : Int)) = true) (q8 : 8 + (n : Int) = (n8 : Int)) (q8' : IntKind.i64.wrap (n8 : Int) = (n8 : Int)) (q9 : decide ((p : Int) < (n8 : Int)) = true) (q9' : decide (p < n8) = true) (q10 : decide ((n8 : Int) ≤ (x : Int)) = true) (q10' : decide (n8 ≤ x) = true)
    (q11 : decide ((x : Int) < (sz : Int)) = true) (q11' : decide (x < sz) = true) (q12 : (sz : Int) - 1 = (l : Int)) (q12' : IntKind.i64.wrap (l : Int) = (l : Int)) (w : World) :
    Calls Try.prog 4 #[.agg #[.int .u8 (t : Int), .int .u16 (c : Int), .int .u8 (i : Int), .int .u16 (r : Int), .int .u8 (f : Int), .int .u8 (j : Int), .int .u16 (s : Int), .int .u8 (g : Int)]] w fun e w' => e = .returned (.bool true) ∧ Below w.heap.size w w' := by
  go_enter Try.func4, Try.ntmps4
  simp only [List.append_eq, List.cons_append, List.nil_append]
  go_wp2_with fail
  refine (shown_any _).mono ?_
  rintro e w1 ⟨rfl, hb⟩
  have BB := Lib.hid (below_box hb)
  clear hb
  go_wp2_with fail
  refine (cN _).mono ?_
  rintro e w2 ⟨A2, rfl, ha2, hb2⟩
  obtain ⟨x2, hx2⟩ : ∃ x, w2.alloc (.cells #[.int .i64 (n : Int), .int .i64 (k : Int), .slice A2 sz sz] 24) = x := ⟨_, rfl⟩
  have hbx : Below w2.heap.size w2 x2 := by rw [← hx2]; exact al_below _ _
  have M2 : Hid (MemAt x2 w2.heap.size n k A2 sz sz F) := Lib.hid (by rw [← hx2]; exact MemAt.made w2 n k sz ha2)
  have BB2 := Lib.hid (BB.out.trans ((hb2.trans (hbx.mono hb2.size)).mono BB.out.size))
  clear ha2 hb2 hbx BB cN
  obtain ⟨hz, m0, m1, m2, _, _, _⟩ := M2.out.1.three
  go_wp2_with (first | (go_at_call 16; (with_reducible refine (c1 _).mono ?_); rintro e w' ⟨rfl, rfl⟩) | (go_at_call 16; (with_reducible refine (c2 _).mono ?_); rintro e w' ⟨rfl, rfl⟩) | (go_at_call 14; (with_reducible refine (c3 _).mono ?_); rintro e w' ⟨rfl, rfl⟩) | (go_at_call 14; (with_reducible refine (c4 _).mono ?_); rintro e w' ⟨rfl, rfl⟩))
  have rB0 : ∀ u : After x2, u.w.cell? ⟨w2.heap.size, 0, none⟩ = some (.int .i64 (n : Int)) := After.cells m0 rfl
  have rB1 : ∀ u : After x2, u.w.cell? ⟨w2.heap.size, 1, none⟩ = some (.int .i64 (k : Int)) := After.cells m1 rfl
  have rB2 : ∀ u : After x2, u.w.cell? ⟨w2.heap.size, 2, none⟩ = some (.slice A2 sz sz) := After.cells m2 rfl
  have wim : IntKind.i64.wrap (im : Int) = (im : Int) := by rw [IntKind.wrap_i64]; omega
  have wjm : IntKind.i64.wrap (jm : Int) = (jm : Int) := by rw [IntKind.wrap_i64]; omega
  clear hz m0 m1 m2 M2 hx2 c1 c2 c3 c4
  refine wp_region_after _ (by kernel_rfl) (by kernel_rfl) rfl (by kernel_rfl) ?_
  repeat (go_big_quiet_step ((first | (go_at_call 12; with_reducible exact after_kept (cR A2 _)) | (go_at_call 18; with_reducible exact after_same (c5 _)) | (go_at_call 16; with_reducible exact after_same (c6 _)) | (go_at_call 16; with_reducible exact after_same (c7 _)) | (go_at_call 16; with_reducible exact after_same (c8 _)))))
  refine wpQuiet_nil ?_
  intro w3 hw3
  obtain ⟨u3, hu3⟩ := hw3
  subst hu3
  go_wp2_with fail
  go_ret
  exact ⟨rfl, BB2.out.trans (Below.mono u3.below BB2.out.size)⟩

set_option maxRecDepth 100000 in
set_option maxHeartbeats 4000000 in
theorem walk2 (t c i r f j s g n k tq kc ra sa a b y1 y2 im jm x y p q u l n8 sz : Nat) (F : Nat → Nat) (sm pq : Bool) (ht : t < 256) (hc : c < 65536) (hi : i < 256) (hr : r < 65536) (hf : f < 256) (hj : j < 256) (hs : s < 65536) (hg : g < 256)
    (e1 : (t : Int) % 64 = (tq : Int)) (e1' : (t : Int).tmod 64 = (tq : Int)) (e2 : 1 + (tq : Int) = (n : Int)) (e3 : (c : Int) % 300 = (kc : Int)) (e3' : (c : Int).tmod 300 = (kc : Int)) (e4 : 1 + (kc : Int) = (k : Int)) (e5 : (r : Int) % (k : Int) = (ra : Int)) (e5' : (r : Int).tmod (k : Int) = (ra : Int)) (e6 : 1 + (ra : Int) = (a : Int)) (e7 : (s : Int) % (k : Int) = (sa : Int)) (e7' : (s : Int).tmod (k : Int) = (sa : Int)) (e8 : 1 + (sa : Int) = (b : Int))
    (e9 : (f : Int) % 8 = (y1 : Int)) (e9' : (f : Int).tmod 8 = (y1 : Int)) (e10 : (g : Int) % 8 = (y2 : Int)) (e10' : (g : Int).tmod 8 = (y2 : Int)) (e11 : (i : Int) % (n : Int) = (im : Int)) (e11' : (i : Int).tmod (n : Int) = (im : Int)) (e12 : (j : Int) % (n : Int) = (jm : Int)) (e12' : (j : Int).tmod (n : Int) = (jm : Int))
    (him : im < 256) (hjm : jm < 256) (hn0 : 0 < n) (hn : n ≤ 64) (hk0 : 0 < k) (hk : k ≤ 300) (hsz : sz ≤ 10000) (ha : a ≤ 300) (hb0 : b ≤ 300)
    (c1 : ∀ w, Calls Try.prog 16 #[.int .i64 (n : Int), .int .i64 (a : Int), .int .i64 (y1 : Int)] w (fun e w' => e = .returned (.int .i64 (x : Int)) ∧ w = w'))
    (c2 : ∀ w, Calls Try.prog 16 #[.int .i64 (n : Int), .int .i64 (b : Int), .int .i64 (y2 : Int)] w (fun e w' => e = .returned (.int .i64 (y : Int)) ∧ w = w'))
    (c3 : ∀ w, Calls Try.prog 14 #[.int .i64 (im : Int)] w (fun e w' => e = .returned (.int .i64 (p : Int)) ∧ w = w')) (c4 : ∀ w, Calls Try.prog 14 #[.int .i64 (jm : Int)] w (fun e w' => e = .returned (.int .i64 (q : Int)) ∧ w = w'))
    (c5 : ∀ w, Calls Try.prog 18 #[.int .i64 (n : Int), .int .i64 (a : Int)] w (fun e w' => e = .returned (.int .i64 (u : Int)) ∧ w = w')) (c6 : ∀ w, Calls Try.prog 16 #[.int .i64 (n : Int), .int .i64 (a : Int), .int .i64 0] w (fun e w' => e = .returned (.int .i64 (u : Int)) ∧ w = w'))
    (c7 : ∀ w, Calls Try.prog 16 #[.int .i64 (n : Int), .int .i64 (k : Int), .int .i64 7] w (fun e w' => e = .returned (.int .i64 (l : Int)) ∧ w = w')) (c8 : ∀ w, Calls Try.prog 16 #[.int .i64 (n : Int), .int .i64 1, .int .i64 0] w (fun e w' => e = .returned (.int .i64 (n8 : Int)) ∧ w = w'))
    (cN : ∀ w, Calls Try.prog 9 #[.int .i64 (n : Int), .int .i64 (k : Int)] w (MemPost w n k sz F 0))
    (cR : ∀ (A : Option Addr) (w : World), Calls Try.prog 12 #[.agg #[.int .i64 (n : Int), .int .i64 (k : Int), .slice A sz sz]] w (Kept w (.bool true)))
    (q1 : ((x : Int) == (y : Int)) = sm) (q2 : ((a : Int) == (b : Int)) = false) (q3 : sm = false) (q4 : ((p : Int) == (q : Int)) = pq) (q5 : ((im : Int) == (jm : Int)) = pq) (q6 : ((p : Int) != (x : Int)) = true) (q7 : decide ((8 : Int) ≤ (p : Int)) = true) (q8 : 8 + (n : Int) = (n8 : Int)) (q8' : IntKind.i64.wrap (n8 : Int) = (n8 : Int)) (q9 : decide ((p : Int) < (n8 : Int)) = true) (q9' : decide (p < n8) = true) (q10 : decide ((n8 : Int) ≤ (x : Int)) = true) (q10' : decide (n8 ≤ x) = true)
    (q11 : decide ((x : Int) < (sz : Int)) = true) (q11' : decide (x < sz) = true) (q12 : (sz : Int) - 1 = (l : Int)) (q12' : IntKind.i64.wrap (l : Int) = (l : Int)) (w : World) :
    Calls Try.prog 4 #[.agg #[.int .u8 (t : Int), .int .u16 (c : Int), .int .u8 (i : Int), .int .u16 (r : Int), .int .u8 (f : Int), .int .u8 (j : Int), .int .u16 (s : Int), .int .u8 (g : Int)]] w fun e w' => e = .returned (.bool true) ∧ Below w.heap.size w w' := by
  subst q3
  go_enter Try.func4, Try.ntmps4
  simp only [List.append_eq, List.cons_append, List.nil_append]
  go_wp2_with fail
  refine (shown_any _).mono ?_
  rintro e w1 ⟨rfl, hb⟩
  have BB := Lib.hid (below_box hb)
  clear hb
  go_wp2_with fail
  refine (cN _).mono ?_
  rintro e w2 ⟨A2, rfl, ha2, hb2⟩
  obtain ⟨x2, hx2⟩ : ∃ x, w2.alloc (.cells #[.int .i64 (n : Int), .int .i64 (k : Int), .slice A2 sz sz] 24) = x := ⟨_, rfl⟩
  have hbx : Below w2.heap.size w2 x2 := by rw [← hx2]; exact al_below _ _
  have M2 : Hid (MemAt x2 w2.heap.size n k A2 sz sz F) := Lib.hid (by rw [← hx2]; exact MemAt.made w2 n k sz ha2)
  have BB2 := Lib.hid (BB.out.trans ((hb2.trans (hbx.mono hb2.size)).mono BB.out.size))
  clear ha2 hb2 hbx BB cN
  obtain ⟨hz, m0, m1, m2, _, _, _⟩ := M2.out.1.three
  go_wp2_with (first | (go_at_call 16; (with_reducible refine (c1 _).mono ?_); rintro e w' ⟨rfl, rfl⟩) | (go_at_call 16; (with_reducible refine (c2 _).mono ?_); rintro e w' ⟨rfl, rfl⟩) | (go_at_call 14; (with_reducible refine (c3 _).mono ?_); rintro e w' ⟨rfl, rfl⟩) | (go_at_call 14; (with_reducible refine (c4 _).mono ?_); rintro e w' ⟨rfl, rfl⟩))
  have rB0 : ∀ u : After x2, u.w.cell? ⟨w2.heap.size, 0, none⟩ = some (.int .i64 (n : Int)) := After.cells m0 rfl
  have rB1 : ∀ u : After x2, u.w.cell? ⟨w2.heap.size, 1, none⟩ = some (.int .i64 (k : Int)) := After.cells m1 rfl
  have rB2 : ∀ u : After x2, u.w.cell? ⟨w2.heap.size, 2, none⟩ = some (.slice A2 sz sz) := After.cells m2 rfl
  have wim : IntKind.i64.wrap (im : Int) = (im : Int) := by rw [IntKind.wrap_i64]; omega
  have wjm : IntKind.i64.wrap (jm : Int) = (jm : Int) := by rw [IntKind.wrap_i64]; omega
  clear hz m0 m1 m2 M2 hx2 c1 c2 c3 c4
  refine wp_region_after _ (by kernel_rfl) (by kernel_rfl) rfl (by kernel_rfl) ?_
  repeat (go_big_quiet_step ((first | (go_at_call 12; with_reducible exact after_kept (cR A2 _)) | (go_at_call 18; with_reducible exact after_same (c5 _)) | (go_at_call 16; with_reducible exact after_same (c6 _)) | (go_at_call 16; with_reducible exact after_same (c7 _)) | (go_at_call 16; with_reducible exact after_same (c8 _)))))
  refine wpQuiet_nil ?_
  intro w3 hw3
  obtain ⟨u3, hu3⟩ := hw3
  subst hu3
  go_wp2_with fail
  go_ret
  exact ⟨rfl, BB2.out.trans (Below.mono u3.below BB2.out.size)⟩
section
variable {H : Type} {enc : TypeId × Value → H} {w : World}
theorem open_a {v : Value} {d : DataW H} {ps : List MemPlace} {base : Nat} (hval : Value.okWide Try.prog w .any base 41 v) (h : DataW.Trod enc Try.prog w 0 (fun _ => true) true 41 v d ps) (hs : Sized Try.prog 41 d) (hlt : ∀ z ∈ ps, z.block < w.heap.size) :
    ∃ (aT : Nat) (aC : Nat) (aI : Nat) (aR : Nat) (aF : Nat) (aJ : Nat) (aS : Nat) (aG : Nat), v = .agg #[.int .u8 (aT : Int), .int .u16 (aC : Int), .int .u8 (aI : Int), .int .u16 (aR : Int), .int .u8 (aF : Int), .int .u8 (aJ : Int), .int .u16 (aS : Int), .int .u8 (aG : Int)] ∧ aT < 256 ∧ aC < 65536 ∧ aI < 256 ∧ aR < 65536 ∧ aF < 256 ∧ aJ < 256 ∧ aS < 65536 ∧ aG < 256 := by
  obtain ⟨cs, rfl, hsz⟩ := okWide_struct Try.underlying41 hval
  obtain ⟨fuel, hf⟩ := h
  have hcs : (Value.agg cs).cells.toList = cs.toList := rfl
  rw [hcs] at hf
  have hcl : cs.toList.length = 8 := by rw [Array.length_toList, hsz]; kernel_rfl
  obtain ⟨c0, c1, c2, c3, c4, c5, c6, c7, hL⟩ : ∃ c0 c1 c2 c3 c4 c5 c6 c7, cs.toList = [c0, c1, c2, c3, c4, c5, c6, c7] := ⟨_, _, _, _, _, _, _, _, cells_of hcl .nilIface⟩
  rw [hL] at hf
  rw [list_agg hL]
  clear hcl hL hsz hcs
  obtain ⟨y0, n0, g0, s0, q0⟩ := field_at Try.underlying41 hf 0 _ rfl 5 0 1 [c0] rfl rfl (by kernel_rfl) rfl hs hlt
  obtain ⟨aT, e1, haT⟩ := leaf_u8 Try.underlying5 g0
  cases e1
  obtain ⟨y2, n2, g2, s2, q2⟩ := field_at Try.underlying41 hf 1 _ rfl 25 1 1 [c1] rfl rfl (by kernel_rfl) rfl hs hlt
  obtain ⟨aC, e3, haC⟩ := leaf_u16 Try.underlying25 g2
  cases e3
  obtain ⟨y4, n4, g4, s4, q4⟩ := field_at Try.underlying41 hf 2 _ rfl 5 2 1 [c2] rfl rfl (by kernel_rfl) rfl hs hlt
  obtain ⟨aI, e5, haI⟩ := leaf_u8 Try.underlying5 g4
  cases e5
  obtain ⟨y6, n6, g6, s6, q6⟩ := field_at Try.underlying41 hf 3 _ rfl 25 3 1 [c3] rfl rfl (by kernel_rfl) rfl hs hlt
  obtain ⟨aR, e7, haR⟩ := leaf_u16 Try.underlying25 g6
  cases e7
  obtain ⟨y8, n8, g8, s8, q8⟩ := field_at Try.underlying41 hf 4 _ rfl 5 4 1 [c4] rfl rfl (by kernel_rfl) rfl hs hlt
  obtain ⟨aF, e9, haF⟩ := leaf_u8 Try.underlying5 g8
  cases e9
  obtain ⟨y10, n10, g10, s10, q10⟩ := field_at Try.underlying41 hf 5 _ rfl 5 5 1 [c5] rfl rfl (by kernel_rfl) rfl hs hlt
  obtain ⟨aJ, e11, haJ⟩ := leaf_u8 Try.underlying5 g10
  cases e11
  obtain ⟨y12, n12, g12, s12, q12⟩ := field_at Try.underlying41 hf 6 _ rfl 25 6 1 [c6] rfl rfl (by kernel_rfl) rfl hs hlt
  obtain ⟨aS, e13, haS⟩ := leaf_u16 Try.underlying25 g12
  cases e13
  obtain ⟨y14, n14, g14, s14, q14⟩ := field_at Try.underlying41 hf 7 _ rfl 5 7 1 [c7] rfl rfl (by kernel_rfl) rfl hs hlt
  obtain ⟨aG, e15, haG⟩ := leaf_u8 Try.underlying5 g14
  cases e15
  exact ⟨aT, aC, aI, aR, aF, aJ, aS, aG, rfl, haT, haC, haI, haR, haF, haJ, haS, haG⟩
end

set_option maxRecDepth 100000 in
theorem lifted (os : Os) (started : os.Started) (H : Type) (enc : TypeId × Value → H) :
    ReturnsInHanded {} Try.checked os 4 .any (Rows.cellApartSpec.pre6 enc Try.prog Try.f4 Rows.cellApartRow.domain false) (Rows.cellApartSpec.post enc Try.prog Try.f4 false true false false) := by
  refine law_lifted (C := Try.checked) own started (by kernel_rfl) Try.func4
    (ChangeSpec.witness6 (enc := enc) (C := Try.checked) false ⟨#[], #[.agg #[.int .u8 0, .int .u16 0, .int .u8 0, .int .u16 0, .int .u8 0, .int .u8 0, .int .u16 0, .int .u8 0]], []⟩ 8 (by kernel_rfl) (by kernel_rfl) (by kernel_rfl) (by kernel_rfl))
    (by kernel_rfl) (by kernel_rfl) Try.underlying4 rfl (by kernel_rfl) ?_
  intro W base args ds before hval hA hwt hlt
  have hA' : DataW.TrodAll enc Try.prog W 0 (fun _ => true) true Try.f4.params.toList args.toList ds before := hA
  have hval' : ∀ (j : Nat) t v, Try.f4.params[j]? = some t → args[j]? = some v → Value.okWide Try.prog W .any base t v := hval
  have hwt' : (DataW.weightsEach Try.prog Try.f4.params.toList ds).all (· ≤ reachBytes) = true := hwt
  rw [Try.params4] at hA' hval' hwt'
  obtain ⟨v0, vs0, d0, ds0, p0, q0, hargs, rfl, rfl, k0, r0⟩ := trodAll_cons hA'
  obtain ⟨rfl, rfl, rfl⟩ := trodAll_nil r0
  obtain rfl : args = #[v0] := by cases args; simp_all
  obtain ⟨aT, aC, aI, aR, aF, aJ, aS, aG, rfl, haT, haC, haI, haR, haF, haJ, haS, haG⟩ := open_a (hval' 0 41 v0 rfl rfl) k0 (sized_of hwt' (j := 0) (t := 41) rfl rfl) (fun x hx => hlt x (by simp [hx]))
  refine ⟨rfl, ?_⟩
  obtain ⟨tq, htq⟩ : ∃ q, aT % 64 = q := ⟨_, rfl⟩
  obtain ⟨kc, hkc⟩ : ∃ q, aC % 300 = q := ⟨_, rfl⟩
  obtain ⟨ra, hra⟩ : ∃ q, aR % (kc + 1) = q := ⟨_, rfl⟩
  obtain ⟨sa, hsa⟩ : ∃ q, aS % (kc + 1) = q := ⟨_, rfl⟩
  obtain ⟨y1, hy1⟩ : ∃ q, aF % 8 = q := ⟨_, rfl⟩
  obtain ⟨y2, hy2⟩ : ∃ q, aG % 8 = q := ⟨_, rfl⟩
  obtain ⟨im, him⟩ : ∃ q, aI % (tq + 1) = q := ⟨_, rfl⟩
  obtain ⟨jm, hjm⟩ : ∃ q, aJ % (tq + 1) = q := ⟨_, rfl⟩
  have hra2 : ra < kc + 1 := by rw [← hra]; exact Nat.mod_lt _ (by omega)
  have hsa2 : sa < kc + 1 := by rw [← hsa]; exact Nat.mod_lt _ (by omega)
  have him2 : im < tq + 1 := by rw [← him]; exact Nat.mod_lt _ (by omega)
  have hjm2 : jm < tq + 1 := by rw [← hjm]; exact Nat.mod_lt _ (by omega)
  have m5 : (aR : Int) % ((kc + 1 : Nat) : Int) = (ra : Int) := by rw [← hra]; rfl
  have m7 : (aS : Int) % ((kc + 1 : Nat) : Int) = (sa : Int) := by rw [← hsa]; rfl
  have m11 : (aI : Int) % ((tq + 1 : Nat) : Int) = (im : Int) := by rw [← him]; rfl
  have m12 : (aJ : Int) % ((tq + 1 : Nat) : Int) = (jm : Int) := by rw [← hjm]; rfl
  clear hra hsa him hjm
  have hin : fieldN (tq + 1) (ra + 1) y1 < sizeN (tq + 1) (kc + 1) := by unfold fieldN sizeN; omega
  have hl : ((sizeN (tq + 1) (kc + 1) : Nat) : Int) - 1 = ((fieldN (tq + 1) (kc + 1) 7 : Nat) : Int) := by unfold fieldN sizeN; omega
  have hszz : sizeN (tq + 1) (kc + 1) ≤ 10000 := by unfold sizeN; omega
  have qpq : (((pinN im : Nat) : Int) == ((pinN jm : Nat) : Int)) = ((im : Int) == (jm : Int)) := by
    rw [Bool.eq_iff_iff, beq_iff_eq, beq_iff_eq]
    unfold pinN; omega
  have q6 : (((pinN im : Nat) : Int) != ((fieldN (tq + 1) (ra + 1) y1 : Nat) : Int)) = true := by rw [bne_iff_ne]; unfold pinN fieldN; omega
  have c6 : ∀ w, Calls Try.prog 16 #[.int .i64 ((tq + 1 : Nat) : Int), .int .i64 ((ra + 1 : Nat) : Int), .int .i64 0] w (fun e w' => e = .returned (.int .i64 ((nextN (tq + 1) (ra + 1) : Nat) : Int)) ∧ w = w') := fun w => by
    have h := field_any (tq + 1) (ra + 1) 0 (by omega) (by omega) (by omega) (by decide) w
    rw [show fieldN (tq + 1) (ra + 1) 0 = nextN (tq + 1) (ra + 1) by unfold nextN; rw [if_neg (by omega)]] at h
    exact h
  have c7 : ∀ w, Calls Try.prog 16 #[.int .i64 ((tq + 1 : Nat) : Int), .int .i64 ((kc + 1 : Nat) : Int), .int .i64 7] w (fun e w' => e = .returned (.int .i64 ((fieldN (tq + 1) (kc + 1) 7 : Nat) : Int)) ∧ w = w') := fun w =>
    field_any (tq + 1) (kc + 1) 7 (by omega) (by omega) (by omega) (by decide) w
  have c8 : ∀ w, Calls Try.prog 16 #[.int .i64 ((tq + 1 : Nat) : Int), .int .i64 1, .int .i64 0] w (fun e w' => e = .returned (.int .i64 ((8 + (tq + 1) : Nat) : Int)) ∧ w = w') := fun w =>
    field_any (tq + 1) 1 0 (by omega) (by omega) (by omega) (by decide) w
  have cR : ∀ (A : Option Addr) (w : World), Calls Try.prog 12 #[.agg #[.int .i64 ((tq + 1 : Nat) : Int), .int .i64 ((kc + 1 : Nat) : Int), .slice A (sizeN (tq + 1) (kc + 1)) (sizeN (tq + 1) (kc + 1))]] w (Kept w (.bool true)) := fun A w => by
    have h := right_memory ((tq + 1 : Nat) : Int) ((kc + 1 : Nat) : Int) A (sizeN (tq + 1) (kc + 1)) (sizeN (tq + 1) (kc + 1)) w
    rw [rightM_yes (by omega) (by omega) (by omega)] at h
    exact h
  have hinj := field_inj (tq + 1) (ra + 1) (sa + 1) y1 y2 (by omega) (by omega) (by omega) (by omega)
  by_cases hab : ra + 1 = sa + 1
  · exact walk1 aT aC aI aR aF aJ aS aG (tq + 1) (kc + 1) tq kc ra sa (ra + 1) (sa + 1) y1 y2 im jm (fieldN (tq + 1) (ra + 1) y1) (fieldN (tq + 1) (sa + 1) y2) (pinN im) (pinN jm) (nextN (tq + 1) (ra + 1)) (fieldN (tq + 1) (kc + 1) 7) (8 + (tq + 1)) (sizeN (tq + 1) (kc + 1)) (newF (tq + 1) (kc + 1)) ((((fieldN (tq + 1) (ra + 1) y1 : Nat) : Int)) == ((fieldN (tq + 1) (sa + 1) y2 : Nat) : Int)) ((im : Int) == (jm : Int)) haT haC haI haR haF haJ haS haG (by omega) (by rw [Int.tmod_eq_emod_of_nonneg (by omega)]; omega) (by omega) (by omega) (by rw [Int.tmod_eq_emod_of_nonneg (by omega)]; omega) (by omega) m5 (by rw [Int.tmod_eq_emod_of_nonneg (by omega)]; exact m5) (by omega) m7 (by rw [Int.tmod_eq_emod_of_nonneg (by omega)]; exact m7) (by omega) (by omega) (by rw [Int.tmod_eq_emod_of_nonneg (by omega)]; omega) (by omega) (by rw [Int.tmod_eq_emod_of_nonneg (by omega)]; omega) m11 (by rw [Int.tmod_eq_emod_of_nonneg (by omega)]; exact m11) m12 (by rw [Int.tmod_eq_emod_of_nonneg (by omega)]; exact m12) (by omega) (by omega) (by omega) (by omega) (by omega) (by omega) (by unfold sizeN; omega) (by omega) (by omega) (fun w => field_any _ _ _ (by omega) (by omega) (by omega) (by omega) w) (fun w => field_any _ _ _ (by omega) (by omega) (by omega) (by omega) w) (fun w => pin_at _ (by omega) w) (fun w => pin_at _ (by omega) w) (fun w => next_any _ _ (by omega) (by omega) w) c6 c7 c8 (fun w => (new_yes (tq + 1) (kc + 1) (by omega) (by omega) (by omega) w).mono fun e w' ⟨g, he, _, hr, hb⟩ => ⟨_, he, hr.at_, hb⟩) cR rfl (by rw [beq_iff_eq]; omega) (by rw [Bool.eq_iff_iff, beq_iff_eq, beq_iff_eq]; omega) qpq rfl q6 (by rw [decide_eq_true_iff]; unfold pinN; omega) (by omega) (by rw [IntKind.wrap_i64]; omega) (by rw [decide_eq_true_iff]; unfold pinN; omega) (by rw [decide_eq_true_iff]; unfold pinN; omega) (by rw [decide_eq_true_iff]; unfold fieldN; omega) (by rw [decide_eq_true_iff]; unfold fieldN; omega) (by rw [decide_eq_true_iff]; omega) (by rw [decide_eq_true_iff]; exact hin) hl (by rw [IntKind.wrap_i64]; omega) W
  · exact walk2 aT aC aI aR aF aJ aS aG (tq + 1) (kc + 1) tq kc ra sa (ra + 1) (sa + 1) y1 y2 im jm (fieldN (tq + 1) (ra + 1) y1) (fieldN (tq + 1) (sa + 1) y2) (pinN im) (pinN jm) (nextN (tq + 1) (ra + 1)) (fieldN (tq + 1) (kc + 1) 7) (8 + (tq + 1)) (sizeN (tq + 1) (kc + 1)) (newF (tq + 1) (kc + 1)) ((((fieldN (tq + 1) (ra + 1) y1 : Nat) : Int)) == ((fieldN (tq + 1) (sa + 1) y2 : Nat) : Int)) ((im : Int) == (jm : Int)) haT haC haI haR haF haJ haS haG (by omega) (by rw [Int.tmod_eq_emod_of_nonneg (by omega)]; omega) (by omega) (by omega) (by rw [Int.tmod_eq_emod_of_nonneg (by omega)]; omega) (by omega) m5 (by rw [Int.tmod_eq_emod_of_nonneg (by omega)]; exact m5) (by omega) m7 (by rw [Int.tmod_eq_emod_of_nonneg (by omega)]; exact m7) (by omega) (by omega) (by rw [Int.tmod_eq_emod_of_nonneg (by omega)]; omega) (by omega) (by rw [Int.tmod_eq_emod_of_nonneg (by omega)]; omega) m11 (by rw [Int.tmod_eq_emod_of_nonneg (by omega)]; exact m11) m12 (by rw [Int.tmod_eq_emod_of_nonneg (by omega)]; exact m12) (by omega) (by omega) (by omega) (by omega) (by omega) (by omega) (by unfold sizeN; omega) (by omega) (by omega) (fun w => field_any _ _ _ (by omega) (by omega) (by omega) (by omega) w) (fun w => field_any _ _ _ (by omega) (by omega) (by omega) (by omega) w) (fun w => pin_at _ (by omega) w) (fun w => pin_at _ (by omega) w) (fun w => next_any _ _ (by omega) (by omega) w) c6 c7 c8 (fun w => (new_yes (tq + 1) (kc + 1) (by omega) (by omega) (by omega) w).mono fun e w' ⟨g, he, _, hr, hb⟩ => ⟨_, he, hr.at_, hb⟩) cR rfl (by rw [beq_eq_false_iff_ne]; omega) (by rw [beq_eq_false_iff_ne]; omega) qpq rfl q6 (by rw [decide_eq_true_iff]; unfold pinN; omega) (by omega) (by rw [IntKind.wrap_i64]; omega) (by rw [decide_eq_true_iff]; unfold pinN; omega) (by rw [decide_eq_true_iff]; unfold pinN; omega) (by rw [decide_eq_true_iff]; unfold fieldN; omega) (by rw [decide_eq_true_iff]; unfold fieldN; omega) (by rw [decide_eq_true_iff]; omega) (by rw [decide_eq_true_iff]; exact hin) hl (by rw [IntKind.wrap_i64]; omega) W

theorem over : Rows.cellApartRow.holds Try.pinned (OpenSpec.ofChange Rows.cellApartSpec) :=
  OpenClaim.holds_of_wide 4 Try.f4 rfl rfl rfl rfl rfl rfl rfl ⟨rfl, rfl, rfl, rfl, rfl⟩ rfl rfl rfl rfl rfl (by kernel_rfl) Try.func4 (by kernel_rfl)
    (of_decide_eq_true (by kernel_rfl)) (by unfold Func.isWrapper; first | (rw [if_pos (by decide +kernel)]; kernel_rfl) | (rw [if_neg (by decide +kernel)]; exact ⟨rfl, rfl⟩))
    (fun os started H enc _ => lifted os started H enc)

/-- The statement. -/
theorem proved : Rows.CellApartSaid :=
  over
#print axioms proved
end Go.Proofs.Ytjjkdebdikkceaa.cellApart
