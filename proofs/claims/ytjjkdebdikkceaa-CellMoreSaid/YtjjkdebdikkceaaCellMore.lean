/-
  CellMore: for every numbers of threads and records, record and field, with one record more a memory has eight words more, and all places of the others stay; with one thread more the words of each record are one place on. No condition.
-/
import Derived.Test.YtjjkdebdikkceaaCllSame
import Derived.Test.YtjjkdebdikkceaaLaw
import Derived.Test.YtjjkdebdikkceaaFields
namespace Go.Proofs.Ytjjkdebdikkceaa.cellMore
open Go.ChangeShapes Go.WideShapes Go.ChangeAt Go.RowKit Go.Deep Go.BigFrame
set_option linter.unusedVariables false
theorem own : ownKnob Try.prog.godebug = none := by kernel_rfl

theorem more_field (n x y : Nat) : fieldN n x y + 1 = fieldN (n + 1) x y := by unfold fieldN; omega
theorem more_in (n k x y : Nat) (h1 : 1 ≤ x) (h2 : x ≤ k) (hy : y < 8) : fieldN n x y < sizeN n k := by unfold fieldN sizeN; omega
theorem new_at (n k x y : Nat) (h1 : 1 ≤ n) (hx : 1 ≤ x) (hy : y < 8) : newF n k (fieldN n x y) = if y = 7 ∧ x < k then x + 1 else 0 := by
  unfold newF fieldN
  rw [if_neg (by omega), if_neg (by omega)]
  have e1 : (8 + n + 8 * (x - 1) + y - (8 + n)) % 8 = y := by omega
  have e2 : (8 + n + 8 * (x - 1) + y - (8 + n)) / 8 = x - 1 := by omega
  rw [e1, e2, show x - 1 + 1 = x by omega, show x - 1 + 2 = x + 1 by omega]

set_option maxRecDepth 100000 in
set_option maxHeartbeats 4000000 in
theorem walk1 (t c r v n n1 k k1 q kc rk x y p p1 z sa sb sd z0 : Nat) (fa fb fd : Nat → Nat) (ht : t < 256) (hc : c < 65536) (hr : r < 65536) (hv : v < 256)
    (e1 : (t : Int) % 63 = (q : Int)) (e1' : (t : Int).tmod 63 = (q : Int)) (e2 : 1 + (q : Int) = (n : Int)) (e2' : (n : Int) + 1 = (n1 : Int)) (e3 : (c : Int) % 300 = (kc : Int)) (e3' : (c : Int).tmod 300 = (kc : Int)) (e4 : 1 + (kc : Int) = (k : Int)) (e4' : (k : Int) + 1 = (k1 : Int))
    (e5 : (r : Int) % (k : Int) = (rk : Int)) (e5' : (r : Int).tmod (k : Int) = (rk : Int)) (e6 : 1 + (rk : Int) = (x : Int)) (e7 : (v : Int) % 8 = (y : Int)) (e7' : (v : Int).tmod 8 = (y : Int)) (hn : n ≤ 63) (hk0 : 0 < k) (hk : k ≤ 300) (hx : x ≤ 300)
    (s1 : (sa : Int) + 8 = (sb : Int)) (s2 : (sa : Int) + 1 = (sd : Int)) (hp : p < sa) (hp1 : (p : Int) + 1 = (p1 : Int)) (hz : z < sa) (hsa : sa ≤ 100000) (w : World)
    (cA : ∀ w, Calls Try.prog 9 #[.int .i64 (n : Int), .int .i64 (k : Int)] w (MemPost w n k sa fa 0))
    (cB : ∀ w, Calls Try.prog 9 #[.int .i64 (n : Int), .int .i64 (k1 : Int)] w (MemPost w n k1 sb fb 0))
    (cD : ∀ w, Calls Try.prog 9 #[.int .i64 (n1 : Int), .int .i64 (k : Int)] w (MemPost w n1 k sd fd 0))
    (g1 : fd p1 = z0) (g2 : fa p = z0) (g4 : fa z = 0) (g5 : fb z = k1)
    (c1 : ∀ w, Calls Try.prog 16 #[.int .i64 (n : Int), .int .i64 (x : Int), .int .i64 (y : Int)] w (fun e w' => e = .returned (.int .i64 (p : Int)) ∧ w = w'))
    (c2 : ∀ w, Calls Try.prog 16 #[.int .i64 (n1 : Int), .int .i64 (x : Int), .int .i64 (y : Int)] w (fun e w' => e = .returned (.int .i64 (p1 : Int)) ∧ w = w'))
    (c3 : ∀ w, Calls Try.prog 16 #[.int .i64 (n : Int), .int .i64 (k : Int), .int .i64 7] w (fun e w' => e = .returned (.int .i64 (z : Int)) ∧ w = w'))
    (h7 : ((y : Int) == 7) = true) (h8 : ((x : Int) == (k : Int)) = true) :
    Calls Try.prog 6 #[.agg #[.int .u8 (t : Int), .int .u16 (c : Int), .int .u16 (r : Int), .int .u8 (v : Int)]] w fun e w' => e = .returned (.bool true) ∧ Below w.heap.size w w' := by
  go_enter Try.func6, Try.ntmps6
  go_wp2_with fail
  refine (shown_any _).mono ?_
  rintro e w1 ⟨rfl, hb⟩
  have BB := Lib.hid (below_box hb)
  clear hb
  go_wp2_with fail
  refine (cA _).mono ?_
  rintro e w2 ⟨A2, rfl, ha, hb⟩
  obtain ⟨x2, hx2⟩ : ∃ x, w2.alloc (.cells #[.int .i64 (n : Int), .int .i64 (k : Int), .slice A2 sa sa] 24) = x := ⟨_, rfl⟩
  have hbx : Below w2.heap.size w2 x2 := by rw [← hx2]; exact al_below _ _
  have hbn := hb.trans (hbx.mono hb.size)
  have M2 : Hid (MemAt x2 w2.heap.size n k A2 sa sa fa) := Lib.hid (by rw [← hx2]; exact MemAt.made w2 n k sa ha)
  have BBn := Lib.hid (BB.out.trans (hbn.mono BB.out.size)); clear BB; have BB := BBn; clear BBn
  clear ha hb hbx hbn
  go_wp2_with fail
  refine (cB _).mono ?_
  rintro e w3 ⟨A3, rfl, ha, hb⟩
  obtain ⟨x3, hx3⟩ : ∃ x, w3.alloc (.cells #[.int .i64 (n : Int), .int .i64 (k1 : Int), .slice A3 sb sb] 24) = x := ⟨_, rfl⟩
  have hbx : Below w3.heap.size w3 x3 := by rw [← hx3]; exact al_below _ _
  have hbn := hb.trans (hbx.mono hb.size)
  have M3 : Hid (MemAt x3 w3.heap.size n k1 A3 sb sb fb) := Lib.hid (by rw [← hx3]; exact MemAt.made w3 n k1 sb ha)
  have M2n := Lib.hid (M2.out.later hbn); clear M2; have M2 := M2n; clear M2n
  have BBn := Lib.hid (BB.out.trans (hbn.mono BB.out.size)); clear BB; have BB := BBn; clear BBn
  clear ha hb hbx hbn
  go_wp2_with fail
  refine (cD _).mono ?_
  rintro e w4 ⟨A4, rfl, ha, hb⟩
  obtain ⟨x4, hx4⟩ : ∃ x, w4.alloc (.cells #[.int .i64 (n1 : Int), .int .i64 (k : Int), .slice A4 sd sd] 24) = x := ⟨_, rfl⟩
  have hbx : Below w4.heap.size w4 x4 := by rw [← hx4]; exact al_below _ _
  have hbn := hb.trans (hbx.mono hb.size)
  have M4 : Hid (MemAt x4 w4.heap.size n1 k A4 sd sd fd) := Lib.hid (by rw [← hx4]; exact MemAt.made w4 n1 k sd ha)
  have M2n := Lib.hid (M2.out.later hbn); clear M2; have M2 := M2n; clear M2n
  have M3n := Lib.hid (M3.out.later hbn); clear M3; have M3 := M3n; clear M3n
  have BBn := Lib.hid (BB.out.trans (hbn.mono BB.out.size)); clear BB; have BB := BBn; clear BBn
  clear ha hb hbx hbn
  clear cA cB cD
  obtain ⟨hz2, a0, a1, a2, _, _, _⟩ := M2.out.1.three
  obtain ⟨hz3, b0, b1, b2, _, _, _⟩ := M3.out.1.three
  obtain ⟨hz4, d0, d1, d2, _, _, _⟩ := M4.out.1.three
  obtain ⟨ba, oa, rfl, ha, hca⟩ := M2.out.2.2 (by omega)
  obtain ⟨bb, ob, rfl, hb, hcb⟩ := M3.out.2.2 (by omega)
  obtain ⟨bd, od, rfl, hd, hcd⟩ := M4.out.2.2 (by omega)
  have ya := hca p hp
  have yb := hcb p (by omega)
  have yd := hcd p1 (by omega)
  have za := hca z hz
  have zb := hcb z (by omega)
  rw [g2] at ya
  rw [g1] at yd
  rw [g4] at za
  rw [g5] at zb
  skip
  clear hca hcb hcd ha hb hd g1 g2 g4 g5
  have i1 : (p : Int) < (sa : Int) := by omega
  have i2 : (p : Int) < (sb : Int) := by omega
  have i3 : (p1 : Int) < (sd : Int) := by omega
  have i4 : (z : Int) < (sa : Int) := by omega
  have i5 : (z : Int) < (sb : Int) := by omega
  have j1 : (0 : Int) ≤ (p : Int) := by omega
  have j2 : (0 : Int) ≤ (p1 : Int) := by omega
  have j3 : (0 : Int) ≤ (z : Int) := by omega
  have l1 : decide ((p : Int) < 0) = false := decide_eq_false (by omega)
  have l2 : decide ((z : Int) < 0) = false := decide_eq_false (by omega)
  have u1 : IntKind.i64.wrap (k1 : Int) = (k1 : Int) := by rw [IntKind.wrap_i64]; omega
  have u2 : IntKind.u64.wrap (k1 : Int) = (k1 : Int) := by rw [IntKind.wrap_u64]; omega
  go_wp2_with (first | (go_at_call 16; (with_reducible refine (c1 _).mono ?_); rintro e w' ⟨rfl, rfl⟩) | (go_at_call 16; (with_reducible refine (c2 _).mono ?_); rintro e w' ⟨rfl, rfl⟩) | (go_at_call 16; (with_reducible refine (c3 _).mono ?_); rintro e w' ⟨rfl, rfl⟩))
  go_quiet (fail)
  go_wp2_with fail
  go_ret
  exact ⟨rfl, below_draw BB.out _⟩

set_option maxRecDepth 100000 in
set_option maxHeartbeats 4000000 in
theorem walk2 (t c r v n n1 k k1 q kc rk x y p p1 z sa sb sd z0 : Nat) (fa fb fd : Nat → Nat) (ht : t < 256) (hc : c < 65536) (hr : r < 65536) (hv : v < 256)
    (e1 : (t : Int) % 63 = (q : Int)) (e1' : (t : Int).tmod 63 = (q : Int)) (e2 : 1 + (q : Int) = (n : Int)) (e2' : (n : Int) + 1 = (n1 : Int)) (e3 : (c : Int) % 300 = (kc : Int)) (e3' : (c : Int).tmod 300 = (kc : Int)) (e4 : 1 + (kc : Int) = (k : Int)) (e4' : (k : Int) + 1 = (k1 : Int))
    (e5 : (r : Int) % (k : Int) = (rk : Int)) (e5' : (r : Int).tmod (k : Int) = (rk : Int)) (e6 : 1 + (rk : Int) = (x : Int)) (e7 : (v : Int) % 8 = (y : Int)) (e7' : (v : Int).tmod 8 = (y : Int)) (hn : n ≤ 63) (hk0 : 0 < k) (hk : k ≤ 300) (hx : x ≤ 300)
    (s1 : (sa : Int) + 8 = (sb : Int)) (s2 : (sa : Int) + 1 = (sd : Int)) (hp : p < sa) (hp1 : (p : Int) + 1 = (p1 : Int)) (hz : z < sa) (hsa : sa ≤ 100000) (w : World)
    (cA : ∀ w, Calls Try.prog 9 #[.int .i64 (n : Int), .int .i64 (k : Int)] w (MemPost w n k sa fa 0))
    (cB : ∀ w, Calls Try.prog 9 #[.int .i64 (n : Int), .int .i64 (k1 : Int)] w (MemPost w n k1 sb fb 0))
    (cD : ∀ w, Calls Try.prog 9 #[.int .i64 (n1 : Int), .int .i64 (k : Int)] w (MemPost w n1 k sd fd 0))
    (g1 : fd p1 = z0) (g2 : fa p = z0) (g4 : fa z = 0) (g5 : fb z = k1)
    (c1 : ∀ w, Calls Try.prog 16 #[.int .i64 (n : Int), .int .i64 (x : Int), .int .i64 (y : Int)] w (fun e w' => e = .returned (.int .i64 (p : Int)) ∧ w = w'))
    (c2 : ∀ w, Calls Try.prog 16 #[.int .i64 (n1 : Int), .int .i64 (x : Int), .int .i64 (y : Int)] w (fun e w' => e = .returned (.int .i64 (p1 : Int)) ∧ w = w'))
    (c3 : ∀ w, Calls Try.prog 16 #[.int .i64 (n : Int), .int .i64 (k : Int), .int .i64 7] w (fun e w' => e = .returned (.int .i64 (z : Int)) ∧ w = w'))
    (h7 : ((y : Int) == 7) = true) (h8 : ((x : Int) == (k : Int)) = false) (g3 : fb p = z0) :
    Calls Try.prog 6 #[.agg #[.int .u8 (t : Int), .int .u16 (c : Int), .int .u16 (r : Int), .int .u8 (v : Int)]] w fun e w' => e = .returned (.bool true) ∧ Below w.heap.size w w' := by
  go_enter Try.func6, Try.ntmps6
  go_wp2_with fail
  refine (shown_any _).mono ?_
  rintro e w1 ⟨rfl, hb⟩
  have BB := Lib.hid (below_box hb)
  clear hb
  go_wp2_with fail
  refine (cA _).mono ?_
  rintro e w2 ⟨A2, rfl, ha, hb⟩
  obtain ⟨x2, hx2⟩ : ∃ x, w2.alloc (.cells #[.int .i64 (n : Int), .int .i64 (k : Int), .slice A2 sa sa] 24) = x := ⟨_, rfl⟩
  have hbx : Below w2.heap.size w2 x2 := by rw [← hx2]; exact al_below _ _
  have hbn := hb.trans (hbx.mono hb.size)
  have M2 : Hid (MemAt x2 w2.heap.size n k A2 sa sa fa) := Lib.hid (by rw [← hx2]; exact MemAt.made w2 n k sa ha)
  have BBn := Lib.hid (BB.out.trans (hbn.mono BB.out.size)); clear BB; have BB := BBn; clear BBn
  clear ha hb hbx hbn
  go_wp2_with fail
  refine (cB _).mono ?_
  rintro e w3 ⟨A3, rfl, ha, hb⟩
  obtain ⟨x3, hx3⟩ : ∃ x, w3.alloc (.cells #[.int .i64 (n : Int), .int .i64 (k1 : Int), .slice A3 sb sb] 24) = x := ⟨_, rfl⟩
  have hbx : Below w3.heap.size w3 x3 := by rw [← hx3]; exact al_below _ _
  have hbn := hb.trans (hbx.mono hb.size)
  have M3 : Hid (MemAt x3 w3.heap.size n k1 A3 sb sb fb) := Lib.hid (by rw [← hx3]; exact MemAt.made w3 n k1 sb ha)
  have M2n := Lib.hid (M2.out.later hbn); clear M2; have M2 := M2n; clear M2n
  have BBn := Lib.hid (BB.out.trans (hbn.mono BB.out.size)); clear BB; have BB := BBn; clear BBn
  clear ha hb hbx hbn
  go_wp2_with fail
  refine (cD _).mono ?_
  rintro e w4 ⟨A4, rfl, ha, hb⟩
  obtain ⟨x4, hx4⟩ : ∃ x, w4.alloc (.cells #[.int .i64 (n1 : Int), .int .i64 (k : Int), .slice A4 sd sd] 24) = x := ⟨_, rfl⟩
  have hbx : Below w4.heap.size w4 x4 := by rw [← hx4]; exact al_below _ _
  have hbn := hb.trans (hbx.mono hb.size)
  have M4 : Hid (MemAt x4 w4.heap.size n1 k A4 sd sd fd) := Lib.hid (by rw [← hx4]; exact MemAt.made w4 n1 k sd ha)
  have M2n := Lib.hid (M2.out.later hbn); clear M2; have M2 := M2n; clear M2n
  have M3n := Lib.hid (M3.out.later hbn); clear M3; have M3 := M3n; clear M3n
  have BBn := Lib.hid (BB.out.trans (hbn.mono BB.out.size)); clear BB; have BB := BBn; clear BBn
  clear ha hb hbx hbn
  clear cA cB cD
  obtain ⟨hz2, a0, a1, a2, _, _, _⟩ := M2.out.1.three
  obtain ⟨hz3, b0, b1, b2, _, _, _⟩ := M3.out.1.three
  obtain ⟨hz4, d0, d1, d2, _, _, _⟩ := M4.out.1.three
  obtain ⟨ba, oa, rfl, ha, hca⟩ := M2.out.2.2 (by omega)
  obtain ⟨bb, ob, rfl, hb, hcb⟩ := M3.out.2.2 (by omega)
  obtain ⟨bd, od, rfl, hd, hcd⟩ := M4.out.2.2 (by omega)
  have ya := hca p hp
  have yb := hcb p (by omega)
  have yd := hcd p1 (by omega)
  have za := hca z hz
  have zb := hcb z (by omega)
  rw [g2] at ya
  rw [g1] at yd
  rw [g4] at za
  rw [g5] at zb
  (rw [g3] at yb; clear g3)
  clear hca hcb hcd ha hb hd g1 g2 g4 g5
  have i1 : (p : Int) < (sa : Int) := by omega
  have i2 : (p : Int) < (sb : Int) := by omega
  have i3 : (p1 : Int) < (sd : Int) := by omega
  have i4 : (z : Int) < (sa : Int) := by omega
  have i5 : (z : Int) < (sb : Int) := by omega
  have j1 : (0 : Int) ≤ (p : Int) := by omega
  have j2 : (0 : Int) ≤ (p1 : Int) := by omega
  have j3 : (0 : Int) ≤ (z : Int) := by omega
  have l1 : decide ((p : Int) < 0) = false := decide_eq_false (by omega)
  have l2 : decide ((z : Int) < 0) = false := decide_eq_false (by omega)
  have u1 : IntKind.i64.wrap (k1 : Int) = (k1 : Int) := by rw [IntKind.wrap_i64]; omega
  have u2 : IntKind.u64.wrap (k1 : Int) = (k1 : Int) := by rw [IntKind.wrap_u64]; omega
  go_wp2_with (first | (go_at_call 16; (with_reducible refine (c1 _).mono ?_); rintro e w' ⟨rfl, rfl⟩) | (go_at_call 16; (with_reducible refine (c2 _).mono ?_); rintro e w' ⟨rfl, rfl⟩) | (go_at_call 16; (with_reducible refine (c3 _).mono ?_); rintro e w' ⟨rfl, rfl⟩))
  go_quiet (fail)
  go_wp2_with fail
  go_ret
  exact ⟨rfl, below_draw BB.out _⟩

set_option maxRecDepth 100000 in
set_option maxHeartbeats 4000000 in
theorem walk3 (t c r v n n1 k k1 q kc rk x y p p1 z sa sb sd z0 : Nat) (fa fb fd : Nat → Nat) (ht : t < 256) (hc : c < 65536) (hr : r < 65536) (hv : v < 256)
    (e1 : (t : Int) % 63 = (q : Int)) (e1' : (t : Int).tmod 63 = (q : Int)) (e2 : 1 + (q : Int) = (n : Int)) (e2' : (n : Int) + 1 = (n1 : Int)) (e3 : (c : Int) % 300 = (kc : Int)) (e3' : (c : Int).tmod 300 = (kc : Int)) (e4 : 1 + (kc : Int) = (k : Int)) (e4' : (k : Int) + 1 = (k1 : Int))
    (e5 : (r : Int) % (k : Int) = (rk : Int)) (e5' : (r : Int).tmod (k : Int) = (rk : Int)) (e6 : 1 + (rk : Int) = (x : Int)) (e7 : (v : Int) % 8 = (y : Int)) (e7' : (v : Int).tmod 8 = (y : Int)) (hn : n ≤ 63) (hk0 : 0 < k) (hk : k ≤ 300) (hx : x ≤ 300)
    (s1 : (sa : Int) + 8 = (sb : Int)) (s2 : (sa : Int) + 1 = (sd : Int)) (hp : p < sa) (hp1 : (p : Int) + 1 = (p1 : Int)) (hz : z < sa) (hsa : sa ≤ 100000) (w : World)
    (cA : ∀ w, Calls Try.prog 9 #[.int .i64 (n : Int), .int .i64 (k : Int)] w (MemPost w n k sa fa 0))
    (cB : ∀ w, Calls Try.prog 9 #[.int .i64 (n : Int), .int .i64 (k1 : Int)] w (MemPost w n k1 sb fb 0))
    (cD : ∀ w, Calls Try.prog 9 #[.int .i64 (n1 : Int), .int .i64 (k : Int)] w (MemPost w n1 k sd fd 0))
    (g1 : fd p1 = z0) (g2 : fa p = z0) (g4 : fa z = 0) (g5 : fb z = k1)
    (c1 : ∀ w, Calls Try.prog 16 #[.int .i64 (n : Int), .int .i64 (x : Int), .int .i64 (y : Int)] w (fun e w' => e = .returned (.int .i64 (p : Int)) ∧ w = w'))
    (c2 : ∀ w, Calls Try.prog 16 #[.int .i64 (n1 : Int), .int .i64 (x : Int), .int .i64 (y : Int)] w (fun e w' => e = .returned (.int .i64 (p1 : Int)) ∧ w = w'))
    (c3 : ∀ w, Calls Try.prog 16 #[.int .i64 (n : Int), .int .i64 (k : Int), .int .i64 7] w (fun e w' => e = .returned (.int .i64 (z : Int)) ∧ w = w'))
    (h7 : ((y : Int) == 7) = false) (g3 : fb p = z0) :
    Calls Try.prog 6 #[.agg #[.int .u8 (t : Int), .int .u16 (c : Int), .int .u16 (r : Int), .int .u8 (v : Int)]] w fun e w' => e = .returned (.bool true) ∧ Below w.heap.size w w' := by
  go_enter Try.func6, Try.ntmps6
  go_wp2_with fail
  refine (shown_any _).mono ?_
  rintro e w1 ⟨rfl, hb⟩
  have BB := Lib.hid (below_box hb)
  clear hb
  go_wp2_with fail
  refine (cA _).mono ?_
  rintro e w2 ⟨A2, rfl, ha, hb⟩
  obtain ⟨x2, hx2⟩ : ∃ x, w2.alloc (.cells #[.int .i64 (n : Int), .int .i64 (k : Int), .slice A2 sa sa] 24) = x := ⟨_, rfl⟩
  have hbx : Below w2.heap.size w2 x2 := by rw [← hx2]; exact al_below _ _
  have hbn := hb.trans (hbx.mono hb.size)
  have M2 : Hid (MemAt x2 w2.heap.size n k A2 sa sa fa) := Lib.hid (by rw [← hx2]; exact MemAt.made w2 n k sa ha)
  have BBn := Lib.hid (BB.out.trans (hbn.mono BB.out.size)); clear BB; have BB := BBn; clear BBn
  clear ha hb hbx hbn
  go_wp2_with fail
  refine (cB _).mono ?_
  rintro e w3 ⟨A3, rfl, ha, hb⟩
  obtain ⟨x3, hx3⟩ : ∃ x, w3.alloc (.cells #[.int .i64 (n : Int), .int .i64 (k1 : Int), .slice A3 sb sb] 24) = x := ⟨_, rfl⟩
  have hbx : Below w3.heap.size w3 x3 := by rw [← hx3]; exact al_below _ _
  have hbn := hb.trans (hbx.mono hb.size)
  have M3 : Hid (MemAt x3 w3.heap.size n k1 A3 sb sb fb) := Lib.hid (by rw [← hx3]; exact MemAt.made w3 n k1 sb ha)
  have M2n := Lib.hid (M2.out.later hbn); clear M2; have M2 := M2n; clear M2n
  have BBn := Lib.hid (BB.out.trans (hbn.mono BB.out.size)); clear BB; have BB := BBn; clear BBn
  clear ha hb hbx hbn
  go_wp2_with fail
  refine (cD _).mono ?_
  rintro e w4 ⟨A4, rfl, ha, hb⟩
  obtain ⟨x4, hx4⟩ : ∃ x, w4.alloc (.cells #[.int .i64 (n1 : Int), .int .i64 (k : Int), .slice A4 sd sd] 24) = x := ⟨_, rfl⟩
  have hbx : Below w4.heap.size w4 x4 := by rw [← hx4]; exact al_below _ _
  have hbn := hb.trans (hbx.mono hb.size)
  have M4 : Hid (MemAt x4 w4.heap.size n1 k A4 sd sd fd) := Lib.hid (by rw [← hx4]; exact MemAt.made w4 n1 k sd ha)
  have M2n := Lib.hid (M2.out.later hbn); clear M2; have M2 := M2n; clear M2n
  have M3n := Lib.hid (M3.out.later hbn); clear M3; have M3 := M3n; clear M3n
  have BBn := Lib.hid (BB.out.trans (hbn.mono BB.out.size)); clear BB; have BB := BBn; clear BBn
  clear ha hb hbx hbn
  clear cA cB cD
  obtain ⟨hz2, a0, a1, a2, _, _, _⟩ := M2.out.1.three
  obtain ⟨hz3, b0, b1, b2, _, _, _⟩ := M3.out.1.three
  obtain ⟨hz4, d0, d1, d2, _, _, _⟩ := M4.out.1.three
  obtain ⟨ba, oa, rfl, ha, hca⟩ := M2.out.2.2 (by omega)
  obtain ⟨bb, ob, rfl, hb, hcb⟩ := M3.out.2.2 (by omega)
  obtain ⟨bd, od, rfl, hd, hcd⟩ := M4.out.2.2 (by omega)
  have ya := hca p hp
  have yb := hcb p (by omega)
  have yd := hcd p1 (by omega)
  have za := hca z hz
  have zb := hcb z (by omega)
  rw [g2] at ya
  rw [g1] at yd
  rw [g4] at za
  rw [g5] at zb
  (rw [g3] at yb; clear g3)
  clear hca hcb hcd ha hb hd g1 g2 g4 g5
  have i1 : (p : Int) < (sa : Int) := by omega
  have i2 : (p : Int) < (sb : Int) := by omega
  have i3 : (p1 : Int) < (sd : Int) := by omega
  have i4 : (z : Int) < (sa : Int) := by omega
  have i5 : (z : Int) < (sb : Int) := by omega
  have j1 : (0 : Int) ≤ (p : Int) := by omega
  have j2 : (0 : Int) ≤ (p1 : Int) := by omega
  have j3 : (0 : Int) ≤ (z : Int) := by omega
  have l1 : decide ((p : Int) < 0) = false := decide_eq_false (by omega)
  have l2 : decide ((z : Int) < 0) = false := decide_eq_false (by omega)
  have u1 : IntKind.i64.wrap (k1 : Int) = (k1 : Int) := by rw [IntKind.wrap_i64]; omega
  have u2 : IntKind.u64.wrap (k1 : Int) = (k1 : Int) := by rw [IntKind.wrap_u64]; omega
  go_wp2_with (first | (go_at_call 16; (with_reducible refine (c1 _).mono ?_); rintro e w' ⟨rfl, rfl⟩) | (go_at_call 16; (with_reducible refine (c2 _).mono ?_); rintro e w' ⟨rfl, rfl⟩) | (go_at_call 16; (with_reducible refine (c3 _).mono ?_); rintro e w' ⟨rfl, rfl⟩))
  go_quiet (fail)
  go_wp2_with fail
  go_ret
  exact ⟨rfl, below_draw BB.out _⟩
section
variable {H : Type} {enc : TypeId × Value → H} {w : World}
theorem open_a {v : Value} {d : DataW H} {ps : List MemPlace} {base : Nat} (hval : Value.okWide Try.prog w .any base 46 v) (h : DataW.Trod enc Try.prog w 0 (fun _ => true) true 46 v d ps) (hs : Sized Try.prog 46 d) (hlt : ∀ z ∈ ps, z.block < w.heap.size) :
    ∃ (aT : Nat) (aC : Nat) (aR : Nat) (aF : Nat), v = .agg #[.int .u8 (aT : Int), .int .u16 (aC : Int), .int .u16 (aR : Int), .int .u8 (aF : Int)] ∧ aT < 256 ∧ aC < 65536 ∧ aR < 65536 ∧ aF < 256 := by
  obtain ⟨cs, rfl, hsz⟩ := okWide_struct Try.underlying46 hval
  obtain ⟨fuel, hf⟩ := h
  have hcs : (Value.agg cs).cells.toList = cs.toList := rfl
  rw [hcs] at hf
  have hcl : cs.toList.length = 4 := by rw [Array.length_toList, hsz]; kernel_rfl
  obtain ⟨c0, c1, c2, c3, hL⟩ : ∃ c0 c1 c2 c3, cs.toList = [c0, c1, c2, c3] := ⟨_, _, _, _, cells_of hcl .nilIface⟩
  rw [hL] at hf
  rw [list_agg hL]
  clear hcl hL hsz hcs
  obtain ⟨y0, n0, g0, s0, q0⟩ := field_at Try.underlying46 hf 0 _ rfl 5 0 1 [c0] rfl rfl (by kernel_rfl) rfl hs hlt
  obtain ⟨aT, e1, haT⟩ := leaf_u8 Try.underlying5 g0
  cases e1
  obtain ⟨y2, n2, g2, s2, q2⟩ := field_at Try.underlying46 hf 1 _ rfl 25 1 1 [c1] rfl rfl (by kernel_rfl) rfl hs hlt
  obtain ⟨aC, e3, haC⟩ := leaf_u16 Try.underlying25 g2
  cases e3
  obtain ⟨y4, n4, g4, s4, q4⟩ := field_at Try.underlying46 hf 2 _ rfl 25 2 1 [c2] rfl rfl (by kernel_rfl) rfl hs hlt
  obtain ⟨aR, e5, haR⟩ := leaf_u16 Try.underlying25 g4
  cases e5
  obtain ⟨y6, n6, g6, s6, q6⟩ := field_at Try.underlying46 hf 3 _ rfl 5 3 1 [c3] rfl rfl (by kernel_rfl) rfl hs hlt
  obtain ⟨aF, e7, haF⟩ := leaf_u8 Try.underlying5 g6
  cases e7
  exact ⟨aT, aC, aR, aF, rfl, haT, haC, haR, haF⟩
end

set_option maxRecDepth 100000 in
theorem lifted (os : Os) (started : os.Started) (H : Type) (enc : TypeId × Value → H) :
    ReturnsInHanded {} Try.checked os 6 .any (Rows.cellMoreSpec.pre6 enc Try.prog Try.f6 Rows.cellMoreRow.domain false) (Rows.cellMoreSpec.post enc Try.prog Try.f6 false true false false) := by
  refine law_lifted (C := Try.checked) own started (by kernel_rfl) Try.func6
    (ChangeSpec.witness6 (enc := enc) (C := Try.checked) false ⟨#[], #[.agg #[.int .u8 0, .int .u16 0, .int .u16 0, .int .u8 0]], []⟩ 8 (by kernel_rfl) (by kernel_rfl) (by kernel_rfl) (by kernel_rfl))
    (by kernel_rfl) (by kernel_rfl) Try.underlying4 rfl (by kernel_rfl) ?_
  intro W base args ds before hval hA hwt hlt
  have hA' : DataW.TrodAll enc Try.prog W 0 (fun _ => true) true Try.f6.params.toList args.toList ds before := hA
  have hval' : ∀ (j : Nat) t v, Try.f6.params[j]? = some t → args[j]? = some v → Value.okWide Try.prog W .any base t v := hval
  have hwt' : (DataW.weightsEach Try.prog Try.f6.params.toList ds).all (· ≤ reachBytes) = true := hwt
  rw [Try.params6] at hA' hval' hwt'
  obtain ⟨v0, vs0, d0, ds0, p0, q0, hargs, rfl, rfl, k0, r0⟩ := trodAll_cons hA'
  obtain ⟨rfl, rfl, rfl⟩ := trodAll_nil r0
  obtain rfl : args = #[v0] := by cases args; simp_all
  obtain ⟨aT, aC, aR, aF, rfl, haT, haC, haR, haF⟩ := open_a (hval' 0 46 v0 rfl rfl) k0 (sized_of hwt' (j := 0) (t := 46) rfl rfl) (fun x hx => hlt x (by simp [hx]))
  refine ⟨rfl, ?_⟩
  obtain ⟨q, hq⟩ : ∃ q, aT % 63 = q := ⟨_, rfl⟩
  obtain ⟨kc, hkc⟩ : ∃ q, aC % 300 = q := ⟨_, rfl⟩
  obtain ⟨rk, hrk⟩ : ∃ q, aR % (kc + 1) = q := ⟨_, rfl⟩
  obtain ⟨y, hy⟩ : ∃ q, aF % 8 = q := ⟨_, rfl⟩
  have hrk2 : rk < kc + 1 := by rw [← hrk]; exact Nat.mod_lt _ (by omega)
  have m1 : (aR : Int) % ((kc + 1 : Nat) : Int) = (rk : Int) := by rw [← hrk]; rfl
  have cN : ∀ n k : Nat, 1 ≤ n → n ≤ 64 → k ≤ 65536 → ∀ w, Calls Try.prog 9 #[.int .i64 (n : Int), .int .i64 (k : Int)] w (MemPost w n k (sizeN n k) (newF n k) 0) :=
    fun n k h1 h2 h3 w => (new_yes n k h1 h2 h3 w).mono fun e w' ⟨g, he, _, hr, hb⟩ => ⟨_, he, hr.at_, hb⟩
  have hpin := more_in (q + 1) (kc + 1) (rk + 1) y (by omega) (by omega) (by omega)
  have hzin := more_in (q + 1) (kc + 1) (kc + 1) 7 (by omega) (by omega) (by omega)
  have hd : newF (q + 1 + 1) (kc + 1) (fieldN (q + 1 + 1) (rk + 1) y) = newF (q + 1) (kc + 1) (fieldN (q + 1) (rk + 1) y) := by rw [new_at _ _ _ _ (by omega) (by omega) (by omega), new_at _ _ _ _ (by omega) (by omega) (by omega)]
  have hz : newF (q + 1) (kc + 1) (fieldN (q + 1) (kc + 1) 7) = 0 := by rw [new_at _ _ _ _ (by omega) (by omega) (by omega), if_neg (by omega)]
  have hzb : newF (q + 1) (kc + 1 + 1) (fieldN (q + 1) (kc + 1) 7) = kc + 1 + 1 := by rw [new_at _ _ _ _ (by omega) (by omega) (by omega), if_pos (by omega)]
  have hfb : ¬ (y = 7 ∧ rk + 1 = kc + 1) → newF (q + 1) (kc + 1 + 1) (fieldN (q + 1) (rk + 1) y) = newF (q + 1) (kc + 1) (fieldN (q + 1) (rk + 1) y) := fun h => by
    rw [new_at _ _ _ _ (by omega) (by omega) (by omega), new_at _ _ _ _ (by omega) (by omega) (by omega)]
    by_cases h7 : y = 7 ∧ rk + 1 < kc + 1
    · rw [if_pos h7, if_pos (by omega)]
    · rw [if_neg h7, if_neg (by omega)]
  have hp1 : ((fieldN (q + 1) (rk + 1) y : Nat) : Int) + 1 = ((fieldN (q + 1 + 1) (rk + 1) y : Nat) : Int) := by
    have := more_field (q + 1) (rk + 1) y
    omega
  have c3 : ∀ w, Calls Try.prog 16 #[.int .i64 ((q + 1 : Nat) : Int), .int .i64 ((kc + 1 : Nat) : Int), .int .i64 7] w (fun e w' => e = .returned (.int .i64 ((fieldN (q + 1) (kc + 1) 7 : Nat) : Int)) ∧ w = w') := fun w =>
    field_any (q + 1) (kc + 1) 7 (by omega) (by omega) (by omega) (by decide) w
  by_cases h7 : y = 7
  · by_cases h8 : rk + 1 = kc + 1
    · exact walk1 aT aC aR aF (q + 1) (q + 1 + 1) (kc + 1) (kc + 1 + 1) q kc rk (rk + 1) y (fieldN (q + 1) (rk + 1) y) (fieldN (q + 1 + 1) (rk + 1) y) (fieldN (q + 1) (kc + 1) 7) (sizeN (q + 1) (kc + 1)) (sizeN (q + 1) (kc + 1 + 1)) (sizeN (q + 1 + 1) (kc + 1)) (newF (q + 1) (kc + 1) (fieldN (q + 1) (rk + 1) y)) (newF (q + 1) (kc + 1)) (newF (q + 1) (kc + 1 + 1)) (newF (q + 1 + 1) (kc + 1)) haT haC haR haF (by omega) (by rw [Int.tmod_eq_emod_of_nonneg (by omega)]; omega) (by omega) (by omega) (by omega) (by rw [Int.tmod_eq_emod_of_nonneg (by omega)]; omega) (by omega) (by omega) m1 (by rw [Int.tmod_eq_emod_of_nonneg (by omega)]; exact m1) (by omega) (by omega) (by rw [Int.tmod_eq_emod_of_nonneg (by omega)]; omega) (by omega) (by omega) (by omega) (by omega) (by unfold sizeN; omega) (by unfold sizeN; omega) hpin hp1 hzin (by unfold sizeN; omega) W (cN _ _ (by omega) (by omega) (by omega)) (cN _ _ (by omega) (by omega) (by omega)) (cN _ _ (by omega) (by omega) (by omega)) hd rfl hz hzb (fun w => field_any _ _ _ (by omega) (by omega) (by omega) (by omega) w) (fun w => field_any _ _ _ (by omega) (by omega) (by omega) (by omega) w) c3 (by rw [beq_iff_eq]; omega) (by rw [beq_iff_eq]; omega)
    · exact walk2 aT aC aR aF (q + 1) (q + 1 + 1) (kc + 1) (kc + 1 + 1) q kc rk (rk + 1) y (fieldN (q + 1) (rk + 1) y) (fieldN (q + 1 + 1) (rk + 1) y) (fieldN (q + 1) (kc + 1) 7) (sizeN (q + 1) (kc + 1)) (sizeN (q + 1) (kc + 1 + 1)) (sizeN (q + 1 + 1) (kc + 1)) (newF (q + 1) (kc + 1) (fieldN (q + 1) (rk + 1) y)) (newF (q + 1) (kc + 1)) (newF (q + 1) (kc + 1 + 1)) (newF (q + 1 + 1) (kc + 1)) haT haC haR haF (by omega) (by rw [Int.tmod_eq_emod_of_nonneg (by omega)]; omega) (by omega) (by omega) (by omega) (by rw [Int.tmod_eq_emod_of_nonneg (by omega)]; omega) (by omega) (by omega) m1 (by rw [Int.tmod_eq_emod_of_nonneg (by omega)]; exact m1) (by omega) (by omega) (by rw [Int.tmod_eq_emod_of_nonneg (by omega)]; omega) (by omega) (by omega) (by omega) (by omega) (by unfold sizeN; omega) (by unfold sizeN; omega) hpin hp1 hzin (by unfold sizeN; omega) W (cN _ _ (by omega) (by omega) (by omega)) (cN _ _ (by omega) (by omega) (by omega)) (cN _ _ (by omega) (by omega) (by omega)) hd rfl hz hzb (fun w => field_any _ _ _ (by omega) (by omega) (by omega) (by omega) w) (fun w => field_any _ _ _ (by omega) (by omega) (by omega) (by omega) w) c3 (by rw [beq_iff_eq]; omega) (by rw [beq_eq_false_iff_ne]; omega) (hfb (by omega))
  · exact walk3 aT aC aR aF (q + 1) (q + 1 + 1) (kc + 1) (kc + 1 + 1) q kc rk (rk + 1) y (fieldN (q + 1) (rk + 1) y) (fieldN (q + 1 + 1) (rk + 1) y) (fieldN (q + 1) (kc + 1) 7) (sizeN (q + 1) (kc + 1)) (sizeN (q + 1) (kc + 1 + 1)) (sizeN (q + 1 + 1) (kc + 1)) (newF (q + 1) (kc + 1) (fieldN (q + 1) (rk + 1) y)) (newF (q + 1) (kc + 1)) (newF (q + 1) (kc + 1 + 1)) (newF (q + 1 + 1) (kc + 1)) haT haC haR haF (by omega) (by rw [Int.tmod_eq_emod_of_nonneg (by omega)]; omega) (by omega) (by omega) (by omega) (by rw [Int.tmod_eq_emod_of_nonneg (by omega)]; omega) (by omega) (by omega) m1 (by rw [Int.tmod_eq_emod_of_nonneg (by omega)]; exact m1) (by omega) (by omega) (by rw [Int.tmod_eq_emod_of_nonneg (by omega)]; omega) (by omega) (by omega) (by omega) (by omega) (by unfold sizeN; omega) (by unfold sizeN; omega) hpin hp1 hzin (by unfold sizeN; omega) W (cN _ _ (by omega) (by omega) (by omega)) (cN _ _ (by omega) (by omega) (by omega)) (cN _ _ (by omega) (by omega) (by omega)) hd rfl hz hzb (fun w => field_any _ _ _ (by omega) (by omega) (by omega) (by omega) w) (fun w => field_any _ _ _ (by omega) (by omega) (by omega) (by omega) w) c3 (by rw [beq_eq_false_iff_ne]; omega) (hfb (by omega))

theorem over : Rows.cellMoreRow.holds Try.pinned (OpenSpec.ofChange Rows.cellMoreSpec) :=
  OpenClaim.holds_of_wide 6 Try.f6 rfl rfl rfl rfl rfl rfl rfl ⟨rfl, rfl, rfl, rfl, rfl⟩ rfl rfl rfl rfl rfl (by kernel_rfl) Try.func6 (by kernel_rfl)
    (of_decide_eq_true (by kernel_rfl)) (by unfold Func.isWrapper; first | (rw [if_pos (by decide +kernel)]; kernel_rfl) | (rw [if_neg (by decide +kernel)]; exact ⟨rfl, rfl⟩))
    (fun os started H enc _ => lifted os started H enc)

/-- The statement. -/
theorem proved : Rows.CellMoreSaid :=
  over
#print axioms proved
end Go.Proofs.Ytjjkdebdikkceaa.cellMore
