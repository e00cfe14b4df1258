/-
  DiskTwice: behind a crash another one turns nothing; a sync of all streams ahead makes it turn nothing but what is synced; for every disk that is right, of 8 streams a row, 4000 bytes, and every numbers. No condition beyond the statement's own.
-/
import Derived.Test.YtfggnmmiifjilaaDskShown
import Derived.Test.YtfggnmmiifjilaaDskOpen
import Derived.Test.YtfggnmmiifjilaaLaw
import Derived.Deep.RegionHeld3
namespace Go.Proofs.Ytfggnmmiifjilaa.diskTwice
open Go.ChangeShapes Go.WideShapes Go.ChangeAt Go.RowKit
set_option linter.unusedVariables false
theorem own : ownKnob Try.prog.godebug = none := by kernel_rfl

theorem right_len {l0 l1 : List Stm} (h : rightD l0 l1 = true) : l0.length = l1.length ∧ allB l0 = true ∧ allB l1 = true ∧ 1 ≤ l0.length ∧ l0.length ≤ 64 := by
  unfold rightD countB at h
  simp only [Bool.and_eq_true, decide_eq_true_eq] at h
  exact ⟨h.1.1, h.1.2.1, h.1.2.2, by omega, by omega⟩
/-- Nothing of it is to be lost: all its bytes are synced. -/
def Full (l : List Stm) : Prop := ∀ x ∈ l, x.synced = (x.bytes.length : Int)
theorem full_cut {x : Stm} (h : x.synced = (x.bytes.length : Int)) (c : Int) : x.cut c = x := by
  have h1 : x.cutN c = x.bytes.length := by unfold Stm.cutN cutN; rw [h]; simp
  unfold Stm.cut
  rw [h1, List.take_of_length_le (Nat.le_refl _), ← h]
theorem full_right {x : Stm} (h : x.synced = (x.bytes.length : Int)) : x.right = true := by
  unfold Stm.right rightB
  rw [h, decide_eq_true (by omega), decide_eq_true (by omega)]
  rfl
theorem full_cutL {l : List Stm} (h : Full l) (c : Nat → Int) : cutL l c = l := by
  unfold cutL
  apply List.ext_getElem?
  intro i
  by_cases hi : i < l.length
  · rw [List.getElem?_map, List.getElem?_range hi, List.getElem?_eq_getElem hi]
    simp only [Option.map_some, List.getD_eq_getElem?_getD, List.getElem?_eq_getElem hi, Option.getD_some]
    rw [full_cut (h _ (List.getElem_mem hi))]
  · rw [List.getElem?_eq_none (by simpa using hi), List.getElem?_eq_none (by simpa using hi)]
theorem full_all {l : List Stm} (h : Full l) : allB l = true := by
  unfold allB
  rw [List.all_eq_true]
  exact fun x hx => full_right (h x hx)
theorem fullB_cut {l : List Stm} (h : allB l = true) (c : Nat → Int) : Full (cutL l c) := by
  intro x hx
  obtain ⟨i, hi, rfl⟩ := List.mem_map.1 hx
  rw [List.mem_range] at hi
  have hr : (l.getD i Stm.zero).right = true := by
    rw [List.getD_eq_getElem?_getD, List.getElem?_eq_getElem hi]
    exact allB_get h (List.getElem?_eq_getElem hi)
  rw [Stm.cut_length hr]
  rfl
/-- The first k are synced. -/
def syK (l : List Stm) (k : Nat) : List Stm := (l.take k).map Stm.syn ++ l.drop k
theorem syK_zero (l : List Stm) : syK l 0 = l := by simp [syK]
theorem syK_get {l : List Stm} {k : Nat} {x : Stm} (h : l[k]? = some x) : (syK l k)[k]? = some x := by
  have hk : k < l.length := (List.getElem?_eq_some_iff.1 h).1
  unfold syK
  rw [List.getElem?_append_right (by simp; omega)]
  simp only [List.length_map, List.length_take, List.getElem?_drop]
  rw [show k + (k - min k l.length) = k by omega]
  exact h
theorem syK_set {l : List Stm} {k : Nat} {x : Stm} (h : l[k]? = some x) : (syK l k).set k x.syn = syK l (k + 1) := by
  have hk : k < l.length := (List.getElem?_eq_some_iff.1 h).1
  have hd : l.drop k = x :: l.drop (k + 1) := by
    rw [List.drop_eq_getElem_cons hk]
    rw [List.getElem?_eq_getElem hk] at h
    cases h
    rfl
  unfold syK
  rw [List.set_append_right _ _ (by simp; omega), hd, List.take_add_one, h]
  simp [show k - min k l.length = 0 by omega]
theorem fullB_sy {l : List Stm} (n : Nat) (h : l.length ≤ n) : Full (syK l n) := by
  intro x hx
  unfold syK at hx
  rw [List.take_of_length_le h, List.drop_eq_nil_of_le h, List.append_nil] at hx
  obtain ⟨y, _, rfl⟩ := List.mem_map.1 hx
  rfl
theorem twiceCrash (r : Int) (n a b : Nat) (hn : n ≤ 8) (p0 p1 : List Stm) (hp0 : Full p0) (hp1 : Full p1) (A B C : Option Addr) (cn cc : Nat) (hcc : cn ≤ cc) (f : Nat → Int) (w : World) (h0 : Hid (StmsAt w A n p0)) (h1 : Hid (StmsAt w B n p1)) (hC : Hid (AtI w C cn f)) :
    Calls Try.prog 24 #[.agg #[.int .u64 r, .slice A n a, .slice B n b], .slice C cn cc] w (DskPostV w r A B n n p0 p1) := by
  have h := crash_at r A n a B n b p0 p1 (by omega) (by omega) (full_all hp0) (full_all hp1) C cn cc hcc f w h0 h1 hC
  rw [full_cutL hp0, full_cutL hp1] at h
  exact h
theorem twiceSync0 (r : Int) (A : Option Addr) (n a : Nat) (B : Option Addr) (b : Nat) (l0 l1 : List Stm) (k : Nat) (hk : k < n) (hn : n ≤ 8) (x : Stm) (hx : l0[k]? = some x) (w : World) (h0 : Hid (StmsAt w A n (syK l0 k))) (h1 : Hid (StmsAt w B n l1)) :
    Calls Try.prog 17 #[.agg #[.int .u64 r, .slice A n a, .slice B n b], .int .i64 0, .int .i64 (k : Int)] w (DskPostC w r A B n n (syK l0 (k + 1)) l1 0) := by
  have h := dskSync0_at r A n a B n b (syK l0 k) l1 k hk (by omega) x (syK_get hx) w h0 h1
  rw [syK_set hx] at h
  exact h
theorem twiceSync1 (r : Int) (A : Option Addr) (n a : Nat) (B : Option Addr) (b : Nat) (l0 l1 : List Stm) (k : Nat) (hk : k < n) (hn : n ≤ 8) (x : Stm) (hx : l1[k]? = some x) (w : World) (h0 : Hid (StmsAt w A n (syK l0 n))) (h1 : Hid (StmsAt w B n (syK l1 k))) :
    Calls Try.prog 17 #[.agg #[.int .u64 r, .slice A n a, .slice B n b], .int .i64 1, .int .i64 (k : Int)] w (DskPostC w r A B n n (syK l0 n) (syK l1 (k + 1)) 0) := by
  have h := dskSync1_at r A n a B n b (syK l0 n) (syK l1 k) k hk (by omega) x (syK_get hx) w h0 h1
  rw [syK_set hx] at h
  exact h
/-- The variable s holds a disk whose rows read so; its memory is not the variable's own; what lay ahead of it has stayed. -/
def SyRel (w5 wr : World) (r : Int) (n : Nat) (p q : List Stm) : Prop :=
  ∃ A a B b, VarAt wr w5.heap.size [.int .u64 r, .slice A n a, .slice B n b] ∧ StmsAt wr A n p ∧ StmsAt wr B n q ∧ OffS (fun k => k ≠ w5.heap.size) wr A n ∧ OffS (fun k => k ≠ w5.heap.size) wr B n ∧ Below w5.heap.size w5 wr
theorem SyRel.start {w5 : World} {r : Int} {A : Option Addr} {n a : Nat} {B : Option Addr} {b : Nat} {p q : List Stm} (h0 : StmsAt w5 A n p) (h1 : StmsAt w5 B n q) (t : TypeId) : SyRel w5 (w5.alloc (.cells #[.int .u64 r, .slice A n a, .slice B n b] t)) r n p q :=
  ⟨A, a, B, b, VarAt.made w5 _ t, h0.later (al_below _ _), h1.later (al_below _ _), (h0.fresh _ (Nat.le_refl _)).later h0 (al_below _ _), (h1.fresh _ (Nat.le_refl _)).later h1 (al_below _ _), al_below _ _⟩
theorem SyRel.stepS {w5 wr w6 x7 : World} {r : Int} {n : Nat} {p q p' q' : List Stm} {A7 B7 : Option Addr} {a7 b7 : Nat} (h : SyRel w5 wr r n p q) (hb6 : Below wr.heap.size wr w6) (hb7 : Below w6.heap.size w6 x7)
    (s0 : StmsAt w6 A7 n p') (s1 : StmsAt w6 B7 n q') (ho : OffS (fun k => k ≠ w5.heap.size) w6 A7 n ∧ OffS (fun k => k ≠ w5.heap.size) w6 B7 n) :
    SyRel w5 (((x7.setCell ⟨w5.heap.size, 0, none⟩ (.int .u64 r)).setCell ⟨w5.heap.size, 1, none⟩ (.slice A7 n a7)).setCell ⟨w5.heap.size, 2, none⟩ (.slice B7 n b7)) r n p' q' := by
  obtain ⟨A, a, B, b, hv, _, _, _, _, hb⟩ := h
  have k0 := ho.1.later s0 hb7
  have k1 := ho.2.later s1 hb7
  obtain ⟨t0, o0⟩ := (s0.later hb7).set3 w5.heap.size (.int .u64 r) (.slice A7 n a7) (.slice B7 n b7) k0
  obtain ⟨t1, o1⟩ := (s1.later hb7).set3 w5.heap.size (.int .u64 r) (.slice A7 n a7) (.slice B7 n b7) k1
  have v := ((((hv.below hb6).below hb7).setAt 0 (.int .u64 r) (by simp)).setAt 1 (.slice A7 n a7) (by simp)).setAt 2 (.slice B7 n b7) (by simp)
  exact ⟨A7, a7, B7, b7, v, t0, t1, o0 _ k0, o1 _ k1, below_setCells (b := w5.heap.size) (Nat.le_refl _) [.int .u64 r, .slice A7 n a7, .slice B7 n b7] 0 _ (hb.trans ((hb6.trans (hb7.mono hb6.size)).mono hb.size))⟩

set_option maxRecDepth 100000 in
set_option maxHeartbeats 8000000 in
theorem walkFew (r : Nat) (A : Option Addr) (n a : Nat) (B : Option Addr) (m b : Nat) (l0 l1 : List Stm) (D : Option Addr) (dn dc : Nat) (E : Option Addr) (en ec : Nat) (w : World) (h0 : Hid (StmsAt w A n l0)) (h1 : Hid (StmsAt w B m l1)) (hf : fewD l0 l1 = false) :
    Calls Try.prog 5 #[.agg #[.int .u64 (r : Int), .slice A n a, .slice B m b], .slice D dn dc, .slice E en ec] w fun e w' => e = .returned (.bool true) ∧ Below w.heap.size w w' := by
  have HFEW := fun w h h' => few_at (r : Int) A n a B m b l0 l1 w h h'
  rw [hf] at HFEW
  go_enter Try.func5, Try.ntmps5
  go_wp2_with fail
  refine (shown_below _).mono ?_
  rintro e w1 ⟨rfl, hb⟩
  have BB := Lib.hid (below_box hb)
  have D1 : Hid (DAt w1 w.heap.size (r : Int) A n a B m b l0 l1) := Lib.hid (DAt.below (DAt.made h0.out h1.out 26) hb)
  clear hb
  obtain ⟨hz1, c0, c1, c2, f0, f1, f2⟩ := D1.out.1.three
  have S10 := Lib.hid D1.out.2.1
  have S11 := Lib.hid D1.out.2.2
  go_wp2_with (go_at_call 9; (with_reducible refine (HFEW _ S10 S11).mono ?_); rintro e w2 ⟨rfl, hbn⟩; have D2 := Lib.hid (D1.out.below hbn); have BB2 := Lib.hid (BB.out.trans (hbn.mono BB.out.size)); clear hbn hz1 c0 c1 c2 f0 f1 f2 D1 BB; obtain ⟨hz1, c0, c1, c2, f0, f1, f2⟩ := D2.out.1.three; have S20 := Lib.hid D2.out.2.1; have S21 := Lib.hid D2.out.2.2)
  go_ret
  exact ⟨rfl, BB2.out⟩

set_option maxRecDepth 100000 in
set_option maxHeartbeats 8000000 in
theorem walkWrong (r : Nat) (A : Option Addr) (n a : Nat) (B : Option Addr) (m b : Nat) (l0 l1 : List Stm) (D : Option Addr) (dn dc : Nat) (E : Option Addr) (en ec : Nat) (w : World) (h0 : Hid (StmsAt w A n l0)) (h1 : Hid (StmsAt w B m l1)) (hf : fewD l0 l1 = true) (hr : rightD l0 l1 = false) :
    Calls Try.prog 5 #[.agg #[.int .u64 (r : Int), .slice A n a, .slice B m b], .slice D dn dc, .slice E en ec] w fun e w' => e = .returned (.bool true) ∧ Below w.heap.size w w' := by
  have HFEW := fun w h h' => few_at (r : Int) A n a B m b l0 l1 w h h'
  rw [hf] at HFEW
  have HRIGHT := fun w h h' => refRightD_at (r : Int) A n a B m b l0 l1 w h h'
  rw [hr] at HRIGHT
  go_enter Try.func5, Try.ntmps5
  go_wp2_with fail
  refine (shown_below _).mono ?_
  rintro e w1 ⟨rfl, hb⟩
  have BB := Lib.hid (below_box hb)
  have D1 : Hid (DAt w1 w.heap.size (r : Int) A n a B m b l0 l1) := Lib.hid (DAt.below (DAt.made h0.out h1.out 26) hb)
  clear hb
  obtain ⟨hz1, c0, c1, c2, f0, f1, f2⟩ := D1.out.1.three
  have S10 := Lib.hid D1.out.2.1
  have S11 := Lib.hid D1.out.2.2
  go_wp2_with (first | (go_at_call 9; (with_reducible refine (HFEW _ S10 S11).mono ?_); rintro e w2 ⟨rfl, hbn⟩; have D2 := Lib.hid (D1.out.below hbn); have BB2 := Lib.hid (BB.out.trans (hbn.mono BB.out.size)); clear hbn hz1 c0 c1 c2 f0 f1 f2 D1 BB; obtain ⟨hz1, c0, c1, c2, f0, f1, f2⟩ := D2.out.1.three; have S20 := Lib.hid D2.out.2.1; have S21 := Lib.hid D2.out.2.2) | (go_at_call 12; (with_reducible refine (HRIGHT _ S20 S21).mono ?_); rintro e w3 ⟨rfl, hbn⟩; have D3 := Lib.hid (D2.out.below hbn); have BB3 := Lib.hid (BB2.out.trans (hbn.mono BB2.out.size)); clear hbn hz1 c0 c1 c2 f0 f1 f2 D2 BB2 S20 S21; obtain ⟨hz1, c0, c1, c2, f0, f1, f2⟩ := D3.out.1.three))
  go_ret
  exact ⟨rfl, BB3.out⟩

set_option maxRecDepth 100000 in
set_option maxHeartbeats 8000000 in
theorem walkLongA (r : Nat) (A : Option Addr) (n a : Nat) (B : Option Addr) (m b : Nat) (l0 l1 : List Stm) (D : Option Addr) (dn dc : Nat) (E : Option Addr) (en ec : Nat) (w : World) (h0 : Hid (StmsAt w A n l0)) (h1 : Hid (StmsAt w B m l1)) (hf : fewD l0 l1 = true) (hr : rightD l0 l1 = true) (hj : 40 < dn) :
    Calls Try.prog 5 #[.agg #[.int .u64 (r : Int), .slice A n a, .slice B m b], .slice D dn dc, .slice E en ec] w fun e w' => e = .returned (.bool true) ∧ Below w.heap.size w w' := by
  have HFEW := fun w h h' => few_at (r : Int) A n a B m b l0 l1 w h h'
  rw [hf] at HFEW
  have HRIGHT := fun w h h' => refRightD_at (r : Int) A n a B m b l0 l1 w h h'
  rw [hr] at HRIGHT
  have kd : decide ((40 : Int) < (dn : Int)) = true := by rw [decide_eq_true_iff]; omega
  go_enter Try.func5, Try.ntmps5
  go_wp2_with fail
  refine (shown_below _).mono ?_
  rintro e w1 ⟨rfl, hb⟩
  have BB := Lib.hid (below_box hb)
  have D1 : Hid (DAt w1 w.heap.size (r : Int) A n a B m b l0 l1) := Lib.hid (DAt.below (DAt.made h0.out h1.out 26) hb)
  clear hb
  obtain ⟨hz1, c0, c1, c2, f0, f1, f2⟩ := D1.out.1.three
  have S10 := Lib.hid D1.out.2.1
  have S11 := Lib.hid D1.out.2.2
  go_wp2_with (first | (go_at_call 9; (with_reducible refine (HFEW _ S10 S11).mono ?_); rintro e w2 ⟨rfl, hbn⟩; have D2 := Lib.hid (D1.out.below hbn); have BB2 := Lib.hid (BB.out.trans (hbn.mono BB.out.size)); clear hbn hz1 c0 c1 c2 f0 f1 f2 D1 BB; obtain ⟨hz1, c0, c1, c2, f0, f1, f2⟩ := D2.out.1.three; have S20 := Lib.hid D2.out.2.1; have S21 := Lib.hid D2.out.2.2) | (go_at_call 12; (with_reducible refine (HRIGHT _ S20 S21).mono ?_); rintro e w3 ⟨rfl, hbn⟩; have D3 := Lib.hid (D2.out.below hbn); have BB3 := Lib.hid (BB2.out.trans (hbn.mono BB2.out.size)); clear hbn hz1 c0 c1 c2 f0 f1 f2 D2 BB2 S20 S21; obtain ⟨hz1, c0, c1, c2, f0, f1, f2⟩ := D3.out.1.three))
  go_ret
  exact ⟨rfl, BB3.out⟩

set_option maxRecDepth 100000 in
set_option maxHeartbeats 8000000 in
theorem walkLongB (r : Nat) (A : Option Addr) (n a : Nat) (B : Option Addr) (m b : Nat) (l0 l1 : List Stm) (D : Option Addr) (dn dc : Nat) (E : Option Addr) (en ec : Nat) (w : World) (h0 : Hid (StmsAt w A n l0)) (h1 : Hid (StmsAt w B m l1)) (hf : fewD l0 l1 = true) (hr : rightD l0 l1 = true) (hj : dn ≤ 40) (hq : 40 < en) :
    Calls Try.prog 5 #[.agg #[.int .u64 (r : Int), .slice A n a, .slice B m b], .slice D dn dc, .slice E en ec] w fun e w' => e = .returned (.bool true) ∧ Below w.heap.size w w' := by
  have HFEW := fun w h h' => few_at (r : Int) A n a B m b l0 l1 w h h'
  rw [hf] at HFEW
  have HRIGHT := fun w h h' => refRightD_at (r : Int) A n a B m b l0 l1 w h h'
  rw [hr] at HRIGHT
  have kd : decide ((40 : Int) < (dn : Int)) = false := by rw [decide_eq_false_iff_not]; omega
  have ke : decide ((40 : Int) < (en : Int)) = true := by rw [decide_eq_true_iff]; omega
  go_enter Try.func5, Try.ntmps5
  go_wp2_with fail
  refine (shown_below _).mono ?_
  rintro e w1 ⟨rfl, hb⟩
  have BB := Lib.hid (below_box hb)
  have D1 : Hid (DAt w1 w.heap.size (r : Int) A n a B m b l0 l1) := Lib.hid (DAt.below (DAt.made h0.out h1.out 26) hb)
  clear hb
  obtain ⟨hz1, c0, c1, c2, f0, f1, f2⟩ := D1.out.1.three
  have S10 := Lib.hid D1.out.2.1
  have S11 := Lib.hid D1.out.2.2
  go_wp2_with (first | (go_at_call 9; (with_reducible refine (HFEW _ S10 S11).mono ?_); rintro e w2 ⟨rfl, hbn⟩; have D2 := Lib.hid (D1.out.below hbn); have BB2 := Lib.hid (BB.out.trans (hbn.mono BB.out.size)); clear hbn hz1 c0 c1 c2 f0 f1 f2 D1 BB; obtain ⟨hz1, c0, c1, c2, f0, f1, f2⟩ := D2.out.1.three; have S20 := Lib.hid D2.out.2.1; have S21 := Lib.hid D2.out.2.2) | (go_at_call 12; (with_reducible refine (HRIGHT _ S20 S21).mono ?_); rintro e w3 ⟨rfl, hbn⟩; have D3 := Lib.hid (D2.out.below hbn); have BB3 := Lib.hid (BB2.out.trans (hbn.mono BB2.out.size)); clear hbn hz1 c0 c1 c2 f0 f1 f2 D2 BB2 S20 S21; obtain ⟨hz1, c0, c1, c2, f0, f1, f2⟩ := D3.out.1.three))
  go_ret
  exact ⟨rfl, BB3.out⟩

set_option maxRecDepth 100000 in
set_option maxHeartbeats 8000000 in
theorem walk (r : Nat) (A : Option Addr) (n a : Nat) (B : Option Addr) (b : Nat) (l0 l1 : List Stm) (D : Option Addr) (dn dc : Nat) (f : Nat → Int) (E : Option Addr) (en ec : Nat) (g : Nat → Int) (w : World) (h0 : Hid (StmsAt w A n l0)) (h1 : Hid (StmsAt w B n l1)) (hD : Hid (AtI w D dn f)) (hE : Hid (AtI w E en g)) (hdc : dn ≤ dc) (hec : en ≤ ec) (hf : fewD l0 l1 = true) (hr : rightD l0 l1 = true) (hr0 : allB l0 = true) (hr1 : allB l1 = true) (hj : dn ≤ 40) (hq : en ≤ 40) (hn1 : 1 ≤ n) (hn8 : n ≤ 8) :
    Calls Try.prog 5 #[.agg #[.int .u64 (r : Int), .slice A n a, .slice B n b], .slice D dn dc, .slice E en ec] w fun e w' => e = .returned (.bool true) ∧ Below w.heap.size w w' := by
  have HFEW := fun w h h' => few_at (r : Int) A n a B n b l0 l1 w h h'
  rw [hf] at HFEW
  have HRIGHT := fun w h h' => refRightD_at (r : Int) A n a B n b l0 l1 w h h'
  rw [hr] at HRIGHT
  have kd : decide ((40 : Int) < (dn : Int)) = false := by rw [decide_eq_false_iff_not]; omega
  have ke : decide ((40 : Int) < (en : Int)) = false := by rw [decide_eq_false_iff_not]; omega
  have HN8 := Lib.hid hn8
  have HL0 := Lib.hid h0.out.1
  have HL1 := Lib.hid h1.out.1
  have HR0 := Lib.hid hr0
  have HR1 := Lib.hid hr1
  have HDC := Lib.hid hdc
  have HEC := Lib.hid hec
  clear hf hr hj hq hdc hec hr0 hr1
  go_enter Try.func5, Try.ntmps5
  go_wp2_with fail
  refine (shown_below _).mono ?_
  rintro e w1 ⟨rfl, hb⟩
  have BB := Lib.hid (below_box hb)
  have D1 : Hid (DAt w1 w.heap.size (r : Int) A n a B n b l0 l1) := Lib.hid (DAt.below (DAt.made h0.out h1.out 26) hb)
  clear hb
  obtain ⟨hz1, c0, c1, c2, f0, f1, f2⟩ := D1.out.1.three
  have S10 := Lib.hid D1.out.2.1
  have S11 := Lib.hid D1.out.2.2
  go_wp2_with (first | (go_at_call 9; (with_reducible refine (HFEW _ S10 S11).mono ?_); rintro e w2 ⟨rfl, hbn⟩; have D2 := Lib.hid (D1.out.below hbn); have BB2 := Lib.hid (BB.out.trans (hbn.mono BB.out.size)); clear hbn hz1 c0 c1 c2 f0 f1 f2 D1 BB; obtain ⟨hz1, c0, c1, c2, f0, f1, f2⟩ := D2.out.1.three; have S20 := Lib.hid D2.out.2.1; have S21 := Lib.hid D2.out.2.2) | (go_at_call 12; (with_reducible refine (HRIGHT _ S20 S21).mono ?_); rintro e w3 ⟨rfl, hbn⟩; have D3 := Lib.hid (D2.out.below hbn); have BB3 := Lib.hid (BB2.out.trans (hbn.mono BB2.out.size)); clear hbn hz1 c0 c1 c2 f0 f1 f2 D2 BB2 S20 S21; obtain ⟨hz1, c0, c1, c2, f0, f1, f2⟩ := D3.out.1.three))
  have S30 := Lib.hid D3.out.2.1
  have S31 := Lib.hid D3.out.2.2
  have HD3 := Lib.hid (hD.out.later BB3.out)
  clear hz1 c0 c1 c2 f0 f1 f2 HFEW HRIGHT S10 S11
  refine (crash_at (r : Int) A n a B n b l0 l1 (by have := HN8.out; omega) (by have := HN8.out; omega) HR0.out HR1.out D dn dc HDC.out f _ S30 S31 HD3).mono ?_
  rintro e w4 ⟨A4, a4, B4, b4, rfl, s0, s1, hb, _⟩
  obtain ⟨w5, hw5⟩ : ∃ x, w4.alloc (.cells #[.int .u64 (r : Int), .slice A4 n a4, .slice B4 n b4] 26) = x := ⟨_, rfl⟩
  have hbx : Below w4.heap.size w4 w5 := by rw [← hw5]; exact al_below _ _
  have C5 : Hid (DAt w5 w4.heap.size (r : Int) A4 n a4 B4 n b4 (cutL l0 (moreAt dn f)) (cutL l1 fun j => moreAt dn f (n + j))) := Lib.hid (by rw [← hw5]; exact DAt.made s0 s1 _)
  have hbn := hb.trans (hbx.mono hb.size)
  have D5 := Lib.hid (D3.out.below hbn)
  have BB5 := Lib.hid (BB3.out.trans (hbn.mono BB3.out.size))
  clear s0 s1 hb hbx hbn D3 BB3 S30 S31 HD3
  have HP0 := Lib.hid (fullB_cut HR0.out (moreAt dn f))
  have HP1 := Lib.hid (fullB_cut HR1.out (fun j => moreAt dn f (n + j)))
  generalize cutL l0 (moreAt dn f) = p0 at *
  generalize (cutL l1 fun j => moreAt dn f (n + j)) = p1 at *
  obtain ⟨hz1, c0, c1, c2, f0, f1, f2⟩ := D5.out.1.three
  have HSTART := Lib.hid (SyRel.start (a := a) (b := b) D5.out.2.1 D5.out.2.2 26 (r := (r : Int)))
  have HE5 := Lib.hid (hE.out.later BB5.out)
  go_wp2_with fail
  try rw [hw5]
  clear hz1 c0 c1 c2 f0 f1 f2
  go_loopw [10, 11, 12, 13] (fun i _ _ _ wr => ∃ k : Nat, k ≤ 2 ∧ i = .int .i64 k ∧ SyRel w5 wr (r : Int) n (if k = 0 then l0 else syK l0 n) (if k ≤ 1 then l1 else syK l1 n)) (fun i _ _ _ _ => 2 - (intOf i).toNat)
  case atStart => exact ⟨0, Nat.zero_le _, rfl, HSTART.out⟩
  case round =>
    obtain ⟨k, hk, rfl, hrel⟩ := hrel
    clear HSTART
    obtain rfl | rfl | rfl : k = 0 ∨ k = 1 ∨ k = 2 := by omega
    · have HREL : Hid (SyRel w5 wr (r : Int) n l0 l1) := Lib.hid hrel
      clear hrel
      rw [show ((0 : Nat) : Int) = 0 from rfl]
      go_wp2_with fail
      go_loopw [11, 12, 13] (fun u _ _ wq => ∃ y : Nat, y ≤ n ∧ u = .int .i64 y ∧ SyRel w5 wq (r : Int) n (syK l0 y) l1) (fun u _ _ _ => n - (intOf u).toNat)
      case atStart => exact ⟨0, Nat.zero_le _, rfl, by rw [syK_zero]; exact HREL.out⟩
      case round =>
        obtain ⟨y, hy, rfl, hq⟩ := hrel
        have HQ := Lib.hid hq
        obtain ⟨A6, a6, B6, b6, hv, hs0, hs1, ho0, ho1, hb⟩ := hq
        have HV := Lib.hid hv
        have T0 := Lib.hid hs0
        have T1 := Lib.hid hs1
        have HO0 := Lib.hid ho0
        have HO1 := Lib.hid ho1
        have HBQ := Lib.hid hb
        obtain ⟨hz2, d0, d1, d2, g0, g1, g2⟩ := (D5.out.1.below hb).three
        obtain ⟨hz3, e0, e1, e2, m0, m1, m2⟩ := hv.three
        clear hv hs0 hs1 ho0 ho1 hb
        by_cases hlt : y < n
        · obtain ⟨x, hx⟩ : ∃ x, l0[y]? = some x := ⟨_, List.getElem?_eq_getElem (by have := HL0.out; omega)⟩
          have HX := Lib.hid hx
          clear hx
          go_wp2_with (go_at_call 17; (with_reducible refine (twiceSync0 (r : Int) A6 n a6 B6 b6 l0 l1 y hlt HN8.out x HX.out _ T0 T1).mono ?_); rintro e w6 ⟨A7, a7, B7, b7, rfl, s0, s1, hb6, hoff⟩; obtain ⟨x7, hx7⟩ : ∃ x7, w6.alloc (.cells #[.int .u64 (r : Int), .slice A7 n a7, .slice B7 n b7] 26) = x7 := ⟨_, rfl⟩; have hb7 : Below w6.heap.size w6 x7 := (by rw [← hx7]; exact al_below _ _); have hv7 : VarAt x7 w6.heap.size [.int .u64 (r : Int), .slice A7 n a7, .slice B7 n b7] := (by rw [← hx7]; exact VarAt.made _ _ _); have HS7 := Lib.hid (HQ.out.stepS (a7 := a7) (b7 := b7) hb6 hb7 s0 s1 (hoff (fun k => k ≠ w5.heap.size) (fun b hb => by have := HV.out.1; omega) HO0.out HO1.out)); clear hz2 d0 d1 d2 g0 g1 g2 hz3 e0 e1 e2 m0 m1 m2; obtain ⟨hz3, e0, e1, e2, m0, m1, m2⟩ := ((HV.out.below hb6).below hb7).three; obtain ⟨hz2, d0, d1, d2, g0, g1, g2⟩ := hv7.three; clear hb6 hb7 hv7 s0 s1 hoff)
          go_roundw
          case rel => exact ⟨y + 1, by omega, by go_num, HS7.out⟩
          case measure => simp [intOf]; omega
        · obtain rfl : y = n := by omega
          go_wp2_with fail
          go_roundw
          case rel => exact ⟨0 + 1, by omega, by go_num, HQ.out⟩
          case measure => simp [intOf]
    · have HREL : Hid (SyRel w5 wr (r : Int) n (syK l0 n) l1) := Lib.hid hrel
      clear hrel
      rw [show ((1 : Nat) : Int) = 1 from rfl]
      go_wp2_with fail
      go_loopw [11, 12, 13] (fun u _ _ wq => ∃ y : Nat, y ≤ n ∧ u = .int .i64 y ∧ SyRel w5 wq (r : Int) n (syK l0 n) (syK l1 y)) (fun u _ _ _ => n - (intOf u).toNat)
      case atStart => exact ⟨0, Nat.zero_le _, rfl, by rw [syK_zero]; exact HREL.out⟩
      case round =>
        obtain ⟨y, hy, rfl, hq⟩ := hrel
        have HQ := Lib.hid hq
        obtain ⟨A6, a6, B6, b6, hv, hs0, hs1, ho0, ho1, hb⟩ := hq
        have HV := Lib.hid hv
        have T0 := Lib.hid hs0
        have T1 := Lib.hid hs1
        have HO0 := Lib.hid ho0
        have HO1 := Lib.hid ho1
        have HBQ := Lib.hid hb
        obtain ⟨hz2, d0, d1, d2, g0, g1, g2⟩ := (D5.out.1.below hb).three
        obtain ⟨hz3, e0, e1, e2, m0, m1, m2⟩ := hv.three
        clear hv hs0 hs1 ho0 ho1 hb
        by_cases hlt : y < n
        · obtain ⟨x, hx⟩ : ∃ x, l1[y]? = some x := ⟨_, List.getElem?_eq_getElem (by have := HL1.out; omega)⟩
          have HX := Lib.hid hx
          clear hx
          go_wp2_with (go_at_call 17; (with_reducible refine (twiceSync1 (r : Int) A6 n a6 B6 b6 l0 l1 y hlt HN8.out x HX.out _ T0 T1).mono ?_); rintro e w6 ⟨A7, a7, B7, b7, rfl, s0, s1, hb6, hoff⟩; obtain ⟨x7, hx7⟩ : ∃ x7, w6.alloc (.cells #[.int .u64 (r : Int), .slice A7 n a7, .slice B7 n b7] 26) = x7 := ⟨_, rfl⟩; have hb7 : Below w6.heap.size w6 x7 := (by rw [← hx7]; exact al_below _ _); have hv7 : VarAt x7 w6.heap.size [.int .u64 (r : Int), .slice A7 n a7, .slice B7 n b7] := (by rw [← hx7]; exact VarAt.made _ _ _); have HS7 := Lib.hid (HQ.out.stepS (a7 := a7) (b7 := b7) hb6 hb7 s0 s1 (hoff (fun k => k ≠ w5.heap.size) (fun b hb => by have := HV.out.1; omega) HO0.out HO1.out)); clear hz2 d0 d1 d2 g0 g1 g2 hz3 e0 e1 e2 m0 m1 m2; obtain ⟨hz3, e0, e1, e2, m0, m1, m2⟩ := ((HV.out.below hb6).below hb7).three; obtain ⟨hz2, d0, d1, d2, g0, g1, g2⟩ := hv7.three; clear hb6 hb7 hv7 s0 s1 hoff)
          go_roundw
          case rel => exact ⟨y + 1, by omega, by go_num, HS7.out⟩
          case measure => simp [intOf]; omega
        · obtain rfl : y = n := by omega
          go_wp2_with fail
          go_roundw
          case rel => exact ⟨1 + 1, by omega, by go_num, HQ.out⟩
          case measure => simp [intOf]
    · have HREL : SyRel w5 wr (r : Int) n (syK l0 n) (syK l1 n) := hrel
      clear hrel
      obtain ⟨A6, a6, B6, b6, hv, hs0, hs1, ho0, ho1, hb⟩ := HREL
      have BB6 := Lib.hid (BB5.out.trans (hb.mono BB5.out.size))
      have V := Lib.hid hv
      have T0 := Lib.hid hs0
      have T1 := Lib.hid hs1
      have C6 := Lib.hid (C5.out.below hb)
      have W := Lib.hid C6.out.1
      have Q0 := Lib.hid C6.out.2.1
      have Q1 := Lib.hid C6.out.2.2
      have HE6 := Lib.hid (HE5.out.later hb)
      have HF0 := Lib.hid (fullB_sy n (show l0.length ≤ n by have := HL0.out; omega))
      have HF1 := Lib.hid (fullB_sy n (show l1.length ≤ n by have := HL1.out; omega))
      generalize syK l0 n = z0 at *
      generalize syK l1 n = z1 at *
      clear hv hs0 hs1 ho0 ho1 hb C5 D5 C6
      have CR1 := fun w h0 h1 h2 => twiceCrash (r : Int) n a4 b4 HN8.out p0 p1 HP0.out HP1.out A4 B4 E en ec HEC.out g w h0 h1 h2
      have CR2 := fun w h0 h1 h2 => twiceCrash (r : Int) n a6 b6 HN8.out z0 z1 HF0.out HF1.out A6 B6 E en ec HEC.out g w h0 h1 h2
      have hV0 : ∀ w', Below wr.heap.size wr w' → w'.cell? ⟨w5.heap.size, 0, none⟩ = some (.int .u64 (r : Int)) := fun w' hb => (V.out.below hb).2.1 0 _ rfl
      have hV1 : ∀ w', Below wr.heap.size wr w' → w'.cell? ⟨w5.heap.size, 1, none⟩ = some (.slice A6 n a6) := fun w' hb => (V.out.below hb).2.1 1 _ rfl
      have hV2 : ∀ w', Below wr.heap.size wr w' → w'.cell? ⟨w5.heap.size, 2, none⟩ = some (.slice B6 n b6) := fun w' hb => (V.out.below hb).2.1 2 _ rfl
      have hW0 : ∀ w', Below wr.heap.size wr w' → w'.cell? ⟨w4.heap.size, 0, none⟩ = some (.int .u64 (r : Int)) := fun w' hb => (W.out.below hb).2.1 0 _ rfl
      have hW1 : ∀ w', Below wr.heap.size wr w' → w'.cell? ⟨w4.heap.size, 1, none⟩ = some (.slice A4 n a4) := fun w' hb => (W.out.below hb).2.1 1 _ rfl
      have hW2 : ∀ w', Below wr.heap.size wr w' → w'.cell? ⟨w4.heap.size, 2, none⟩ = some (.slice B4 n b4) := fun w' hb => (W.out.below hb).2.1 2 _ rfl
      have hB0 : Below wr.heap.size wr wr := Below.refl _ _
      go_wp2_with fail
      first | (go_region_held3 (fun w' => Below wr.heap.size wr w') (first | assumption | (exact Below.drew (by assumption)) | (exact Below.drew (Below.refl _ _)))
        (first
          | (go_at_call 24; (with_reducible refine (CR1 _ (Lib.hid (StmsAt.later Q0.out (by first | assumption | (exact Below.drew (Below.refl _ _)) | (exact Below.drew (by assumption))))) (Lib.hid (StmsAt.later Q1.out (by first | assumption | (exact Below.drew (Below.refl _ _)) | (exact Below.drew (by assumption))))) (Lib.hid (AtI.later HE6.out (by first | assumption | (exact Below.drew (Below.refl _ _)) | (exact Below.drew (by assumption)))))).mono ?_); rintro e w8 ⟨A8, a8, B8, b8, rfl, s0, s1, hbw8, _⟩; have hBw8 : Below wr.heap.size wr w8 := below_step hbw8 (by first | assumption | (exact Below.drew (Below.refl _ _)) | (exact Below.drew (by assumption))); have S80 := Lib.hid s0; have S81 := Lib.hid s1; clear s0 s1; clear hbw8)
          | (go_at_call 13; (with_reducible refine (sameD_at (r : Int) A8 n a8 B8 n b8 A4 a4 B4 b4 p0 p1 _ S80 S81 (Lib.hid (StmsAt.later Q0.out (by first | assumption | (exact Below.drew (Below.refl _ _)) | (exact Below.drew (by assumption))))) (Lib.hid (StmsAt.later Q1.out (by first | assumption | (exact Below.drew (Below.refl _ _)) | (exact Below.drew (by assumption)))))).mono ?_); rintro e w9 ⟨rfl, hbw9⟩; have hBw9 : Below wr.heap.size wr w9 := below_step hbw9 (by first | assumption | (exact Below.drew (Below.refl _ _)) | (exact Below.drew (by assumption))); skip; clear hbw9)
          | (go_at_call 24; (with_reducible refine (CR2 _ (Lib.hid (StmsAt.later T0.out (by first | assumption | (exact Below.drew (Below.refl _ _)) | (exact Below.drew (by assumption))))) (Lib.hid (StmsAt.later T1.out (by first | assumption | (exact Below.drew (Below.refl _ _)) | (exact Below.drew (by assumption))))) (Lib.hid (AtI.later HE6.out (by first | assumption | (exact Below.drew (Below.refl _ _)) | (exact Below.drew (by assumption)))))).mono ?_); rintro e w10 ⟨A10, a10, B10, b10, rfl, s0, s1, hbw10, _⟩; have hBw10 : Below wr.heap.size wr w10 := below_step hbw10 (by first | assumption | (exact Below.drew (Below.refl _ _)) | (exact Below.drew (by assumption))); have S100 := Lib.hid s0; have S101 := Lib.hid s1; clear s0 s1; clear hbw10)
          | (go_at_call 13; (with_reducible refine (sameD_at (r : Int) A10 n a10 B10 n b10 A6 a6 B6 b6 z0 z1 _ S100 S101 (Lib.hid (StmsAt.later T0.out (by first | assumption | (exact Below.drew (Below.refl _ _)) | (exact Below.drew (by assumption))))) (Lib.hid (StmsAt.later T1.out (by first | assumption | (exact Below.drew (Below.refl _ _)) | (exact Below.drew (by assumption)))))).mono ?_); rintro e w11 ⟨rfl, hbw11⟩; have hBw11 : Below wr.heap.size wr w11 := below_step hbw11 (by first | assumption | (exact Below.drew (Below.refl _ _)) | (exact Below.drew (by assumption))); skip; clear hbw11))) | fail
      all_goals
        go_wp2_with fail
        go_ret
        exact ⟨rfl, BB6.out.trans (Below.mono (by assumption) BB6.out.size)⟩

set_option maxRecDepth 100000 in
theorem lifted (os : Os) (started : os.Started) (H : Type) (enc : TypeId × Value → H) :
    ReturnsInHanded {} Try.checked os 5 .any (Rows.diskTwiceSpec.pre6 enc Try.prog Try.f5 Rows.diskTwiceRow.domain false) (Rows.diskTwiceSpec.post enc Try.prog Try.f5 false true false false) := by
  refine law_lifted (C := Try.checked) own started (by kernel_rfl) Try.func5
    (ChangeSpec.witness6 (enc := enc) (C := Try.checked) false ⟨#[], #[.agg #[.int .u64 0, .slice none 0 0, .slice none 0 0], .slice none 0 0, .slice none 0 0], []⟩ 8 (by kernel_rfl) (by kernel_rfl) (by kernel_rfl) (by kernel_rfl))
    (by kernel_rfl) (by kernel_rfl) Try.underlying4 rfl (by kernel_rfl) ?_
  intro W base args ds before hval hA hwt hlt
  have hA' : DataW.TrodAll enc Try.prog W 0 (fun _ => true) true Try.f5.params.toList args.toList ds before := hA
  have hval' : ∀ (j : Nat) t v, Try.f5.params[j]? = some t → args[j]? = some v → Value.okWide Try.prog W .any base t v := hval
  have hwt' : (DataW.weightsEach Try.prog Try.f5.params.toList ds).all (· ≤ reachBytes) = true := hwt
  rw [Try.params5] at hA' hval' hwt'
  obtain ⟨v0, vs0, d0, ds0, p0, q0, hargs, rfl, rfl, h0, r0⟩ := trodAll_cons hA'
  obtain ⟨v1, vs1, d1, ds1, p1, q1, rfl, rfl, rfl, h1, r1⟩ := trodAll_cons r0
  obtain ⟨v2, vs2, d2, ds2, p2, q2, rfl, rfl, rfl, h2, r2⟩ := trodAll_cons r1
  obtain ⟨rfl, rfl, rfl⟩ := trodAll_nil r2
  obtain rfl : args = #[v0, v1, v2] := by cases args; simp_all
  obtain ⟨r, A, n, a, B, m, b, l0, l1, rfl, hr, hna, hmb, hl0, hl1⟩ := open_disk (hval' 0 26 v0 rfl rfl) h0 (sized_of hwt' (j := 0) (t := 26) rfl rfl) (fun x hx => hlt x (by simp [hx]))
  obtain ⟨D0, dn0, dc0, f0, rfl, hdc0, hD0⟩ := open_ints1 (hval' 1 28 v1 rfl rfl) h1 (sized_of hwt' (j := 1) (t := 28) rfl rfl) (fun x hx => hlt x (by simp [hx]))
  obtain ⟨D1, dn1, dc1, f1, rfl, hdc1, hD1⟩ := open_ints1 (hval' 2 28 v2 rfl rfl) h2 (sized_of hwt' (j := 2) (t := 28) rfl rfl) (fun x hx => hlt x (by simp [hx]))
  refine ⟨rfl, ?_⟩
  by_cases hf : fewD l0 l1 = true
  · by_cases hrt : rightD l0 l1 = true
    · by_cases hjl : 40 < dn0
      · exact walkLongA r A n a B m b l0 l1 D0 dn0 dc0 D1 dn1 dc1 W (Lib.hid hl0) (Lib.hid hl1) hf hrt hjl
      by_cases hql : 40 < dn1
      · exact walkLongB r A n a B m b l0 l1 D0 dn0 dc0 D1 dn1 dc1 W (Lib.hid hl0) (Lib.hid hl1) hf hrt (by omega) hql
      · obtain ⟨e1, g0, g1, h1, _⟩ := right_len hrt
        obtain ⟨h8, _, _⟩ := fewD_iff hf
        obtain rfl : n = m := by have := hl0.1; have := hl1.1; omega
        have hnn : l0.length = n := hl0.1
        exact walk r A n a B b l0 l1 D0 dn0 dc0 f0 D1 dn1 dc1 f1 W (Lib.hid hl0) (Lib.hid hl1) (Lib.hid hD0) (Lib.hid hD1) hdc0 hdc1 hf hrt g0 g1 (by omega) (by omega) (by omega) (by omega)
    · exact walkWrong r A n a B m b l0 l1 D0 dn0 dc0 D1 dn1 dc1 W (Lib.hid hl0) (Lib.hid hl1) hf (by simpa using hrt)
  · exact walkFew r A n a B m b l0 l1 D0 dn0 dc0 D1 dn1 dc1 W (Lib.hid hl0) (Lib.hid hl1) (by simpa using hf)

theorem over : Rows.diskTwiceRow.holds Try.pinned (OpenSpec.ofChange Rows.diskTwiceSpec) :=
  OpenClaim.holds_of_wide 5 Try.f5 rfl rfl rfl rfl rfl rfl rfl ⟨rfl, rfl, rfl, rfl, rfl⟩ rfl rfl rfl rfl rfl (by kernel_rfl) Try.func5 (by kernel_rfl)
    (of_decide_eq_true (by kernel_rfl)) (by unfold Func.isWrapper; first | (rw [if_pos (by decide +kernel)]; kernel_rfl) | (rw [if_neg (by decide +kernel)]; exact ⟨rfl, rfl⟩))
    (fun os started H enc _ => lifted os started H enc)

/-- The statement. -/
theorem proved : Rows.DiskTwiceSaid :=
  over
#print axioms proved
end Go.Proofs.Ytfggnmmiifjilaa.diskTwice
