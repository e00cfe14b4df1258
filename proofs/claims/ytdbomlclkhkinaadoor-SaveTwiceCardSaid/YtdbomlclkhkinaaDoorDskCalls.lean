/-
  The contracts of package disk's Append and Sync, and of the document's own: for each row, and where there is no such stream.
-/
import Derived.Test.YtdbomlclkhkinaaDoorDskStm
import Derived.Deep.RegionHeld3
namespace Go.Proofs.YtdbomlclkhkinaaDoor
open Go.ChangeShapes Go.WideShapes Go.ChangeAt Go.RowKit
set_option linter.unusedVariables false
set_option maxRecDepth 100000

theorem dskAppend_no (r : Int) (A : Option Addr) (n a : Nat) (B : Option Addr) (m b : Nat) (l0 l1 : List Stm) (row i : Int) (hno : hasB row i n m = false) (C : Option Addr) (c j : Nat) (w : World) (h0 : Hid (StmsAt w A n l0)) (h1 : Hid (StmsAt w B m l1)) :
    Calls Tryd.prog 67 #[.agg #[.int .u64 r, .slice A n a, .slice B m b], .int .i64 row, .int .i64 i, .slice C j c] w (DskPostC w r A B n m l0 l1 1) := by
  have HH := fun w => hasStream_any r A n a B m b row i w
  rw [hno] at HH
  clear hno
  go_enter Tryd.func67, Tryd.ntmps67
  go_wp2_with fail
  (with_reducible refine (HH _).mono ?_)
  rintro e w2 ⟨rfl, hb⟩
  have hS := (DskS.made w (.int .u64 r) (.slice A n a) (.slice B m b) (.int .u64 0) (.slice none 0 0) (.slice none 0 0) 31).later hb
  have HB := Lib.hid hS.1
  have c0 := hS.c0
  have c1 := hS.c1
  have c2 := hS.c2
  have r0 := hS.r 0 (by omega)
  have r1 := hS.r 1 (by omega)
  have r2 := hS.r 2 (by omega)
  have f0 := hS.f 0 (by omega)
  have f1 := hS.f 1 (by omega)
  have f2 := hS.f 2 (by omega)
  clear hb HH hS
  go_wp2_with fail
  exact bodyPost_ret (v := .tuple #[.agg #[.int .u64 r, .slice A n a, .slice B m b], .int .i64 1]) (by simp [results, Tryd.results67, go_sem, r0, r1, r2]) rfl (DskPostC.self h0.out h1.out (below_setCells (b := w.heap.size + 1) (by omega) [.int .u64 r, .slice A n a, .slice B m b] 0 _ HB.out) 1)

set_option maxHeartbeats 2000000 in
theorem dskAppend0_at (r : Int) (A : Option Addr) (n a : Nat) (B : Option Addr) (m b : Nat) (l0 l1 : List Stm) (k : Nat) (hk : k < n) (hn : n ≤ 1000000) (x : Stm) (hx : l0[k]? = some x) (C : Option Addr) (c j : Nat) (ys : List Nat) (hxy : x.bytes.length + j ≤ 140737488355328) (w : World) (h0 : Hid (StmsAt w A n l0)) (h1 : Hid (StmsAt w B m l1)) (hC : Hid (AtB w C j ys)) :
    Calls Tryd.prog 67 #[.agg #[.int .u64 r, .slice A n a, .slice B m b], .int .i64 0, .int .i64 (k : Int), .slice C j c] w (DskPostC w r A B n m (l0.set k (x.app ys)) l1 0) := by
  have HXY := Lib.hid hxy
  have HYS := Lib.hid hC.out.1
  clear hxy
  have HN := Lib.hid hn
  obtain ⟨x', g, off, A0, cap, hx', e0, hg, hg0, hg1, hlc, hlm, hat, hsy⟩ := h0.out.at_ k hk
  obtain rfl : x' = x := Option.some.inj (hx'.symm.trans hx)
  subst e0
  have HAT := Lib.hid hat
  have HLM := Lib.hid hlm
  have HSY := Lib.hid hsy
  have HG0 := Lib.hid hg0
  have HH := fun w => hasStream_any r (some ⟨g, off, none⟩) n a B m b 0 (k : Int) w
  rw [show hasB 0 (k : Int) n m = true by unfold hasB; rw [if_pos rfl, isB_nat hk]; rfl] at HH
  have hC0 : ∀ w', DskS w (.int .u64 r) (.slice (some ⟨g, off, none⟩) n a) (.slice B m b) w' → w'.cell? ⟨w.heap.size, 0, none⟩ = some (.int .u64 r) := fun w' h => h.c0
  have hC1 : ∀ w', DskS w (.int .u64 r) (.slice (some ⟨g, off, none⟩) n a) (.slice B m b) w' → w'.cell? ⟨w.heap.size, 1, none⟩ = some (.slice (some ⟨g, off, none⟩) n a) := fun w' h => h.c1
  have hC2 : ∀ w', DskS w (.int .u64 r) (.slice (some ⟨g, off, none⟩) n a) (.slice B m b) w' → w'.cell? ⟨w.heap.size, 2, none⟩ = some (.slice B m b) := fun w' h => h.c2
  have hD0 : ∀ w', DskS w (.int .u64 r) (.slice (some ⟨g, off, none⟩) n a) (.slice B m b) w' → w'.cell? ⟨g, off + k * 2, none⟩ = some (.slice A0 x'.bytes.length cap) := fun w' h => h.cell hg hg0
  have hD1 : ∀ w', DskS w (.int .u64 r) (.slice (some ⟨g, off, none⟩) n a) (.slice B m b) w' → w'.cell? ⟨g, off + k * 2 + 1, none⟩ = some (.int .i64 x'.synced) := fun w' h => h.cell hg hg1
  have hR0 : ∀ w', DskS w (.int .u64 r) (.slice (some ⟨g, off, none⟩) n a) (.slice B m b) w' → w'.cell? ⟨w.heap.size + 1, 0, none⟩ = some (cellV w' (w.heap.size + 1) 0) := fun w' h => h.r 0 (by omega)
  have hF0 : ∀ w', DskS w (.int .u64 r) (.slice (some ⟨g, off, none⟩) n a) (.slice B m b) w' → w'.frozen? ⟨w.heap.size + 1, 0, none⟩ = false := fun w' h => h.f 0 (by omega)
  have hR1 : ∀ w', DskS w (.int .u64 r) (.slice (some ⟨g, off, none⟩) n a) (.slice B m b) w' → w'.cell? ⟨w.heap.size + 1, 1, none⟩ = some (cellV w' (w.heap.size + 1) 1) := fun w' h => h.r 1 (by omega)
  have hF1 : ∀ w', DskS w (.int .u64 r) (.slice (some ⟨g, off, none⟩) n a) (.slice B m b) w' → w'.frozen? ⟨w.heap.size + 1, 1, none⟩ = false := fun w' h => h.f 1 (by omega)
  have hR2 : ∀ w', DskS w (.int .u64 r) (.slice (some ⟨g, off, none⟩) n a) (.slice B m b) w' → w'.cell? ⟨w.heap.size + 1, 2, none⟩ = some (cellV w' (w.heap.size + 1) 2) := fun w' h => h.r 2 (by omega)
  have hF2 : ∀ w', DskS w (.int .u64 r) (.slice (some ⟨g, off, none⟩) n a) (.slice B m b) w' → w'.frozen? ⟨w.heap.size + 1, 2, none⟩ = false := fun w' h => h.f 2 (by omega)
  clear hg0 hg1 hat hlm hsy hx hx' hn hg
  go_enter Tryd.func67, Tryd.ntmps67
  go_wp2_with fail
  (with_reducible refine (HH _).mono ?_)
  rintro e w2 ⟨rfl, hb⟩
  have hS0 := (DskS.made w (.int .u64 r) (.slice (some ⟨g, off, none⟩) n a) (.slice B m b) (.int .u64 0) (.slice none 0 0) (.slice none 0 0) 31).later hb
  clear hb HH
  go_wp2_with fail
  first | (go_region_held3 (fun w' => DskS w (.int .u64 r) (.slice (some ⟨g, off, none⟩) n a) (.slice B m b) w') (first | assumption | (with_reducible refine DskS.res ?_ _ _; with_reducible refine DskS.res ?_ _ _; with_reducible refine DskS.res ?_ _ _; with_reducible assumption) | (exact DskS.drew (by assumption)))
    (first
      | (go_at_call 89; (with_reducible refine (appendS_at A0 x' cap hlc C j c ys HXY.out _ (Lib.hid (AtB.below HAT.out (DskS.bel (by assumption)) (Nat.le_refl _))) (Lib.hid (AtB.below hC.out (DskS.bel (by assumption)) (Nat.le_refl _)))).mono ?_); rintro e w3 ⟨C3, c3, rfl, hc3, hat3, hb3, hni3⟩; have hS3 := DskS.later (by assumption : DskS w (.int .u64 r) (.slice (some ⟨g, off, none⟩) n a) (.slice B m b) _) hb3; have HC3 := Lib.hid hc3; have HAT3 := Lib.hid hat3; have HB3 := Lib.hid hb3; have HF := Lib.hid (fun w3' e w4 hb3' h => DskPost.done (w3 := w3') (e := e) (w4 := w4) (r := r) (l0 := (l0.set k (x'.app ys))) (l1 := l1) h0.out h1.out (DskS.bel (by assumption : DskS w (.int .u64 r) (.slice (some ⟨g, off, none⟩) n a) (.slice B m b) _)) hb3' (fun P hF hA hB => nigh_off h0.out hA hF rfl hk HG0.out hat3 hni3) (w.heap.size + 1) (by omega) (DskS.room (by assumption : DskS w (.int .u64 r) (.slice (some ⟨g, off, none⟩) n a) (.slice B m b) _)) 0 h); clear hc3 hat3 hb3 hni3)
      | (go_at_call 88; (with_reducible refine (with0_at r (some ⟨g, off, none⟩) n a B m b l0 l1 k hk HN.out C3 c3 (x'.app ys) HC3.out (by have := HXY.out; have := HYS.out; simp [Stm.app]; omega) (by have := HSY.out; simp only [Stm.app]; exact this) _ (Lib.hid (DskS.stms (by assumption : DskS w (.int .u64 r) (.slice (some ⟨g, off, none⟩) n a) (.slice B m b) _) h0.out)) (Lib.hid (DskS.stms (by assumption : DskS w (.int .u64 r) (.slice (some ⟨g, off, none⟩) n a) (.slice B m b) _) h1.out)) (Lib.hid (AtB.below HAT3.out (by first | exact Below.refl _ _ | exact Below.drew (Below.refl _ _)) (Nat.le_refl _)))).mono ?_); rintro e w4 h; obtain ⟨A', a', B', b', rfl, hb4, hfin⟩ := HF.out _ _ _ (by first | exact HB3.out | exact Below.drew HB3.out) h; have hS4 := DskS.later (by assumption : DskS w (.int .u64 r) (.slice (some ⟨g, off, none⟩) n a) (.slice B m b) _) hb4; have HFIN := Lib.hid hfin; clear hfin hb4 h))) | fail
  have hS9 := (by assumption : DskS w (.int .u64 r) (.slice (some ⟨g, off, none⟩) n a) (.slice B m b) (((w4.setCell ⟨w.heap.size + 1, 0, none⟩ (.int .u64 r)).setCell ⟨w.heap.size + 1, 1, none⟩ (.slice A' n a')).setCell ⟨w.heap.size + 1, 2, none⟩ (.slice B' m b')))
  have HP := Lib.hid (HFIN.out _ rfl hS9.1)
  have r0 := hR0 w4 hS4
  have r1 := hR1 w4 hS4
  have r2 := hR2 w4 hS4
  clear hS9 HFIN HF hC0 hC1 hC2 hD0 hD1 hR0 hR1 hR2 hF0 hF1 hF2
  go_wp2_with fail
  exact bodyPost_ret (v := .tuple #[.agg #[.int .u64 r, .slice A' n a', .slice B' m b'], .int .i64 0]) (by simp [results, Tryd.results67, go_sem, r0, r1, r2]) rfl HP.out

set_option maxHeartbeats 2000000 in
theorem dskAppend1_at (r : Int) (A : Option Addr) (n a : Nat) (B : Option Addr) (m b : Nat) (l0 l1 : List Stm) (k : Nat) (hk : k < m) (hn : m ≤ 1000000) (x : Stm) (hx : l1[k]? = some x) (C : Option Addr) (c j : Nat) (ys : List Nat) (hxy : x.bytes.length + j ≤ 140737488355328) (w : World) (h0 : Hid (StmsAt w A n l0)) (h1 : Hid (StmsAt w B m l1)) (hC : Hid (AtB w C j ys)) :
    Calls Tryd.prog 67 #[.agg #[.int .u64 r, .slice A n a, .slice B m b], .int .i64 1, .int .i64 (k : Int), .slice C j c] w (DskPostC w r A B n m l0 (l1.set k (x.app ys)) 0) := by
  have HXY := Lib.hid hxy
  have HYS := Lib.hid hC.out.1
  clear hxy
  have HN := Lib.hid hn
  obtain ⟨x', g, off, A0, cap, hx', e0, hg, hg0, hg1, hlc, hlm, hat, hsy⟩ := h1.out.at_ k hk
  obtain rfl : x' = x := Option.some.inj (hx'.symm.trans hx)
  subst e0
  have HAT := Lib.hid hat
  have HLM := Lib.hid hlm
  have HSY := Lib.hid hsy
  have HG0 := Lib.hid hg0
  have HH := fun w => hasStream_any r A n a (some ⟨g, off, none⟩) m b 1 (k : Int) w
  rw [show hasB 1 (k : Int) n m = true by unfold hasB; rw [if_neg (by decide), isB_nat hk]; rfl] at HH
  have hC0 : ∀ w', DskS w (.int .u64 r) (.slice A n a) (.slice (some ⟨g, off, none⟩) m b) w' → w'.cell? ⟨w.heap.size, 0, none⟩ = some (.int .u64 r) := fun w' h => h.c0
  have hC1 : ∀ w', DskS w (.int .u64 r) (.slice A n a) (.slice (some ⟨g, off, none⟩) m b) w' → w'.cell? ⟨w.heap.size, 1, none⟩ = some (.slice A n a) := fun w' h => h.c1
  have hC2 : ∀ w', DskS w (.int .u64 r) (.slice A n a) (.slice (some ⟨g, off, none⟩) m b) w' → w'.cell? ⟨w.heap.size, 2, none⟩ = some (.slice (some ⟨g, off, none⟩) m b) := fun w' h => h.c2
  have hD0 : ∀ w', DskS w (.int .u64 r) (.slice A n a) (.slice (some ⟨g, off, none⟩) m b) w' → w'.cell? ⟨g, off + k * 2, none⟩ = some (.slice A0 x'.bytes.length cap) := fun w' h => h.cell hg hg0
  have hD1 : ∀ w', DskS w (.int .u64 r) (.slice A n a) (.slice (some ⟨g, off, none⟩) m b) w' → w'.cell? ⟨g, off + k * 2 + 1, none⟩ = some (.int .i64 x'.synced) := fun w' h => h.cell hg hg1
  have hR0 : ∀ w', DskS w (.int .u64 r) (.slice A n a) (.slice (some ⟨g, off, none⟩) m b) w' → w'.cell? ⟨w.heap.size + 1, 0, none⟩ = some (cellV w' (w.heap.size + 1) 0) := fun w' h => h.r 0 (by omega)
  have hF0 : ∀ w', DskS w (.int .u64 r) (.slice A n a) (.slice (some ⟨g, off, none⟩) m b) w' → w'.frozen? ⟨w.heap.size + 1, 0, none⟩ = false := fun w' h => h.f 0 (by omega)
  have hR1 : ∀ w', DskS w (.int .u64 r) (.slice A n a) (.slice (some ⟨g, off, none⟩) m b) w' → w'.cell? ⟨w.heap.size + 1, 1, none⟩ = some (cellV w' (w.heap.size + 1) 1) := fun w' h => h.r 1 (by omega)
  have hF1 : ∀ w', DskS w (.int .u64 r) (.slice A n a) (.slice (some ⟨g, off, none⟩) m b) w' → w'.frozen? ⟨w.heap.size + 1, 1, none⟩ = false := fun w' h => h.f 1 (by omega)
  have hR2 : ∀ w', DskS w (.int .u64 r) (.slice A n a) (.slice (some ⟨g, off, none⟩) m b) w' → w'.cell? ⟨w.heap.size + 1, 2, none⟩ = some (cellV w' (w.heap.size + 1) 2) := fun w' h => h.r 2 (by omega)
  have hF2 : ∀ w', DskS w (.int .u64 r) (.slice A n a) (.slice (some ⟨g, off, none⟩) m b) w' → w'.frozen? ⟨w.heap.size + 1, 2, none⟩ = false := fun w' h => h.f 2 (by omega)
  clear hg0 hg1 hat hlm hsy hx hx' hn hg
  go_enter Tryd.func67, Tryd.ntmps67
  go_wp2_with fail
  (with_reducible refine (HH _).mono ?_)
  rintro e w2 ⟨rfl, hb⟩
  have hS0 := (DskS.made w (.int .u64 r) (.slice A n a) (.slice (some ⟨g, off, none⟩) m b) (.int .u64 0) (.slice none 0 0) (.slice none 0 0) 31).later hb
  clear hb HH
  go_wp2_with fail
  first | (go_region_held3 (fun w' => DskS w (.int .u64 r) (.slice A n a) (.slice (some ⟨g, off, none⟩) m b) w') (first | assumption | (with_reducible refine DskS.res ?_ _ _; with_reducible refine DskS.res ?_ _ _; with_reducible refine DskS.res ?_ _ _; with_reducible assumption) | (exact DskS.drew (by assumption)))
    (first
      | (go_at_call 89; (with_reducible refine (appendS_at A0 x' cap hlc C j c ys HXY.out _ (Lib.hid (AtB.below HAT.out (DskS.bel (by assumption)) (Nat.le_refl _))) (Lib.hid (AtB.below hC.out (DskS.bel (by assumption)) (Nat.le_refl _)))).mono ?_); rintro e w3 ⟨C3, c3, rfl, hc3, hat3, hb3, hni3⟩; have hS3 := DskS.later (by assumption : DskS w (.int .u64 r) (.slice A n a) (.slice (some ⟨g, off, none⟩) m b) _) hb3; have HC3 := Lib.hid hc3; have HAT3 := Lib.hid hat3; have HB3 := Lib.hid hb3; have HF := Lib.hid (fun w3' e w4 hb3' h => DskPost.done (w3 := w3') (e := e) (w4 := w4) (r := r) (l0 := l0) (l1 := (l1.set k (x'.app ys))) h0.out h1.out (DskS.bel (by assumption : DskS w (.int .u64 r) (.slice A n a) (.slice (some ⟨g, off, none⟩) m b) _)) hb3' (fun P hF hA hB => nigh_off h1.out hB hF rfl hk HG0.out hat3 hni3) (w.heap.size + 1) (by omega) (DskS.room (by assumption : DskS w (.int .u64 r) (.slice A n a) (.slice (some ⟨g, off, none⟩) m b) _)) 0 h); clear hc3 hat3 hb3 hni3)
      | (go_at_call 88; (with_reducible refine (with1_at r A n a (some ⟨g, off, none⟩) m b l0 l1 k hk HN.out C3 c3 (x'.app ys) HC3.out (by have := HXY.out; have := HYS.out; simp [Stm.app]; omega) (by have := HSY.out; simp only [Stm.app]; exact this) _ (Lib.hid (DskS.stms (by assumption : DskS w (.int .u64 r) (.slice A n a) (.slice (some ⟨g, off, none⟩) m b) _) h0.out)) (Lib.hid (DskS.stms (by assumption : DskS w (.int .u64 r) (.slice A n a) (.slice (some ⟨g, off, none⟩) m b) _) h1.out)) (Lib.hid (AtB.below HAT3.out (by first | exact Below.refl _ _ | exact Below.drew (Below.refl _ _)) (Nat.le_refl _)))).mono ?_); rintro e w4 h; obtain ⟨A', a', B', b', rfl, hb4, hfin⟩ := HF.out _ _ _ (by first | exact HB3.out | exact Below.drew HB3.out) h; have hS4 := DskS.later (by assumption : DskS w (.int .u64 r) (.slice A n a) (.slice (some ⟨g, off, none⟩) m b) _) hb4; have HFIN := Lib.hid hfin; clear hfin hb4 h))) | fail
  have hS9 := (by assumption : DskS w (.int .u64 r) (.slice A n a) (.slice (some ⟨g, off, none⟩) m b) (((w4.setCell ⟨w.heap.size + 1, 0, none⟩ (.int .u64 r)).setCell ⟨w.heap.size + 1, 1, none⟩ (.slice A' n a')).setCell ⟨w.heap.size + 1, 2, none⟩ (.slice B' m b')))
  have HP := Lib.hid (HFIN.out _ rfl hS9.1)
  have r0 := hR0 w4 hS4
  have r1 := hR1 w4 hS4
  have r2 := hR2 w4 hS4
  clear hS9 HFIN HF hC0 hC1 hC2 hD0 hD1 hR0 hR1 hR2 hF0 hF1 hF2
  go_wp2_with fail
  exact bodyPost_ret (v := .tuple #[.agg #[.int .u64 r, .slice A' n a', .slice B' m b'], .int .i64 0]) (by simp [results, Tryd.results67, go_sem, r0, r1, r2]) rfl HP.out

theorem dskSync_no (r : Int) (A : Option Addr) (n a : Nat) (B : Option Addr) (m b : Nat) (l0 l1 : List Stm) (row i : Int) (hno : hasB row i n m = false) (w : World) (h0 : Hid (StmsAt w A n l0)) (h1 : Hid (StmsAt w B m l1)) :
    Calls Tryd.prog 68 #[.agg #[.int .u64 r, .slice A n a, .slice B m b], .int .i64 row, .int .i64 i] w (DskPostC w r A B n m l0 l1 1) := by
  have HH := fun w => hasStream_any r A n a B m b row i w
  rw [hno] at HH
  clear hno
  go_enter Tryd.func68, Tryd.ntmps68
  go_wp2_with fail
  (with_reducible refine (HH _).mono ?_)
  rintro e w2 ⟨rfl, hb⟩
  have hS := (DskS.made w (.int .u64 r) (.slice A n a) (.slice B m b) (.int .u64 0) (.slice none 0 0) (.slice none 0 0) 31).later hb
  have HB := Lib.hid hS.1
  have c0 := hS.c0
  have c1 := hS.c1
  have c2 := hS.c2
  have r0 := hS.r 0 (by omega)
  have r1 := hS.r 1 (by omega)
  have r2 := hS.r 2 (by omega)
  have f0 := hS.f 0 (by omega)
  have f1 := hS.f 1 (by omega)
  have f2 := hS.f 2 (by omega)
  clear hb HH hS
  go_wp2_with fail
  exact bodyPost_ret (v := .tuple #[.agg #[.int .u64 r, .slice A n a, .slice B m b], .int .i64 1]) (by simp [results, Tryd.results68, go_sem, r0, r1, r2]) rfl (DskPostC.self h0.out h1.out (below_setCells (b := w.heap.size + 1) (by omega) [.int .u64 r, .slice A n a, .slice B m b] 0 _ HB.out) 1)

set_option maxHeartbeats 2000000 in
theorem dskSync0_at (r : Int) (A : Option Addr) (n a : Nat) (B : Option Addr) (m b : Nat) (l0 l1 : List Stm) (k : Nat) (hk : k < n) (hn : n ≤ 1000000) (x : Stm) (hx : l0[k]? = some x) (w : World) (h0 : Hid (StmsAt w A n l0)) (h1 : Hid (StmsAt w B m l1)) :
    Calls Tryd.prog 68 #[.agg #[.int .u64 r, .slice A n a, .slice B m b], .int .i64 0, .int .i64 (k : Int)] w (DskPostC w r A B n m (l0.set k x.syn) l1 0) := by
  have HN := Lib.hid hn
  obtain ⟨x', g, off, A0, cap, hx', e0, hg, hg0, hg1, hlc, hlm, hat, hsy⟩ := h0.out.at_ k hk
  obtain rfl : x' = x := Option.some.inj (hx'.symm.trans hx)
  subst e0
  have HAT := Lib.hid hat
  have HLM := Lib.hid hlm
  have HSY := Lib.hid hsy
  have HG0 := Lib.hid hg0
  have HH := fun w => hasStream_any r (some ⟨g, off, none⟩) n a B m b 0 (k : Int) w
  rw [show hasB 0 (k : Int) n m = true by unfold hasB; rw [if_pos rfl, isB_nat hk]; rfl] at HH
  have hC0 : ∀ w', DskS w (.int .u64 r) (.slice (some ⟨g, off, none⟩) n a) (.slice B m b) w' → w'.cell? ⟨w.heap.size, 0, none⟩ = some (.int .u64 r) := fun w' h => h.c0
  have hC1 : ∀ w', DskS w (.int .u64 r) (.slice (some ⟨g, off, none⟩) n a) (.slice B m b) w' → w'.cell? ⟨w.heap.size, 1, none⟩ = some (.slice (some ⟨g, off, none⟩) n a) := fun w' h => h.c1
  have hC2 : ∀ w', DskS w (.int .u64 r) (.slice (some ⟨g, off, none⟩) n a) (.slice B m b) w' → w'.cell? ⟨w.heap.size, 2, none⟩ = some (.slice B m b) := fun w' h => h.c2
  have hD0 : ∀ w', DskS w (.int .u64 r) (.slice (some ⟨g, off, none⟩) n a) (.slice B m b) w' → w'.cell? ⟨g, off + k * 2, none⟩ = some (.slice A0 x'.bytes.length cap) := fun w' h => h.cell hg hg0
  have hD1 : ∀ w', DskS w (.int .u64 r) (.slice (some ⟨g, off, none⟩) n a) (.slice B m b) w' → w'.cell? ⟨g, off + k * 2 + 1, none⟩ = some (.int .i64 x'.synced) := fun w' h => h.cell hg hg1
  have hR0 : ∀ w', DskS w (.int .u64 r) (.slice (some ⟨g, off, none⟩) n a) (.slice B m b) w' → w'.cell? ⟨w.heap.size + 1, 0, none⟩ = some (cellV w' (w.heap.size + 1) 0) := fun w' h => h.r 0 (by omega)
  have hF0 : ∀ w', DskS w (.int .u64 r) (.slice (some ⟨g, off, none⟩) n a) (.slice B m b) w' → w'.frozen? ⟨w.heap.size + 1, 0, none⟩ = false := fun w' h => h.f 0 (by omega)
  have hR1 : ∀ w', DskS w (.int .u64 r) (.slice (some ⟨g, off, none⟩) n a) (.slice B m b) w' → w'.cell? ⟨w.heap.size + 1, 1, none⟩ = some (cellV w' (w.heap.size + 1) 1) := fun w' h => h.r 1 (by omega)
  have hF1 : ∀ w', DskS w (.int .u64 r) (.slice (some ⟨g, off, none⟩) n a) (.slice B m b) w' → w'.frozen? ⟨w.heap.size + 1, 1, none⟩ = false := fun w' h => h.f 1 (by omega)
  have hR2 : ∀ w', DskS w (.int .u64 r) (.slice (some ⟨g, off, none⟩) n a) (.slice B m b) w' → w'.cell? ⟨w.heap.size + 1, 2, none⟩ = some (cellV w' (w.heap.size + 1) 2) := fun w' h => h.r 2 (by omega)
  have hF2 : ∀ w', DskS w (.int .u64 r) (.slice (some ⟨g, off, none⟩) n a) (.slice B m b) w' → w'.frozen? ⟨w.heap.size + 1, 2, none⟩ = false := fun w' h => h.f 2 (by omega)
  clear hg0 hg1 hat hlm hsy hx hx' hn hg
  go_enter Tryd.func68, Tryd.ntmps68
  go_wp2_with fail
  (with_reducible refine (HH _).mono ?_)
  rintro e w2 ⟨rfl, hb⟩
  have hS0 := (DskS.made w (.int .u64 r) (.slice (some ⟨g, off, none⟩) n a) (.slice B m b) (.int .u64 0) (.slice none 0 0) (.slice none 0 0) 31).later hb
  clear hb HH
  go_wp2_with fail
  first | (go_region_held3 (fun w' => DskS w (.int .u64 r) (.slice (some ⟨g, off, none⟩) n a) (.slice B m b) w') (first | assumption | (with_reducible refine DskS.res ?_ _ _; with_reducible refine DskS.res ?_ _ _; with_reducible refine DskS.res ?_ _ _; with_reducible assumption) | (exact DskS.drew (by assumption)))
    (first
      | (go_at_call 90; (with_reducible refine (syncS_at A0 x' cap hlc _ (Lib.hid (AtB.below HAT.out (DskS.bel (by assumption)) (Nat.le_refl _)))).mono ?_); rintro e w3 ⟨C3, c3, rfl, hc3, hat3, hb3, hni3⟩; have hS3 := DskS.later (by assumption : DskS w (.int .u64 r) (.slice (some ⟨g, off, none⟩) n a) (.slice B m b) _) hb3; have HC3 := Lib.hid hc3; have HAT3 := Lib.hid hat3; have HB3 := Lib.hid hb3; have HF := Lib.hid (fun w3' e w4 hb3' h => DskPost.done (w3 := w3') (e := e) (w4 := w4) (r := r) (l0 := (l0.set k x'.syn)) (l1 := l1) h0.out h1.out (DskS.bel (by assumption : DskS w (.int .u64 r) (.slice (some ⟨g, off, none⟩) n a) (.slice B m b) _)) hb3' (fun P hF hA hB => nigh_off h0.out hA hF rfl hk HG0.out hat3 hni3) (w.heap.size + 1) (by omega) (DskS.room (by assumption : DskS w (.int .u64 r) (.slice (some ⟨g, off, none⟩) n a) (.slice B m b) _)) 0 h); clear hc3 hat3 hb3 hni3)
      | (go_at_call 88; (with_reducible refine (with0_at r (some ⟨g, off, none⟩) n a B m b l0 l1 k hk HN.out C3 c3 x'.syn HC3.out (by have := HLM.out; simp only [Stm.syn]; omega) (by have := HLM.out; simp only [Stm.syn]; omega) _ (Lib.hid (DskS.stms (by assumption : DskS w (.int .u64 r) (.slice (some ⟨g, off, none⟩) n a) (.slice B m b) _) h0.out)) (Lib.hid (DskS.stms (by assumption : DskS w (.int .u64 r) (.slice (some ⟨g, off, none⟩) n a) (.slice B m b) _) h1.out)) (Lib.hid (AtB.below HAT3.out (by first | exact Below.refl _ _ | exact Below.drew (Below.refl _ _)) (Nat.le_refl _)))).mono ?_); rintro e w4 h; obtain ⟨A', a', B', b', rfl, hb4, hfin⟩ := HF.out _ _ _ (by first | exact HB3.out | exact Below.drew HB3.out) h; have hS4 := DskS.later (by assumption : DskS w (.int .u64 r) (.slice (some ⟨g, off, none⟩) n a) (.slice B m b) _) hb4; have HFIN := Lib.hid hfin; clear hfin hb4 h))) | fail
  have hS9 := (by assumption : DskS w (.int .u64 r) (.slice (some ⟨g, off, none⟩) n a) (.slice B m b) (((w4.setCell ⟨w.heap.size + 1, 0, none⟩ (.int .u64 r)).setCell ⟨w.heap.size + 1, 1, none⟩ (.slice A' n a')).setCell ⟨w.heap.size + 1, 2, none⟩ (.slice B' m b')))
  have HP := Lib.hid (HFIN.out _ rfl hS9.1)
  have r0 := hR0 w4 hS4
  have r1 := hR1 w4 hS4
  have r2 := hR2 w4 hS4
  clear hS9 HFIN HF hC0 hC1 hC2 hD0 hD1 hR0 hR1 hR2 hF0 hF1 hF2
  go_wp2_with fail
  exact bodyPost_ret (v := .tuple #[.agg #[.int .u64 r, .slice A' n a', .slice B' m b'], .int .i64 0]) (by simp [results, Tryd.results68, go_sem, r0, r1, r2]) rfl HP.out

set_option maxHeartbeats 2000000 in
theorem dskSync1_at (r : Int) (A : Option Addr) (n a : Nat) (B : Option Addr) (m b : Nat) (l0 l1 : List Stm) (k : Nat) (hk : k < m) (hn : m ≤ 1000000) (x : Stm) (hx : l1[k]? = some x) (w : World) (h0 : Hid (StmsAt w A n l0)) (h1 : Hid (StmsAt w B m l1)) :
    Calls Tryd.prog 68 #[.agg #[.int .u64 r, .slice A n a, .slice B m b], .int .i64 1, .int .i64 (k : Int)] w (DskPostC w r A B n m l0 (l1.set k x.syn) 0) := by
  have HN := Lib.hid hn
  obtain ⟨x', g, off, A0, cap, hx', e0, hg, hg0, hg1, hlc, hlm, hat, hsy⟩ := h1.out.at_ k hk
  obtain rfl : x' = x := Option.some.inj (hx'.symm.trans hx)
  subst e0
  have HAT := Lib.hid hat
  have HLM := Lib.hid hlm
  have HSY := Lib.hid hsy
  have HG0 := Lib.hid hg0
  have HH := fun w => hasStream_any r A n a (some ⟨g, off, none⟩) m b 1 (k : Int) w
  rw [show hasB 1 (k : Int) n m = true by unfold hasB; rw [if_neg (by decide), isB_nat hk]; rfl] at HH
  have hC0 : ∀ w', DskS w (.int .u64 r) (.slice A n a) (.slice (some ⟨g, off, none⟩) m b) w' → w'.cell? ⟨w.heap.size, 0, none⟩ = some (.int .u64 r) := fun w' h => h.c0
  have hC1 : ∀ w', DskS w (.int .u64 r) (.slice A n a) (.slice (some ⟨g, off, none⟩) m b) w' → w'.cell? ⟨w.heap.size, 1, none⟩ = some (.slice A n a) := fun w' h => h.c1
  have hC2 : ∀ w', DskS w (.int .u64 r) (.slice A n a) (.slice (some ⟨g, off, none⟩) m b) w' → w'.cell? ⟨w.heap.size, 2, none⟩ = some (.slice (some ⟨g, off, none⟩) m b) := fun w' h => h.c2
  have hD0 : ∀ w', DskS w (.int .u64 r) (.slice A n a) (.slice (some ⟨g, off, none⟩) m b) w' → w'.cell? ⟨g, off + k * 2, none⟩ = some (.slice A0 x'.bytes.length cap) := fun w' h => h.cell hg hg0
  have hD1 : ∀ w', DskS w (.int .u64 r) (.slice A n a) (.slice (some ⟨g, off, none⟩) m b) w' → w'.cell? ⟨g, off + k * 2 + 1, none⟩ = some (.int .i64 x'.synced) := fun w' h => h.cell hg hg1
  have hR0 : ∀ w', DskS w (.int .u64 r) (.slice A n a) (.slice (some ⟨g, off, none⟩) m b) w' → w'.cell? ⟨w.heap.size + 1, 0, none⟩ = some (cellV w' (w.heap.size + 1) 0) := fun w' h => h.r 0 (by omega)
  have hF0 : ∀ w', DskS w (.int .u64 r) (.slice A n a) (.slice (some ⟨g, off, none⟩) m b) w' → w'.frozen? ⟨w.heap.size + 1, 0, none⟩ = false := fun w' h => h.f 0 (by omega)
  have hR1 : ∀ w', DskS w (.int .u64 r) (.slice A n a) (.slice (some ⟨g, off, none⟩) m b) w' → w'.cell? ⟨w.heap.size + 1, 1, none⟩ = some (cellV w' (w.heap.size + 1) 1) := fun w' h => h.r 1 (by omega)
  have hF1 : ∀ w', DskS w (.int .u64 r) (.slice A n a) (.slice (some ⟨g, off, none⟩) m b) w' → w'.frozen? ⟨w.heap.size + 1, 1, none⟩ = false := fun w' h => h.f 1 (by omega)
  have hR2 : ∀ w', DskS w (.int .u64 r) (.slice A n a) (.slice (some ⟨g, off, none⟩) m b) w' → w'.cell? ⟨w.heap.size + 1, 2, none⟩ = some (cellV w' (w.heap.size + 1) 2) := fun w' h => h.r 2 (by omega)
  have hF2 : ∀ w', DskS w (.int .u64 r) (.slice A n a) (.slice (some ⟨g, off, none⟩) m b) w' → w'.frozen? ⟨w.heap.size + 1, 2, none⟩ = false := fun w' h => h.f 2 (by omega)
  clear hg0 hg1 hat hlm hsy hx hx' hn hg
  go_enter Tryd.func68, Tryd.ntmps68
  go_wp2_with fail
  (with_reducible refine (HH _).mono ?_)
  rintro e w2 ⟨rfl, hb⟩
  have hS0 := (DskS.made w (.int .u64 r) (.slice A n a) (.slice (some ⟨g, off, none⟩) m b) (.int .u64 0) (.slice none 0 0) (.slice none 0 0) 31).later hb
  clear hb HH
  go_wp2_with fail
  first | (go_region_held3 (fun w' => DskS w (.int .u64 r) (.slice A n a) (.slice (some ⟨g, off, none⟩) m b) w') (first | assumption | (with_reducible refine DskS.res ?_ _ _; with_reducible refine DskS.res ?_ _ _; with_reducible refine DskS.res ?_ _ _; with_reducible assumption) | (exact DskS.drew (by assumption)))
    (first
      | (go_at_call 90; (with_reducible refine (syncS_at A0 x' cap hlc _ (Lib.hid (AtB.below HAT.out (DskS.bel (by assumption)) (Nat.le_refl _)))).mono ?_); rintro e w3 ⟨C3, c3, rfl, hc3, hat3, hb3, hni3⟩; have hS3 := DskS.later (by assumption : DskS w (.int .u64 r) (.slice A n a) (.slice (some ⟨g, off, none⟩) m b) _) hb3; have HC3 := Lib.hid hc3; have HAT3 := Lib.hid hat3; have HB3 := Lib.hid hb3; have HF := Lib.hid (fun w3' e w4 hb3' h => DskPost.done (w3 := w3') (e := e) (w4 := w4) (r := r) (l0 := l0) (l1 := (l1.set k x'.syn)) h0.out h1.out (DskS.bel (by assumption : DskS w (.int .u64 r) (.slice A n a) (.slice (some ⟨g, off, none⟩) m b) _)) hb3' (fun P hF hA hB => nigh_off h1.out hB hF rfl hk HG0.out hat3 hni3) (w.heap.size + 1) (by omega) (DskS.room (by assumption : DskS w (.int .u64 r) (.slice A n a) (.slice (some ⟨g, off, none⟩) m b) _)) 0 h); clear hc3 hat3 hb3 hni3)
      | (go_at_call 88; (with_reducible refine (with1_at r A n a (some ⟨g, off, none⟩) m b l0 l1 k hk HN.out C3 c3 x'.syn HC3.out (by have := HLM.out; simp only [Stm.syn]; omega) (by have := HLM.out; simp only [Stm.syn]; omega) _ (Lib.hid (DskS.stms (by assumption : DskS w (.int .u64 r) (.slice A n a) (.slice (some ⟨g, off, none⟩) m b) _) h0.out)) (Lib.hid (DskS.stms (by assumption : DskS w (.int .u64 r) (.slice A n a) (.slice (some ⟨g, off, none⟩) m b) _) h1.out)) (Lib.hid (AtB.below HAT3.out (by first | exact Below.refl _ _ | exact Below.drew (Below.refl _ _)) (Nat.le_refl _)))).mono ?_); rintro e w4 h; obtain ⟨A', a', B', b', rfl, hb4, hfin⟩ := HF.out _ _ _ (by first | exact HB3.out | exact Below.drew HB3.out) h; have hS4 := DskS.later (by assumption : DskS w (.int .u64 r) (.slice A n a) (.slice (some ⟨g, off, none⟩) m b) _) hb4; have HFIN := Lib.hid hfin; clear hfin hb4 h))) | fail
  have hS9 := (by assumption : DskS w (.int .u64 r) (.slice A n a) (.slice (some ⟨g, off, none⟩) m b) (((w4.setCell ⟨w.heap.size + 1, 0, none⟩ (.int .u64 r)).setCell ⟨w.heap.size + 1, 1, none⟩ (.slice A' n a')).setCell ⟨w.heap.size + 1, 2, none⟩ (.slice B' m b')))
  have HP := Lib.hid (HFIN.out _ rfl hS9.1)
  have r0 := hR0 w4 hS4
  have r1 := hR1 w4 hS4
  have r2 := hR2 w4 hS4
  clear hS9 HFIN HF hC0 hC1 hC2 hD0 hD1 hR0 hR1 hR2 hF0 hF1 hF2
  go_wp2_with fail
  exact bodyPost_ret (v := .tuple #[.agg #[.int .u64 r, .slice A' n a', .slice B' m b'], .int .i64 0]) (by simp [results, Tryd.results68, go_sem, r0, r1, r2]) rfl HP.out

end Go.Proofs.YtdbomlclkhkinaaDoor
