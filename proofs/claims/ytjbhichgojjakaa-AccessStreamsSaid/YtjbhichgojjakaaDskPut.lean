/-
  The contracts of 'with' (a disk with another stream), the program's and the document's own.
-/
import Derived.Test.YtjbhichgojjakaaDskWith
namespace Go.Proofs.Ytjbhichgojjakaa
open Go.ChangeShapes Go.WideShapes Go.ChangeAt Go.RowKit
set_option linter.unusedVariables false
set_option maxRecDepth 100000

set_option maxHeartbeats 1000000 in
theorem with0_at (r : Int) (A : Option Addr) (n a : Nat) (B : Option Addr) (m b : Nat) (l0 l1 : List Stm) (k : Nat) (hk : k < n) (hn : n ≤ 1000000) (C : Option Addr) (c : Nat) (x : Stm) (hc : x.bytes.length ≤ c) (hx : x.bytes.length ≤ 140737488355328)
    (hs : -9223372036854775808 ≤ x.synced ∧ x.synced < 9223372036854775808) (w : World) (h0 : Hid (StmsAt w A n l0)) (h1 : Hid (StmsAt w B m l1)) (hC : Hid (AtB w C x.bytes.length x.bytes)) :
    Calls Try.prog 78 #[.agg #[.int .u64 r, .slice A n a, .slice B m b], .int .i64 0, .int .i64 (k : Int), .agg #[.slice C x.bytes.length c, .int .i64 x.synced]] w (DskPost w r A B n m C x.bytes.length (l0.set k x) l1) := by
  have HX := Lib.hid hx
  have HS := Lib.hid hs
  have HCC := Lib.hid hc
  have HN := Lib.hid hn
  have HSR : Hid (StmsAt w A n l0) := h0
  have HCL := fun w' h => clone_at A n a l0 hn w w' HSR h
  clear hx hs hc hn
  go_enter Try.func78, Try.ntmps78
  have HB : Hid (Below w.heap.size w (((w.alloc (.cells #[.int .u64 r, .slice A n a, .slice B m b] 33)).alloc (.cells #[.slice C x.bytes.length c, .int .i64 x.synced] 76)).alloc (.cells #[.int .u64 0, .slice none 0 0, .slice none 0 0] 33))) := Lib.hid ((below_pair w _ _).alloc (by simp; omega) _)
  have V0 : Hid (VarAt (((w.alloc (.cells #[.int .u64 r, .slice A n a, .slice B m b] 33)).alloc (.cells #[.slice C x.bytes.length c, .int .i64 x.synced] 76)).alloc (.cells #[.int .u64 0, .slice none 0 0, .slice none 0 0] 33)) w.heap.size [.int .u64 r, .slice A n a, .slice B m b]) := Lib.hid ((VarAt.made w #[.int .u64 r, .slice A n a, .slice B m b] 33).below (((Below.refl _ _).alloc (Nat.le_refl _) _).alloc (by simp) _))
  have V1 : Hid (VarAt (((w.alloc (.cells #[.int .u64 r, .slice A n a, .slice B m b] 33)).alloc (.cells #[.slice C x.bytes.length c, .int .i64 x.synced] 76)).alloc (.cells #[.int .u64 0, .slice none 0 0, .slice none 0 0] 33)) (w.heap.size + 1) [.slice C x.bytes.length c, .int .i64 x.synced]) := Lib.hid ((VarAt.made1 w _ #[.slice C x.bytes.length c, .int .i64 x.synced] 76).below ((Below.refl _ _).alloc (Nat.le_refl _) _))
  have V2 : Hid (VarAt (((w.alloc (.cells #[.int .u64 r, .slice A n a, .slice B m b] 33)).alloc (.cells #[.slice C x.bytes.length c, .int .i64 x.synced] 76)).alloc (.cells #[.int .u64 0, .slice none 0 0, .slice none 0 0] 33)) (w.heap.size + 2) [.int .u64 0, .slice none 0 0, .slice none 0 0]) := Lib.hid (by
    have h := VarAt.made1 (w.alloc (.cells #[.int .u64 r, .slice A n a, .slice B m b] 33)) (.cells #[.slice C x.bytes.length c, .int .i64 x.synced] 76) #[.int .u64 0, .slice none 0 0, .slice none 0 0] 33
    rw [show (w.alloc (.cells #[.int .u64 r, .slice A n a, .slice B m b] 33)).heap.size = w.heap.size + 1 by simp] at h
    exact h)
  go_wp2_with fail
  (with_reducible refine (HCL _ HB).mono ?_)
  rintro e w1 ⟨v, vs, rfl, hown, hraw, hb, hro⟩
  have hsz := hb.size
  obtain ⟨g, cap, cur, rfl, hg, hgb, hcap, _⟩ : ∃ g cap cur, v = .slice (some ⟨g, 0, none⟩) n cap ∧ w.heap.size + 3 ≤ g ∧ w1.heap[g]? = some (.cells cur 76 (0, 0)) ∧ n ≤ cap ∧ True := by
    rcases hown.2 with ⟨_, h0⟩ | ⟨g, cap, cur, rfl, hg, hgb, hcap, _⟩
    · omega
    · exact ⟨g, cap, cur, rfl, by simpa using hg, hgb, hcap, trivial⟩
  have hgs : g < w1.heap.size := (Array.getElem?_eq_some_iff.1 hgb).1
  have HO : Hid (w1.ownsRow (w.heap.size + 3) 76 2 (.slice (some ⟨g, 0, none⟩) n cap) n vs) := Lib.hid (by simpa using hown)
  have HRW : Hid (RawS w vs l0) := Lib.hid hraw
  have HRO := Lib.hid hro
  clear hro
  have HB1 := Lib.hid (HB.out.trans (hb.mono HB.out.size))
  have U0 := Lib.hid (V0.out.below hb)
  have U1 := Lib.hid (V1.out.below hb)
  have U2 := Lib.hid (V2.out.below hb)
  have HVL := Lib.hid hraw.1
  have HLN := Lib.hid HSR.out.1
  clear hown hraw hb hcap hgb V0 V1 V2 HB hsz
  obtain ⟨hz0, hc0, hc1, hc2, hf0, hf1, hf2⟩ := U0.out.three
  go_wp2_with fail
  have T0 : Hid (VarAt (w1.setCell ⟨w.heap.size, 1, none⟩ (.slice (some ⟨g, 0, none⟩) n cap)) w.heap.size [.int .u64 r, .slice (some ⟨g, 0, none⟩) n cap, .slice B m b]) := Lib.hid (U0.out.setAt 1 _ (by simp))
  have T1 := Lib.hid (U1.out.apart (b' := w.heap.size) 1 (.slice (some ⟨g, 0, none⟩) n cap) (by omega))
  have T2 := Lib.hid (U2.out.apart (b' := w.heap.size) 1 (.slice (some ⟨g, 0, none⟩) n cap) (by omega))
  have TO := Lib.hid (ownsRow_apart HO.out w.heap.size 1 (.slice (some ⟨g, 0, none⟩) n cap) (by omega))
  have TB := Lib.hid (below_set1 (Nat.le_refl _) (j := 1) (.slice (some ⟨g, 0, none⟩) n cap) HB1.out)
  have TSZ : (w1.setCell ⟨w.heap.size, 1, none⟩ (.slice (some ⟨g, 0, none⟩) n cap)).heap.size = w1.heap.size := by simp
  clear hz0 hc0 hc1 hc2 hf0 hf1 hf2 U0 U1 U2
  generalize w1.setCell ⟨w.heap.size, 1, none⟩ (.slice (some ⟨g, 0, none⟩) n cap) = w2 at *
  obtain ⟨hz0, hc0, hc1, hc2, hf0, hf1, hf2⟩ := T0.out.three
  obtain ⟨hz1, hd0, hd1, hg0, hg1⟩ := T1.out.two
  obtain ⟨hz2, he0, he1, he2, hh0, hh1, hh2⟩ := T2.out.three
  obtain ⟨y0, k0⟩ : ∃ y, w2.cell? ⟨g, k * 2, none⟩ = some y := ⟨_, (TO.out.cellAt (k * 2) (by omega)).trans (List.getElem?_eq_getElem (by have := HVL.out; have := HLN.out; omega))⟩
  obtain ⟨y1, k1⟩ : ∃ y, w2.cell? ⟨g, k * 2 + 1, none⟩ = some y := ⟨_, (TO.out.cellAt (k * 2 + 1) (by omega)).trans (List.getElem?_eq_getElem (by have := HVL.out; have := HLN.out; omega))⟩
  have f0 := TO.out.frozenAt (k * 2)
  have f1 := TO.out.frozenAt (k * 2 + 1)
  clear TSZ
  go_region
  go_wp2_with fail
  have hown2 := ownsRow_apart (ownsRow_apart (ownsRow_apart (ownsRow_set2 TO.out k (.slice C x.bytes.length c) (.int .i64 x.synced)) (w.heap.size + 2) 0 (.int .u64 r) (by omega)) (w.heap.size + 2) 1 (.slice (some ⟨g, 0, none⟩) n cap) (by omega)) (w.heap.size + 2) 2 (.slice B m b) (by omega)
  have hbe := (below_setCells (B := w.heap.size) (b := w.heap.size + 2) (by omega) [.int .u64 r, .slice (some ⟨g, 0, none⟩) n cap, .slice B m b] 0 _ (below_setCells (B := w.heap.size) (b := g) (by omega) [.slice C x.bytes.length c, .int .i64 x.synced] (k * 2) _ TB.out)).drew
  obtain ⟨a2, c2, e2, hc2', hst⟩ := (HRW.out.set k (by have := HLN.out; omega) C c x HCC.out HX.out hC.out HS.out).at_ hown2.drew hbe (by have := HN.out; omega)
  have HE2 := Lib.hid e2
  have HST := Lib.hid hst
  have HBE := Lib.hid hbe
  have HOW := Lib.hid hown2.drew
  clear e2 hst hbe hown2
  refine bodyPost_ret (v := .agg #[.int .u64 r, .slice (some ⟨g, 0, none⟩) n cap, .slice B m b]) (by simp [results, Try.results78, go_sem, he0, he1, he2]) rfl ?_
  have hbe := HBE.out
  have hst := HST.out
  have e2 := HE2.out
  exact ⟨some ⟨g, 0, none⟩, cap, B, b, rfl, by cases e2; exact hst, h1.out.later hbe, hbe, fun P hP hA hB hC => ⟨off_own HOW.out (fun b hb => hP b (by omega)) ((HRO.out P hA).set k C _ c x.synced hC), hB.later h1.out hbe⟩⟩
set_option maxHeartbeats 1000000 in
theorem with1_at (r : Int) (A : Option Addr) (n a : Nat) (B : Option Addr) (m b : Nat) (l0 l1 : List Stm) (k : Nat) (hk : k < m) (hn : m ≤ 1000000) (C : Option Addr) (c : Nat) (x : Stm) (hc : x.bytes.length ≤ c) (hx : x.bytes.length ≤ 140737488355328)
    (hs : -9223372036854775808 ≤ x.synced ∧ x.synced < 9223372036854775808) (w : World) (h0 : Hid (StmsAt w A n l0)) (h1 : Hid (StmsAt w B m l1)) (hC : Hid (AtB w C x.bytes.length x.bytes)) :
    Calls Try.prog 78 #[.agg #[.int .u64 r, .slice A n a, .slice B m b], .int .i64 1, .int .i64 (k : Int), .agg #[.slice C x.bytes.length c, .int .i64 x.synced]] w (DskPost w r A B n m C x.bytes.length l0 (l1.set k x)) := by
  have HX := Lib.hid hx
  have HS := Lib.hid hs
  have HCC := Lib.hid hc
  have HN := Lib.hid hn
  have HSR : Hid (StmsAt w B m l1) := h1
  have HCL := fun w' h => clone_at B m b l1 hn w w' HSR h
  clear hx hs hc hn
  go_enter Try.func78, Try.ntmps78
  have HB : Hid (Below w.heap.size w (((w.alloc (.cells #[.int .u64 r, .slice A n a, .slice B m b] 33)).alloc (.cells #[.slice C x.bytes.length c, .int .i64 x.synced] 76)).alloc (.cells #[.int .u64 0, .slice none 0 0, .slice none 0 0] 33))) := Lib.hid ((below_pair w _ _).alloc (by simp; omega) _)
  have V0 : Hid (VarAt (((w.alloc (.cells #[.int .u64 r, .slice A n a, .slice B m b] 33)).alloc (.cells #[.slice C x.bytes.length c, .int .i64 x.synced] 76)).alloc (.cells #[.int .u64 0, .slice none 0 0, .slice none 0 0] 33)) w.heap.size [.int .u64 r, .slice A n a, .slice B m b]) := Lib.hid ((VarAt.made w #[.int .u64 r, .slice A n a, .slice B m b] 33).below (((Below.refl _ _).alloc (Nat.le_refl _) _).alloc (by simp) _))
  have V1 : Hid (VarAt (((w.alloc (.cells #[.int .u64 r, .slice A n a, .slice B m b] 33)).alloc (.cells #[.slice C x.bytes.length c, .int .i64 x.synced] 76)).alloc (.cells #[.int .u64 0, .slice none 0 0, .slice none 0 0] 33)) (w.heap.size + 1) [.slice C x.bytes.length c, .int .i64 x.synced]) := Lib.hid ((VarAt.made1 w _ #[.slice C x.bytes.length c, .int .i64 x.synced] 76).below ((Below.refl _ _).alloc (Nat.le_refl _) _))
  have V2 : Hid (VarAt (((w.alloc (.cells #[.int .u64 r, .slice A n a, .slice B m b] 33)).alloc (.cells #[.slice C x.bytes.length c, .int .i64 x.synced] 76)).alloc (.cells #[.int .u64 0, .slice none 0 0, .slice none 0 0] 33)) (w.heap.size + 2) [.int .u64 0, .slice none 0 0, .slice none 0 0]) := Lib.hid (by
    have h := VarAt.made1 (w.alloc (.cells #[.int .u64 r, .slice A n a, .slice B m b] 33)) (.cells #[.slice C x.bytes.length c, .int .i64 x.synced] 76) #[.int .u64 0, .slice none 0 0, .slice none 0 0] 33
    rw [show (w.alloc (.cells #[.int .u64 r, .slice A n a, .slice B m b] 33)).heap.size = w.heap.size + 1 by simp] at h
    exact h)
  go_wp2_with fail
  (with_reducible refine (HCL _ HB).mono ?_)
  rintro e w1 ⟨v, vs, rfl, hown, hraw, hb, hro⟩
  have hsz := hb.size
  obtain ⟨g, cap, cur, rfl, hg, hgb, hcap, _⟩ : ∃ g cap cur, v = .slice (some ⟨g, 0, none⟩) m cap ∧ w.heap.size + 3 ≤ g ∧ w1.heap[g]? = some (.cells cur 76 (0, 0)) ∧ m ≤ cap ∧ True := by
    rcases hown.2 with ⟨_, h0⟩ | ⟨g, cap, cur, rfl, hg, hgb, hcap, _⟩
    · omega
    · exact ⟨g, cap, cur, rfl, by simpa using hg, hgb, hcap, trivial⟩
  have hgs : g < w1.heap.size := (Array.getElem?_eq_some_iff.1 hgb).1
  have HO : Hid (w1.ownsRow (w.heap.size + 3) 76 2 (.slice (some ⟨g, 0, none⟩) m cap) m vs) := Lib.hid (by simpa using hown)
  have HRW : Hid (RawS w vs l1) := Lib.hid hraw
  have HRO := Lib.hid hro
  clear hro
  have HB1 := Lib.hid (HB.out.trans (hb.mono HB.out.size))
  have U0 := Lib.hid (V0.out.below hb)
  have U1 := Lib.hid (V1.out.below hb)
  have U2 := Lib.hid (V2.out.below hb)
  have HVL := Lib.hid hraw.1
  have HLN := Lib.hid HSR.out.1
  clear hown hraw hb hcap hgb V0 V1 V2 HB hsz
  obtain ⟨hz0, hc0, hc1, hc2, hf0, hf1, hf2⟩ := U0.out.three
  go_wp2_with fail
  have T0 : Hid (VarAt (w1.setCell ⟨w.heap.size, 2, none⟩ (.slice (some ⟨g, 0, none⟩) m cap)) w.heap.size [.int .u64 r, .slice A n a, .slice (some ⟨g, 0, none⟩) m cap]) := Lib.hid (U0.out.setAt 2 _ (by simp))
  have T1 := Lib.hid (U1.out.apart (b' := w.heap.size) 2 (.slice (some ⟨g, 0, none⟩) m cap) (by omega))
  have T2 := Lib.hid (U2.out.apart (b' := w.heap.size) 2 (.slice (some ⟨g, 0, none⟩) m cap) (by omega))
  have TO := Lib.hid (ownsRow_apart HO.out w.heap.size 2 (.slice (some ⟨g, 0, none⟩) m cap) (by omega))
  have TB := Lib.hid (below_set1 (Nat.le_refl _) (j := 2) (.slice (some ⟨g, 0, none⟩) m cap) HB1.out)
  have TSZ : (w1.setCell ⟨w.heap.size, 2, none⟩ (.slice (some ⟨g, 0, none⟩) m cap)).heap.size = w1.heap.size := by simp
  clear hz0 hc0 hc1 hc2 hf0 hf1 hf2 U0 U1 U2
  generalize w1.setCell ⟨w.heap.size, 2, none⟩ (.slice (some ⟨g, 0, none⟩) m cap) = w2 at *
  obtain ⟨hz0, hc0, hc1, hc2, hf0, hf1, hf2⟩ := T0.out.three
  obtain ⟨hz1, hd0, hd1, hg0, hg1⟩ := T1.out.two
  obtain ⟨hz2, he0, he1, he2, hh0, hh1, hh2⟩ := T2.out.three
  obtain ⟨y0, k0⟩ : ∃ y, w2.cell? ⟨g, k * 2, none⟩ = some y := ⟨_, (TO.out.cellAt (k * 2) (by omega)).trans (List.getElem?_eq_getElem (by have := HVL.out; have := HLN.out; omega))⟩
  obtain ⟨y1, k1⟩ : ∃ y, w2.cell? ⟨g, k * 2 + 1, none⟩ = some y := ⟨_, (TO.out.cellAt (k * 2 + 1) (by omega)).trans (List.getElem?_eq_getElem (by have := HVL.out; have := HLN.out; omega))⟩
  have f0 := TO.out.frozenAt (k * 2)
  have f1 := TO.out.frozenAt (k * 2 + 1)
  clear TSZ
  go_region
  go_wp2_with fail
  have hown2 := ownsRow_apart (ownsRow_apart (ownsRow_apart (ownsRow_set2 TO.out k (.slice C x.bytes.length c) (.int .i64 x.synced)) (w.heap.size + 2) 0 (.int .u64 r) (by omega)) (w.heap.size + 2) 1 (.slice A n a) (by omega)) (w.heap.size + 2) 2 (.slice (some ⟨g, 0, none⟩) m cap) (by omega)
  have hbe := (below_setCells (B := w.heap.size) (b := w.heap.size + 2) (by omega) [.int .u64 r, .slice A n a, .slice (some ⟨g, 0, none⟩) m cap] 0 _ (below_setCells (B := w.heap.size) (b := g) (by omega) [.slice C x.bytes.length c, .int .i64 x.synced] (k * 2) _ TB.out)).drew
  obtain ⟨a2, c2, e2, hc2', hst⟩ := (HRW.out.set k (by have := HLN.out; omega) C c x HCC.out HX.out hC.out HS.out).at_ hown2.drew hbe (by have := HN.out; omega)
  have HE2 := Lib.hid e2
  have HST := Lib.hid hst
  have HBE := Lib.hid hbe
  have HOW := Lib.hid hown2.drew
  clear e2 hst hbe hown2
  refine bodyPost_ret (v := .agg #[.int .u64 r, .slice A n a, .slice (some ⟨g, 0, none⟩) m cap]) (by simp [results, Try.results78, go_sem, he0, he1, he2]) rfl ?_
  have hbe := HBE.out
  have hst := HST.out
  have e2 := HE2.out
  exact ⟨A, a, some ⟨g, 0, none⟩, cap, rfl, h0.out.later hbe, by cases e2; exact hst, hbe, fun P hP hA hB hC => ⟨hA.later h0.out hbe, off_own HOW.out (fun b hb => hP b (by omega)) ((HRO.out P hB).set k C _ c x.synced hC)⟩⟩
set_option maxHeartbeats 1000000 in
theorem refWith0_at (r : Int) (A : Option Addr) (n a : Nat) (B : Option Addr) (m b : Nat) (l0 l1 : List Stm) (k : Nat) (hk : k < n) (hn : n ≤ 1000000) (C : Option Addr) (c : Nat) (x : Stm) (hc : x.bytes.length ≤ c) (hx : x.bytes.length ≤ 140737488355328)
    (hs : -9223372036854775808 ≤ x.synced ∧ x.synced < 9223372036854775808) (w : World) (h0 : Hid (StmsAt w A n l0)) (h1 : Hid (StmsAt w B m l1)) (hC : Hid (AtB w C x.bytes.length x.bytes)) :
    Calls Try.prog 67 #[.agg #[.int .u64 r, .slice A n a, .slice B m b], .int .i64 0, .int .i64 (k : Int), .agg #[.slice C x.bytes.length c, .int .i64 x.synced]] w (DskPost w r A B n m C x.bytes.length (l0.set k x) l1) := by
  have HX := Lib.hid hx
  have HS := Lib.hid hs
  have HCC := Lib.hid hc
  have HN := Lib.hid hn
  have HSR : Hid (StmsAt w A n l0) := h0
  clear hx hs hc hn
  go_enter Try.func67, Try.ntmps67
  have HB : Hid (Below w.heap.size w (((w.alloc (.cells #[.int .u64 r, .slice A n a, .slice B m b] 33)).alloc (.cells #[.slice C x.bytes.length c, .int .i64 x.synced] 76)).alloc (.cells #[.int .u64 0, .slice none 0 0, .slice none 0 0] 33))) := Lib.hid ((below_pair w _ _).alloc (by simp; omega) _)
  have V0 : Hid (VarAt (((w.alloc (.cells #[.int .u64 r, .slice A n a, .slice B m b] 33)).alloc (.cells #[.slice C x.bytes.length c, .int .i64 x.synced] 76)).alloc (.cells #[.int .u64 0, .slice none 0 0, .slice none 0 0] 33)) w.heap.size [.int .u64 r, .slice A n a, .slice B m b]) := Lib.hid ((VarAt.made w #[.int .u64 r, .slice A n a, .slice B m b] 33).below (((Below.refl _ _).alloc (Nat.le_refl _) _).alloc (by simp) _))
  have V1 : Hid (VarAt (((w.alloc (.cells #[.int .u64 r, .slice A n a, .slice B m b] 33)).alloc (.cells #[.slice C x.bytes.length c, .int .i64 x.synced] 76)).alloc (.cells #[.int .u64 0, .slice none 0 0, .slice none 0 0] 33)) (w.heap.size + 1) [.slice C x.bytes.length c, .int .i64 x.synced]) := Lib.hid ((VarAt.made1 w _ #[.slice C x.bytes.length c, .int .i64 x.synced] 76).below ((Below.refl _ _).alloc (Nat.le_refl _) _))
  have V2 : Hid (VarAt (((w.alloc (.cells #[.int .u64 r, .slice A n a, .slice B m b] 33)).alloc (.cells #[.slice C x.bytes.length c, .int .i64 x.synced] 76)).alloc (.cells #[.int .u64 0, .slice none 0 0, .slice none 0 0] 33)) (w.heap.size + 2) [.int .u64 0, .slice none 0 0, .slice none 0 0]) := Lib.hid (by
    have h := VarAt.made1 (w.alloc (.cells #[.int .u64 r, .slice A n a, .slice B m b] 33)) (.cells #[.slice C x.bytes.length c, .int .i64 x.synced] 76) #[.int .u64 0, .slice none 0 0, .slice none 0 0] 33
    rw [show (w.alloc (.cells #[.int .u64 r, .slice A n a, .slice B m b] 33)).heap.size = w.heap.size + 1 by simp] at h
    exact h)
  have HZ : Hid ((((w.alloc (.cells #[.int .u64 r, .slice A n a, .slice B m b] 33)).alloc (.cells #[.slice C x.bytes.length c, .int .i64 x.synced] 76)).alloc (.cells #[.int .u64 0, .slice none 0 0, .slice none 0 0] 33)).heap.size = w.heap.size + 3) := Lib.hid (by simp)
  have HLN := Lib.hid HSR.out.1
  obtain ⟨wz, hwz⟩ : ∃ wz, (((w.alloc (.cells #[.int .u64 r, .slice A n a, .slice B m b] 33)).alloc (.cells #[.slice C x.bytes.length c, .int .i64 x.synced] 76)).alloc (.cells #[.int .u64 0, .slice none 0 0, .slice none 0 0] 33)) = wz := ⟨_, rfl⟩
  rw [hwz] at HB V0 V1 V2 HZ
  obtain ⟨hzz, hcc0, hcc1, hcc2, hff0, hff1, hff2⟩ := (V0.out.below ((Below.refl wz.heap.size wz).alloc (Nat.le_refl _) (.cells #[] 76))).three
  go_wp2_with (at_builtin; (refine wpList_append_stms (by rfl) (.tmp 10) (.tmp 14) (by rfl) (by rfl) A n a l0 (by rfl) HSR.out HB.out HN.out ?_); (intro v w1 vs hown hraw hro hb; have HRO := Lib.hid hro; clear hro; clear hzz hcc0 hcc1 hcc2 hff0 hff1 hff2; have hsz := hb.size; obtain ⟨g, cap, cur, rfl, hg, hgb, hcap⟩ := own_form hown (by omega); have hgs : g < w1.heap.size := (Array.getElem?_eq_some_iff.1 hgb).1; have hg : w.heap.size + 3 ≤ g := (by have := HZ.out; omega); have HO : Hid (w1.ownsRow (w.heap.size + 3) 76 2 (.slice (some ⟨g, 0, none⟩) n cap) n vs) := Lib.hid (by rw [← HZ.out]; exact hown); have HRW : Hid (RawS w vs l0) := Lib.hid hraw; have HB1 := Lib.hid (HB.out.trans (hb.mono HB.out.size)); have U0 := Lib.hid (V0.out.below hb); have U1 := Lib.hid (V1.out.below hb); have U2 := Lib.hid (V2.out.below hb); have HVL := Lib.hid hraw.1; clear hown hraw hb hcap hgb hsz; obtain ⟨hz0, hc0, hc1, hc2, hf0, hf1, hf2⟩ := U0.out.three; obtain ⟨hz1, hd0, hd1, hg0, hg1⟩ := U1.out.two; obtain ⟨hz2, he0, he1, he2, hh0, hh1, hh2⟩ := U2.out.three; obtain ⟨y0, k0⟩ : ∃ y, w1.cell? ⟨g, k * 2, none⟩ = some y := ⟨_, (HO.out.cellAt (k * 2) (by omega)).trans (List.getElem?_eq_getElem (by have := HVL.out; have := HLN.out; omega))⟩; obtain ⟨y1, k1⟩ : ∃ y, w1.cell? ⟨g, k * 2 + 1, none⟩ = some y := ⟨_, (HO.out.cellAt (k * 2 + 1) (by omega)).trans (List.getElem?_eq_getElem (by have := HVL.out; have := HLN.out; omega))⟩; have f0 := HO.out.frozenAt (k * 2); have f1 := HO.out.frozenAt (k * 2 + 1)))
  have hown2 := ownsRow_apart (ownsRow_apart (ownsRow_apart (ownsRow_apart (ownsRow_set2 HO.out k (.slice C x.bytes.length c) (.int .i64 x.synced)) w.heap.size 1 (.slice (some ⟨g, 0, none⟩) n cap) (by omega)) (w.heap.size + 2) 0 (.int .u64 r) (by omega)) (w.heap.size + 2) 1 (.slice (some ⟨g, 0, none⟩) n cap) (by omega)) (w.heap.size + 2) 2 (.slice B m b) (by omega)
  have hbe := below_setCells (B := w.heap.size) (b := w.heap.size + 2) (by omega) [.int .u64 r, .slice (some ⟨g, 0, none⟩) n cap, .slice B m b] 0 _ (below_setCells (B := w.heap.size) (b := w.heap.size) (by omega) [.slice (some ⟨g, 0, none⟩) n cap] 1 _ (below_setCells (B := w.heap.size) (b := g) (by omega) [.slice C x.bytes.length c, .int .i64 x.synced] (k * 2) _ HB1.out))
  obtain ⟨a2, c2, e2, hc2', hst⟩ := (HRW.out.set k (by have := HLN.out; omega) C c x HCC.out HX.out hC.out HS.out).at_ hown2 hbe (by have := HN.out; omega)
  have HE2 := Lib.hid e2
  have HST := Lib.hid hst
  have HBE := Lib.hid hbe
  have HOW := Lib.hid hown2
  clear e2 hst hbe hown2
  refine bodyPost_ret (v := .agg #[.int .u64 r, .slice (some ⟨g, 0, none⟩) n cap, .slice B m b]) (by simp [results, Try.results67, go_sem, he0, he1, he2]) rfl ?_
  have hbe := HBE.out
  have hst := HST.out
  have e2 := HE2.out
  exact ⟨some ⟨g, 0, none⟩, cap, B, b, rfl, by cases e2; exact hst, h1.out.later hbe, hbe, fun P hP hA hB hC => ⟨off_own HOW.out (fun b hb => hP b (by omega)) ((HRO.out P hA).set k C _ c x.synced hC), hB.later h1.out hbe⟩⟩
set_option maxHeartbeats 1000000 in
theorem refWith1_at (r : Int) (A : Option Addr) (n a : Nat) (B : Option Addr) (m b : Nat) (l0 l1 : List Stm) (k : Nat) (hk : k < m) (hn : m ≤ 1000000) (C : Option Addr) (c : Nat) (x : Stm) (hc : x.bytes.length ≤ c) (hx : x.bytes.length ≤ 140737488355328)
    (hs : -9223372036854775808 ≤ x.synced ∧ x.synced < 9223372036854775808) (w : World) (h0 : Hid (StmsAt w A n l0)) (h1 : Hid (StmsAt w B m l1)) (hC : Hid (AtB w C x.bytes.length x.bytes)) :
    Calls Try.prog 67 #[.agg #[.int .u64 r, .slice A n a, .slice B m b], .int .i64 1, .int .i64 (k : Int), .agg #[.slice C x.bytes.length c, .int .i64 x.synced]] w (DskPost w r A B n m C x.bytes.length l0 (l1.set k x)) := by
  have HX := Lib.hid hx
  have HS := Lib.hid hs
  have HCC := Lib.hid hc
  have HN := Lib.hid hn
  have HSR : Hid (StmsAt w B m l1) := h1
  clear hx hs hc hn
  go_enter Try.func67, Try.ntmps67
  have HB : Hid (Below w.heap.size w (((w.alloc (.cells #[.int .u64 r, .slice A n a, .slice B m b] 33)).alloc (.cells #[.slice C x.bytes.length c, .int .i64 x.synced] 76)).alloc (.cells #[.int .u64 0, .slice none 0 0, .slice none 0 0] 33))) := Lib.hid ((below_pair w _ _).alloc (by simp; omega) _)
  have V0 : Hid (VarAt (((w.alloc (.cells #[.int .u64 r, .slice A n a, .slice B m b] 33)).alloc (.cells #[.slice C x.bytes.length c, .int .i64 x.synced] 76)).alloc (.cells #[.int .u64 0, .slice none 0 0, .slice none 0 0] 33)) w.heap.size [.int .u64 r, .slice A n a, .slice B m b]) := Lib.hid ((VarAt.made w #[.int .u64 r, .slice A n a, .slice B m b] 33).below (((Below.refl _ _).alloc (Nat.le_refl _) _).alloc (by simp) _))
  have V1 : Hid (VarAt (((w.alloc (.cells #[.int .u64 r, .slice A n a, .slice B m b] 33)).alloc (.cells #[.slice C x.bytes.length c, .int .i64 x.synced] 76)).alloc (.cells #[.int .u64 0, .slice none 0 0, .slice none 0 0] 33)) (w.heap.size + 1) [.slice C x.bytes.length c, .int .i64 x.synced]) := Lib.hid ((VarAt.made1 w _ #[.slice C x.bytes.length c, .int .i64 x.synced] 76).below ((Below.refl _ _).alloc (Nat.le_refl _) _))
  have V2 : Hid (VarAt (((w.alloc (.cells #[.int .u64 r, .slice A n a, .slice B m b] 33)).alloc (.cells #[.slice C x.bytes.length c, .int .i64 x.synced] 76)).alloc (.cells #[.int .u64 0, .slice none 0 0, .slice none 0 0] 33)) (w.heap.size + 2) [.int .u64 0, .slice none 0 0, .slice none 0 0]) := Lib.hid (by
    have h := VarAt.made1 (w.alloc (.cells #[.int .u64 r, .slice A n a, .slice B m b] 33)) (.cells #[.slice C x.bytes.length c, .int .i64 x.synced] 76) #[.int .u64 0, .slice none 0 0, .slice none 0 0] 33
    rw [show (w.alloc (.cells #[.int .u64 r, .slice A n a, .slice B m b] 33)).heap.size = w.heap.size + 1 by simp] at h
    exact h)
  have HZ : Hid ((((w.alloc (.cells #[.int .u64 r, .slice A n a, .slice B m b] 33)).alloc (.cells #[.slice C x.bytes.length c, .int .i64 x.synced] 76)).alloc (.cells #[.int .u64 0, .slice none 0 0, .slice none 0 0] 33)).heap.size = w.heap.size + 3) := Lib.hid (by simp)
  have HLN := Lib.hid HSR.out.1
  obtain ⟨wz, hwz⟩ : ∃ wz, (((w.alloc (.cells #[.int .u64 r, .slice A n a, .slice B m b] 33)).alloc (.cells #[.slice C x.bytes.length c, .int .i64 x.synced] 76)).alloc (.cells #[.int .u64 0, .slice none 0 0, .slice none 0 0] 33)) = wz := ⟨_, rfl⟩
  rw [hwz] at HB V0 V1 V2 HZ
  obtain ⟨hzz, hcc0, hcc1, hcc2, hff0, hff1, hff2⟩ := (V0.out.below ((Below.refl wz.heap.size wz).alloc (Nat.le_refl _) (.cells #[] 76))).three
  go_wp2_with (at_builtin; (refine wpList_append_stms (by rfl) (.tmp 10) (.tmp 14) (by rfl) (by rfl) B m b l1 (by rfl) HSR.out HB.out HN.out ?_); (intro v w1 vs hown hraw hro hb; have HRO := Lib.hid hro; clear hro; clear hzz hcc0 hcc1 hcc2 hff0 hff1 hff2; have hsz := hb.size; obtain ⟨g, cap, cur, rfl, hg, hgb, hcap⟩ := own_form hown (by omega); have hgs : g < w1.heap.size := (Array.getElem?_eq_some_iff.1 hgb).1; have hg : w.heap.size + 3 ≤ g := (by have := HZ.out; omega); have HO : Hid (w1.ownsRow (w.heap.size + 3) 76 2 (.slice (some ⟨g, 0, none⟩) m cap) m vs) := Lib.hid (by rw [← HZ.out]; exact hown); have HRW : Hid (RawS w vs l1) := Lib.hid hraw; have HB1 := Lib.hid (HB.out.trans (hb.mono HB.out.size)); have U0 := Lib.hid (V0.out.below hb); have U1 := Lib.hid (V1.out.below hb); have U2 := Lib.hid (V2.out.below hb); have HVL := Lib.hid hraw.1; clear hown hraw hb hcap hgb hsz; obtain ⟨hz0, hc0, hc1, hc2, hf0, hf1, hf2⟩ := U0.out.three; obtain ⟨hz1, hd0, hd1, hg0, hg1⟩ := U1.out.two; obtain ⟨hz2, he0, he1, he2, hh0, hh1, hh2⟩ := U2.out.three; obtain ⟨y0, k0⟩ : ∃ y, w1.cell? ⟨g, k * 2, none⟩ = some y := ⟨_, (HO.out.cellAt (k * 2) (by omega)).trans (List.getElem?_eq_getElem (by have := HVL.out; have := HLN.out; omega))⟩; obtain ⟨y1, k1⟩ : ∃ y, w1.cell? ⟨g, k * 2 + 1, none⟩ = some y := ⟨_, (HO.out.cellAt (k * 2 + 1) (by omega)).trans (List.getElem?_eq_getElem (by have := HVL.out; have := HLN.out; omega))⟩; have f0 := HO.out.frozenAt (k * 2); have f1 := HO.out.frozenAt (k * 2 + 1)))
  have hown2 := ownsRow_apart (ownsRow_apart (ownsRow_apart (ownsRow_apart (ownsRow_set2 HO.out k (.slice C x.bytes.length c) (.int .i64 x.synced)) w.heap.size 2 (.slice (some ⟨g, 0, none⟩) m cap) (by omega)) (w.heap.size + 2) 0 (.int .u64 r) (by omega)) (w.heap.size + 2) 1 (.slice A n a) (by omega)) (w.heap.size + 2) 2 (.slice (some ⟨g, 0, none⟩) m cap) (by omega)
  have hbe := below_setCells (B := w.heap.size) (b := w.heap.size + 2) (by omega) [.int .u64 r, .slice A n a, .slice (some ⟨g, 0, none⟩) m cap] 0 _ (below_setCells (B := w.heap.size) (b := w.heap.size) (by omega) [.slice (some ⟨g, 0, none⟩) m cap] 2 _ (below_setCells (B := w.heap.size) (b := g) (by omega) [.slice C x.bytes.length c, .int .i64 x.synced] (k * 2) _ HB1.out))
  obtain ⟨a2, c2, e2, hc2', hst⟩ := (HRW.out.set k (by have := HLN.out; omega) C c x HCC.out HX.out hC.out HS.out).at_ hown2 hbe (by have := HN.out; omega)
  have HE2 := Lib.hid e2
  have HST := Lib.hid hst
  have HBE := Lib.hid hbe
  have HOW := Lib.hid hown2
  clear e2 hst hbe hown2
  refine bodyPost_ret (v := .agg #[.int .u64 r, .slice A n a, .slice (some ⟨g, 0, none⟩) m cap]) (by simp [results, Try.results67, go_sem, he0, he1, he2]) rfl ?_
  have hbe := HBE.out
  have hst := HST.out
  have e2 := HE2.out
  exact ⟨A, a, some ⟨g, 0, none⟩, cap, rfl, h0.out.later hbe, by cases e2; exact hst, hbe, fun P hP hA hB hC => ⟨hA.later h0.out hbe, off_own HOW.out (fun b hb => hP b (by omega)) ((HRO.out P hB).set k C _ c x.synced hC)⟩⟩

end Go.Proofs.Ytjbhichgojjakaa
