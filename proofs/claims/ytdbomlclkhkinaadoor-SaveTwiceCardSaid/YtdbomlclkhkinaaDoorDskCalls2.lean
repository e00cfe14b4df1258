/-
  The contracts of package disk's Read, Clear, SetRoot and New, and of the document's own.
-/
import Derived.Test.YtdbomlclkhkinaaDoorDskStm
namespace Go.Proofs.YtdbomlclkhkinaaDoor
open Go.ChangeShapes Go.WideShapes Go.ChangeAt Go.RowKit
set_option linter.unusedVariables false
set_option maxRecDepth 100000

/-- Bytes, and a code. -/
def ReadPost (w : World) (xs : List Nat) (code : Int) (e : Ending) (w' : World) : Prop := ∃ A c, e = .returned (.tuple #[.slice A xs.length c, .int .i64 code]) ∧ xs.length ≤ c ∧ AtB w' A xs.length xs ∧ Below w.heap.size w w'

theorem dskRead_no (r : Int) (A : Option Addr) (n a : Nat) (B : Option Addr) (m b : Nat) (row i : Int) (hno : hasB row i n m = false) (w : World) :
    Calls Tryd.prog 69 #[.agg #[.int .u64 r, .slice A n a, .slice B m b], .int .i64 row, .int .i64 i] w (ReadPost w [] 1) := by
  have HH := fun w => hasStream_any r A n a B m b row i w
  rw [hno] at HH
  clear hno
  go_enter Tryd.func69, Tryd.ntmps69
  go_wp2_with fail
  (with_reducible refine (HH _).mono ?_)
  rintro e w2 ⟨rfl, hb⟩
  have HB := Lib.hid (below_box hb)
  clear hb HH
  go_wp2_with fail
  exact bodyPost_ret (v := .tuple #[.slice none 0 0, .int .i64 1]) (by simp [results, Tryd.results69, go_sem]) rfl ⟨none, 0, rfl, Nat.le_refl _, AtB.nil _ _, HB.out⟩

set_option maxHeartbeats 1000000 in
theorem dskRead0_at (r : Int) (A : Option Addr) (n a : Nat) (B : Option Addr) (m b : Nat) (l0 l1 : List Stm) (k : Nat) (hk : k < n) (x : Stm) (hx : l0[k]? = some x) (w : World) (h0 : Hid (StmsAt w A n l0)) (h1 : Hid (StmsAt w B m l1)) :
    Calls Tryd.prog 69 #[.agg #[.int .u64 r, .slice A n a, .slice B m b], .int .i64 0, .int .i64 (k : Int)] w (ReadPost w x.bytes 0) := by
  obtain ⟨x', g, off, A0, cap, hx', e0, hg, hg0, hg1, hlc, hlm, hat, hsy⟩ := h0.out.at_ k hk
  obtain rfl : x' = x := Option.some.inj (hx'.symm.trans hx)
  subst e0
  have HAT := Lib.hid hat
  have HLC := Lib.hid hlc
  have HLM := Lib.hid hlm
  have HG := Lib.hid hg
  have HG0 := Lib.hid hg0
  have hmm := h0.out.2.1
  have HH := fun w => hasStream_any r (some ⟨g, off, none⟩) n a B m b 0 (k : Int) w
  rw [show hasB 0 (k : Int) n m = true by unfold hasB; rw [if_pos rfl, isB_nat hk]; rfl] at HH
  clear hg0 hg1 hat hlm hsy hx hx' hg hlc
  go_enter Tryd.func69, Tryd.ntmps69
  go_wp2_with fail
  (with_reducible refine (HH _).mono ?_)
  rintro e w2 ⟨rfl, hb⟩
  have HB := Lib.hid (below_box hb)
  have V := ((VarAt.made w #[.int .u64 r, .slice (some ⟨g, off, none⟩) n a, .slice B m b] 31).below hb).three
  obtain ⟨hz, c0, c1, c2, f0, f1, f2⟩ := V
  have hd0 : w2.cell? ⟨g, off + k * 2, none⟩ = some (.slice A0 x'.bytes.length cap) := (HB.out.cell (p := ⟨g, off + k * 2, none⟩) HG.out).trans HG0.out
  have HAT2 := Lib.hid (AtB.later HAT HB.out)
  clear hb HH
  go_wp2_with (go_at_call 91; (with_reducible refine (cloneB_at A0 x'.bytes.length cap x'.bytes HLM.out _ HAT2).mono ?_); rintro e w3 ⟨C3, c3, rfl, hc3, hat3, hb3⟩; have HC3 := Lib.hid hc3; have HAT3 := Lib.hid hat3; have HB3 := Lib.hid (HB.out.trans (hb3.mono HB.out.size)); clear hc3 hat3 hb3 hz c0 c1 c2 f0 f1 f2 hd0)
  exact bodyPost_ret (v := .tuple #[.slice C3 x'.bytes.length c3, .int .i64 0]) (by simp [results, Tryd.results69, go_sem]) rfl ⟨C3, c3, rfl, HC3.out, HAT3.out, HB3.out⟩

set_option maxHeartbeats 1000000 in
theorem dskRead1_at (r : Int) (A : Option Addr) (n a : Nat) (B : Option Addr) (m b : Nat) (l0 l1 : List Stm) (k : Nat) (hk : k < m) (x : Stm) (hx : l1[k]? = some x) (w : World) (h0 : Hid (StmsAt w A n l0)) (h1 : Hid (StmsAt w B m l1)) :
    Calls Tryd.prog 69 #[.agg #[.int .u64 r, .slice A n a, .slice B m b], .int .i64 1, .int .i64 (k : Int)] w (ReadPost w x.bytes 0) := by
  obtain ⟨x', g, off, A0, cap, hx', e0, hg, hg0, hg1, hlc, hlm, hat, hsy⟩ := h1.out.at_ k hk
  obtain rfl : x' = x := Option.some.inj (hx'.symm.trans hx)
  subst e0
  have HAT := Lib.hid hat
  have HLC := Lib.hid hlc
  have HLM := Lib.hid hlm
  have HG := Lib.hid hg
  have HG0 := Lib.hid hg0
  have hmm := h1.out.2.1
  have HH := fun w => hasStream_any r A n a (some ⟨g, off, none⟩) m b 1 (k : Int) w
  rw [show hasB 1 (k : Int) n m = true by unfold hasB; rw [if_neg (by decide), isB_nat hk]; rfl] at HH
  clear hg0 hg1 hat hlm hsy hx hx' hg hlc
  go_enter Tryd.func69, Tryd.ntmps69
  go_wp2_with fail
  (with_reducible refine (HH _).mono ?_)
  rintro e w2 ⟨rfl, hb⟩
  have HB := Lib.hid (below_box hb)
  have V := ((VarAt.made w #[.int .u64 r, .slice A n a, .slice (some ⟨g, off, none⟩) m b] 31).below hb).three
  obtain ⟨hz, c0, c1, c2, f0, f1, f2⟩ := V
  have hd0 : w2.cell? ⟨g, off + k * 2, none⟩ = some (.slice A0 x'.bytes.length cap) := (HB.out.cell (p := ⟨g, off + k * 2, none⟩) HG.out).trans HG0.out
  have HAT2 := Lib.hid (AtB.later HAT HB.out)
  clear hb HH
  go_wp2_with (go_at_call 91; (with_reducible refine (cloneB_at A0 x'.bytes.length cap x'.bytes HLM.out _ HAT2).mono ?_); rintro e w3 ⟨C3, c3, rfl, hc3, hat3, hb3⟩; have HC3 := Lib.hid hc3; have HAT3 := Lib.hid hat3; have HB3 := Lib.hid (HB.out.trans (hb3.mono HB.out.size)); clear hc3 hat3 hb3 hz c0 c1 c2 f0 f1 f2 hd0)
  exact bodyPost_ret (v := .tuple #[.slice C3 x'.bytes.length c3, .int .i64 0]) (by simp [results, Tryd.results69, go_sem]) rfl ⟨C3, c3, rfl, HC3.out, HAT3.out, HB3.out⟩

theorem make_stms (n : Nat) (hn : n ≤ 1000000) (W : World) : (Instr.makeSlice 28 (.int .i64 (n : Int)) (.int .i64 (n : Int))).run Tryd.prog W = .ok (.slice (some ⟨W.heap.size, 0, none⟩) n n) (W.alloc (.cells (madeCells #[.slice none 0 0, .int .i64 0] (n * 2)) 50)) := by
  obtain ⟨i, hi, hz0, hz1, hz2⟩ := info_parts infoM
  have h := run_make (P := Tryd.prog) W 28 50 i _ Tryd.underlying28 hi hz0 .i64 .i64 (n : Int) (n : Int) (by omega) (Int.le_refl _) (by rw [hz2]; omega) (by omega)
  rw [hz1] at h
  exact h
def zerosS (n : Nat) : List Stm := List.replicate n Stm.zero
/-- A row of n empty streams lies in a block of its own. -/
def ZRow (w : World) (g n : Nat) : Prop := StmsAt w (some ⟨g, 0, none⟩) n (zerosS n) ∧ ∀ P : Nat → Prop, P g → OffS P w (some ⟨g, 0, none⟩) n
theorem ZRow.made (w : World) (n : Nat) (hn : n ≤ 1000000) : ZRow (w.alloc (.cells (madeCells #[.slice none 0 0, .int .i64 0] (n * 2)) 50)) w.heap.size n := by
  have hown := World.ownsRow_lit (e := 50) (size := 2) (base := w.heap.size) w (madeCells #[.slice none 0 0, .int .i64 0] (n * 2)) n (Nat.le_refl _) (by unfold maxLen; omega) (by simp [madeCells])
  obtain ⟨a, cap, e, _, hS⟩ := (RawS.zeros w n).at_ hown ((Below.refl _ _).alloc (Nat.le_refl _) _) (by omega)
  have ea : a = some ⟨w.heap.size, 0, none⟩ := by simp at e; exact e.1.symm
  subst ea
  refine ⟨hS, fun P hP b off e2 hn2 => ?_⟩
  simp only [Option.some.injEq, Addr.mk.injEq, and_true] at e2
  obtain ⟨rfl, rfl⟩ := e2
  refine ⟨hP, fun j hj ad len c hc hl => ?_⟩
  have h1 := hown.cellAt (j * 2) (by omega)
  rw [Nat.zero_add, h1, madeM, List.getElem?_map, List.getElem?_range (by omega)] at hc
  simp at hc
theorem ZRow.later {w w' : World} {g n : Nat} (h : ZRow w g n) (hb : Below w.heap.size w w') : ZRow w' g n := ⟨h.1.later hb, fun P hP => (h.2 P hP).later h.1 hb⟩
theorem ZRow.apart {w : World} {g n : Nat} (h : ZRow w g n) (b j : Nat) (v : Value) (hne : g ≠ b) : ZRow (w.setCell ⟨b, j, none⟩ v) g n := ⟨h.1.apart b j v (h.2 _ hne), fun P hP => (h.2 P hP).apart b j v (h.2 _ hne)⟩
/-- Behind a store into the variable's box, and one into the result's. -/
theorem StmsAt.set13 {w : World} {a : Option Addr} {n : Nat} {l : List Stm} (hS : StmsAt w a n l) (b0 j0 : Nat) (u : Value) (b : Nat) (v0 v1 v2 : Value) (k0 : OffS (fun k => k ≠ b0) w a n) (k1 : OffS (fun k => k ≠ b) w a n) :
    StmsAt ((((w.setCell ⟨b0, j0, none⟩ u).setCell ⟨b, 0, none⟩ v0).setCell ⟨b, 1, none⟩ v1).setCell ⟨b, 2, none⟩ v2) a n l ∧ ∀ P : Nat → Prop, OffS P w a n → OffS P ((((w.setCell ⟨b0, j0, none⟩ u).setCell ⟨b, 0, none⟩ v0).setCell ⟨b, 1, none⟩ v1).setCell ⟨b, 2, none⟩ v2) a n := by
  obtain ⟨s1, s2⟩ := (hS.apart b0 j0 u k0).set3 b v0 v1 v2 (k1.apart b0 j0 u k0)
  exact ⟨s1, fun P hP => s2 P (hP.apart b0 j0 u k0)⟩
theorem clear_done {w wz : World} {B : Option Addr} {m g n : Nat} {l : List Stm} (h1 : StmsAt w B m l) (hb : Below w.heap.size w wz) (hg : w.heap.size + 2 ≤ g) (hz : ZRow wz g n) (j : Nat) (u v0 v1 v2 : Value) :
    let w5 := (((wz.setCell ⟨w.heap.size, j, none⟩ u).setCell ⟨w.heap.size + 1, 0, none⟩ v0).setCell ⟨w.heap.size + 1, 1, none⟩ v1).setCell ⟨w.heap.size + 1, 2, none⟩ v2
    StmsAt w5 (some ⟨g, 0, none⟩) n (zerosS n) ∧ StmsAt w5 B m l ∧ Below w.heap.size w w5 ∧ ∀ P : Nat → Prop, (∀ b, w.heap.size ≤ b → P b) → OffS P w B m → OffS P w5 (some ⟨g, 0, none⟩) n ∧ OffS P w5 B m := by
  obtain ⟨s0, u0⟩ := hz.1.set13 w.heap.size j u (w.heap.size + 1) v0 v1 v2 (hz.2 _ (by omega)) (hz.2 _ (by omega))
  obtain ⟨s1, u1⟩ := (h1.later hb).set13 w.heap.size j u (w.heap.size + 1) v0 v1 v2 ((h1.fresh _ (by omega)).later h1 hb) ((h1.fresh _ (by omega)).later h1 hb)
  exact ⟨s0, s1, below_setCells (b := w.heap.size + 1) (by omega) [v0, v1, v2] 0 _ (below_set1 (Nat.le_refl _) u hb), fun P hF hP => ⟨u0 P (hz.2 P (hF g (by omega))), u1 P (hP.later h1 hb)⟩⟩

theorem dskClear_no (r : Int) (A : Option Addr) (n a : Nat) (B : Option Addr) (m b : Nat) (l0 l1 : List Stm) (row : Int) (hno : rowB row = false) (w : World) (h0 : Hid (StmsAt w A n l0)) (h1 : Hid (StmsAt w B m l1)) :
    Calls Tryd.prog 70 #[.agg #[.int .u64 r, .slice A n a, .slice B m b], .int .i64 row] w (DskPostC w r A B n m l0 l1 1) := by
  have HH := fun w => hasRow_any _ #[.int .u64 r, .slice A n a, .slice B m b] rfl row w
  rw [hno] at HH
  clear hno
  go_enter Tryd.func70, Tryd.ntmps70
  go_wp2_with fail
  (with_reducible refine (HH _).mono ?_)
  rintro e w2 ⟨rfl, hb⟩
  have hS := (DskS.made w (.int .u64 r) (.slice A n a) (.slice B m b) (.int .u64 0) (.slice none 0 0) (.slice none 0 0) 31).later hb
  have HB := Lib.hid hS.1
  have c0 := hS.c0
  have c1 := hS.c1
  have c2 := hS.c2
  have r0 := hS.r 0 (by omega)
  have r1 := hS.r 1 (by omega)
  have r2 := hS.r 2 (by omega)
  have f0 := hS.f 0 (by omega)
  have f1 := hS.f 1 (by omega)
  have f2 := hS.f 2 (by omega)
  clear hb HH hS
  go_wp2_with fail
  exact bodyPost_ret (v := .tuple #[.agg #[.int .u64 r, .slice A n a, .slice B m b], .int .i64 1]) (by simp [results, Tryd.results70, go_sem, r0, r1, r2]) rfl (DskPostC.self h0.out h1.out (by first | exact below_pair w _ _ | exact below_setCells (b := w.heap.size + 1) (by omega) [.int .u64 r, .slice A n a, .slice B m b] 0 _ HB.out) 1)

set_option maxHeartbeats 1000000 in
theorem dskClear0_at (r : Int) (A : Option Addr) (n a : Nat) (B : Option Addr) (m b : Nat) (l0 l1 : List Stm) (hn : n ≤ 1000000) (w : World) (h0 : Hid (StmsAt w A n l0)) (h1 : Hid (StmsAt w B m l1)) :
    Calls Tryd.prog 70 #[.agg #[.int .u64 r, .slice A n a, .slice B m b], .int .i64 0] w (DskPostC w r A B n m (zerosS n) l1 0) := by
  have HN := Lib.hid hn
  have HMK := make_stms n hn
  clear hn
  have HH := fun w => hasRow_any _ #[.int .u64 r, .slice A n a, .slice B m b] rfl 0 w
  rw [show rowB 0 = true from rfl] at HH
  go_enter Tryd.func70, Tryd.ntmps70
  go_wp2_with fail
  (with_reducible refine (HH _).mono ?_)
  rintro e w2 ⟨rfl, hb⟩
  have hS0 := (DskS.made w (.int .u64 r) (.slice A n a) (.slice B m b) (.int .u64 0) (.slice none 0 0) (.slice none 0 0) 31).later hb
  clear hb HH
  obtain ⟨gg, hgg⟩ : ∃ gg, gg = w2.heap.size := ⟨_, rfl⟩
  obtain ⟨wz, hwz⟩ : ∃ wz, w2.alloc (.cells (madeCells #[.slice none 0 0, .int .i64 0] (n * 2)) 50) = wz := ⟨_, rfl⟩
  have hS := hS0.alloc (.cells (madeCells #[.slice none 0 0, .int .i64 0] (n * 2)) 50)
  have HZ := ZRow.made w2 n HN.out
  have HG : Hid (w.heap.size + 2 ≤ gg) := Lib.hid (by have := hS0.2.2.1; omega)
  have HMK2 := HMK w2
  rw [hwz] at hS HZ HMK2
  rw [← hgg] at HZ HMK2
  have HZR := Lib.hid HZ
  have HB := Lib.hid hS.1
  have c0 := hS.c0
  have c1 := hS.c1
  have c2 := hS.c2
  have r0 := hS.r 0 (by omega)
  have r1 := hS.r 1 (by omega)
  have r2 := hS.r 2 (by omega)
  obtain ⟨_, k0, k1, k2, g0, g1, g2⟩ := hS0.2.1.three
  obtain ⟨_, _, _, _, g3, g4, g5⟩ := hS.2.1.three
  have f0 := hS.f 0 (by omega)
  have f1 := hS.f 1 (by omega)
  have f2 := hS.f 2 (by omega)
  clear hS hS0 HMK hwz HZ hgg
  go_wp2_with fail
  obtain ⟨s0, s1, hbe, hoff⟩ := clear_done h1.out HB.out HG.out HZR.out 1 (.slice (some ⟨gg, 0, none⟩) n n) (.int .u64 r) (.slice (some ⟨gg, 0, none⟩) n n) (.slice B m b)
  exact bodyPost_ret (v := .tuple #[.agg #[.int .u64 r, .slice (some ⟨gg, 0, none⟩) n n, .slice B m b], .int .i64 0]) (by simp [results, Tryd.results70, go_sem, r0, r1, r2]) rfl ⟨some ⟨gg, 0, none⟩, n, B, b, rfl, s0, s1, hbe, fun P hF hA hB => hoff P hF hB⟩

set_option maxHeartbeats 1000000 in
theorem dskClear1_at (r : Int) (A : Option Addr) (n a : Nat) (B : Option Addr) (m b : Nat) (l0 l1 : List Stm) (hn : m ≤ 1000000) (w : World) (h0 : Hid (StmsAt w A n l0)) (h1 : Hid (StmsAt w B m l1)) :
    Calls Tryd.prog 70 #[.agg #[.int .u64 r, .slice A n a, .slice B m b], .int .i64 1] w (DskPostC w r A B n m l0 (zerosS m) 0) := by
  have HN := Lib.hid hn
  have HMK := make_stms m hn
  clear hn
  have HH := fun w => hasRow_any _ #[.int .u64 r, .slice A n a, .slice B m b] rfl 1 w
  rw [show rowB 1 = true from rfl] at HH
  go_enter Tryd.func70, Tryd.ntmps70
  go_wp2_with fail
  (with_reducible refine (HH _).mono ?_)
  rintro e w2 ⟨rfl, hb⟩
  have hS0 := (DskS.made w (.int .u64 r) (.slice A n a) (.slice B m b) (.int .u64 0) (.slice none 0 0) (.slice none 0 0) 31).later hb
  clear hb HH
  obtain ⟨gg, hgg⟩ : ∃ gg, gg = w2.heap.size := ⟨_, rfl⟩
  obtain ⟨wz, hwz⟩ : ∃ wz, w2.alloc (.cells (madeCells #[.slice none 0 0, .int .i64 0] (m * 2)) 50) = wz := ⟨_, rfl⟩
  have hS := hS0.alloc (.cells (madeCells #[.slice none 0 0, .int .i64 0] (m * 2)) 50)
  have HZ := ZRow.made w2 m HN.out
  have HG : Hid (w.heap.size + 2 ≤ gg) := Lib.hid (by have := hS0.2.2.1; omega)
  have HMK2 := HMK w2
  rw [hwz] at hS HZ HMK2
  rw [← hgg] at HZ HMK2
  have HZR := Lib.hid HZ
  have HB := Lib.hid hS.1
  have c0 := hS.c0
  have c1 := hS.c1
  have c2 := hS.c2
  have r0 := hS.r 0 (by omega)
  have r1 := hS.r 1 (by omega)
  have r2 := hS.r 2 (by omega)
  obtain ⟨_, k0, k1, k2, g0, g1, g2⟩ := hS0.2.1.three
  obtain ⟨_, _, _, _, g3, g4, g5⟩ := hS.2.1.three
  have f0 := hS.f 0 (by omega)
  have f1 := hS.f 1 (by omega)
  have f2 := hS.f 2 (by omega)
  clear hS hS0 HMK hwz HZ hgg
  go_wp2_with fail
  obtain ⟨s0, s1, hbe, hoff⟩ := clear_done h0.out HB.out HG.out HZR.out 2 (.slice (some ⟨gg, 0, none⟩) m m) (.int .u64 r) (.slice A n a) (.slice (some ⟨gg, 0, none⟩) m m)
  exact bodyPost_ret (v := .tuple #[.agg #[.int .u64 r, .slice A n a, .slice (some ⟨gg, 0, none⟩) m m], .int .i64 0]) (by simp [results, Tryd.results70, go_sem, r0, r1, r2]) rfl ⟨A, a, some ⟨gg, 0, none⟩, m, rfl, s1, s0, hbe, fun P hF hA hB => (hoff P hF hA).symm⟩

theorem setRoot_at (r : Int) (A : Option Addr) (n a : Nat) (B : Option Addr) (m b : Nat) (q : Int) (w : World) :
    Calls Tryd.prog 71 #[.agg #[.int .u64 r, .slice A n a, .slice B m b], .int .u64 q] w (Kept w (.agg #[.int .u64 q, .slice A n a, .slice B m b])) := by
  have HB := Lib.hid (below_pair w (.cells #[.int .u64 r, .slice A n a, .slice B m b] 31) (.cells #[.int .u64 0, .slice none 0 0, .slice none 0 0] 31))
  go_enter Tryd.func71, Tryd.ntmps71
  go_wp2_with fail
  exact bodyPost_ret (v := .agg #[.int .u64 q, .slice A n a, .slice B m b]) (by simp [results, Tryd.results71, go_sem]) rfl ⟨rfl, below_pair w _ _⟩

/-! ### New -/
theorem DskPostC.zeros {w w' : World} {g0 g1 n : Nat} (h0 : w.heap.size ≤ g0) (h1 : w.heap.size ≤ g1) (z0 : ZRow w' g0 n) (z1 : ZRow w' g1 n) (hb : Below w.heap.size w w') :
    DskPostC w 0 none none n n (zerosS n) (zerosS n) 0 (.returned (.tuple #[.agg #[.int .u64 0, .slice (some ⟨g0, 0, none⟩) n n, .slice (some ⟨g1, 0, none⟩) n n], .int .i64 0])) w' :=
  ⟨_, n, _, n, rfl, z0.1, z1.1, hb, fun P hF _ _ => ⟨z0.2 P (hF _ h0), z1.2 P (hF _ h1)⟩⟩
theorem DskPostC.none {w w' : World} (hb : Below w.heap.size w w') : DskPostC w 0 none none 0 0 [] [] 1 (.returned (.tuple #[.agg #[.int .u64 0, .slice Option.none 0 0, .slice Option.none 0 0], .int .i64 1])) w' :=
  ⟨Option.none, 0, Option.none, 0, rfl, StmsAt.nil _ _, StmsAt.nil _ _, hb, fun P _ _ _ => ⟨OffS.nil _ _ _, OffS.nil _ _ _⟩⟩
theorem ZRow.set3 {w : World} {g n : Nat} (h : ZRow w g n) (b : Nat) (v0 v1 v2 : Value) (hne : g ≠ b) : ZRow (((w.setCell ⟨b, 0, Option.none⟩ v0).setCell ⟨b, 1, Option.none⟩ v1).setCell ⟨b, 2, Option.none⟩ v2) g n :=
  ((h.apart b 0 v0 hne).apart b 1 v1 hne).apart b 2 v2 hne
def zerosPostC (w : World) (t : Int) (e : Ending) (w' : World) : Prop := if countB t = true then DskPostC w 0 Option.none Option.none t.toNat t.toNat (zerosS t.toNat) (zerosS t.toNat) 0 e w' else DskPostC w 0 Option.none Option.none 0 0 [] [] 1 e w'

theorem refNewD_no (t : Int) (ht : countB t = false) (w : World) : Calls Tryd.prog 31 #[.int .i64 t] w (DskPostC w 0 none none 0 0 [] [] 1) := by
  have HB := Lib.hid ((Below.refl w.heap.size w).alloc (Nat.le_refl _) (.cells #[.int .u64 0, .slice none 0 0, .slice none 0 0] 31))
  by_cases c1 : t < 1
  · have d1 : decide (t < 1) = true := decide_eq_true c1
    clear c1 ht
    go_enter Tryd.func31, Tryd.ntmps31
    go_wp2_with fail
    exact bodyPost_ret (v := .tuple #[.agg #[.int .u64 0, .slice none 0 0, .slice none 0 0], .int .i64 1]) (by simp [results, Tryd.results31, go_sem]) rfl (DskPostC.none (by first | exact HB.out | exact below_setCells (b := w.heap.size) (Nat.le_refl _) [.int .u64 0, .slice none 0 0, .slice none 0 0] 0 _ HB.out))
  · have c2 : 64 < t := by
      unfold countB at ht
      rw [decide_eq_true (show (1 : Int) ≤ t by omega), Bool.true_and, decide_eq_false_iff_not] at ht
      omega
    have d1 : decide (t < 1) = false := decide_eq_false c1
    have d2 : decide (64 < t) = true := decide_eq_true c2
    clear c1 c2 ht
    go_enter Tryd.func31, Tryd.ntmps31
    go_wp2_with fail
    exact bodyPost_ret (v := .tuple #[.agg #[.int .u64 0, .slice none 0 0, .slice none 0 0], .int .i64 1]) (by simp [results, Tryd.results31, go_sem]) rfl (DskPostC.none (by first | exact HB.out | exact below_setCells (b := w.heap.size) (Nat.le_refl _) [.int .u64 0, .slice none 0 0, .slice none 0 0] 0 _ HB.out))

set_option maxHeartbeats 1000000 in
theorem refNewD_yes (n : Nat) (h1 : 1 ≤ n) (h64 : n ≤ 64) (w : World) : Calls Tryd.prog 31 #[.int .i64 (n : Int)] w (DskPostC w 0 none none n n (zerosS n) (zerosS n) 0) := by
  have HMK := make_stms n (by omega)
  have d1 : decide ((n : Int) < 1) = false := decide_eq_false (by omega)
  have d2 : decide ((64 : Int) < (n : Int)) = false := decide_eq_false (by omega)
  have HN : Hid (n ≤ 1000000) := Lib.hid (by omega)
  clear h1 h64
  have HS := Lib.hid (DskS.made w (.int .u64 0) (.slice none 0 0) (.slice none 0 0) (.int .u64 0) (.slice none 0 0) (.slice none 0 0) 31)
  go_enter Tryd.func31, Tryd.ntmps31
  obtain ⟨wa, hwa⟩ : ∃ wa, ((w.alloc (.cells #[.int .u64 0, .slice none 0 0, .slice none 0 0] 31)).alloc (.cells #[.int .u64 0, .slice none 0 0, .slice none 0 0] 31)) = wa := ⟨_, rfl⟩
  rw [hwa] at HS
  have V0 : VarAt wa w.heap.size [.int .u64 0, .slice none 0 0, .slice none 0 0] := HS.out.2.1
  have V1 : VarAt wa (w.heap.size + 1) [.int .u64 0, .slice none 0 0, .slice none 0 0] := by rw [← hwa]; exact VarAt.three1 w _ _ _ _ _
  obtain ⟨g0, hg0⟩ : ∃ g0, g0 = wa.heap.size := ⟨_, rfl⟩
  obtain ⟨wb, hwb⟩ : ∃ wb, wa.alloc (.cells (madeCells #[.slice none 0 0, .int .i64 0] (n * 2)) 50) = wb := ⟨_, rfl⟩
  have M0 := HMK wa
  have Z0 := ZRow.made wa n HN.out
  have B0 : Below wa.heap.size wa wb := by rw [← hwb]; exact (Below.refl _ _).alloc (Nat.le_refl _) _
  rw [hwb] at M0 Z0
  rw [← hg0] at M0 Z0
  have V0b := V0.below B0
  have V1b := V1.below B0
  obtain ⟨wc, hwc⟩ : ∃ wc, wb.setCell ⟨w.heap.size + 1, 1, none⟩ (.slice (some ⟨g0, 0, none⟩) n n) = wc := ⟨_, rfl⟩
  have hG0 : w.heap.size + 2 ≤ g0 := by have := HS.out.2.2.1; omega
  have Z0c := Z0.apart (w.heap.size + 1) 1 (.slice (some ⟨g0, 0, none⟩) n n) (by omega)
  have V0c := V0b.apart (b' := w.heap.size + 1) 1 (.slice (some ⟨g0, 0, none⟩) n n) (by omega)
  have V1c := V1b.setAt 1 (.slice (some ⟨g0, 0, none⟩) n n) (by simp)
  have B0c := below_set1 (b := w.heap.size + 1) (j := 1) (by omega) (.slice (some ⟨g0, 0, none⟩) n n) (HS.out.1.trans (B0.mono HS.out.1.size))
  have s0c : (wb.setCell ⟨w.heap.size + 1, 1, none⟩ (.slice (some ⟨g0, 0, none⟩) n n)).heap.size = wb.heap.size := by simp
  rw [hwc] at Z0c V0c V1c B0c s0c
  obtain ⟨g1, hg1⟩ : ∃ g1, g1 = wc.heap.size := ⟨_, rfl⟩
  obtain ⟨wd, hwd⟩ : ∃ wd, wc.alloc (.cells (madeCells #[.slice none 0 0, .int .i64 0] (n * 2)) 50) = wd := ⟨_, rfl⟩
  have M1 := HMK wc
  have Z1 := ZRow.made wc n HN.out
  have B1 : Below wc.heap.size wc wd := by rw [← hwd]; exact (Below.refl _ _).alloc (Nat.le_refl _) _
  rw [hwd] at M1 Z1
  rw [← hg1] at M1 Z1
  have Z0d := Z0c.later B1
  have V0d := V0c.below B1
  have V1d := V1c.below B1
  have hG1 : w.heap.size + 2 ≤ g1 := by have := B0.size; omega
  obtain ⟨we, hwe⟩ : ∃ we, wd.setCell ⟨w.heap.size + 1, 2, none⟩ (.slice (some ⟨g1, 0, none⟩) n n) = we := ⟨_, rfl⟩
  have Z0e := Z0d.apart (w.heap.size + 1) 2 (.slice (some ⟨g1, 0, none⟩) n n) (by omega)
  have Z1e := Z1.apart (w.heap.size + 1) 2 (.slice (some ⟨g1, 0, none⟩) n n) (by omega)
  have V0e := V0d.apart (b' := w.heap.size + 1) 2 (.slice (some ⟨g1, 0, none⟩) n n) (by omega)
  have V1e := V1d.setAt 2 (.slice (some ⟨g1, 0, none⟩) n n) (by simp)
  have BE := below_set1 (b := w.heap.size + 1) (j := 2) (by omega) (.slice (some ⟨g1, 0, none⟩) n n) (B0c.trans (B1.mono B0c.size))
  rw [hwe] at Z0e Z1e V0e V1e BE
  have HZ0 := Lib.hid (Z0e.set3 w.heap.size (.int .u64 0) (.slice (some ⟨g0, 0, none⟩) n n) (.slice (some ⟨g1, 0, none⟩) n n) (by omega))
  have HZ1 := Lib.hid (Z1e.set3 w.heap.size (.int .u64 0) (.slice (some ⟨g0, 0, none⟩) n n) (.slice (some ⟨g1, 0, none⟩) n n) (by omega))
  have HBE := Lib.hid (below_setCells (b := w.heap.size) (Nat.le_refl _) [.int .u64 0, .slice (some ⟨g0, 0, none⟩) n n, .slice (some ⟨g1, 0, none⟩) n n] 0 _ BE)
  have HG0 := Lib.hid hG0
  have HG1 := Lib.hid hG1
  obtain ⟨b0, b1, b2, b3, b4, b5, b6⟩ := V1b.three
  obtain ⟨d0, d1', d2', d3, d4, d5, d6⟩ := V1d.three
  obtain ⟨e0, e1, e2, e3, e4, e5, e6⟩ := V1e.three
  obtain ⟨r, r0, r1, r2, f0, f1, f2⟩ := V0e.three
  clear HMK Z0 Z1 B0 V0 V1 V0b V1b Z0c V0c V1c B0c s0c B1 Z0d V0d V1d Z0e Z1e V0e V1e BE hG0 hG1 hg0 hg1
  go_wp2_with fail
  exact bodyPost_ret (v := .tuple #[.agg #[.int .u64 0, .slice (some ⟨g0, 0, none⟩) n n, .slice (some ⟨g1, 0, none⟩) n n], .int .i64 0]) (by simp [results, Tryd.results31, go_sem, r0, r1, r2]) rfl (DskPostC.zeros (by have := HG0.out; omega) (by have := HG1.out; omega) HZ0.out HZ1.out HBE.out)

def ZIf (c : Prop) (w wr : World) (n : Nat) (u : Value) : Prop := c → ∃ g, u = .slice (some ⟨g, 0, none⟩) n n ∧ w.heap.size + 2 ≤ g ∧ ZRow wr g n
def NewRelD (w : World) (n k : Nat) (wr : World) : Prop := ∃ u0 u1, VarAt wr w.heap.size [.int .u64 0, .slice none 0 0, .slice none 0 0] ∧ VarAt wr (w.heap.size + 1) [u0, u1] ∧ Below w.heap.size w wr ∧ ZIf (1 ≤ k) w wr n u0 ∧ ZIf (2 ≤ k) w wr n u1
theorem ZIf.next {c : Prop} {w wr : World} {n : Nat} {u : Value} (h : ZIf c w wr n u) (o : Obj) (j : Nat) (v : Value) : ZIf c w ((wr.alloc o).setCell ⟨w.heap.size + 1, j, none⟩ v) n u := fun hc => by
  obtain ⟨g, h1, h2, h3⟩ := h hc
  exact ⟨g, h1, h2, (h3.later ((Below.refl _ _).alloc (Nat.le_refl _) o)).apart _ j v (by omega)⟩
theorem ZIf.new (c : Prop) (w wr : World) (n j : Nat) (hn : n ≤ 1000000) (hw : w.heap.size + 2 ≤ wr.heap.size) (v : Value) : ZIf c w ((wr.alloc (.cells (madeCells #[.slice none 0 0, .int .i64 0] (n * 2)) 50)).setCell ⟨w.heap.size + 1, j, none⟩ v) n (.slice (some ⟨wr.heap.size, 0, none⟩) n n) := fun _ =>
  ⟨_, rfl, hw, (ZRow.made wr n hn).apart _ j v (by omega)⟩
theorem NewRelD.next {w wr : World} {n k : Nat} (h : NewRelD w n k wr) (hn : n ≤ 1000000) (hk : k < 2) : NewRelD w n (k + 1) ((wr.alloc (.cells (madeCells #[.slice none 0 0, .int .i64 0] (n * 2)) 50)).setCell ⟨w.heap.size + 1, k, none⟩ (.slice (some ⟨wr.heap.size, 0, none⟩) n n)) := by
  obtain ⟨u0, u1, h0, h1, hb, z0, z1⟩ := h
  have hal : Below wr.heap.size wr (wr.alloc (.cells (madeCells #[.slice none 0 0, .int .i64 0] (n * 2)) 50)) := (Below.refl _ _).alloc (Nat.le_refl _) _
  have hv := h1.1
  have a0 := (h0.below hal).apart (b' := w.heap.size + 1) k (.slice (some ⟨wr.heap.size, 0, none⟩) n n) (by omega)
  have a1 := (h1.below hal).setAt k (.slice (some ⟨wr.heap.size, 0, none⟩) n n) (by simpa using hk)
  have ab := below_set1 (b := w.heap.size + 1) (j := k) (by omega) (.slice (some ⟨wr.heap.size, 0, none⟩) n n) (hb.trans (hal.mono hb.size))
  obtain rfl | rfl : k = 0 ∨ k = 1 := by omega
  · exact ⟨_, u1, a0, a1, ab, ZIf.new _ w wr n 0 hn (by omega) _, fun h => by omega⟩
  · exact ⟨u0, _, a0, a1, ab, fun _ => (z0.next _ 1 _) (Nat.le_refl _), ZIf.new _ w wr n 1 hn (by omega) _⟩
end Go.Proofs.YtdbomlclkhkinaaDoor
