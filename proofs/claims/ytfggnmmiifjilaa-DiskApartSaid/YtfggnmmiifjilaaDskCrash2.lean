/-
  The contract of package disk's Crash.
-/
import Derived.Test.YtfggnmmiifjilaaDskCrash
namespace Go.Proofs.Ytfggnmmiifjilaa
open Go.ChangeShapes Go.WideShapes Go.ChangeAt Go.RowKit
set_option linter.unusedVariables false

/-- A row behind a crash, while the disk's variable and the result's may be written. -/
def CRow (w : World) (A : Option Addr) (n : Nat) (l' : List Stm) (a : Option Addr) (wr : World) : Prop := StmsAt wr a n l' ∧ ∀ P : Nat → Prop, (∀ b, w.heap.size + 2 ≤ b → P b) → OffS P w A n → OffS P wr a n
theorem CRow.later {w wr w' : World} {A a : Option Addr} {n : Nat} {l : List Stm} (h : CRow w A n l a wr) (hb : Below wr.heap.size wr w') : CRow w A n l a w' := ⟨h.1.later hb, fun P h1 h2 => (h.2 P h1 h2).later h.1 hb⟩
theorem CRow.apart {w wr : World} {A a : Option Addr} {n : Nat} {l q : List Stm} (h : CRow w A n l a wr) (hS : StmsAt w A n q) (b j : Nat) (v : Value) (h1 : w.heap.size ≤ b) (h2 : b < w.heap.size + 2) : CRow w A n l a (wr.setCell ⟨b, j, none⟩ v) := by
  have hne := h.2 (fun k => k ≠ b) (fun k hk => by omega) (hS.fresh b h1)
  exact ⟨h.1.apart b j v hne, fun P hF hP => (h.2 P hF hP).apart b j v hne⟩
theorem CRow.set3 {w wr : World} {A a : Option Addr} {n : Nat} {l q : List Stm} (h : CRow w A n l a wr) (hS : StmsAt w A n q) (v0 v1 v2 : Value) : CRow w A n l a (((wr.setCell ⟨w.heap.size + 1, 0, none⟩ v0).setCell ⟨w.heap.size + 1, 1, none⟩ v1).setCell ⟨w.heap.size + 1, 2, none⟩ v2) :=
  ((h.apart hS _ 0 v0 (by omega) (by omega)).apart hS _ 1 v1 (by omega) (by omega)).apart hS _ 2 v2 (by omega) (by omega)
theorem CRow.of {w wr w' : World} {A a : Option Addr} {n : Nat} {l q : List Stm} (hS : StmsAt w A n q) (hb : Below w.heap.size w wr) (hw : w.heap.size + 2 ≤ wr.heap.size) (h1 : StmsAt w' a n l) (h2 : ∀ P : Nat → Prop, (∀ b, wr.heap.size ≤ b → P b) → OffS P wr A n → OffS P w' a n) : CRow w A n l a w' :=
  ⟨h1, fun P hF hP => h2 P (fun b hb2 => hF b (by omega)) (hP.later hS hb)⟩
/-- Crash, in the midst: the disk's rows behind k of its two rounds, and what is left of the numbers. -/
def CrashRel (w : World) (r : Int) (A : Option Addr) (n a : Nat) (B : Option Addr) (m b : Nat) (l0 l1 : List Stm) (C : Option Addr) (cn cc : Nat) (f : Nat → Int) : Nat → Value → World → Prop
  | 0, v, wr => v = .slice C cn cc ∧ VarAt wr w.heap.size [.int .u64 r, .slice A n a, .slice B m b] ∧ VarAt wr (w.heap.size + 1) [.int .u64 0, .slice none 0 0, .slice none 0 0] ∧ Below w.heap.size w wr
  | 1, v, wr => v = .slice (cutA C cc (min n cn)) (cn - min n cn) (cc - min n cn) ∧ ∃ a1 c1, VarAt wr w.heap.size [.int .u64 r, .slice a1 n c1, .slice B m b] ∧ VarAt wr (w.heap.size + 1) [.int .u64 0, .slice none 0 0, .slice none 0 0] ∧ Below w.heap.size w wr ∧ CRow w A n (cutL l0 (moreAt cn f)) a1 wr
  | _, v, wr => ∃ a1 c1 b1 c2, VarAt wr w.heap.size [.int .u64 r, .slice a1 n c1, .slice b1 m c2] ∧ VarAt wr (w.heap.size + 1) [.int .u64 0, .slice none 0 0, .slice none 0 0] ∧ Below w.heap.size w wr ∧ CRow w A n (cutL l0 (moreAt cn f)) a1 wr ∧ CRow w B m (cutL l1 fun j => moreAt cn f (n + j)) b1 wr
def DskPostV (w : World) (r : Int) (A B : Option Addr) (n m : Nat) (l0 l1 : List Stm) (e : Ending) (w' : World) : Prop :=
  ∃ A' a' B' b', e = .returned (.agg #[.int .u64 r, .slice A' n a', .slice B' m b']) ∧ StmsAt w' A' n l0 ∧ StmsAt w' B' m l1 ∧ Below w.heap.size w w' ∧
    ∀ P : Nat → Prop, (∀ b, w.heap.size ≤ b → P b) → OffS P w A n → OffS P w B m → OffS P w' A' n ∧ OffS P w' B' m
set_option maxHeartbeats 2000000 in
theorem crash_at (r : Int) (A : Option Addr) (n a : Nat) (B : Option Addr) (m b : Nat) (l0 l1 : List Stm) (hn : n ≤ 1000000) (hm : m ≤ 1000000) (hr0 : allB l0 = true) (hr1 : allB l1 = true) (C : Option Addr) (cn cc : Nat) (hcc : cn ≤ cc) (f : Nat → Int) (w : World) (h0 : Hid (StmsAt w A n l0)) (h1 : Hid (StmsAt w B m l1)) (hC : Hid (AtI w C cn f)) :
    Calls Try.prog 24 #[.agg #[.int .u64 r, .slice A n a, .slice B m b], .slice C cn cc] w (DskPostV w r A B n m (cutL l0 (moreAt cn f)) (cutL l1 fun j => moreAt cn f (n + j))) := by
  have hcm := hC.out.1
  have HCC := Lib.hid hcc
  have K0 := fun w h h' => cutAll_at A n a l0 hn hr0 C cn cc f w h h'
  have K1 := fun w h h' => cutAll_at B m b l1 hm hr1 (cutA C cc (min n cn)) (cn - min n cn) (cc - min n cn) (fun j => f (min n cn + j)) w h h'
  have HE : Hid (cutL l1 (moreAt (cn - min n cn) fun j => f (min n cn + j)) = cutL l1 fun j => moreAt cn f (n + j)) := Lib.hid (cutL_congr l1 (fun i => moreAt_shift cn (min n cn) f n rfl i))
  have V0 := Lib.hid (VarAt.three0 w (.int .u64 r) (.slice A n a) (.slice B m b) (.cells #[.int .u64 0, .slice none 0 0, .slice none 0 0] 26) 26)
  have V1 := Lib.hid (VarAt.three1 w (.int .u64 0) (.slice none 0 0) (.slice none 0 0) (.cells #[.int .u64 r, .slice A n a, .slice B m b] 26) 26)
  clear hr0 hr1
  go_enter Try.func24, Try.ntmps24
  go_wp2_with fail
  go_loopw [1, 5, 6, 7] (fun v _ _ i wr => ∃ k : Nat, k ≤ 2 ∧ i = .int .i64 k ∧ CrashRel w r A n a B m b l0 l1 C cn cc f k v wr) (fun _ _ _ i _ => 2 - (intOf i).toNat)
  case atStart => exact ⟨0, Nat.zero_le _, rfl, rfl, V0.out, V1.out, below_pair w _ _⟩
  case round =>
    obtain ⟨k, hk, rfl, hrel⟩ := hrel
    clear V0 V1
    obtain rfl | rfl | rfl : k = 0 ∨ k = 1 ∨ k = 2 := by omega
    · obtain ⟨rfl, hv0, hv1, hb⟩ := hrel
      have HV0 := Lib.hid hv0
      have HV1 := Lib.hid hv1
      have HB := Lib.hid hb
      have HW : Hid (w.heap.size + 2 ≤ wr.heap.size) := Lib.hid (by have := hv1.1; omega)
      obtain ⟨hz, c0, c1, c2, f0, f1, f2⟩ := hv0.three
      have H0 := Lib.hid (h0.out.later hb)
      have HCR := Lib.hid (hC.out.later hb)
      clear hv0 hv1 hb
      by_cases hnc : n ≤ cn
      · have hsl := fun W => run_cutI_l C cn cc n hnc W
        have HX : Hid (min n cn = n) := Lib.hid (Nat.min_eq_left hnc)
        go_wp2_with (go_at_call 42; (with_reducible refine (K0 _ H0 HCR).mono ?_); rintro e w5 ⟨a1, c1', rfl, hs5, hb5, hoff5⟩; have HS5 := Lib.hid hs5; have HB5 := Lib.hid hb5; have HO5 := Lib.hid hoff5; clear hs5 hb5 hoff5 hz c0 c1 c2 f0 f1 f2; obtain ⟨hz, c0, c1, c2, f0, f1, f2⟩ := (HV0.out.below HB5.out).three)
        go_roundw
        case rel => exact ⟨1, by omega, by go_num, by (rw [HX.out]; try rw [Nat.sub_self]), a1, c1', (HV0.out.below HB5.out).setAt 1 _ (by simp), (HV1.out.below HB5.out).apart 1 _ (by omega), below_set1 (Nat.le_refl _) _ (HB.out.trans (HB5.out.mono HB.out.size)), (CRow.of h0.out HB.out HW.out HS5.out HO5.out).apart h0.out _ 1 _ (Nat.le_refl _) (by omega)⟩
        case measure => simp [intOf]
      · have hsl := fun W => run_cutI_l C cn cc cn (Nat.le_refl _) W
        have HX : Hid (min n cn = cn) := Lib.hid (Nat.min_eq_right (by omega))
        go_wp2_with (go_at_call 42; (with_reducible refine (K0 _ H0 HCR).mono ?_); rintro e w5 ⟨a1, c1', rfl, hs5, hb5, hoff5⟩; have HS5 := Lib.hid hs5; have HB5 := Lib.hid hb5; have HO5 := Lib.hid hoff5; clear hs5 hb5 hoff5 hz c0 c1 c2 f0 f1 f2; obtain ⟨hz, c0, c1, c2, f0, f1, f2⟩ := (HV0.out.below HB5.out).three)
        go_roundw
        case rel => exact ⟨1, by omega, by go_num, by (rw [HX.out]; try rw [Nat.sub_self]), a1, c1', (HV0.out.below HB5.out).setAt 1 _ (by simp), (HV1.out.below HB5.out).apart 1 _ (by omega), below_set1 (Nat.le_refl _) _ (HB.out.trans (HB5.out.mono HB.out.size)), (CRow.of h0.out HB.out HW.out HS5.out HO5.out).apart h0.out _ 1 _ (Nat.le_refl _) (by omega)⟩
        case measure => simp [intOf]
    · obtain ⟨rfl, a1, c1', hv0, hv1, hb, hrow⟩ := hrel
      have HV0 := Lib.hid hv0
      have HV1 := Lib.hid hv1
      have HB := Lib.hid hb
      have HROW := Lib.hid hrow
      have HW : Hid (w.heap.size + 2 ≤ wr.heap.size) := Lib.hid (by have := hv1.1; omega)
      obtain ⟨hz, c0, c1, c2, f0, f1, f2⟩ := hv0.three
      have H1 := Lib.hid (h1.out.later hb)
      have HCR := Lib.hid ((hC.out.cutA hcc (min n cn) (Nat.min_le_right _ _)).later hb)
      rw [HE.out] at K1
      clear hv0 hv1 hb hrow
      have HLE : cn - min n cn ≤ cn := Nat.sub_le _ _
      generalize cutA C cc (min n cn) = C1 at *
      generalize cn - min n cn = q1 at *
      generalize cc - min n cn = q2 at *
      by_cases hnc : m ≤ q1
      · have hsl := fun W => run_cutI_l C1 q1 q2 m hnc W
        go_wp2_with (go_at_call 42; (with_reducible refine (K1 _ H1 HCR).mono ?_); rintro e w5 ⟨b1, c2', rfl, hs5, hb5, hoff5⟩; have HS5 := Lib.hid hs5; have HB5 := Lib.hid hb5; have HO5 := Lib.hid hoff5; clear hs5 hb5 hoff5 hz c0 c1 c2 f0 f1 f2; obtain ⟨hz, c0, c1, c2, f0, f1, f2⟩ := (HV0.out.below HB5.out).three)
        go_roundw
        case rel => exact ⟨2, by omega, by go_num, a1, c1', b1, c2', (HV0.out.below HB5.out).setAt 2 _ (by simp), (HV1.out.below HB5.out).apart 2 _ (by omega), below_set1 (Nat.le_refl _) _ (HB.out.trans (HB5.out.mono HB.out.size)), (HROW.out.later HB5.out).apart h0.out _ 2 _ (Nat.le_refl _) (by omega), (CRow.of h1.out HB.out HW.out HS5.out HO5.out).apart h1.out _ 2 _ (Nat.le_refl _) (by omega)⟩
        case measure => simp [intOf]
      · have hsl := fun W => run_cutI_l C1 q1 q2 q1 (Nat.le_refl _) W
        go_wp2_with (go_at_call 42; (with_reducible refine (K1 _ H1 HCR).mono ?_); rintro e w5 ⟨b1, c2', rfl, hs5, hb5, hoff5⟩; have HS5 := Lib.hid hs5; have HB5 := Lib.hid hb5; have HO5 := Lib.hid hoff5; clear hs5 hb5 hoff5 hz c0 c1 c2 f0 f1 f2; obtain ⟨hz, c0, c1, c2, f0, f1, f2⟩ := (HV0.out.below HB5.out).three)
        go_roundw
        case rel => exact ⟨2, by omega, by go_num, a1, c1', b1, c2', (HV0.out.below HB5.out).setAt 2 _ (by simp), (HV1.out.below HB5.out).apart 2 _ (by omega), below_set1 (Nat.le_refl _) _ (HB.out.trans (HB5.out.mono HB.out.size)), (HROW.out.later HB5.out).apart h0.out _ 2 _ (Nat.le_refl _) (by omega), (CRow.of h1.out HB.out HW.out HS5.out HO5.out).apart h1.out _ 2 _ (Nat.le_refl _) (by omega)⟩
        case measure => simp [intOf]
    · obtain ⟨a1, c1', b1, c2', hv0, hv1, hb, hrow0, hrow1⟩ := hrel
      have HR0 := Lib.hid (hrow0.set3 h0.out (.int .u64 r) (.slice a1 n c1') (.slice b1 m c2'))
      have HR1 := Lib.hid (hrow1.set3 h1.out (.int .u64 r) (.slice a1 n c1') (.slice b1 m c2'))
      have HBE := Lib.hid (below_setCells (b := w.heap.size + 1) (by omega) [.int .u64 r, .slice a1 n c1', .slice b1 m c2'] 0 _ hb)
      obtain ⟨hz, c0, c1, c2, f0, f1, f2⟩ := hv0.three
      obtain ⟨hz', r0, r1, r2, g0, g1, g2⟩ := hv1.three
      clear hv0 hv1 hb hrow0 hrow1 K0 K1
      go_wp2_with fail
      exact bodyPost_ret (v := .agg #[.int .u64 r, .slice a1 n c1', .slice b1 m c2']) (by simp [results, Try.results24, go_sem, r0, r1, r2]) rfl ⟨a1, c1', b1, c2', rfl, HR0.out.1, HR1.out.1, HBE.out, fun P hF hA hB => ⟨HR0.out.2 P (fun b hb => hF b (by omega)) hA, HR1.out.2 P (fun b hb => hF b (by omega)) hB⟩⟩
end Go.Proofs.Ytfggnmmiifjilaa
