/-
  Which disks are right: the program's answer, and the document's own.
-/
import Derived.Test.YtjbhichgojjakaaDskRead
namespace Go.Proofs.Ytjbhichgojjakaa
open Go.ChangeShapes Go.WideShapes Go.ChangeAt Go.RowKit
set_option linter.unusedVariables false
set_option maxRecDepth 100000

/-- Is a disk of these rows right? -/
def rightD (l0 l1 : List Stm) : Bool := decide (l0.length = l1.length) && (allB l0 && allB l1) && countB (l0.length : Int)
theorem rightD_len {l0 l1 : List Stm} (h : l0.length ≠ l1.length) : rightD l0 l1 = false := by unfold rightD; rw [decide_eq_false h]; rfl
theorem rightD_0 {l0 l1 : List Stm} (h : allB l0 = false) : rightD l0 l1 = false := by unfold rightD; rw [h]; simp
theorem rightD_1 {l0 l1 : List Stm} (h : allB l1 = false) : rightD l0 l1 = false := by unfold rightD; rw [h]; simp
theorem rightD_c {l0 l1 : List Stm} (h : countB (l0.length : Int) = false) : rightD l0 l1 = false := by unfold rightD; rw [h]; simp
theorem rightD_ok {l0 l1 : List Stm} (h : l0.length = l1.length) (h0 : allB l0 = true) (h1 : allB l1 = true) : rightD l0 l1 = countB (l0.length : Int) := by unfold rightD; rw [decide_eq_true h, h0, h1]; rfl

def RightRel (w0 : World) (l0 l1 : List Stm) (k : Nat) (wr : World) : Prop := (1 ≤ k → allB l0 = true) ∧ (2 ≤ k → l0.length = l1.length ∧ allB l1 = true) ∧ Below w0.heap.size w0 wr
set_option maxHeartbeats 1000000 in
theorem diskRight_at (r : Int) (A : Option Addr) (n a : Nat) (B : Option Addr) (m b : Nat) (l0 l1 : List Stm) (w : World) (h0 : Hid (StmsAt w A n l0)) (h1 : Hid (StmsAt w B m l1)) :
    Calls Try.prog 54 #[.agg #[.int .u64 r, .slice A n a, .slice B m b]] w (Kept w (.bool (rightD l0 l1))) := by
  have hm0 := h0.out.2.1
  have hm1 := h1.out.2.1
  have HL0 := Lib.hid h0.out.1
  have HL1 := Lib.hid h1.out.1
  have C0 := fun w h => allRight_at A n a l0 w h
  have C1 := fun w h => allRight_at B m b l1 w h
  have CM := fun w => mayCount_any (n : Int) w
  go_enter Try.func54, Try.ntmps54
  go_wp2_with fail
  have HW := Lib.hid ((Below.refl w.heap.size w).alloc (Nat.le_refl _) (.cells #[.int .u64 r, .slice A n a, .slice B m b] 33))
  have VW := Lib.hid (VarAt.made w #[.int .u64 r, .slice A n a, .slice B m b] 33)
  obtain ⟨w0, hw0⟩ : ∃ w0, w0 = w.alloc (.cells #[.int .u64 r, .slice A n a, .slice B m b] 33) := ⟨_, rfl⟩
  have HB0 : Hid (Below w.heap.size w w0) := Lib.hid (by rw [hw0]; exact HW.out)
  have VB0 : Hid (VarAt w0 w.heap.size [.int .u64 r, .slice A n a, .slice B m b]) := Lib.hid (by rw [hw0]; exact VW.out)
  rw [← hw0]
  clear hw0 HW VW
  go_loopw [4, 9] (fun u i wr => ∃ k : Nat, k ≤ 2 ∧ i = .int .i64 k ∧ RightRel w0 l0 l1 k wr) (fun _ i _ => 2 - (intOf i).toNat)
  case atStart => exact ⟨0, Nat.zero_le _, rfl, fun h => by omega, fun h => by omega, Below.refl _ _⟩
  case round =>
    obtain ⟨k, hk, rfl, hrel⟩ := hrel
    have HR := Lib.hid hrel
    have HB := Lib.hid (HB0.out.trans (hrel.2.2.mono HB0.out.size))
    have H0 : Hid (StmsAt wr A n l0) := Lib.hid (h0.out.later HB.out)
    have H1 : Hid (StmsAt wr B m l1) := Lib.hid (h1.out.later HB.out)
    obtain ⟨hz, hc0, hc1, hc2, hf0, hf1, hf2⟩ := (VB0.out.below hrel.2.2).three
    clear hrel
    obtain rfl | rfl | rfl : k = 0 ∨ k = 1 ∨ k = 2 := by omega
    · by_cases hr : allB l0 = true
      · rw [hr] at C0
        have HX := Lib.hid hr
        clear hr
        go_wp2_with (go_at_call 75; (with_reducible refine (C0 _ H0).mono ?_); rintro e w' ⟨rfl, hb'⟩; have HE := Lib.hid (HR.out.2.2.trans (hb'.mono HR.out.2.2.size)); clear hb')
        go_roundw
        case rel => exact ⟨1, by omega, by go_num, fun _ => HX.out, fun h => by omega, HE.out⟩
        case measure => simp [intOf]
      · have hr' : allB l0 = false := by simpa using hr
        rw [hr'] at C0
        have HX := Lib.hid (rightD_0 (l1 := l1) hr')
        clear hr hr'
        go_wp2_with (go_at_call 75; (with_reducible refine (C0 _ H0).mono ?_); rintro e w' ⟨rfl, hb'⟩; have HE := Lib.hid (HB.out.trans (hb'.mono HB.out.size)); clear hb')
        go_ret
        exact ⟨ret_bool' HX.out.symm, HE.out⟩
    · by_cases hnm : n = m
      · have HNM := Lib.hid hnm
        subst hnm
        by_cases hr : allB l1 = true
        · rw [hr] at C1
          have HX := Lib.hid hr
          clear hr
          go_wp2_with (go_at_call 75; (with_reducible refine (C1 _ H1).mono ?_); rintro e w' ⟨rfl, hb'⟩; have HE := Lib.hid (HR.out.2.2.trans (hb'.mono HR.out.2.2.size)); clear hb')
          go_roundw
          case rel => exact ⟨2, by omega, by go_num, fun _ => HR.out.1 (by omega), fun _ => ⟨HL0.out.trans HL1.out.symm, HX.out⟩, HE.out⟩
          case measure => simp [intOf]
        · have hr' : allB l1 = false := by simpa using hr
          rw [hr'] at C1
          have HX := Lib.hid (rightD_1 (l0 := l0) hr')
          clear hr hr'
          go_wp2_with (go_at_call 75; (with_reducible refine (C1 _ H1).mono ?_); rintro e w' ⟨rfl, hb'⟩; have HE := Lib.hid (HB.out.trans (hb'.mono HB.out.size)); clear hb')
          go_ret
          exact ⟨ret_bool' HX.out.symm, HE.out⟩
      · have HX := Lib.hid (rightD_len (l0 := l0) (l1 := l1) (by rw [HL0.out, HL1.out]; exact hnm))
        have e1 : ((m : Int) == (n : Int)) = false := by rw [beq_eq_false_iff_ne]; omega
        have e2 : ((m : Int) != (n : Int)) = true := by rw [bne_iff_ne]; omega
        clear hnm
        go_wp2_with fail
        go_ret
        exact ⟨ret_bool' HX.out.symm, HB.out⟩
    · have HX := Lib.hid (rightD_ok (HR.out.2.1 (by omega)).1 (HR.out.1 (by omega)) (HR.out.2.1 (by omega)).2)
      go_wp2_with (go_at_call 76; (with_reducible refine (CM _).mono ?_); rintro e w' ⟨rfl, rfl⟩)
      go_ret
      exact ⟨ret_bool' (by rw [HX.out, HL0.out]), HB.out⟩

/-- The document's own: which rows it goes through, and how far. -/
def RowsRel (w0 : World) (l0 l1 : List Stm) (k : Nat) (wr : World) : Prop := (1 ≤ k → allB l0 = true) ∧ (2 ≤ k → allB l1 = true) ∧ Below w0.heap.size w0 wr
def RowRel (w0 : World) (l : List Stm) (j : Nat) (wr : World) : Prop := allB (l.take j) = true ∧ Below w0.heap.size w0 wr
theorem refRight_no (r : Int) (A : Option Addr) (n a : Nat) (B : Option Addr) (m b : Nat) (l0 l1 : List Stm) (w : World) (h0 : Hid (StmsAt w A n l0)) (h1 : Hid (StmsAt w B m l1)) (h : countB (n : Int) = false ∨ n ≠ m) :
    Calls Try.prog 65 #[.agg #[.int .u64 r, .slice A n a, .slice B m b]] w (Kept w (.bool (rightD l0 l1))) := by
  have hm0 := h0.out.2.1
  have hm1 := h1.out.2.1
  have E : Hid (rightD l0 l1 = false) := Lib.hid (by
    rcases h with h | h
    · exact rightD_c (by rw [h0.out.1]; exact h)
    · exact rightD_len (by rw [h0.out.1, h1.out.1]; exact h))
  by_cases c1 : (n : Int) < 1
  · have d1 : decide ((n : Int) < 1) = true := decide_eq_true c1
    clear h
    go_enter Try.func65, Try.ntmps65
    go_wp2_with fail
    go_ret
    exact ⟨ret_bool' E.out.symm, (Below.refl _ _).alloc (Nat.le_refl _) _⟩
  by_cases c2 : (64 : Int) < (n : Int)
  · have d1 : decide ((n : Int) < 1) = false := decide_eq_false c1
    have d2 : decide ((64 : Int) < (n : Int)) = true := decide_eq_true c2
    clear h
    go_enter Try.func65, Try.ntmps65
    go_wp2_with fail
    go_ret
    exact ⟨ret_bool' E.out.symm, (Below.refl _ _).alloc (Nat.le_refl _) _⟩
  have hne : n ≠ m := by
    rcases h with h | h
    · unfold countB at h
      rw [decide_eq_true (by omega), decide_eq_true (by omega)] at h
      cases h
    · exact h
  have d1 : decide ((n : Int) < 1) = false := decide_eq_false c1
  have d2 : decide ((64 : Int) < (n : Int)) = false := decide_eq_false c2
  have e1 : ((m : Int) == (n : Int)) = false := by rw [beq_eq_false_iff_ne]; omega
  have e2 : ((m : Int) != (n : Int)) = true := by rw [bne_iff_ne]; omega
  clear h hne
  go_enter Try.func65, Try.ntmps65
  go_wp2_with fail
  go_ret
  exact ⟨ret_bool' E.out.symm, (Below.refl _ _).alloc (Nat.le_refl _) _⟩
set_option maxHeartbeats 2000000 in
theorem refRight_yes (r : Int) (A : Option Addr) (n a : Nat) (B : Option Addr) (b : Nat) (l0 l1 : List Stm) (w : World) (h0 : Hid (StmsAt w A n l0)) (h1 : Hid (StmsAt w B n l1)) (hc : countB (n : Int) = true) :
    Calls Try.prog 65 #[.agg #[.int .u64 r, .slice A n a, .slice B n b]] w (Kept w (.bool (rightD l0 l1))) := by
  have hm0 := h0.out.2.1
  have HL0 := Lib.hid h0.out.1
  have HL1 := Lib.hid h1.out.1
  have E : Hid (rightD l0 l1 = (allB l0 && allB l1)) := Lib.hid (by unfold rightD; rw [decide_eq_true (h0.out.1.trans h1.out.1.symm), h0.out.1, hc]; simp)
  have c1 : 1 ≤ n ∧ n ≤ 64 := by
    unfold countB at hc
    simp only [Bool.and_eq_true, decide_eq_true_eq] at hc
    omega
  clear hc
  obtain ⟨c1, c2⟩ := c1
  have d1 : decide ((n : Int) < 1) = false := decide_eq_false (by omega)
  have d2 : decide ((64 : Int) < (n : Int)) = false := decide_eq_false (by omega)
  go_enter Try.func65, Try.ntmps65
  go_wp2_with fail
  have HW := Lib.hid ((Below.refl w.heap.size w).alloc (Nat.le_refl _) (.cells #[.int .u64 r, .slice A n a, .slice B n b] 33))
  have VW := Lib.hid (VarAt.made w #[.int .u64 r, .slice A n a, .slice B n b] 33)
  obtain ⟨w0, hw0⟩ : ∃ w0, w0 = w.alloc (.cells #[.int .u64 r, .slice A n a, .slice B n b] 33) := ⟨_, rfl⟩
  have HB0 : Hid (Below w.heap.size w w0) := Lib.hid (by rw [hw0]; exact HW.out)
  have VB0 : Hid (VarAt w0 w.heap.size [.int .u64 r, .slice A n a, .slice B n b]) := Lib.hid (by rw [hw0]; exact VW.out)
  rw [← hw0]
  clear hw0 HW VW
  go_loopw [4, 5, 6] (fun i _ _ wr => ∃ k : Nat, k ≤ 2 ∧ i = .int .i64 k ∧ RowsRel w0 l0 l1 k wr) (fun i _ _ _ => 2 - (intOf i).toNat)
  case atStart => exact ⟨0, Nat.zero_le _, rfl, fun h => by omega, fun h => by omega, Below.refl _ _⟩
  case round =>
    obtain ⟨k, hk, rfl, hrel⟩ := hrel
    have HR := Lib.hid hrel
    have HB := Lib.hid (HB0.out.trans (hrel.2.2.mono HB0.out.size))
    have H0 : Hid (StmsAt wr A n l0) := Lib.hid (h0.out.later HB.out)
    have H1 : Hid (StmsAt wr B n l1) := Lib.hid (h1.out.later HB.out)
    have VR := Lib.hid (VB0.out.below hrel.2.2)
    obtain ⟨hz, hc0, hc1, hc2, hf0, hf1, hf2⟩ := VR.out.three
    clear hrel
    obtain rfl | rfl | rfl : k = 0 ∨ k = 1 ∨ k = 2 := by omega
    · rw [show ((0 : Nat) : Int) = 0 from rfl]
      go_wp2_with fail
      go_loopw [5, 6] (fun j _ wq => ∃ q : Nat, q ≤ n ∧ j = .int .i64 q ∧ RowRel wr l0 q wq) (fun j _ _ => n - (intOf j).toNat)
      case atStart => exact ⟨0, Nat.zero_le _, rfl, by simp [allB], Below.refl _ _⟩
      case round =>
        obtain ⟨q, hq, rfl, hrq⟩ := hrel
        have HQ := Lib.hid hrq
        have HBQ := Lib.hid (HB.out.trans (hrq.2.mono HB.out.size))
        obtain ⟨hz, hc0, hc1, hc2, hf0, hf1, hf2⟩ := (VR.out.below hrq.2).three
        clear hrq
        by_cases hlt : q < n
        · obtain ⟨x, b', off, A', c, hx, rfl, hb', hd0, hd1, hlc, hlm, hat, hsy⟩ := (H0.out.later HQ.out.2).at_ q hlt
          have HX := Lib.hid hx
          have HRR := fun w => refRight_any A' x.bytes.length c x.synced w
          clear hx hat
          by_cases hr : x.right = true
          · rw [show rightB x.synced x.bytes.length = true from hr] at HRR
            have HX2 := Lib.hid (allB_take HX.out HQ.out.1 hr)
            clear hr
            go_wp2_with (go_at_call 88; (with_reducible refine (HRR _).mono ?_); rintro e w' ⟨rfl, hb''⟩; have HE := Lib.hid (HQ.out.2.trans (hb''.mono HQ.out.2.size)); clear hb'')
            go_roundw
            case rel => exact ⟨q + 1, by omega, by go_num, HX2.out, HE.out⟩
            case measure => simp [intOf]; omega
          · have hr' : x.right = false := by simpa using hr
            rw [show rightB x.synced x.bytes.length = false from hr'] at HRR
            have HX2 := Lib.hid (allB_no HX.out hr')
            clear hr hr'
            go_wp2_with (go_at_call 88; (with_reducible refine (HRR _).mono ?_); rintro e w' ⟨rfl, hb''⟩; have HE := Lib.hid (HBQ.out.trans (hb''.mono HBQ.out.size)); clear hb'')
            go_ret
            exact ⟨ret_bool' (by rw [E.out, HX2.out]; simp), HE.out⟩
        · have HX2 := Lib.hid (allB_all (by have := HL0.out; omega) HQ.out.1)
          go_wp2_with fail
          go_roundw
          case rel => exact ⟨0 + 1, by omega, by go_num, fun _ => HX2.out, fun h => by omega, HR.out.2.2.trans (HQ.out.2.mono HR.out.2.2.size)⟩
          case measure => simp [intOf]
    · rw [show ((1 : Nat) : Int) = 1 from rfl]
      go_wp2_with fail
      go_loopw [5, 6] (fun j _ wq => ∃ q : Nat, q ≤ n ∧ j = .int .i64 q ∧ RowRel wr l1 q wq) (fun j _ _ => n - (intOf j).toNat)
      case atStart => exact ⟨0, Nat.zero_le _, rfl, by simp [allB], Below.refl _ _⟩
      case round =>
        obtain ⟨q, hq, rfl, hrq⟩ := hrel
        have HQ := Lib.hid hrq
        have HBQ := Lib.hid (HB.out.trans (hrq.2.mono HB.out.size))
        obtain ⟨hz, hc0, hc1, hc2, hf0, hf1, hf2⟩ := (VR.out.below hrq.2).three
        clear hrq
        by_cases hlt : q < n
        · obtain ⟨x, b', off, A', c, hx, rfl, hb', hd0, hd1, hlc, hlm, hat, hsy⟩ := (H1.out.later HQ.out.2).at_ q hlt
          have HX := Lib.hid hx
          have HRR := fun w => refRight_any A' x.bytes.length c x.synced w
          clear hx hat
          by_cases hr : x.right = true
          · rw [show rightB x.synced x.bytes.length = true from hr] at HRR
            have HX2 := Lib.hid (allB_take HX.out HQ.out.1 hr)
            clear hr
            go_wp2_with (go_at_call 88; (with_reducible refine (HRR _).mono ?_); rintro e w' ⟨rfl, hb''⟩; have HE := Lib.hid (HQ.out.2.trans (hb''.mono HQ.out.2.size)); clear hb'')
            go_roundw
            case rel => exact ⟨q + 1, by omega, by go_num, HX2.out, HE.out⟩
            case measure => simp [intOf]; omega
          · have hr' : x.right = false := by simpa using hr
            rw [show rightB x.synced x.bytes.length = false from hr'] at HRR
            have HX2 := Lib.hid (allB_no HX.out hr')
            clear hr hr'
            go_wp2_with (go_at_call 88; (with_reducible refine (HRR _).mono ?_); rintro e w' ⟨rfl, hb''⟩; have HE := Lib.hid (HBQ.out.trans (hb''.mono HBQ.out.size)); clear hb'')
            go_ret
            exact ⟨ret_bool' (by rw [E.out, HX2.out]; simp), HE.out⟩
        · have HX2 := Lib.hid (allB_all (by have := HL1.out; omega) HQ.out.1)
          go_wp2_with fail
          go_roundw
          case rel => exact ⟨1 + 1, by omega, by go_num, fun _ => HR.out.1 (by omega), fun _ => HX2.out, HR.out.2.2.trans (HQ.out.2.mono HR.out.2.2.size)⟩
          case measure => simp [intOf]
    · have HX := Lib.hid (show rightD l0 l1 = true by rw [E.out, HR.out.1 (by omega), HR.out.2.1 (by omega)]; rfl)
      go_wp2_with fail
      go_ret
      exact ⟨ret_bool' HX.out.symm, HB.out⟩
theorem refRightD_at (r : Int) (A : Option Addr) (n a : Nat) (B : Option Addr) (m b : Nat) (l0 l1 : List Stm) (w : World) (h0 : Hid (StmsAt w A n l0)) (h1 : Hid (StmsAt w B m l1)) :
    Calls Try.prog 65 #[.agg #[.int .u64 r, .slice A n a, .slice B m b]] w (Kept w (.bool (rightD l0 l1))) := by
  by_cases hc : countB (n : Int) = true
  · by_cases hn : n = m
    · subst hn
      exact refRight_yes r A n a B b l0 l1 w h0 h1 hc
    · exact refRight_no r A n a B m b l0 l1 w h0 h1 (.inr hn)
  · exact refRight_no r A n a B m b l0 l1 w h0 h1 (.inl (by simpa using hc))
end Go.Proofs.Ytjbhichgojjakaa
