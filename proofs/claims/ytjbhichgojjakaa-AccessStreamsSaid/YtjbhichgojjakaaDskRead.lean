/-
  The contracts of package disk (layer 7) that only read, and of the document's own answer's: mayCount, allRight, hasRow, hasStream, Row, Right; Is, Right, Few, All, Same.
-/
import Derived.Test.YtjbhichgojjakaaStms
namespace Go.Proofs.Ytjbhichgojjakaa
open Go.ChangeShapes Go.WideShapes Go.ChangeAt Go.RowKit
set_option linter.unusedVariables false
set_option maxRecDepth 100000

def countB (t : Int) : Bool := decide (1 ≤ t) && decide (t ≤ 64)
theorem mayCount_any (t : Int) (w : World) : Calls Try.prog 76 #[.int .i64 t] w fun e w' => e = .returned (.bool (countB t)) ∧ w = w' := by
  by_cases h1 : 1 ≤ t
  · have E : Hid (countB t = decide (t ≤ 64)) := Lib.hid (by unfold countB; rw [decide_eq_true h1]; rfl)
    go_enter Try.func76, Try.ntmps76
    go_wp2_with fail
    go_ret
    exact ⟨ret_bool' E.out.symm, rfl⟩
  · have E : Hid (countB t = false) := Lib.hid (by unfold countB; rw [decide_eq_false h1]; rfl)
    have d1 : decide (1 ≤ t) = false := decide_eq_false h1
    go_enter Try.func76, Try.ntmps76
    go_wp2_with fail
    go_ret
    exact ⟨ret_bool' E.out.symm, rfl⟩

/-- Are all streams right? -/
def allB (l : List Stm) : Bool := l.all Stm.right
theorem allB_no {l : List Stm} {k : Nat} {x : Stm} (hx : l[k]? = some x) (h : x.right = false) : allB l = false := by
  unfold allB
  rw [List.all_eq_false]
  exact ⟨x, List.mem_of_getElem? hx, by simp [h]⟩
theorem allB_take {l : List Stm} {k : Nat} {x : Stm} (hx : l[k]? = some x) (h : allB (l.take k) = true) (hr : x.right = true) : allB (l.take (k + 1)) = true := by
  unfold allB at *
  rw [List.take_add_one, hx, List.all_append, h]
  simp [hr]
theorem allB_all {l : List Stm} {k : Nat} (hk : l.length ≤ k) (h : allB (l.take k) = true) : allB l = true := by rwa [List.take_of_length_le hk] at h
def AllRel (w : World) (l : List Stm) (k : Nat) (wr : World) : Prop := allB (l.take k) = true ∧ Below w.heap.size w wr
set_option maxHeartbeats 1000000 in
theorem allRight_at (a : Option Addr) (n cap : Nat) (l : List Stm) (w : World) (hS : Hid (StmsAt w a n l)) :
    Calls Try.prog 75 #[.slice a n cap] w (Kept w (.bool (allB l))) := by
  have hln := hS.out.1
  have hmx := hS.out.2.1
  have HLN := Lib.hid hln
  clear hln
  go_enter Try.func75, Try.ntmps75
  go_wp2_with fail
  go_loopw [4, 7] (fun u i wr => ∃ k : Nat, k ≤ n ∧ i = .int .i64 k ∧ AllRel w l k wr) (fun _ i _ => n - (intOf i).toNat)
  case atStart => exact ⟨0, Nat.zero_le _, rfl, by simp [allB], Below.refl _ _⟩
  case round =>
    obtain ⟨k, hk, rfl, hrel⟩ := hrel
    have HR := Lib.hid hrel
    clear hrel
    by_cases hlt : k < n
    · obtain ⟨x, b, off, A, c, hx, rfl, hb, hc0, hc1, hlc, hlm, hat, hsy⟩ := (hS.out.later HR.out.2).at_ k hlt
      have HX := Lib.hid hx
      have HA := Lib.hid hat
      have HRR := fun w => right_any A x.bytes.length c x.synced w
      clear hx hat
      by_cases hr : x.right = true
      · rw [show rightB x.synced x.bytes.length = true from hr] at HRR
        have HX2 := Lib.hid (allB_take HX.out HR.out.1 hr)
        clear hr
        go_wp2_with (go_at_call 91; (with_reducible refine (HRR _).mono ?_); rintro e w' ⟨rfl, hb'⟩; have HB := Lib.hid (HR.out.2.trans ((below_box hb').mono HR.out.2.size)); clear hb')
        go_roundw
        case rel => exact ⟨k + 1, by omega, by go_num, HX2.out, HB.out⟩
        case measure => simp [intOf]; omega
      · have hr' : x.right = false := by simpa using hr
        rw [show rightB x.synced x.bytes.length = false from hr'] at HRR
        have HX2 := Lib.hid (allB_no HX.out hr')
        clear hr hr'
        go_wp2_with (go_at_call 91; (with_reducible refine (HRR _).mono ?_); rintro e w' ⟨rfl, hb'⟩; have HB := Lib.hid (HR.out.2.trans ((below_box hb').mono HR.out.2.size)); clear hb')
        go_ret
        exact ⟨ret_bool' HX2.out.symm, HB.out⟩
    · have HX2 := Lib.hid (allB_all (by have := HLN.out; omega) HR.out.1)
      go_wp2_with fail
      go_ret
      exact ⟨ret_bool' HX2.out.symm, HR.out.2⟩

/-- Is there such a stream in a row of n? -/
def isB (i : Int) (n : Nat) : Bool := decide (0 ≤ i) && decide (i < (n : Int))
def rowB (row : Int) : Bool := decide (0 ≤ row) && decide (row < 2)
def hasB (row i : Int) (n m : Nat) : Bool := rowB row && isB i (if row = 0 then n else m)
theorem isB_nat {k n : Nat} (h : k < n) : isB (k : Int) n = true := by unfold isB; rw [decide_eq_true (by omega), decide_eq_true (by omega)]; rfl
theorem isB_iff {i : Int} {n : Nat} (h : isB i n = true) : ∃ k : Nat, i = (k : Int) ∧ k < n := by
  unfold isB at h
  simp only [Bool.and_eq_true, decide_eq_true_eq] at h
  exact ⟨i.toNat, by omega, by omega⟩
theorem rowB_iff {row : Int} (h : rowB row = true) : row = 0 ∨ row = 1 := by
  unfold rowB at h
  simp only [Bool.and_eq_true, decide_eq_true_eq] at h
  omega

theorem hasRow_any (d : Value) (cs : Array Value) (hd : d = .agg cs) (row : Int) (w : World) : Calls Try.prog 82 #[.agg cs, .int .i64 row] w (Kept w (.bool (rowB row))) := by
  by_cases h0 : 0 ≤ row
  · have E : Hid (rowB row = decide (row < 2)) := Lib.hid (by unfold rowB; rw [decide_eq_true h0]; rfl)
    go_enter Try.func82, Try.ntmps82
    go_wp2_with fail
    go_ret
    exact ⟨ret_bool' E.out.symm, (Below.refl _ _).alloc (Nat.le_refl _) _⟩
  · have E : Hid (rowB row = false) := Lib.hid (by unfold rowB; rw [decide_eq_false h0]; rfl)
    have d0 : decide (0 ≤ row) = false := decide_eq_false h0
    go_enter Try.func82, Try.ntmps82
    go_wp2_with fail
    go_ret
    exact ⟨ret_bool' E.out.symm, (Below.refl _ _).alloc (Nat.le_refl _) _⟩

/-! ### Variables of three cells: a disk's -/

theorem hasStream_any (r : Int) (A : Option Addr) (n a : Nat) (B : Option Addr) (m b : Nat) (row i : Int) (w : World) :
    Calls Try.prog 77 #[.agg #[.int .u64 r, .slice A n a, .slice B m b], .int .i64 row, .int .i64 i] w (Kept w (.bool (hasB row i n m))) := by
  have HR := fun w => hasRow_any _ #[.int .u64 r, .slice A n a, .slice B m b] rfl row w
  by_cases hr : rowB row = true
  · rw [hr] at HR
    by_cases h0 : 0 ≤ i
    · rcases rowB_iff hr with rfl | rfl
      · have E : Hid (hasB 0 i n m = decide (i < (n : Int))) := Lib.hid (by unfold hasB isB; rw [hr, decide_eq_true h0]; rfl)
        clear hr
        go_enter Try.func77, Try.ntmps77
        go_wp2_with (go_at_call 82; (with_reducible refine (HR _).mono ?_); rintro e w' ⟨rfl, hb⟩; have V := ((VarAt.made w #[.int .u64 r, .slice A n a, .slice B m b] 33).below hb).three; obtain ⟨hz, hc0, hc1, hc2, hf0, hf1, hf2⟩ := V; have HB := Lib.hid (below_box hb); clear hb)
        go_ret
        exact ⟨ret_bool' E.out.symm, HB.out⟩
      · have E : Hid (hasB 1 i n m = decide (i < (m : Int))) := Lib.hid (by unfold hasB isB; rw [hr, decide_eq_true h0]; rfl)
        clear hr
        go_enter Try.func77, Try.ntmps77
        go_wp2_with (go_at_call 82; (with_reducible refine (HR _).mono ?_); rintro e w' ⟨rfl, hb⟩; have V := ((VarAt.made w #[.int .u64 r, .slice A n a, .slice B m b] 33).below hb).three; obtain ⟨hz, hc0, hc1, hc2, hf0, hf1, hf2⟩ := V; have HB := Lib.hid (below_box hb); clear hb)
        go_ret
        exact ⟨ret_bool' E.out.symm, HB.out⟩
    · have E : Hid (hasB row i n m = false) := Lib.hid (by unfold hasB isB; rw [hr, decide_eq_false h0]; rfl)
      have d0 : decide (0 ≤ i) = false := decide_eq_false h0
      clear hr h0
      go_enter Try.func77, Try.ntmps77
      go_wp2_with (go_at_call 82; (with_reducible refine (HR _).mono ?_); rintro e w' ⟨rfl, hb⟩; have HB := Lib.hid (below_box hb); clear hb)
      go_ret
      exact ⟨ret_bool' E.out.symm, HB.out⟩
  · have hr' : rowB row = false := by simpa using hr
    have E : Hid (hasB row i n m = false) := Lib.hid (by unfold hasB; rw [hr']; rfl)
    rw [hr'] at HR
    clear hr hr'
    go_enter Try.func77, Try.ntmps77
    go_wp2_with (go_at_call 82; (with_reducible refine (HR _).mono ?_); rintro e w' ⟨rfl, hb⟩; have HB := Lib.hid (below_box hb); clear hb)
    go_ret
    exact ⟨ret_bool' E.out.symm, HB.out⟩

theorem isRef_any (r : Int) (A : Option Addr) (n a : Nat) (B : Option Addr) (m b : Nat) (row i : Int) (w : World) :
    Calls Try.prog 66 #[.agg #[.int .u64 r, .slice A n a, .slice B m b], .int .i64 row, .int .i64 i] w (Kept w (.bool (rowB row && isB i n))) := by
  by_cases hr : rowB row = true
  · by_cases h0 : 0 ≤ i
    · have E : Hid ((rowB row && isB i n) = decide (i < (n : Int))) := Lib.hid (by unfold isB; rw [hr, decide_eq_true h0]; rfl)
      rcases rowB_iff hr with rfl | rfl
      all_goals
        clear hr
        go_enter Try.func66, Try.ntmps66
        go_wp2_with fail
        go_ret
        exact ⟨ret_bool' E.out.symm, (Below.refl _ _).alloc (Nat.le_refl _) _⟩
    · have E : Hid ((rowB row && isB i n) = false) := Lib.hid (by unfold isB; rw [hr, decide_eq_false h0]; rfl)
      have d0 : decide (0 ≤ i) = false := decide_eq_false h0
      clear h0
      rcases rowB_iff hr with rfl | rfl
      all_goals
        clear hr
        go_enter Try.func66, Try.ntmps66
        go_wp2_with fail
        go_ret
        exact ⟨ret_bool' E.out.symm, (Below.refl _ _).alloc (Nat.le_refl _) _⟩
  · have hr' : rowB row = false := by simpa using hr
    have E : Hid ((rowB row && isB i n) = false) := Lib.hid (by rw [hr']; rfl)
    have h0 : (row == 0) = false := by rw [beq_eq_false_iff_ne]; rintro rfl; cases hr'
    have h1 : (row == 1) = false := by rw [beq_eq_false_iff_ne]; rintro rfl; cases hr'
    clear hr hr'
    go_enter Try.func66, Try.ntmps66
    go_wp2_with fail
    go_ret
    exact ⟨ret_bool' E.out.symm, (Below.refl _ _).alloc (Nat.le_refl _) _⟩

theorem row_any (r : Nat) (hr : r < 18446744073709551616) (v1 v2 : Value) (h1 : v1.oneCell' = true) (h2 : v2.oneCell' = true) (w : World) :
    Calls Try.prog 56 #[.agg #[.int .u64 (r : Int), v1, v2]] w (Kept w (.int .i64 ((r % 2 : Nat) : Int))) := by
  obtain ⟨q, hq⟩ : ∃ q : Int, q = (r : Int) := ⟨_, rfl⟩
  have E : ((r % 2 : Nat) : Int) = q % 2 := by omega
  have q0 : 0 ≤ q := by omega
  have E2 : Hid (((r % 2 : Nat) : Int) = q % 2) := Lib.hid E
  rw [← hq]
  clear E hq hr
  go_enter Try.func56, Try.ntmps56
  go_wp2_with fail
  go_ret
  rw [E2.out]
  exact ⟨rfl, (Below.refl _ _).alloc (Nat.le_refl _) _⟩
end Go.Proofs.Ytjbhichgojjakaa
