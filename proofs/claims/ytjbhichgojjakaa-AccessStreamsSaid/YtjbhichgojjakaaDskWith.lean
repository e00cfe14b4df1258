/-
  The contracts of slices.Clone (of streams), bytes.Clone, and of 'with' (a disk with another stream), the program's and the document's own.
-/
import Derived.Test.YtjbhichgojjakaaStmRows
import Derived.Test.YtjbhichgojjakaaDskFew
import Derived.Lib.SliceRun
import Derived.RegionTactic
import Derived.BigRegion
namespace Go.Proofs.Ytjbhichgojjakaa
open Go.ChangeShapes Go.WideShapes Go.ChangeAt Go.RowKit
set_option linter.unusedVariables false
set_option maxRecDepth 100000

theorem eql_nil_any (w : World) (c : Nat) : (binOp .eql 30 (.slice none 0 c) (.slice none 0 0)).run Try.prog w = .ok (.bool true) w := Lib.run_eql_slice_nil w 30 _ none 0 c 0 0 Try.underlying30
theorem eql_some_stm (w : World) (a : Addr) (n c : Nat) : (binOp .eql 30 (.slice (some a) n c) (.slice none 0 0)).run Try.prog w = .ok (.bool false) w := Lib.run_eql_slice_nil w 30 _ (some a) n c 0 0 Try.underlying30
theorem eql_nil_b (w : World) (n c : Nat) : (binOp .eql 24 (.slice none n c) (.slice none 0 0)).run Try.prog w = .ok (.bool true) w := Lib.run_eql_slice_nil w 24 _ none n c 0 0 Try.underlying24
theorem eql_some_b (w : World) (a : Addr) (n c : Nat) : (binOp .eql 24 (.slice (some a) n c) (.slice none 0 0)).run Try.prog w = .ok (.bool false) w := Lib.run_eql_slice_nil w 24 _ (some a) n c 0 0 Try.underlying24
def ClonePost (w0 w : World) (A : Option Addr) (n : Nat) (l : List Stm) (e : Ending) (w' : World) : Prop :=
  ∃ v vs, e = .returned v ∧ w'.ownsRow w.heap.size 76 2 v n vs ∧ RawS w0 vs l ∧ Below w.heap.size w w' ∧ ∀ P : Nat → Prop, OffS P w0 A n → RawO P vs
theorem clone_at (A : Option Addr) (n c : Nat) (l : List Stm) (hn : n ≤ 1000000) (w0 w : World) (hS : Hid (StmsAt w0 A n l)) (hB0 : Hid (Below w0.heap.size w0 w)) :
    Calls Try.prog 92 #[.slice A n c] w (ClonePost w0 w A n l) := by
  rcases A with _ | ad
  · obtain rfl : n = 0 := by
      rcases Nat.eq_zero_or_pos n with h0 | h0
      · exact h0
      · obtain ⟨b, off, e, _⟩ := hS.out.2.2 h0
        cases e
    obtain rfl : l = [] := List.eq_nil_of_length_eq_zero hS.out.1
    have ke := fun w => eql_nil_any w c
    go_enter Try.func92, Try.ntmps92
    go_wp2_with fail
    go_ret
    exact ⟨_, [], rfl, World.ownsRow_nil _ _ _ _, ⟨rfl, fun j x hx => by simp at hx⟩, Below.refl _ _, fun P _ => RawO.nil P⟩
  · have HN := Lib.hid hn
    have ke := fun w => eql_some_stm w ad n c
    clear hn
    go_enter Try.func92, Try.ntmps92
    go_wp2_with (at_builtin; (refine wpList_append_stms (by rfl) (.tmp 5) (.tmp 6) (by rfl) (by rfl) (some ad) n c l (by rfl) hS.out hB0.out HN.out ?_); (intro v' w' vs hown hraw hro hb; have HO := Lib.hid hown; have HR := Lib.hid hraw; have HB := Lib.hid hb; have HRO := Lib.hid hro; clear hown hraw hb hro))
    go_ret
    exact ⟨v', vs, rfl, HO.out, HR.out, HB.out, HRO.out⟩
def BytesPost (w : World) (n : Nat) (xs : List Nat) (e : Ending) (w' : World) : Prop := ∃ A c, e = .returned (.slice A n c) ∧ n ≤ c ∧ AtB w' A n xs ∧ Below w.heap.size w w'
theorem cloneB_at (A : Option Addr) (n c : Nat) (xs : List Nat) (hn : n ≤ 140737488355328) (w : World) (hS : Hid (AtB w A n xs)) :
    Calls Try.prog 81 #[.slice A n c] w (BytesPost w n xs) := by
  rcases A with _ | ad
  · obtain rfl : n = 0 := by
      rcases Nat.eq_zero_or_pos n with h0 | h0
      · exact h0
      · obtain ⟨b, off, e, _⟩ := hS.out.2.2.2 h0
        cases e
    obtain rfl : xs = [] := List.eq_nil_of_length_eq_zero hS.out.1
    have ke := fun w => eql_nil_b w 0 c
    go_enter Try.func81, Try.ntmps81
    go_wp2_with fail
    go_ret
    exact ⟨none, 0, rfl, Nat.le_refl _, AtB.nil _ _, Below.refl _ _⟩
  · have HN := Lib.hid hn
    have ke := fun w => eql_some_b w ad n c
    clear hn
    go_enter Try.func81, Try.ntmps81
    go_wp2_with (at_builtin; (refine wpList_append_bytes (by rfl) (.tmp 5) (.tmp 6) (by rfl) w.heap.size _ 0 [] (by rfl) (Own.made w) (some ad) n c xs (by rfl) (AtB.later hS (below_made w)) (by have := HN.out; omega) (by simp) ?_); (intro v' w' hown' hgrow'; have HB := Lib.hid (Own.below hgrow'); obtain ⟨A', k, rfl, hk, hat⟩ := hown'.at_ (by have := HN.out; omega); have HAT := Lib.hid hat; have HK := Lib.hid hk; clear hown' hgrow' hat hk))
    go_ret
    rw [Nat.zero_add, List.nil_append] at HAT
    exact ⟨A', k, by simp, by have := HK.out; omega, HAT.out, HB.out⟩

/-- A disk that reads as these rows, of as many streams; what lay has stayed; and where its memory may lie, if that of rows (A, B) and of bytes (C) that went into it may lie there, and new memory may. -/
def DskPost (w : World) (r : Int) (A B : Option Addr) (n m : Nat) (C : Option Addr) (k : Nat) (l0 l1 : List Stm) (e : Ending) (w' : World) : Prop :=
  ∃ A' a' B' b', e = .returned (.agg #[.int .u64 r, .slice A' n a', .slice B' m b']) ∧ StmsAt w' A' n l0 ∧ StmsAt w' B' m l1 ∧ Below w.heap.size w w' ∧
    ∀ P : Nat → Prop, (∀ b, w.heap.size ≤ b → P b) → OffS P w A n → OffS P w B m → (∀ ad, C = some ad → 0 < k → P ad.block) → OffS P w' A' n ∧ OffS P w' B' m
end Go.Proofs.Ytjbhichgojjakaa
