/- AccRead -/
import Derived.Test.YtibpfkcackdbgaaGreatDoorDskA
import Derived.Test.YtibpfkcackdbgaaGreatDoorAccA
namespace Go.Proofs.YtibpfkcackdbgaaGreatDoor
open Go.ChangeShapes Go.WideShapes Go.ChangeAt Go.RowKit
set_option linter.unusedVariables false
set_option maxRecDepth 100000
def BytesPostC (w : World) (n : Nat) (xs : List Nat) (e : Ending) (w' : World) : Prop := ∃ A c, e = .returned (.slice A n c) ∧ n ≤ c ∧ AtB w' A n xs ∧ Below w.heap.size w w' ∧ ∀ b off, A = some ⟨b, off, none⟩ → w.heap.size ≤ b
theorem cloneBC_at (A : Option Addr) (n c : Nat) (xs : List Nat) (hn : n ≤ 140737488355328) (w : World) (hS : Hid (AtB w A n xs)) :
  Calls Tryz.prog 169 #[.slice A n c] w (BytesPostC w n xs) := by
 rcases A with _ | ad
 ·obtain rfl : n = 0 := by
   rcases Nat.eq_zero_or_pos n with h0 | h0
   ·exact h0
   ·obtain ⟨b, off, e, _⟩ := hS.out.2.2.2 h0
    cases e
  obtain rfl : xs = [] := List.eq_nil_of_length_eq_zero hS.out.1
  have ke := fun w => eql_nil_b w 0 c
  go_enter Tryz.func169, Tryz.ntmps169
  go_wp2_with fail
  go_ret
  exact ⟨none, 0, rfl, Nat.le_refl _, AtB.nil _ _, Below.refl _ _, fun b off e => by cases e⟩
 ·have HN := Lib.hid hn
  have ke := fun w => eql_some_b w ad n c
  clear hn
  go_enter Tryz.func169, Tryz.ntmps169
  go_wp2_with (at_builtin; (refine wpList_append_bytes (by rfl) (.tmp 5) (.tmp 6) (by rfl) w.heap.size _ 0 [] (by rfl) (Own.made w) (some ad) n c xs (by rfl) (AtB.later hS (below_made w)) (by have := HN.out; omega) (by simp) ?_); (intro v' w' hown' hgrow'; have HB := Lib.hid (Own.below hgrow'); have hlt := hown'.2.lt; obtain ⟨A', k, rfl, hk, hat⟩ := hown'.at_ (by have := HN.out; omega); have HAT := Lib.hid hat; have HK := Lib.hid hk; have HLT : Hid (∀ b off, A' = some ⟨b, off, none⟩ → w.heap.size ≤ b) := Lib.hid (fun b off e => by have := (hlt b (by rw [e]; rfl)).1; omega); clear hlt hown' hgrow' hat hk))
  go_ret
  rw [Nat.zero_add, List.nil_append] at HAT
  exact ⟨A', k, by simp, by have := HK.out; omega, HAT.out, HB.out, HLT.out⟩
end Go.Proofs.YtibpfkcackdbgaaGreatDoor
