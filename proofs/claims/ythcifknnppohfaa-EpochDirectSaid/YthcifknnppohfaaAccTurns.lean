/-
  The contracts of slices.Clone (of words), of access.install, of the five accesses of a word, and of their table; of the document's own 'with'.
-/
import Derived.Test.YthcifknnppohfaaAccWds
import Derived.Lib.SliceRun
import Derived.Laws.EntriesVeiled
namespace Go.Proofs.Ythcifknnppohfaa
open Go.ChangeShapes Go.WideShapes Go.ChangeAt Go.RowKit
set_option linter.unusedVariables false
set_option maxRecDepth 100000

theorem eql_some_w (w : World) (a : Addr) (n c : Nat) : (binOp .eql 31 (.slice (some a) n c) (.slice none 0 0)).run Try.prog w = .ok (.bool false) w := Lib.run_eql_slice_nil w 31 _ (some a) n c 0 0 Try.underlying31
/-- Words in memory of the call's own. -/
def WordsPost (w : World) (n : Nat) (f : Nat → Nat) (e : Ending) (w' : World) : Prop := ∃ g c, e = .returned (.slice (some ⟨g, 0, none⟩) n c) ∧ n ≤ c ∧ w.heap.size ≤ g ∧ RowW w' g n f ∧ Below w.heap.size w w'
theorem cloneW_at (A : Option Addr) (n c : Nat) (f : Nat → Nat) (hp : 0 < n) (hn : n ≤ 1000000) (w : World) (hA : Hid (AtW w A n f)) :
    Calls Try.prog 75 #[.slice A n c] w (WordsPost w n f) := by
  obtain ⟨b, off, rfl, _, _⟩ := hA.out.2 hp
  have HP := Lib.hid hp
  have HN := Lib.hid hn
  have ke := fun w => eql_some_w w ⟨b, off, none⟩ n c
  clear hp hn
  go_enter Try.func75, Try.ntmps75
  go_wp2_with (at_builtin; (refine wpList_append_wds (by rfl) (.tmp 5) (.tmp 6) (by rfl) w.heap.size (by rfl) ⟨b, off, none⟩ n c f (by rfl) hA.out HP.out HN.out (by rfl) ?_); (intro g cap w' hrow hg hcap hb; have HR := Lib.hid hrow; have HG := Lib.hid hg; have HC := Lib.hid hcap; have HB := Lib.hid hb; clear hrow hg hcap hb))
  go_ret
  exact ⟨g, cap, rfl, HC.out, HG.out, HR.out, HB.out⟩

/-! ### The accesses of a word -/
def isN (k a b x : Nat) : Nat := if k = 1 then a else if k = 2 then (if x = a then b else x) else if k = 3 then (x + a) % 18446744073709551616 else if k = 4 then a else x
def toldN (k a b x : Nat) : Nat := if k = 1 then 0 else if k = 2 then (if x = a then 1 else 0) else x
/-- An access, as a value. -/
def accV (k i : Int) (a b : Nat) (D : Option Addr) (dn dc : Nat) (W : Option Addr) (wn wc : Nat) : List Value := [.int .i64 k, .int .i64 i, .int .u64 (a : Int), .int .u64 (b : Int), .slice D dn dc, .slice W wn wc]
section
variable (x : Nat) (k i : Int) (a b : Nat) (D : Option Addr) (dn dc : Nat) (W : Option Addr) (wn wc : Nat) (w : World)
theorem load_at : Calls Try.prog 95 #[.int .u64 (x : Int), .agg #[.int .i64 k, .int .i64 i, .int .u64 (a : Int), .int .u64 (b : Int), .slice D dn dc, .slice W wn wc]] w (Kept w (.tuple #[.int .u64 (x : Int), .int .u64 (x : Int)])) := by
  go_enter Try.func95, Try.ntmps95
  go_wp2_with fail
  exact bodyPost_ret (v := .tuple #[.int .u64 (x : Int), .int .u64 (x : Int)]) (by simp [results, Try.results95, go_sem]) rfl ⟨rfl, by first | exact Below.refl _ _ | exact al_below _ _⟩
theorem store_at : Calls Try.prog 96 #[.int .u64 (x : Int), .agg #[.int .i64 k, .int .i64 i, .int .u64 (a : Int), .int .u64 (b : Int), .slice D dn dc, .slice W wn wc]] w (Kept w (.tuple #[.int .u64 (a : Int), .int .u64 0])) := by
  go_enter Try.func96, Try.ntmps96
  go_wp2_with fail
  exact bodyPost_ret (v := .tuple #[.int .u64 (a : Int), .int .u64 0]) (by simp [results, Try.results96, go_sem]) rfl ⟨rfl, by first | exact Below.refl _ _ | exact al_below _ _⟩
theorem swap_at : Calls Try.prog 99 #[.int .u64 (x : Int), .agg #[.int .i64 k, .int .i64 i, .int .u64 (a : Int), .int .u64 (b : Int), .slice D dn dc, .slice W wn wc]] w (Kept w (.tuple #[.int .u64 (a : Int), .int .u64 (x : Int)])) := by
  go_enter Try.func99, Try.ntmps99
  go_wp2_with fail
  exact bodyPost_ret (v := .tuple #[.int .u64 (a : Int), .int .u64 (x : Int)]) (by simp [results, Try.results99, go_sem]) rfl ⟨rfl, by first | exact Below.refl _ _ | exact al_below _ _⟩
theorem add_at (s : Nat) (hs : IntKind.u64.wrap ((x : Int) + (a : Int)) = (s : Int)) : Calls Try.prog 98 #[.int .u64 (x : Int), .agg #[.int .i64 k, .int .i64 i, .int .u64 (a : Int), .int .u64 (b : Int), .slice D dn dc, .slice W wn wc]] w (Kept w (.tuple #[.int .u64 (s : Int), .int .u64 (x : Int)])) := by
  go_enter Try.func98, Try.ntmps98
  go_wp2_with fail
  exact bodyPost_ret (v := .tuple #[.int .u64 (s : Int), .int .u64 (x : Int)]) (by simp [results, Try.results98, go_sem]) rfl ⟨rfl, by first | exact Below.refl _ _ | exact al_below _ _⟩
theorem cas_yes (h : ((x : Int) != (a : Int)) = false) : Calls Try.prog 97 #[.int .u64 (x : Int), .agg #[.int .i64 k, .int .i64 i, .int .u64 (a : Int), .int .u64 (b : Int), .slice D dn dc, .slice W wn wc]] w (Kept w (.tuple #[.int .u64 (b : Int), .int .u64 1])) := by
  go_enter Try.func97, Try.ntmps97
  go_wp2_with fail
  exact bodyPost_ret (v := .tuple #[.int .u64 (b : Int), .int .u64 1]) (by simp [results, Try.results97, go_sem]) rfl ⟨rfl, by first | exact Below.refl _ _ | exact al_below _ _⟩
theorem cas_no (h : ((x : Int) != (a : Int)) = true) : Calls Try.prog 97 #[.int .u64 (x : Int), .agg #[.int .i64 k, .int .i64 i, .int .u64 (a : Int), .int .u64 (b : Int), .slice D dn dc, .slice W wn wc]] w (Kept w (.tuple #[.int .u64 (x : Int), .int .u64 0])) := by
  go_enter Try.func97, Try.ntmps97
  go_wp2_with fail
  exact bodyPost_ret (v := .tuple #[.int .u64 (x : Int), .int .u64 0]) (by simp [results, Try.results97, go_sem]) rfl ⟨rfl, by first | exact Below.refl _ _ | exact al_below _ _⟩
end
theorem turns_at (w : World) : Calls Try.prog 76 #[] w (Kept w (.agg #[.func (.func 95) #[] #[], .func (.func 96) #[] #[], .func (.func 97) #[] #[], .func (.func 98) #[] #[], .func (.func 99) #[] #[]])) := by
  go_enter Try.func76, Try.ntmps76
  go_wp2_with fail

  refine bodyPost_ret (v := .agg #[.func (.func 95) #[] #[], .func (.func 96) #[] #[], .func (.func 97) #[] #[], .func (.func 98) #[] #[], .func (.func 99) #[] #[]]) ?_ rfl ⟨rfl, ?_⟩
  · skip
    simp [results, Try.results76, go_sem]
  · exact al_below _ _
end Go.Proofs.Ythcifknnppohfaa
