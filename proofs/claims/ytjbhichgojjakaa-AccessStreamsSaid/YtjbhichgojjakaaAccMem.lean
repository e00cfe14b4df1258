/-
  The contracts of access.install and of the document's own 'with': a memory with other words, or with another one.
-/
import Derived.Test.YtjbhichgojjakaaAccTurns
namespace Go.Proofs.Ytjbhichgojjakaa
open Go.ChangeShapes Go.WideShapes Go.ChangeAt Go.RowKit
set_option linter.unusedVariables false
set_option maxRecDepth 100000

/-- A memory whose words read so; and where they may lie. -/
def MemW (w : World) (t c : Int) (A : Option Addr) (n : Nat) (G : Nat → Nat) (e : Ending) (w' : World) : Prop :=
  ∃ A' k', e = .returned (.agg #[.int .i64 t, .int .i64 c, .slice A' n k']) ∧ AtW w' A' n G ∧ Below w.heap.size w w' ∧ ∀ P : Nat → Prop, (∀ b, w.heap.size ≤ b → P b) → OffW P A n → OffW P A' n
/-- A row with another word. -/
def setW (F : Nat → Nat) (i v : Nat) : Nat → Nat := fun j => if j = i then v else F j
theorem setW_lt {F : Nat → Nat} (hF : ∀ j, F j < 18446744073709551616) {i v : Nat} (hv : v < 18446744073709551616) (j : Nat) : setW F i v j < 18446744073709551616 := by
  unfold setW
  split
  · exact hv
  · exact hF j
set_option maxHeartbeats 1000000 in
theorem with_at (t c : Int) (A : Option Addr) (n k : Nat) (F : Nat → Nat) (i v : Nat) (hi : i < n) (hv : v < 18446744073709551616) (hn : n ≤ 1000000) (w : World) (hA : Hid (AtW w A n F)) :
    Calls Try.prog 46 #[.agg #[.int .i64 t, .int .i64 c, .slice A n k], .int .i64 (i : Int), .int .u64 (v : Int)] w (MemW w t c A n (setW F i v)) := by
  obtain ⟨b, off, rfl, _, _⟩ := hA.out.2 (by omega)
  have HN := Lib.hid hn
  have HI := Lib.hid hi
  have HV := Lib.hid hv
  have i0 : (0 : Int) ≤ (i : Int) := by omega
  have i1 : (i : Int) < (n : Int) := by omega
  have HA2 := Lib.hid (hA.out.later (below_pair w (.cells #[.int .i64 t, .int .i64 c, .slice (some ⟨b, off, none⟩) n k] 28) (.cells #[.int .i64 0, .int .i64 0, .slice none 0 0] 28)))
  have hz : ((w.alloc (.cells #[.int .i64 t, .int .i64 c, .slice (some ⟨b, off, none⟩) n k] 28)).alloc (.cells #[.int .i64 0, .int .i64 0, .slice none 0 0] 28)).heap.size = w.heap.size + 2 := by simp
  clear hn hv
  go_enter Try.func46, Try.ntmps46
  go_wp2_with (at_builtin; (refine wpList_append_wds (by rfl) (.tmp 8) (.tmp 10) (by rfl) (w.heap.size + 2) (by rfl) ⟨b, off, none⟩ n k F (by rfl) HA2.out (by have := HI.out; omega) HN.out hz ?_); (intro g cap w2 hrow hg hcap hb; have HR := Lib.hid hrow; have HG := Lib.hid hg; have HC := Lib.hid hcap; have HB := Lib.hid hb; have V0 := (VarAt.three0 w (.int .i64 t) (.int .i64 c) (.slice (some ⟨b, off, none⟩) n k) (.cells #[.int .i64 0, .int .i64 0, .slice none 0 0] 28) 28).below (by rw [hz]; exact HB.out); have V1 := (VarAt.three1 w (.int .i64 0) (.int .i64 0) (.slice none 0 0) (.cells #[.int .i64 t, .int .i64 c, .slice (some ⟨b, off, none⟩) n k] 28) 28).below (by rw [hz]; exact HB.out); obtain ⟨_, c0, c1, c2, f0, f1, f2⟩ := V0.three; obtain ⟨_, r0, r1, r2, g0, g1, g2⟩ := V1.three; have x0 := hrow.2.2.1 i hi; have x1 := hrow.2.2.2 i; have HBW : Hid (Below w.heap.size w w2) := Lib.hid ((below_pair w _ _).trans (hb.mono (by omega))); have n0 : ¬ (w.heap.size = g) := (by omega); have n1 : ¬ (g = w.heap.size) := (by omega); have n2 : ¬ (w.heap.size + 1 = g) := (by omega); have n3 : ¬ (g = w.heap.size + 1) := (by omega); clear hrow hg hcap hb V0 V1))
  have hgi : i < n := HI.out
  have HROW := Lib.hid (((HR.out.stored i v hgi (setW F i v) (setW_lt HR.out.2.1 HV.out) (fun j _ => rfl)).set3 (w.heap.size + 1) (.int .i64 t) (.int .i64 c) (.slice (some ⟨g, 0, none⟩) n cap) (by have := HG.out; omega)))
  have HBE := Lib.hid (below_setCells (b := w.heap.size + 1) (Nat.le_add_right _ _) [.int .i64 t, .int .i64 c, .slice (some ⟨g, 0, none⟩) n cap] 0 _ (below_set1 (b := g) (j := i) (by have := HG.out; omega) (.int .u64 (v : Int)) HBW.out))
  exact bodyPost_ret (v := .agg #[.int .i64 t, .int .i64 c, .slice (some ⟨g, 0, none⟩) n cap]) (by simp [results, Try.results46, go_sem, r0, r1, r2]) rfl ⟨some ⟨g, 0, none⟩, cap, rfl, HROW.out.at_, HBE.out, fun P hP _ => OffW.one n (hP g (by have := HG.out; omega))⟩
end Go.Proofs.Ytjbhichgojjakaa
