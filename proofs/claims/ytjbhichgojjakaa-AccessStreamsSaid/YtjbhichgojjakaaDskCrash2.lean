/-
  The contract of package disk's Crash.
-/
import Derived.Test.YtjbhichgojjakaaDskCrash
namespace Go.Proofs.Ytjbhichgojjakaa
open Go.ChangeShapes Go.WideShapes Go.ChangeAt Go.RowKit
set_option linter.unusedVariables false
set_option maxRecDepth 100000

/-- A row behind a crash, while the disk's variable and the result's may be written. -/
def CRow (w : World) (A : Option Addr) (n : Nat) (l' : List Stm) (a : Option Addr) (wr : World) : Prop := StmsAt wr a n l' ∧ ∀ P : Nat → Prop, (∀ b, w.heap.size + 2 ≤ b → P b) → OffS P w A n → OffS P wr a n
theorem CRow.later {w wr w' : World} {A a : Option Addr} {n : Nat} {l : List Stm} (h : CRow w A n l a wr) (hb : Below wr.heap.size wr w') : CRow w A n l a w' := ⟨h.1.later hb, fun P h1 h2 => (h.2 P h1 h2).later h.1 hb⟩
theorem CRow.apart {w wr : World} {A a : Option Addr} {n : Nat} {l q : List Stm} (h : CRow w A n l a wr) (hS : StmsAt w A n q) (b j : Nat) (v : Value) (h1 : w.heap.size ≤ b) (h2 : b < w.heap.size + 2) : CRow w A n l a (wr.setCell ⟨b, j, none⟩ v) := by
  have hne := h.2 (fun k => k ≠ b) (fun k hk => by omega) (hS.fresh b h1)
  exact ⟨h.1.apart b j v hne, fun P hF hP => (h.2 P hF hP).apart b j v hne⟩
theorem CRow.set3 {w wr : World} {A a : Option Addr} {n : Nat} {l q : List Stm} (h : CRow w A n l a wr) (hS : StmsAt w A n q) (v0 v1 v2 : Value) : CRow w A n l a (((wr.setCell ⟨w.heap.size + 1, 0, none⟩ v0).setCell ⟨w.heap.size + 1, 1, none⟩ v1).setCell ⟨w.heap.size + 1, 2, none⟩ v2) :=
  ((h.apart hS _ 0 v0 (by omega) (by omega)).apart hS _ 1 v1 (by omega) (by omega)).apart hS _ 2 v2 (by omega) (by omega)
theorem CRow.of {w wr w' : World} {A a : Option Addr} {n : Nat} {l q : List Stm} (hS : StmsAt w A n q) (hb : Below w.heap.size w wr) (hw : w.heap.size + 2 ≤ wr.heap.size) (h1 : StmsAt w' a n l) (h2 : ∀ P : Nat → Prop, (∀ b, wr.heap.size ≤ b → P b) → OffS P wr A n → OffS P w' a n) : CRow w A n l a w' :=
  ⟨h1, fun P hF hP => h2 P (fun b hb2 => hF b (by omega)) (hP.later hS hb)⟩
/-- Crash, in the midst: the disk's rows behind k of its two rounds, and what is left of the numbers. -/
def CrashRel (w : World) (r : Int) (A : Option Addr) (n a : Nat) (B : Option Addr) (m b : Nat) (l0 l1 : List Stm) (C : Option Addr) (cn cc : Nat) (f : Nat → Int) : Nat → Value → World → Prop
  | 0, v, wr => v = .slice C cn cc ∧ VarAt wr w.heap.size [.int .u64 r, .slice A n a, .slice B m b] ∧ VarAt wr (w.heap.size + 1) [.int .u64 0, .slice none 0 0, .slice none 0 0] ∧ Below w.heap.size w wr
  | 1, v, wr => v = .slice (cutA C cc (min n cn)) (cn - min n cn) (cc - min n cn) ∧ ∃ a1 c1, VarAt wr w.heap.size [.int .u64 r, .slice a1 n c1, .slice B m b] ∧ VarAt wr (w.heap.size + 1) [.int .u64 0, .slice none 0 0, .slice none 0 0] ∧ Below w.heap.size w wr ∧ CRow w A n (cutL l0 (moreAt cn f)) a1 wr
  | _, v, wr => ∃ a1 c1 b1 c2, VarAt wr w.heap.size [.int .u64 r, .slice a1 n c1, .slice b1 m c2] ∧ VarAt wr (w.heap.size + 1) [.int .u64 0, .slice none 0 0, .slice none 0 0] ∧ Below w.heap.size w wr ∧ CRow w A n (cutL l0 (moreAt cn f)) a1 wr ∧ CRow w B m (cutL l1 fun j => moreAt cn f (n + j)) b1 wr
def DskPostV (w : World) (r : Int) (A B : Option Addr) (n m : Nat) (l0 l1 : List Stm) (e : Ending) (w' : World) : Prop :=
  ∃ A' a' B' b', e = .returned (.agg #[.int .u64 r, .slice A' n a', .slice B' m b']) ∧ StmsAt w' A' n l0 ∧ StmsAt w' B' m l1 ∧ Below w.heap.size w w' ∧
    ∀ P : Nat → Prop, (∀ b, w.heap.size ≤ b → P b) → OffS P w A n → OffS P w B m → OffS P w' A' n ∧ OffS P w' B' m
end Go.Proofs.Ytjbhichgojjakaa
