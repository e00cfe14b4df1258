/-
  Rows of streams in memory: slices of elements of two cells, a slice of bytes and a number: such that come in or lie, and such of the call's own.
-/
import Derived.Test.YtjbhichgojjakaaStrmCalls
namespace Go.Proofs.Ytjbhichgojjakaa
open Go.ChangeShapes Go.WideShapes Go.ChangeAt Go.RowKit
set_option linter.unusedVariables false
set_option maxRecDepth 100000

/-- A stream as it reads: its bytes, and how many of them are synced. -/
structure Stm where
  bytes : List Nat
  synced : Int
def Stm.zero : Stm := ⟨[], 0⟩
instance : Inhabited Stm := ⟨Stm.zero⟩
def Stm.right (x : Stm) : Bool := rightB x.synced x.bytes.length

/-- A stream's two cells lie at a place. -/
def CellsS (w : World) (b o : Nat) (x : Stm) : Prop :=
  ∃ A cap, w.cell? ⟨b, o, none⟩ = some (.slice A x.bytes.length cap) ∧ x.bytes.length ≤ cap ∧ x.bytes.length ≤ 140737488355328 ∧ AtB w A x.bytes.length x.bytes ∧ w.cell? ⟨b, o + 1, none⟩ = some (.int .i64 x.synced) ∧
    (-9223372036854775808 ≤ x.synced ∧ x.synced < 9223372036854775808)
theorem CellsS.below {w w' : World} {b o : Nat} {x : Stm} (h : CellsS w b o x) (hb : Below w.heap.size w w') (hlt : b < w.heap.size) : CellsS w' b o x := by
  obtain ⟨A, cap, h1, h2, h3, h4, h5, h6⟩ := h
  exact ⟨A, cap, (hb.cell (p := ⟨b, o, none⟩) hlt).trans h1, h2, h3, h4.below hb (Nat.le_refl _), (hb.cell (p := ⟨b, o + 1, none⟩) hlt).trans h5, h6⟩
/-- A slice that reads as a row of streams. -/
def StmsAt (w : World) (a : Option Addr) (n : Nat) (l : List Stm) : Prop :=
  l.length = n ∧ n ≤ 140737488355328 ∧ (0 < n → ∃ b off, a = some ⟨b, off, none⟩ ∧ b < w.heap.size ∧ ∀ j x, l[j]? = some x → CellsS w b (off + j * 2) x)
theorem StmsAt.nil (w : World) (a : Option Addr) : StmsAt w a 0 [] := ⟨rfl, by omega, fun h => by omega⟩
theorem StmsAt.later {w w' : World} {a : Option Addr} {n : Nat} {l : List Stm} (h : StmsAt w a n l) (hb : Below w.heap.size w w') : StmsAt w' a n l := by
  obtain ⟨h1, h2, h3⟩ := h
  refine ⟨h1, h2, fun hp => ?_⟩
  obtain ⟨b, off, e, hlt, hc⟩ := h3 hp
  exact ⟨b, off, e, Nat.lt_of_lt_of_le hlt hb.size, fun j x hx => (hc j x hx).below hb hlt⟩
theorem StmsAt.hid {w w' : World} {a : Option Addr} {n : Nat} {l : List Stm} (h : Hid (StmsAt w a n l)) (hb : Below w.heap.size w w') : Hid (StmsAt w' a n l) := Lib.hid (h.out.later hb)
/-- The same memory, whatever was drawn. -/
theorem CellsS.same {w w' : World} {b o : Nat} {x : Stm} (h : CellsS w b o x) (hd : w.heap = w'.heap) : CellsS w' b o x := by
  obtain ⟨A, cap, h1, h2, h3, h4, h5, h6⟩ := h
  have hc : ∀ p, w'.cell? p = w.cell? p := fun p => by unfold World.cell?; rw [hd]
  refine ⟨A, cap, by rw [hc]; exact h1, h2, h3, (AtB.hidD (Lib.hid h4) hd).out, by rw [hc]; exact h5, h6⟩
theorem StmsAt.same {w w' : World} {a : Option Addr} {n : Nat} {l : List Stm} (h : StmsAt w a n l) (hd : w.heap = w'.heap) : StmsAt w' a n l := by
  obtain ⟨h1, h2, h3⟩ := h
  refine ⟨h1, h2, fun hp => ?_⟩
  obtain ⟨b, off, e, hlt, hc⟩ := h3 hp
  exact ⟨b, off, e, by rw [← hd]; exact hlt, fun j x hx => (hc j x hx).same hd⟩
/-- One element's place. -/
theorem StmsAt.at_ {w : World} {a : Option Addr} {n : Nat} {l : List Stm} (h : StmsAt w a n l) (j : Nat) (hj : j < n) :
    ∃ x b off A cap, l[j]? = some x ∧ a = some ⟨b, off, none⟩ ∧ b < w.heap.size ∧ w.cell? ⟨b, off + j * 2, none⟩ = some (.slice A x.bytes.length cap) ∧ w.cell? ⟨b, off + j * 2 + 1, none⟩ = some (.int .i64 x.synced) ∧
      x.bytes.length ≤ cap ∧ x.bytes.length ≤ 140737488355328 ∧ AtB w A x.bytes.length x.bytes ∧ (-9223372036854775808 ≤ x.synced ∧ x.synced < 9223372036854775808) := by
  obtain ⟨h1, h2, h3⟩ := h
  obtain ⟨b, off, e, hlt, hc⟩ := h3 (by omega)
  obtain ⟨A, cap, c1, c2, c3, c4, c5, c6⟩ := hc j l[j] (List.getElem?_eq_getElem (by omega))
  exact ⟨l[j], b, off, A, cap, List.getElem?_eq_getElem (by omega), e, hlt, c1, c5, c2, c3, c4, c6⟩
/-! ### Where a row's memory may lie -/
/-- The row's block, and those of its streams' bytes, are such. -/
def OffS (P : Nat → Prop) (w : World) (a : Option Addr) (n : Nat) : Prop :=
  ∀ b off, a = some ⟨b, off, none⟩ → 0 < n → P b ∧ ∀ j, j < n → ∀ ad len c, w.cell? ⟨b, off + j * 2, none⟩ = some (.slice (some ad) len c) → 0 < len → P ad.block
theorem OffS.mono {P Q : Nat → Prop} {w : World} {a : Option Addr} {n : Nat} (h : OffS P w a n) (hPQ : ∀ b, P b → Q b) : OffS Q w a n := fun b off e hn =>
  ⟨hPQ _ (h b off e hn).1, fun j hj ad len c hc hl => hPQ _ ((h b off e hn).2 j hj ad len c hc hl)⟩
theorem OffS.nil (P : Nat → Prop) (w : World) (a : Option Addr) : OffS P w a 0 := fun b off e hn => by omega
theorem OffS.nowhere (P : Nat → Prop) (w : World) (n : Nat) : OffS P w none n := fun b off e hn => by cases e
theorem OffS.later {P : Nat → Prop} {w w' : World} {a : Option Addr} {n : Nat} {l : List Stm} (h : OffS P w a n) (hS : StmsAt w a n l) (hb : Below w.heap.size w w') : OffS P w' a n := fun b off e hn => by
  obtain ⟨b', off', e', hlt, _⟩ := hS.2.2 hn
  obtain ⟨h1, h2⟩ := h b off e hn
  rw [e'] at e
  cases e
  exact ⟨h1, fun j hj ad len c hc hl => h2 j hj ad len c ((hb.cell (p := ⟨b, off + j * 2, none⟩) hlt).symm.trans hc) hl⟩
/-- Memory that lies is below the world's size. -/
theorem StmsAt.old {w : World} {a : Option Addr} {n : Nat} {l : List Stm} (hS : StmsAt w a n l) : OffS (fun b => b < w.heap.size) w a n := fun b off e hn => by
  obtain ⟨b', off', e', hlt, hc⟩ := hS.2.2 hn
  rw [e'] at e
  cases e
  refine ⟨hlt, fun j hj ad len c hcell hl => ?_⟩
  obtain ⟨A, cap, c1, _, _, c4, _⟩ := hc j (l[j]'(by have := hS.1; omega)) (List.getElem?_eq_getElem _)
  rw [hcell] at c1
  simp only [Option.some.injEq, Value.slice.injEq] at c1
  obtain ⟨b2, o2, e2, hlt2, _⟩ := c4.2.2.2 (by omega)
  rw [e2] at c1
  obtain ⟨rfl, _⟩ : ad = _ ∧ True := ⟨by simpa using c1.1, trivial⟩
  exact hlt2
theorem StmsAt.apart {w : World} {a : Option Addr} {n : Nat} {l : List Stm} (hS : StmsAt w a n l) (b j : Nat) (v : Value) (h : OffS (fun k => k ≠ b) w a n) : StmsAt (w.setCell ⟨b, j, none⟩ v) a n l := by
  obtain ⟨h1, h2, h3⟩ := hS
  refine ⟨h1, h2, fun hp => ?_⟩
  obtain ⟨g, off, e, hlt, hc⟩ := h3 hp
  obtain ⟨k1, k2⟩ := h g off e hp
  refine ⟨g, off, e, by simpa using hlt, fun i x hx => ?_⟩
  obtain ⟨A, cap, c1, c2, c3, c4, c5, c6⟩ := hc i x hx
  have hi : i < n := by have := (List.getElem?_eq_some_iff.1 hx).1; omega
  have hne : ∀ o, (w.setCell ⟨b, j, none⟩ v).cell? ⟨g, o, none⟩ = w.cell? ⟨g, o, none⟩ := fun o => World.cell?_setCell_other _ _ _ _ (fun e => k1 (by have e2 := congrArg Addr.block e; first | exact e2 | exact e2.symm))
  exact ⟨A, cap, (hne _).trans c1, c2, c3, c4.set b j v (fun b' o' e' hl => k2 i hi ⟨b', o', Option.none⟩ _ _ (by rw [c1, e']) hl), (hne _).trans c5, c6⟩
theorem OffS.apart {P : Nat → Prop} {w : World} {a : Option Addr} {n : Nat} (hP : OffS P w a n) (b j : Nat) (v : Value) (h : OffS (fun k => k ≠ b) w a n) : OffS P (w.setCell ⟨b, j, none⟩ v) a n := fun g off e hn => by
  obtain ⟨h1, h2⟩ := hP g off e hn
  obtain ⟨k1, _⟩ := h g off e hn
  refine ⟨h1, fun i hi ad len c hc hl => h2 i hi ad len c ?_ hl⟩
  rw [← hc]
  exact (World.cell?_setCell_other _ _ _ _ (fun e => k1 (by have e2 := congrArg Addr.block e; first | exact e2 | exact e2.symm))).symm
end Go.Proofs.Ytjbhichgojjakaa
