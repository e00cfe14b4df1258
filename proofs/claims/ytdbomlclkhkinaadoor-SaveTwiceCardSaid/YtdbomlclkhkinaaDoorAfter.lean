/-
  A region that draws its order, whose operations read, and whose calls leave what was there as it was (they may make memory) and tell one value: one walk in the order of the text. The class of worlds: those in which what was there is as it was. Nothing of the program stands here.
-/
import Derived.Test.YtdbomlclkhkinaaDoorLexFast
import Derived.Below
import Derived.RowKit3
namespace Go.Proofs.YtdbomlclkhkinaaDoor
open Go.RowKit
set_option linter.unusedVariables false
set_option maxRecDepth 100000

/-- A world in which all that was there in x is as it was. -/
structure After (x : World) where
  w : World
  below : Below x.heap.size x w
instance (x : World) : Nonempty (After x) := ⟨⟨x, Below.refl _ _⟩⟩
theorem After.cells {x : World} {p : Addr} {v : Value} (h : x.cell? p = some v) (hp : p.spot = none) (u : After x) : u.w.cell? p = some v := by
  obtain ⟨b, o, sp⟩ := p
  cases hp
  exact (u.below.cell (p := ⟨b, o, none⟩) (World.block_lt_of_cell? x _ h)).trans h
theorem wp_region_after {P : Program} {id : Nat} {Q : Exit → Act → World → Prop} {a : Act} {w : World} {l : List Oper} (L : List LRow) (hm : P.follows .mixedOrders = true) (hsel : Region.noSelect l.toArray = true) (hL : l.map (lrow l.toArray) = L) (hB : lexGo 0 L = true)
    (h : wpQuiet P l.toArray (fun w' => ∃ u : After w, w' = u.w) (fun a' => ∀ w', (∃ u : After w, w' = u.w) → Q .normal a' w') l a) : (Code.region id l.toArray true).wp P Q a w :=
  wp_region_quiet (C := fun w' => ∃ u : After w, w' = u.w) hm (lex_fast L hsel hL hB) ⟨⟨w.drew, Below.drew (Below.refl _ _)⟩, rfl⟩ (by simpa using h)
/-- A call that leaves the world alone. -/
theorem after_same {P : Program} {f : FuncId} {args : Array Value} {x : World} {u : After x} {v : Value} (h : Calls P f args u.w fun e w' => e = .returned v ∧ u.w = w') :
    Calls P f args u.w fun e w'' => e = .returned v ∧ ∃ u' : After x, w'' = u'.w := h.mono fun _ _ ⟨he, hm⟩ => ⟨he, u, hm.symm⟩
/-- A call that leaves what was there as it was. -/
theorem after_kept {P : Program} {f : FuncId} {args : Array Value} {x : World} {u : After x} {v : Value} (h : Calls P f args u.w fun e w' => e = .returned v ∧ Below u.w.heap.size u.w w') :
    Calls P f args u.w fun e w'' => e = .returned v ∧ ∃ u' : After x, w'' = u'.w := h.mono fun _ w' ⟨he, hb⟩ => ⟨he, ⟨w', u.below.trans (hb.mono u.below.size)⟩, rfl⟩
end Go.Proofs.YtdbomlclkhkinaaDoor
