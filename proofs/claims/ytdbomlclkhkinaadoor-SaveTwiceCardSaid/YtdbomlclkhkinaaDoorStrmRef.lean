/-
  The contracts of the document's own answer for package stream: Append, Cut.
-/
import Derived.Test.YtdbomlclkhkinaaDoorStrmCalls
namespace Go.Proofs.YtdbomlclkhkinaaDoor
open Go.ChangeShapes Go.WideShapes Go.ChangeAt Go.RowKit
set_option linter.unusedVariables false
set_option maxRecDepth 100000

/-- What a world keeps while a stream's variable is read and the result's may be written. -/
def cellV (w : World) (b o : Nat) : Value := (w.cell? ⟨b, o, none⟩).getD undef
def StmS (w : World) (v0 v1 : Value) (w' : World) : Prop :=
  Below w.heap.size w w' ∧ VarAt w' w.heap.size [v0, v1] ∧ w.heap.size + 1 < w'.heap.size ∧ ∀ j, j < 2 → (∃ v, w'.cell? ⟨w.heap.size + 1, j, none⟩ = some v) ∧ w'.frozen? ⟨w.heap.size + 1, j, none⟩ = false
section
variable {w w' w2 : World} {v0 v1 : Value}
theorem StmS.made (w : World) (a b c d : Value) (t : TypeId) : StmS w a b ((w.alloc (.cells #[a, b] t)).alloc (.cells #[c, d] t)) := by
  have h := (VarAt.pair1 w c d (.cells #[a, b] t) t).two
  refine ⟨below_pair w _ _, VarAt.pair0 w a b _ t, h.1, fun j hj => ?_⟩
  obtain rfl | rfl : j = 0 ∨ j = 1 := by omega
  · exact ⟨⟨c, h.2.1⟩, h.2.2.2.1⟩
  · exact ⟨⟨d, h.2.2.1⟩, h.2.2.2.2⟩
theorem StmS.later (h : StmS w v0 v1 w') (hb : Below w'.heap.size w' w2) : StmS w v0 v1 w2 := by
  obtain ⟨h1, h2, h3, h4⟩ := h
  refine ⟨h1.trans (hb.mono h1.size), h2.below hb, Nat.lt_of_lt_of_le h3 hb.size, fun j hj => ?_⟩
  obtain ⟨⟨v, hv⟩, hf⟩ := h4 j hj
  exact ⟨⟨v, (keptCells hb _ _ h3).trans hv⟩, (keptFrozen hb _ _ h3).trans hf⟩
theorem StmS.alloc (h : StmS w v0 v1 w') (o : Obj) : StmS w v0 v1 (w'.alloc o) := h.later ((Below.refl _ _).alloc (Nat.le_refl _) o)
theorem StmS.drew (h : StmS w v0 v1 w') : StmS w v0 v1 w'.drew := h.later (Below.drew (Below.refl _ _))
theorem StmS.res (h : StmS w v0 v1 w') (j : Nat) (v : Value) : StmS w v0 v1 (w'.setCell ⟨w.heap.size + 1, j, none⟩ v) := by
  obtain ⟨h1, h2, h3, h4⟩ := h
  refine ⟨below_set1 (by omega) v h1, h2.apart j v (by omega), by simpa using h3, fun i hi => ?_⟩
  obtain ⟨⟨u, hu⟩, hf⟩ := h4 i hi
  refine ⟨?_, by rw [World.frozen?_setCell]; exact hf⟩
  by_cases hij : i = j
  · subst hij; exact ⟨v, World.cell?_setCell_same w' _ v hu⟩
  · exact ⟨u, by rw [World.cell?_setCell_other _ _ _ _ (by simp <;> omega)]; exact hu⟩
theorem StmS.grown {v : Value} {n : Nat} {xs : List Nat} (h : StmS w v0 v1 w') (hown : Own w' (w.heap.size + 2) v n xs) (hg : w'.grownBy w2 v.ownBlock) : StmS w v0 v1 w2 := by
  obtain ⟨h1, h2, h3, h4⟩ := h
  have hk : Below (w.heap.size + 2) w' w2 := (Below.refl _ w').grown hg (by omega) (fun k hk => (hown.2.lt k hk).1)
  have hc : ∀ b o, b < w.heap.size + 2 → w2.cell? ⟨b, o, none⟩ = w'.cell? ⟨b, o, none⟩ := fun b o hb => hk.cell (p := ⟨b, o, none⟩) hb
  have hfz : ∀ b o, b < w.heap.size + 2 → w2.frozen? ⟨b, o, none⟩ = w'.frozen? ⟨b, o, none⟩ := fun b o hb => hk.frozen (p := ⟨b, o, none⟩) hb
  refine ⟨h1.trans (hk.mono (by omega)), ⟨Nat.lt_of_lt_of_le h2.1 hk.size, fun j u hu => (hc _ _ (by omega)).trans (h2.2.1 j u hu), fun j hj => (hfz _ _ (by omega)).trans (h2.2.2 j hj)⟩, Nat.lt_of_lt_of_le h3 hk.size, fun j hj => ?_⟩
  obtain ⟨⟨v, hv⟩, hf⟩ := h4 j hj
  exact ⟨⟨v, (hc _ _ (by omega)).trans hv⟩, (hfz _ _ (by omega)).trans hf⟩
theorem StmS.c0 (h : StmS w v0 v1 w') : w'.cell? ⟨w.heap.size, 0, none⟩ = some v0 := h.2.1.two.2.1
theorem StmS.c1 (h : StmS w v0 v1 w') : w'.cell? ⟨w.heap.size, 1, none⟩ = some v1 := h.2.1.two.2.2.1
theorem StmS.r (h : StmS w v0 v1 w') (j : Nat) (hj : j < 2) : w'.cell? ⟨w.heap.size + 1, j, none⟩ = some (cellV w' (w.heap.size + 1) j) := by
  obtain ⟨⟨v, hv⟩, _⟩ := h.2.2.2 j hj
  unfold cellV
  rw [hv]; rfl
theorem StmS.f (h : StmS w v0 v1 w') (j : Nat) (hj : j < 2) : w'.frozen? ⟨w.heap.size + 1, j, none⟩ = false := (h.2.2.2 j hj).2
end
theorem step_append_stm {ops : Array Oper} {o : Oper} {a : Act} {w0 w : World} {v0 v1 : Value} {K : Act → World → Prop} {Q : Exit → Act → World → Prop} {E : Prop} (hS : StmS w0 v0 v1 w) (hg : o.guard = none) (s x : Operand)
    (ho : o.op = .call { callee := .builtin .append, args := #[s, x], argTypes := #[48, 48] }) (v : Value) (n : Nat) (xs : List Nat) (hs : a.eval s = v) (hown : Own w (w0.heap.size + 2) v n xs)
    (A : Option Addr) (m c : Nat) (ys : List Nat) (hx : a.eval x = .slice A m c) (hA : AtB w A m ys) (hb : n + m ≤ 140737488355328)
    (h : ∀ v' w', Own w' (w0.heap.size + 2) v' (n + m) (xs ++ ys) → StmS w0 v0 v1 w' → K (a.put o.dst v') w') : if Region.wanted o (yielded ops a.tmps) = true then Oper.wp Tryd.prog o a w K Q else E :=
  step_append_bytes hg s x ho (w0.heap.size + 2) v n xs hs hown A m c ys hx hA hb hS.2.2.1 (fun v' w' h1 h2 => h v' w' h1 (hS.grown hown h2))

theorem Own.none (w : World) (base : Nat) : Own w base (.slice none 0 0) 0 [] := ⟨fun z hz => by simp at hz, World.ownsRow_nil w _ _ _⟩
theorem take_more (xs : List Nat) (k : Nat) (h : k < xs.length) : xs.take k ++ [xs.getD k 0] = xs.take (k + 1) := by
  rw [List.take_add_one, List.getElem?_eq_getElem h, List.getD_eq_getElem?_getD, List.getElem?_eq_getElem h]; rfl
/-- What is kept of the first k bytes. -/
def CutRel (w : World) (v0 v1 : Value) (xs : List Nat) (c : Nat) (wr : World) (u : Value) (k : Nat) : Prop := Own wr (w.heap.size + 2) u (min k c) (xs.take (min k c)) ∧ StmS w v0 v1 wr
theorem CutRel.more {w wr w' : World} {v0 v1 u u' : Value} {xs : List Nat} {c k : Nat} {o : Obj} (h : CutRel w v0 v1 xs c wr u k) (hk : k < c) (hown : Own w' (w.heap.size + 2) u' (k + 1) (xs.take (k + 1))) (hg : (wr.alloc o).grownBy w' u.ownBlock) : CutRel w v0 v1 xs c w' u' (k + 1) :=
  ⟨by rw [Nat.min_eq_left (by omega)]; exact hown, (h.2.alloc o).grown (h.1.alloc o) hg⟩
theorem CutRel.less {w wr : World} {v0 v1 u : Value} {xs : List Nat} {c k : Nat} (h : CutRel w v0 v1 xs c wr u k) (hk : c ≤ k) : CutRel w v0 v1 xs c wr u (k + 1) :=
  ⟨by have := h.1; rw [Nat.min_eq_right hk] at this; rw [Nat.min_eq_right (by omega)]; exact this, h.2⟩
/-- A stream whose bytes lie in a row of the call's own. -/
def StmOwn (w : World) (n : Nat) (xs : List Nat) (s : Int) (e : Ending) (w' : World) : Prop := ∃ v, e = .returned (.agg #[v, .int .i64 s]) ∧ Own w' (w.heap.size + 2) v n xs ∧ Below w.heap.size w w'
theorem Own.aside {w : World} {base : Nat} {v : Value} {n : Nat} {xs : List Nat} (h : Own w base v n xs) (b j : Nat) (u : Value) (hb : b < base) : Own (w.setCell ⟨b, j, Option.none⟩ u) base v n xs :=
  ⟨h.1, h.2.kept ⟨by simp [World.setCell], by simp [World.setCell], by simp [World.setCell], by simp, fun k _ hk => Below.heap_setCell w ⟨b, j, Option.none⟩ u k (fun e => hk (by rw [e]))⟩ (row := some b) (.inr (fun e => by have := (h.2.lt b e).1; omega))⟩
end Go.Proofs.YtdbomlclkhkinaaDoor
