/-
  Rows of bytes of the call's own, third part: their cells, read and written; an append that writes the value out.
-/
import Derived.Test.YtkfodhkeajmbhaaGreatDoorBase
namespace Go.Proofs.YtkfodhkeajmbhaaGreatDoor
open Go.ChangeShapes Go.WideShapes Go.ChangeAt Go.RowKit
set_option linter.unusedVariables false
set_option maxRecDepth 100000

/-- The same where something comes of it: the value written out. -/
theorem wpList_append_new {ops : Array Oper} {rest : List Oper} {o : Oper} {a : Act} {w : World} {Q : Exit → Act → World → Prop} (hw : Region.wanted o (yielded ops a.tmps) = true) (s x : Operand)
    (ho : o.op = .call { callee := .builtin .append, args := #[s, x], argTypes := #[31, 31] }) (base : Nat) (v : Value) (n : Nat) (xs : List Nat) (hs : a.eval s = v) (hown : Own w base v n xs)
    (A : Option Addr) (m c : Nat) (ys : List Nat) (hx : a.eval x = .slice A m c) (hA : AtB w A m ys) (L : Nat) (hL : n + m = L) (zs : List Nat) (hz : xs ++ ys = zs) (hp : 0 < L) (hb : L ≤ 140737488355328) (hbase : base ≤ w.heap.size)
    (h : ∀ g cap w', Own w' base (.slice (some ⟨g, 0, none⟩) L cap) L zs → L ≤ cap → base ≤ g → w.grownBy w' v.ownBlock → wpList Tryz.prog ops Q rest (a.put o.dst (.slice (some ⟨g, 0, none⟩) L cap)) w') : wpList Tryz.prog ops Q (o :: rest) a w := by
  subst hL hz
  refine wpList_append_bytes hw s x ho base v n xs hs hown A m c ys hx hA hb hbase fun v' w' hown' hg => ?_
  have h2 := hown'
  rcases hown'.2.2 with ⟨rfl, h0⟩ | ⟨g, cap, cur, rfl, hbg, _, hcap, _⟩
  · omega
  · exact h g cap w' h2 hcap hbg hg

theorem Own.cell {w : World} {base g n cap : Nat} {xs : List Nat} (h : Own w base (.slice (some ⟨g, 0, none⟩) n cap) n xs) (j : Nat) (hj : j < n) : w.cell? ⟨g, j, none⟩ = some (.int .u8 ((xs.getD j 0 : Nat) : Int)) := by
  have := h.2.cellAt j (by omega)
  rw [this, vals_get xs j (by rw [h.length]; exact hj)]
theorem Own.free {w : World} {base g n cap : Nat} {xs : List Nat} (h : Own w base (.slice (some ⟨g, 0, none⟩) n cap) n xs) (j : Nat) : w.frozen? ⟨g, j, none⟩ = false := h.2.frozenAt j
theorem Own.stored {w : World} {base g n cap : Nat} {xs : List Nat} (h : Own w base (.slice (some ⟨g, 0, none⟩) n cap) n xs) (j y : Nat) (hy : y < 256) :
    Own (w.setCell ⟨g, j, none⟩ (.int .u8 (y : Int))) base (.slice (some ⟨g, 0, none⟩) n cap) n (xs.set j y) :=
  ⟨fun z hz => (List.mem_or_eq_of_mem_set hz).elim (h.1 z) (fun e => by omega), by rw [vals_set]; exact (h.2.stored j _).1⟩
theorem AtB.cell {w : World} {b off len : Nat} {xs : List Nat} (h : AtB w (some ⟨b, off, none⟩) len xs) (j : Nat) (hj : j < len) : b < w.heap.size ∧ w.cell? ⟨b, off + j, none⟩ = some (.int .u8 ((xs.getD j 0 : Nat) : Int)) := by
  obtain ⟨b', off', e, hlt, hc⟩ := h.2.2.2 (by omega)
  simp only [Option.some.injEq, Addr.mk.injEq, and_true] at e
  obtain ⟨rfl, rfl⟩ := e
  exact ⟨hlt, hc j hj⟩

theorem Own.form {w : World} {base : Nat} {v : Value} {n : Nat} {xs : List Nat} (h : Own w base v n xs) (hn : 0 < n) : ∃ g cap, v = .slice (some ⟨g, 0, none⟩) n cap ∧ base ≤ g ∧ g < w.heap.size ∧ n ≤ cap := by
  rcases h.2.2 with ⟨_, h0⟩ | ⟨g, cap, cur, rfl, hg, hb, hc, _⟩
  · omega
  · exact ⟨g, cap, rfl, hg, (Array.getElem?_eq_some_iff.1 hb).1, hc⟩
end Go.Proofs.YtkfodhkeajmbhaaGreatDoor
