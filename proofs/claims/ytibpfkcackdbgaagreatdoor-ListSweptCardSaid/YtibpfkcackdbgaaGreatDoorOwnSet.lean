/- OwnSet -/
import Derived.Test.YtibpfkcackdbgaaGreatDoorBase
namespace Go.Proofs.YtibpfkcackdbgaaGreatDoor
open Go.ChangeShapes Go.WideShapes Go.ChangeAt Go.RowKit
set_option linter.unusedVariables false
set_option maxRecDepth 100000
theorem Own.cell {w : World} {base g n cap : Nat} {xs : List Nat} (h : Own w base (.slice (some ⟨g, 0, none⟩) n cap) n xs) (j : Nat) (hj : j < n) : w.cell? ⟨g, j, none⟩ = some (.int .u8 ((xs.getD j 0 : Nat) : Int)) := by
 have := h.2.cellAt j (by omega)
 rw [this, vals_get xs j (by rw [h.length]; exact hj)]
theorem Own.free {w : World} {base g n cap : Nat} {xs : List Nat} (h : Own w base (.slice (some ⟨g, 0, none⟩) n cap) n xs) (j : Nat) : w.frozen? ⟨g, j, none⟩ = false := h.2.frozenAt j
theorem Own.stored {w : World} {base g n cap : Nat} {xs : List Nat} (h : Own w base (.slice (some ⟨g, 0, none⟩) n cap) n xs) (j y : Nat) (hy : y < 256) :
  Own (w.setCell ⟨g, j, none⟩ (.int .u8 (y : Int))) base (.slice (some ⟨g, 0, none⟩) n cap) n (xs.set j y) :=
 ⟨fun z hz => (List.mem_or_eq_of_mem_set hz).elim (h.1 z) (fun e => by omega), by rw [vals_set]; exact (h.2.stored j _).1⟩
theorem AtB.cell {w : World} {b off len : Nat} {xs : List Nat} (h : AtB w (some ⟨b, off, none⟩) len xs) (j : Nat) (hj : j < len) : b < w.heap.size ∧ w.cell? ⟨b, off + j, none⟩ = some (.int .u8 ((xs.getD j 0 : Nat) : Int)) := by
 obtain ⟨b', off', e, hlt, hc⟩ := h.2.2.2 (by omega)
 simp only [Option.some.injEq, Addr.mk.injEq, and_true] at e
 obtain ⟨rfl, rfl⟩ := e
 exact ⟨hlt, hc j hj⟩
theorem Own.form {w : World} {base : Nat} {v : Value} {n : Nat} {xs : List Nat} (h : Own w base v n xs) (hn : 0 < n) : ∃ g cap, v = .slice (some ⟨g, 0, none⟩) n cap ∧ base ≤ g ∧ g < w.heap.size ∧ n ≤ cap := by
 rcases h.2.2 with ⟨_, h0⟩ | ⟨g, cap, cur, rfl, hg, hb, hc, _⟩
 ·omega
 ·exact ⟨g, cap, rfl, hg, (Array.getElem?_eq_some_iff.1 hb).1, hc⟩
end Go.Proofs.YtibpfkcackdbgaaGreatDoor
