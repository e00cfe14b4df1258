/-
  Rows of rows of bytes, and rows of truth values, that come in as arguments.
-/
import Derived.Test.YtocnndpfpplleaaSlRows
import Derived.Deep.Matrix
import Derived.Deep.Grids
namespace Go.Proofs.Ytocnndpfpplleaa
open Go.ChangeShapes Go.WideShapes Go.ChangeAt Go.RowKit
set_option linter.unusedVariables false

theorem cells22 : Try.prog.cellsOf 22 = 1 := by kernel_rfl

theorem open_rows {H : Type} {enc : TypeId × Value → H} {W : World} {base : Nat} {v : Value} {d : DataW H} {ps : List MemPlace} (hval : Value.okWide Try.prog W .any base 32 v)
    (h : DataW.Trod enc Try.prog W 0 (fun _ => true) true 32 v d ps) (hlt : ∀ x ∈ ps, x.block < W.heap.size) :
    ∃ a n cap ll, v = .slice a n cap ∧ n ≤ cap ∧ AtRows W a n ll := by
  obtain ⟨a0, len, cap, rfl⟩ := okWide_slice Try.underlying32 hval
  obtain ⟨fuel, hf⟩ := h
  rcases Deep.open_int_rows Try.underlying32 Try.underlying22 Try.underlying5 cells22 cells5 hf with ⟨hcs, hx⟩ | ⟨a, len', cap', A, L, C, Z, hcs, _, hl, hm, hx, hr⟩
  · simp [Value.cells] at hcs
    obtain ⟨rfl, rfl, rfl⟩ := hcs
    exact ⟨none, 0, 0, [], rfl, Nat.le_refl _, AtRows.nil _ _⟩
  · simp [Value.cells] at hcs
    obtain ⟨rfl, rfl, rfl⟩ := hcs
    simp only [Prod.mk.injEq] at hx
    obtain ⟨rfl, rfl⟩ := hx
    refine ⟨some a, len, cap, (List.range len).map fun r => ((Z r).take (L r)).map Int.toNat, rfl, hl, by simp, by unfold maxLen at hm; omega, fun hp => ?_⟩
    obtain ⟨b, off, spot⟩ := a
    have hspot : spot = none := by simpa [Addr.add] using World.cell?_spot (hr 0 (by omega)).1
    subst hspot
    refine ⟨b, off, rfl, hlt (.cell b (off + 0)) (List.mem_append_left _ (MemPlace.mem_row.2 ⟨0, by omega, rfl⟩)), fun j hj => ?_⟩
    obtain ⟨hcell, hlc, hcm, hzl, hwz, hnone, hsome⟩ := hr j (by omega)
    have e : ((List.range len).map fun r => ((Z r).take (L r)).map Int.toNat).getD j [] = ((Z j).take (L j)).map Int.toNat := by
      simp [List.getD_eq_getElem?_getD, hj]
    rw [e]
    rw [Go.WideShapes.add_plain] at hcell
    refine ⟨A j, L j, C j, hcell, by unfold maxLen at hcm; omega, by simp; omega, fun y hy => ?_, by unfold maxLen at hcm; omega, fun hpl => ?_⟩
    · obtain ⟨z, hzm, rfl⟩ := List.mem_map.1 hy
      have := wf_u8 (hwz z (List.mem_of_mem_take hzm))
      omega
    rcases hA : A j with _ | a'
    · have := hnone hA; omega
    obtain ⟨_, hcs⟩ := hsome a' hA
    obtain ⟨b', off', rfl, hc'⟩ := ints_at (zs := Z j) (fun i hi => hcs i (by omega)) (by omega)
    refine ⟨b', off', rfl, World.block_lt_of_cell? W ⟨b', off' + 0, none⟩ (hc' 0 (by omega)), fun i hi => ?_⟩
    rw [hc' i (by omega)]
    have hiz : i < (Z j).length := by omega
    have hw := wf_u8 (hwz (Z j)[i] (List.getElem_mem _))
    have e2 : (((Z j).take (L j)).map Int.toNat).getD i 0 = (Z j)[i].toNat := by
      rw [List.getD_eq_getElem?_getD, List.getElem?_map, List.getElem?_take, if_pos hi, List.getElem?_eq_getElem hiz]; rfl
    rw [e2, List.getD_eq_getElem?_getD, List.getElem?_eq_getElem hiz]
    congr 2
    show (Z j)[i] = _
    omega

/-- A slice that reads as a row of truth values. -/
def AtBools (w : World) (a : Option Addr) (n : Nat) (f : Nat → Bool) : Prop := n ≤ 9223372036854775807 ∧ (0 < n → ∃ b off, a = some ⟨b, off, none⟩ ∧ b < w.heap.size ∧ ∀ j, j < n → w.cell? ⟨b, off + j, none⟩ = some (.bool (f j)))
theorem AtBools.later {w w' : World} {a : Option Addr} {n : Nat} {f : Nat → Bool} (h : AtBools w a n f) (hb : Below w.heap.size w w') : AtBools w' a n f := by
  refine ⟨h.1, fun hp => ?_⟩
  obtain ⟨b, off, e, hlt, hc⟩ := h.2 hp
  exact ⟨b, off, e, Nat.lt_of_lt_of_le hlt hb.size, fun j hj => (hb.cell (p := ⟨b, off + j, none⟩) hlt).trans (hc j hj)⟩
theorem cellsBool : Try.prog.cellsOf 4 = 1 := by kernel_rfl
theorem open_bools {H : Type} {enc : TypeId × Value → H} {W : World} {base : Nat} {v : Value} {d : DataW H} {ps : List MemPlace} (hval : Value.okWide Try.prog W .any base 33 v)
    (h : DataW.Trod enc Try.prog W 0 (fun _ => true) true 33 v d ps) (hlt : ∀ x ∈ ps, x.block < W.heap.size) :
    ∃ a n cap f, v = .slice a n cap ∧ n ≤ cap ∧ AtBools W a n f := by
  obtain ⟨a0, len, cap, rfl⟩ := okWide_slice Try.underlying33 hval
  obtain ⟨fuel, hf⟩ := h
  rcases Deep.open_bools Try.underlying33 Try.underlying4 cellsBool hf with ⟨hcs, hx⟩ | ⟨a, len', cap', B, hcs, _, hl, hm, hx, hr⟩
  · simp [Value.cells] at hcs
    obtain ⟨rfl, rfl, rfl⟩ := hcs
    exact ⟨none, 0, 0, fun _ => false, rfl, Nat.le_refl _, by omega, fun h => by omega⟩
  · simp [Value.cells] at hcs
    obtain ⟨rfl, rfl, rfl⟩ := hcs
    simp only [Prod.mk.injEq] at hx
    obtain ⟨rfl, rfl⟩ := hx
    refine ⟨some a, len, cap, B, rfl, hl, by unfold maxLen at hm; omega, fun hp => ?_⟩
    obtain ⟨b, off, spot⟩ := a
    have hspot : spot = none := by simpa [Addr.add] using World.cell?_spot (hr 0 (by omega))
    subst hspot
    refine ⟨b, off, rfl, hlt (.cell b (off + 0)) (MemPlace.mem_row.2 ⟨0, by omega, rfl⟩), fun j hj => ?_⟩
    have := hr j (by omega)
    rwa [Go.WideShapes.add_plain] at this
end Go.Proofs.Ytocnndpfpplleaa
