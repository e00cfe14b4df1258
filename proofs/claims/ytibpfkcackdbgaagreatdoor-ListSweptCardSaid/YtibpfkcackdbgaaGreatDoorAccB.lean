/- AccB -/
import Derived.Test.YtibpfkcackdbgaaGreatDoorFields
import Derived.Test.YtibpfkcackdbgaaGreatDoorDisks
import Derived.Test.YtibpfkcackdbgaaGreatDoorWds
namespace Go.Proofs.YtibpfkcackdbgaaGreatDoor
open Go.ChangeShapes Go.WideShapes Go.ChangeAt Go.RowKit Go.Deep
set_option linter.unusedVariables false
set_option maxRecDepth 100000
section
variable {H : Type} {enc : TypeId × Value → H} {w : World}
theorem bytes_cell {fuel : Nat} {cs : List Value} {x : DataW H × List MemPlace} (hf : DataW.trod enc Tryz.prog w 0 (fun _ => true) true fuel 22 cs = some x) (hlt : ∀ z ∈ x.2, z.block < w.heap.size) :
  ∃ a len cap xs, cs = [.slice a len cap] ∧ len ≤ cap ∧ AtB w a len xs := by
 rcases open_ints Tryz.underlying22 Tryz.underlying5 cells5 hf with ⟨hcs, hx⟩ | ⟨a, len, cap, zs, hcs, _, hl, hm, hz, hx, hcell, hwz⟩
 ·exact ⟨none, 0, 0, [], hcs, Nat.le_refl _, AtB.nil _ _⟩
 ·subst hx
  simp only [if_true] at hz
  refine ⟨some a, len, cap, (zs.take len).map Int.toNat, hcs, hl, by simp; omega, fun y hy => ?_, by unfold maxLen at hm; omega, fun hp => ?_⟩
  ·obtain ⟨z, hzm, rfl⟩ := List.mem_map.1 hy
   have := wf_u8 (hwz z (List.mem_of_mem_take hzm))
   omega
  obtain ⟨b, off, rfl, hc⟩ := ints_at hcell (by omega)
  refine ⟨b, off, rfl, hlt (.cell b (off + 0)) (MemPlace.mem_row.2 ⟨0, by omega, rfl⟩), fun j hj => ?_⟩
  rw [hc j (by omega)]
  have hjz : j < zs.length := by omega
  have hw := wf_u8 (hwz zs[j] (List.getElem_mem _))
  have e : ((zs.take len).map Int.toNat).getD j 0 = zs[j].toNat := by
   rw [List.getD_eq_getElem?_getD, List.getElem?_map, List.getElem?_take, if_pos hj, List.getElem?_eq_getElem hjz]; rfl
  rw [e, List.getD_eq_getElem?_getD, List.getElem?_eq_getElem hjz]
  congr 2
  show zs[j] = _
  omega
theorem bytes_reach {fuel : Nat} {cs : List Value} {x : DataW H × List MemPlace} (hf : DataW.trod enc Tryz.prog w 0 (fun _ => true) true fuel 22 cs = some x) (hs : Sized Tryz.prog 22 x.1) (hlt : ∀ z ∈ x.2, z.block < w.heap.size) :
  ∃ a len cap xs, cs = [.slice a len cap] ∧ len ≤ cap ∧ len ≤ 140737488355328 ∧ AtB w a len xs := by
 obtain ⟨a, len, cap, xs, rfl, hc, hat⟩ := bytes_cell hf hlt
 exact ⟨a, len, cap, xs, rfl, hc, slice_reach Tryz.underlying22 hf hs (by rw [show Tryz.prog.bytesOf 5 = 1 by kernel_rfl]; exact Nat.le_refl _), hat⟩
theorem leaf_bytes {fuel : Nat} {cs : List Value} {x : DataW H × List MemPlace} (hf : DataW.trod enc Tryz.prog w 0 (fun _ => true) true fuel 22 cs = some x) (hs : Sized Tryz.prog 22 x.1) (hlt : ∀ z ∈ x.2, z.block < w.heap.size) :
  ∃ (a : Option Addr) (len cap : Nat) (xs : List Nat), cs = [.slice a len cap] ∧ (len ≤ cap ∧ len ≤ 140737488355328 ∧ AtB w a len xs) := bytes_reach hf hs hlt
end
end Go.Proofs.YtibpfkcackdbgaaGreatDoor
