/- AccBls -/
import Derived.Test.YtibpfkcackdbgaaGreatDoorAccB
import Derived.Test.YtibpfkcackdbgaaGreatDoorBase
import Derived.Deep.Matrix
import Derived.Deep.Grids
namespace Go.Proofs.YtibpfkcackdbgaaGreatDoor
open Go.ChangeShapes Go.WideShapes Go.ChangeAt Go.RowKit Go.Deep
set_option linter.unusedVariables false
set_option maxRecDepth 100000
def BlsAt (w : World) (a : Option Addr) (n : Nat) (f : Nat → Bool) : Prop := n ≤ 140737488355328 ∧ (0 < n → ∃ b off, a = some ⟨b, off, none⟩ ∧ b < w.heap.size ∧ ∀ j, j < n → w.cell? ⟨b, off + j, none⟩ = some (.bool (f j)))
theorem BlsAt.later {w w' : World} {a : Option Addr} {n : Nat} {f : Nat → Bool} (h : BlsAt w a n f) (hb : Below w.heap.size w w') : BlsAt w' a n f := by
 refine ⟨h.1, fun hp => ?_⟩
 obtain ⟨b, off, e, hlt, hc⟩ := h.2 hp
 exact ⟨b, off, e, Nat.lt_of_lt_of_le hlt hb.size, fun j hj => (hb.cell (p := ⟨b, off + j, none⟩) hlt).trans (hc j hj)⟩
theorem cellsBls : Tryz.prog.cellsOf 4 = 1 := by kernel_rfl
theorem leaf_blsat {H : Type} {enc : TypeId × Value → H} {w : World} {fuel : Nat} {cs : List Value} {x : DataW H × List MemPlace} (hf : DataW.trod enc Tryz.prog w 0 (fun _ => true) true fuel 47 cs = some x) (hs : Sized Tryz.prog 47 x.1) (hlt : ∀ z ∈ x.2, z.block < w.heap.size) :
  ∃ (a : Option Addr) (len cap : Nat) (f : Nat → Bool), cs = [.slice a len cap] ∧ (len ≤ cap ∧ BlsAt w a len f) := by
 rcases Deep.open_bools Tryz.underlying47 Tryz.underlying4 cellsBls hf with ⟨hcs, hx⟩ | ⟨a, len, cap, B, hcs, _, hl, hm, hx, hr⟩
 ·exact ⟨none, 0, 0, fun _ => false, hcs, Nat.le_refl _, by omega, fun h => by omega⟩
 ·subst hcs
  have hrch := slice_reach Tryz.underlying47 hf hs (by rw [show Tryz.prog.bytesOf 4 = 1 by kernel_rfl]; decide)
  refine ⟨some a, len, cap, B, rfl, hl, hrch, fun hp => ?_⟩
  obtain ⟨b, off, spot⟩ := a
  have hspot : spot = none := by simpa [Addr.add] using World.cell?_spot (hr 0 (by omega))
  subst hspot
  refine ⟨b, off, rfl, hlt (.cell b (off + 0)) (by rw [hx]; exact MemPlace.mem_row.2 ⟨0, by omega, rfl⟩), fun j hj => ?_⟩
  have := hr j (by omega)
  rwa [Go.WideShapes.add_plain] at this
end Go.Proofs.YtibpfkcackdbgaaGreatDoor
