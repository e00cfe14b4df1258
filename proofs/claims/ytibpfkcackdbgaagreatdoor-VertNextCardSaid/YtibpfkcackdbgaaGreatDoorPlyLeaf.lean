/- PlyLeaf -/
import Derived.Test.YtibpfkcackdbgaaGreatDoorFields
import Derived.Test.YtibpfkcackdbgaaGreatDoorAccB
import Derived.Test.YtibpfkcackdbgaaGreatDoorPlyA
namespace Go.Proofs.YtibpfkcackdbgaaGreatDoor
open Go.ChangeShapes Go.WideShapes Go.ChangeAt Go.RowKit Go.Deep
set_option linter.unusedVariables false
set_option maxRecDepth 100000
theorem cells_3 {α : Type} {l : List α} (h : l.length = 3) : ∃ a0 a1 a2, l = [a0, a1, a2] := by
 match l, h with
 | [a0, a1, a2], _ => exact ⟨a0, a1, a2, rfl⟩
section
variable {H : Type} {enc : TypeId × Value → H} {w : World}
theorem logs_one {fuel : Nat} {cs : List Value} {x : DataW H × List MemPlace} (hf : DataW.trod enc Tryz.prog w 0 (fun _ => true) true fuel 81 cs = some x) (hs : Sized Tryz.prog 81 x.1) (hlt : ∀ z ∈ x.2, z.block < w.heap.size) :
  ∃ (y : Res) (B : Option Addr) (bc : Nat), cs = [.int .u64 (y.n : Int), .slice B y.b.length bc, .bool y.fl] ∧ ResP w y B bc := by
 obtain ⟨_, _, _, _, hcl, _, _⟩ := DataW.trod_struct Tryz.underlying81 hf
 obtain ⟨c0, c1, c2, rfl⟩ := cells_3 (hcl.trans (show Tryz.prog.cellsOf 81 = 3 by kernel_rfl))
 obtain ⟨y0, n0, g0, s0, l0⟩ := field_at Tryz.underlying81 hf 0 _ rfl 27 0 1 [c0] rfl rfl (by kernel_rfl) rfl hs hlt
 obtain ⟨y1, n1, g1, s1, l1⟩ := field_at Tryz.underlying81 hf 1 _ rfl 22 1 1 [c1] rfl rfl (by kernel_rfl) rfl hs hlt
 obtain ⟨y2, n2, g2, s2, l2⟩ := field_at Tryz.underlying81 hf 2 _ rfl 4 2 1 [c2] rfl rfl (by kernel_rfl) rfl hs hlt
 obtain ⟨v0, e0, b0⟩ := leaf_u64 Tryz.underlying27 g0
 obtain ⟨D, dl, dc, ds, e1, hl4, hr4, hat4⟩ := bytes_reach g1 s1 l1
 obtain ⟨v2, e2⟩ := leaf_bool Tryz.underlying4 g2
 obtain rfl : dl = ds.length := hat4.1.symm
 cases e0
 cases e1
 cases e2
 exact ⟨⟨v0, ds, v2⟩, D, dc, rfl, ⟨b0, ⟨hl4, hr4⟩, hat4⟩⟩
def logsIn (w : World) (a : Addr) (i : Nat) (y : Res) : Prop := ∃ (B : Option Addr) (bc : Nat), ResP w y B bc ∧ w.cell? ((a.add (i * 3)).add 0) = some (.int .u64 (y.n : Int)) ∧ w.cell? ((a.add (i * 3)).add 1) = some (.slice B y.b.length bc) ∧ w.cell? ((a.add (i * 3)).add 2) = some (.bool y.fl)
theorem logs_reach {fuel : Nat} {cs : List Value} {x : DataW H × List MemPlace} (hf : DataW.trod enc Tryz.prog w 0 (fun _ => true) true fuel 65 cs = some x) (hs : Sized Tryz.prog 65 x.1) (hlt : ∀ z ∈ x.2, z.block < w.heap.size) :
  ∃ a len cap l, cs = [.slice a len cap] ∧ len ≤ cap ∧ LogAt w a len l := by
 have h2 : Tryz.prog.cellsOf 81 = 3 := by kernel_rfl
 rcases open_slice Tryz.underlying65 hf with ⟨hcs, hx⟩ | ⟨a, len, cap, m, n, D, Pl, hcs, _, hl, hm, hmm, hx, hi⟩
 ·exact ⟨none, 0, 0, [], hcs, Nat.le_refl _, LogAt.nil _ _⟩
 ·subst hcs
  have hr := slice_reach Tryz.underlying65 hf hs (by rw [show Tryz.prog.bytesOf 81 = 40 by kernel_rfl]; decide)
  simp only [if_true] at hmm
  subst hmm
  subst hx
  rw [h2] at hi
  have hex : ∀ i, i < len → ∃ y : Res, logsIn w a i y := by
   intro i hil
   obtain ⟨cs', hc, ht⟩ := hi i (by omega)
   obtain ⟨y, B, bc, e, kp⟩ := logs_one ht (fun z hz => hs z (by
    simp only [DataW.weights, Tryz.underlying65]
    exact List.mem_cons_of_mem _ (List.mem_append_left _ (weightsAll_mem (List.mem_map.2 ⟨i, List.mem_range.2 hil, rfl⟩) hz)))) (fun z hz => hlt z (List.mem_append_right _ (List.mem_flatMap.2 ⟨i, List.mem_range.2 (by omega), hz⟩)))
   obtain ⟨_, _, hat⟩ := World.cells?_some hc
   subst e
   exact ⟨y, B, bc, kp, hat 0 (by decide), hat 1 (by decide), hat 2 (by decide)⟩
  obtain ⟨f, hf'⟩ := @choose_lt Res ⟨Res.zero⟩ len _ hex
  refine ⟨some a, len, _, (List.range len).map f, rfl, hl, by simp, hr, fun hp => ?_⟩
  obtain ⟨b, off, spot⟩ := a
  have hspot : spot = none := by
   obtain ⟨_, _, _, h0, _⟩ := hf' 0 hp
   have := World.cell?_spot h0
   simpa [Addr.add] using this
  subst hspot
  refine ⟨b, off, rfl, ?_, fun j y hy => ?_⟩
  ·obtain ⟨_, _, _, h0, _⟩ := hf' 0 hp
   have := World.block_lt_of_cell? w _ h0
   simpa [Addr.add] using this
  ·have hj : j < len := by have := (List.getElem?_eq_some_iff.1 hy).1; simpa using this
   rw [List.getElem?_map, List.getElem?_range hj] at hy
   simp only [Option.map_some, Option.some.injEq] at hy
   subst hy
   obtain ⟨B, bc, kp, k0, k1, k2⟩ := hf' j hj
   rw [Go.WideShapes.add_plain, Go.WideShapes.add_plain, Nat.add_zero] at k0
   rw [Go.WideShapes.add_plain, Go.WideShapes.add_plain] at k1
   rw [Go.WideShapes.add_plain, Go.WideShapes.add_plain] at k2
   exact ⟨B, bc, ⟨k0, k1, k2⟩, kp⟩
theorem leaf_logs {fuel : Nat} {cs : List Value} {x : DataW H × List MemPlace} (hf : DataW.trod enc Tryz.prog w 0 (fun _ => true) true fuel 65 cs = some x) (hs : Sized Tryz.prog 65 x.1) (hlt : ∀ z ∈ x.2, z.block < w.heap.size) :
  ∃ (a : Option Addr) (len cap : Nat) (l : List Res), cs = [.slice a len cap] ∧ (len ≤ cap ∧ LogAt w a len l) := logs_reach hf hs hlt
end
end Go.Proofs.YtibpfkcackdbgaaGreatDoor
