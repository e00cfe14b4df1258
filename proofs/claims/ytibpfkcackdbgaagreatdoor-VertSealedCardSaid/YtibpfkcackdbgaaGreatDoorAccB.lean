/- AccB -/
import Derived.Test.YtibpfkcackdbgaaGreatDoorFields
import Derived.Test.YtibpfkcackdbgaaGreatDoorDisks
import Derived.Test.YtibpfkcackdbgaaGreatDoorWds
namespace Go.Proofs.YtibpfkcackdbgaaGreatDoor
open Go.ChangeShapes Go.WideShapes Go.ChangeAt Go.RowKit Go.Deep
set_option linter.unusedVariables false
set_option maxRecDepth 100000
theorem wf_i64 {n : Int} (h : (Lit.int .i64 n).wf = true) : -9223372036854775808 ≤ n ∧ n < 9223372036854775808 := by
 have hmin : IntKind.i64.min = -9223372036854775808 := rfl
 have hmax : IntKind.i64.max = 9223372036854775807 := rfl
 simp only [Lit.wf, Bool.and_eq_true, decide_eq_true_eq, hmin, hmax] at h
 omega
section
variable {H : Type} {enc : TypeId × Value → H} {w : World}
theorem bytes_cell {fuel : Nat} {cs : List Value} {x : DataW H × List MemPlace} (hf : DataW.trod enc Tryz.prog w 0 (fun _ => true) true fuel 22 cs = some x) (hlt : ∀ z ∈ x.2, z.block < w.heap.size) :
  ∃ a len cap xs, cs = [.slice a len cap] ∧ len ≤ cap ∧ AtB w a len xs := by
 rcases open_ints Tryz.underlying22 Tryz.underlying5 cells5 hf with ⟨hcs, hx⟩ | ⟨a, len, cap, zs, hcs, _, hl, hm, hz, hx, hcell, hwz⟩
 ·exact ⟨none, 0, 0, [], hcs, Nat.le_refl _, AtB.nil _ _⟩
 ·subst hx
  simp only [if_true] at hz
  refine ⟨some a, len, cap, (zs.take len).map Int.toNat, hcs, hl, by simp; omega, fun y hy => ?_, by unfold maxLen at hm; omega, fun hp => ?_⟩
  ·obtain ⟨z, hzm, rfl⟩ := List.mem_map.1 hy
   have := wf_u8 (hwz z (List.mem_of_mem_take hzm))
   omega
  obtain ⟨b, off, rfl, hc⟩ := ints_at hcell (by omega)
  refine ⟨b, off, rfl, hlt (.cell b (off + 0)) (MemPlace.mem_row.2 ⟨0, by omega, rfl⟩), fun j hj => ?_⟩
  rw [hc j (by omega)]
  have hjz : j < zs.length := by omega
  have hw := wf_u8 (hwz zs[j] (List.getElem_mem _))
  have e : ((zs.take len).map Int.toNat).getD j 0 = zs[j].toNat := by
   rw [List.getD_eq_getElem?_getD, List.getElem?_map, List.getElem?_take, if_pos hj, List.getElem?_eq_getElem hjz]; rfl
  rw [e, List.getD_eq_getElem?_getD, List.getElem?_eq_getElem hjz]
  congr 2
  show zs[j] = _
  omega
theorem bytes_reach {fuel : Nat} {cs : List Value} {x : DataW H × List MemPlace} (hf : DataW.trod enc Tryz.prog w 0 (fun _ => true) true fuel 22 cs = some x) (hs : Sized Tryz.prog 22 x.1) (hlt : ∀ z ∈ x.2, z.block < w.heap.size) :
  ∃ a len cap xs, cs = [.slice a len cap] ∧ len ≤ cap ∧ len ≤ 140737488355328 ∧ AtB w a len xs := by
 obtain ⟨a, len, cap, xs, rfl, hc, hat⟩ := bytes_cell hf hlt
 exact ⟨a, len, cap, xs, rfl, hc, slice_reach Tryz.underlying22 hf hs (by rw [show Tryz.prog.bytesOf 5 = 1 by kernel_rfl]; exact Nat.le_refl _), hat⟩
theorem two_cells {α : Type} {l : List α} (h : l.length = 2) : ∃ a b, l = [a, b] := by
 match l, h with
 | [a, b], _ => exact ⟨a, b, rfl⟩
theorem stm_reach {fuel : Nat} {cs : List Value} {x : DataW H × List MemPlace} (hf : DataW.trod enc Tryz.prog w 0 (fun _ => true) true fuel 93 cs = some x) (hs : Sized Tryz.prog 93 x.1) (hlt : ∀ z ∈ x.2, z.block < w.heap.size) :
  ∃ (y : Stm) (a : Option Addr) (cap : Nat), cs = [.slice a y.bytes.length cap, .int .i64 y.synced] ∧ y.bytes.length ≤ cap ∧ y.bytes.length ≤ 140737488355328 ∧ AtB w a y.bytes.length y.bytes ∧ (-9223372036854775808 ≤ y.synced ∧ y.synced < 9223372036854775808) := by
 obtain ⟨_, _, _, _, hcl, _, _⟩ := DataW.trod_struct Tryz.underlying93 hf
 obtain ⟨c0, c1, rfl⟩ := two_cells (hcl.trans (show Tryz.prog.cellsOf 93 = 2 by kernel_rfl))
 obtain ⟨y0, n0, g0, s0, l0⟩ := field_at Tryz.underlying93 hf 0 _ rfl 22 0 1 [c0] rfl rfl (by kernel_rfl) rfl hs hlt
 obtain ⟨y1, n1, g1, s1, l1⟩ := field_at Tryz.underlying93 hf 1 _ rfl 3 1 1 [c1] rfl rfl (by kernel_rfl) rfl hs hlt
 obtain ⟨a, len, cap, ys, e0, hl, hr, hat⟩ := bytes_reach g0 s0 l0
 obtain ⟨s, e1, _, hw⟩ := DataW.trod_int Tryz.underlying3 g1
 obtain rfl : len = ys.length := hat.1.symm
 cases e0
 cases e1
 exact ⟨⟨ys, s⟩, a, cap, rfl, hl, hr, hat, wf_i64 hw⟩
def StmIn (w : World) (a : Addr) (i : Nat) (y : Stm) (A : Option Addr) (c : Nat) : Prop :=
 w.cell? ((a.add (i * 2)).add 0) = some (.slice A y.bytes.length c) ∧ w.cell? ((a.add (i * 2)).add 1) = some (.int .i64 y.synced) ∧ y.bytes.length ≤ c ∧ y.bytes.length ≤ 140737488355328 ∧ AtB w A y.bytes.length y.bytes ∧ (-9223372036854775808 ≤ y.synced ∧ y.synced < 9223372036854775808)
theorem stms_reach {fuel : Nat} {cs : List Value} {x : DataW H × List MemPlace} (hf : DataW.trod enc Tryz.prog w 0 (fun _ => true) true fuel 28 cs = some x) (hs : Sized Tryz.prog 28 x.1) (hlt : ∀ z ∈ x.2, z.block < w.heap.size) :
  ∃ a len cap l, cs = [.slice a len cap] ∧ len ≤ cap ∧ StmsAt w a len l := by
 have h2 : Tryz.prog.cellsOf 93 = 2 := by kernel_rfl
 rcases open_slice Tryz.underlying28 hf with ⟨hcs, hx⟩ | ⟨a, len, cap, m, n, D, Pl, hcs, _, hl, hm, hmm, hx, hi⟩
 ·exact ⟨none, 0, 0, [], hcs, Nat.le_refl _, StmsAt.nil _ _⟩
 ·subst hcs
  have hr := slice_reach Tryz.underlying28 hf hs (by rw [show Tryz.prog.bytesOf 93 = 32 by kernel_rfl]; decide)
  simp only [if_true] at hmm
  subst hmm
  subst hx
  rw [h2] at hi
  have hex : ∀ i, i < len → ∃ y : Stm, ∃ (A : Option Addr) (c : Nat), StmIn w a i y A c := by
   intro i hil
   obtain ⟨cs', hc, ht⟩ := hi i (by omega)
   obtain ⟨y, A, c, e, k1, k2, k3, k4⟩ := stm_reach ht (fun z hz => hs z (by
    simp only [DataW.weights, Tryz.underlying28]
    exact List.mem_cons_of_mem _ (List.mem_append_left _ (weightsAll_mem (List.mem_map.2 ⟨i, List.mem_range.2 hil, rfl⟩) hz)))) (fun z hz => hlt z (List.mem_append_right _ (List.mem_flatMap.2 ⟨i, List.mem_range.2 (by omega), hz⟩)))
   obtain ⟨_, _, hat⟩ := World.cells?_some hc
   subst e
   exact ⟨y, A, c, hat 0 (by decide), hat 1 (by decide), k1, k2, k3, k4⟩
  obtain ⟨f, hf'⟩ := @choose_lt Stm ⟨Stm.zero⟩ len _ hex
  refine ⟨some a, len, _, (List.range len).map f, rfl, hl, by simp, hr, fun hp => ?_⟩
  obtain ⟨b, off, spot⟩ := a
  have hspot : spot = none := by
   obtain ⟨A, c, h0, _⟩ := hf' 0 hp
   have := World.cell?_spot h0
   simpa [Addr.add] using this
  subst hspot
  refine ⟨b, off, rfl, ?_, fun j y hy => ?_⟩
  ·obtain ⟨A, c, h0, _⟩ := hf' 0 hp
   have := World.block_lt_of_cell? w _ h0
   simpa [Addr.add] using this
  ·have hj : j < len := by have := (List.getElem?_eq_some_iff.1 hy).1; simpa using this
   rw [List.getElem?_map, List.getElem?_range hj] at hy
   simp only [Option.map_some, Option.some.injEq] at hy
   subst hy
   obtain ⟨A, c, k0, k1, k2, k3, k4, k5⟩ := hf' j hj
   rw [Go.WideShapes.add_plain, Go.WideShapes.add_plain, Nat.add_zero] at k0
   rw [Go.WideShapes.add_plain, Go.WideShapes.add_plain] at k1
   exact ⟨A, c, k0, k2, k3, k4, k1, k5⟩
theorem leaf_streams {fuel : Nat} {cs : List Value} {x : DataW H × List MemPlace} (hf : DataW.trod enc Tryz.prog w 0 (fun _ => true) true fuel 28 cs = some x) (hs : Sized Tryz.prog 28 x.1) (hlt : ∀ z ∈ x.2, z.block < w.heap.size) :
  ∃ (a : Option Addr) (len cap : Nat) (l : List Stm), cs = [.slice a len cap] ∧ (len ≤ cap ∧ StmsAt w a len l) := stms_reach hf hs hlt
end
end Go.Proofs.YtibpfkcackdbgaaGreatDoor
