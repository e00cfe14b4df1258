/- Fields -/
import Derived.Test.YtibpfkcackdbgaaGreatDoorRows
import Derived.WalkKit
import Derived.ProofKit
import Derived.Deep.Fields
import Derived.Deep.Slices
import Derived.OpenShut
import Derived.ChangeSame
namespace Go.Proofs.YtibpfkcackdbgaaGreatDoor
open Go.ChangeShapes Go.WideShapes Go.ChangeAt Go.RowKit Go.Deep
set_option linter.unusedVariables false
set_option maxRecDepth 100000
section
variable {H : Type} {enc : TypeId × Value → H} {w : World}
theorem weightsEach_mem {P : Program} {ts : List TypeId} {ds : List (DataW H)} {j : Nat} {t : TypeId} {d : DataW H} {z : Nat} (ht : ts[j]? = some t) (hd : ds[j]? = some d) (hz : z ∈ d.weights P t) : z ∈ DataW.weightsEach P ts ds := by
 induction ts generalizing ds j with
 | nil => simp at ht
 | cons a ts ih =>
  cases ds with
  | nil => simp at hd
  | cons b ds =>
   cases j with
   | zero =>
    simp at ht hd
    subst ht hd
    simp only [DataW.weightsEach]
    exact List.mem_append_left _ hz
   | succ j =>
    simp at ht hd
    simp only [DataW.weightsEach]
    exact List.mem_append_right _ (ih ht hd)
theorem weightsAll_mem {P : Program} {e : TypeId} {ds : List (DataW H)} {d : DataW H} {z : Nat} (hd : d ∈ ds) (hz : z ∈ d.weights P e) : z ∈ DataW.weightsAll P e ds := by
 induction ds with
 | nil => simp at hd
 | cons b ds ih =>
  simp only [DataW.weightsAll]
  rcases List.mem_cons.1 hd with rfl | hd
  ·exact List.mem_append_left _ hz
  ·exact List.mem_append_right _ (ih hd)
def Sized (P : Program) (t : TypeId) (d : DataW H) : Prop := ∀ z ∈ d.weights P t, z ≤ reachBytes
theorem field_at {P : Program} {t : TypeId} {fs : Array Field} {fuel : Nat} {cs : List Value} {x : DataW H × List MemPlace} (ht : P.underlying t = some (.struct fs)) (h : DataW.trod enc P w 0 (fun _ => true) true fuel t cs = some x) (i : Nat) (f : Field) (hi : fs[i]? = some f) (ft : TypeId) (off k : Nat) (L : List Value) (hft : f.type = ft) (hof : f.offset = off) (hk : P.cellsOf ft = k) (hL : (cs.drop off).take k = L) (hs : Sized P t x.1) (hlt : ∀ z ∈ x.2, z.block < w.heap.size) :
  ∃ y n, DataW.trod enc P w 0 (fun _ => true) true n ft L = some y ∧ Sized P ft y.1 ∧ ∀ z ∈ y.2, z.block < w.heap.size := by
 obtain ⟨xs, n, _, hx, _, hxl, hg⟩ := DataW.trod_struct ht h
 have hil : i < xs.length := by rw [hxl]; exact (Array.getElem?_eq_some_iff.1 hi).1
 have hgi := hg i f hi
 rw [List.getElem?_eq_getElem hil] at hgi
 subst hft hof hk hL
 subst hx
 refine ⟨xs[i], n, hgi, fun z hz => hs z ?_, fun z hz => hlt z (List.mem_flatMap.2 ⟨_, List.getElem_mem _, hz⟩)⟩
 simp only [DataW.weights, ht]
 exact weightsEach_mem (j := i) (t := f.type) (d := xs[i].1) (by simp [hi]) (by simp [hil]) hz
theorem elem_at {P : Program} {t e : TypeId} {k : Nat} {fuel : Nat} {cs : List Value} {x : DataW H × List MemPlace} (ht : P.underlying t = some (.array k e)) (h : DataW.trod enc P w 0 (fun _ => true) true fuel t cs = some x) (i : Nat) (hi : i < k) (q : Nat) (L : List Value) (hq : P.cellsOf e = q) (hL : (cs.drop (i * q)).take q = L) (hs : Sized P t x.1) (hlt : ∀ z ∈ x.2, z.block < w.heap.size) :
  ∃ y n, DataW.trod enc P w 0 (fun _ => true) true n e L = some y ∧ Sized P e y.1 ∧ ∀ z ∈ y.2, z.block < w.heap.size := by
 obtain ⟨xs, n, _, hx, _, hxl, hg⟩ := DataW.trod_array ht h
 have hil : i < xs.length := by omega
 have hgi := hg i hi
 rw [List.getElem?_eq_getElem hil] at hgi
 subst hq hL
 subst hx
 refine ⟨xs[i], n, hgi, fun z hz => hs z ?_, fun z hz => hlt z (List.mem_flatMap.2 ⟨_, List.getElem_mem _, hz⟩)⟩
 simp only [DataW.weights, ht]
 exact weightsAll_mem (List.mem_map.2 ⟨_, List.getElem_mem _, rfl⟩) hz
theorem slice_reach {P : Program} {t e : TypeId} {fuel : Nat} {a : Option Addr} {len cap : Nat} {x : DataW H × List MemPlace} (ht : P.underlying t = some (.slice e)) (h : DataW.trod enc P w 0 (fun _ => true) true fuel t [.slice a len cap] = some x) (hs : Sized P t x.1) (hb : 1 ≤ P.bytesOf e) : len ≤ 140737488355328 := by
 rcases open_slice ht h with ⟨hcs, _⟩ | ⟨a', len', cap', m, n, D, Pl, hcs, _, hl, hm, hmm, hx, hi⟩
 ·simp at hcs; omega
 ·simp only [List.cons.injEq, Value.slice.injEq, and_true] at hcs
  obtain ⟨_, rfl, rfl⟩ := hcs
  have h1 := hs ((((List.range len).map D).length + ((List.range (m - len)).map fun j => D (len + j)).length) * P.bytesOf e) (by rw [hx]; simp only [DataW.weights, ht]; exact List.mem_cons_self)
  simp only [List.length_map, List.length_range] at h1
  have h2 : len * 1 ≤ (len + (m - len)) * P.bytesOf e := Nat.mul_le_mul (by omega) hb
  unfold reachBytes at h1
  omega
theorem sized_of {P : Program} {ts : List TypeId} {ds : List (DataW H)} (h : (DataW.weightsEach P ts ds).all (· ≤ reachBytes) = true) {j : Nat} {t : TypeId} {d : DataW H} (ht : ts[j]? = some t) (hd : ds[j]? = some d) : Sized P t d := fun z hz => by
 rw [List.all_eq_true] at h
 simpa using h z (weightsEach_mem ht hd hz)
theorem list_agg {cs : Array Value} {L : List Value} (h : cs.toList = L) : Value.agg cs = .agg L.toArray := by rw [← h]
theorem leaf_u8 {P : Program} {t : TypeId} {fuel : Nat} {cs : List Value} {x : DataW H × List MemPlace} (ht : P.underlying t = some (.int .u8)) (hf : DataW.trod enc P w 0 (fun _ => true) true fuel t cs = some x) : ∃ k : Nat, cs = [.int .u8 (k : Int)] ∧ k < 256 := by
 obtain ⟨s, e, _, hw⟩ := DataW.trod_int ht hf
 have := bounds_u8 hw
 obtain ⟨q, rfl⟩ := Int.eq_ofNat_of_zero_le this.1
 exact ⟨q, e, by omega⟩
theorem leaf_u64 {P : Program} {t : TypeId} {fuel : Nat} {cs : List Value} {x : DataW H × List MemPlace} (ht : P.underlying t = some (.int .u64)) (hf : DataW.trod enc P w 0 (fun _ => true) true fuel t cs = some x) : ∃ k : Nat, cs = [.int .u64 (k : Int)] ∧ k < 18446744073709551616 := by
 obtain ⟨s, e, _, hw⟩ := DataW.trod_int ht hf
 have := bounds_u64 hw
 obtain ⟨q, rfl⟩ := Int.eq_ofNat_of_zero_le this.1
 exact ⟨q, e, by omega⟩
theorem leaf_i64 {P : Program} {t : TypeId} {fuel : Nat} {cs : List Value} {x : DataW H × List MemPlace} (ht : P.underlying t = some (.int .i64)) (hf : DataW.trod enc P w 0 (fun _ => true) true fuel t cs = some x) : ∃ s : Int, cs = [.int .i64 s] ∧ (-9223372036854775808 ≤ s ∧ s < 9223372036854775808) := by
 obtain ⟨s, e, _, hw⟩ := DataW.trod_int ht hf
 have := bounds_i64 hw
 exact ⟨s, e, by omega⟩
theorem cells_of {α : Type} {l : List α} {n : Nat} (h : l.length = n) (d : α) : l = (List.range n).map (fun i => l.getD i d) := by
 subst h
 apply List.ext_getElem?
 intro i
 by_cases hi : i < l.length
 ·rw [List.getElem?_map, List.getElem?_range hi, List.getElem?_eq_getElem hi]
  simp [List.getD, List.getElem?_eq_getElem hi]
 ·rw [List.getElem?_eq_none (by omega), List.getElem?_eq_none (by simp; omega)]
end
end Go.Proofs.YtibpfkcackdbgaaGreatDoor
