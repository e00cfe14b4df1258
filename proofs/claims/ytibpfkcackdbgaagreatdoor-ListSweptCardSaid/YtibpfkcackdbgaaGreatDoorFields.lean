/- Fields -/
import Derived.Test.YtibpfkcackdbgaaGreatDoorRows
import Derived.WalkKit
import Derived.ProofKit
import Derived.Deep.Fields
import Derived.Deep.Slices
import Derived.OpenShut
import Derived.ChangeSame
namespace Go.Proofs.YtibpfkcackdbgaaGreatDoor
open Go.ChangeShapes Go.WideShapes Go.ChangeAt Go.RowKit Go.Deep
set_option linter.unusedVariables false
set_option maxRecDepth 100000
section
variable {H : Type} {enc : TypeId × Value → H} {w : World}
theorem weightsEach_mem {P : Program} {ts : List TypeId} {ds : List (DataW H)} {j : Nat} {t : TypeId} {d : DataW H} {z : Nat} (ht : ts[j]? = some t) (hd : ds[j]? = some d) (hz : z ∈ d.weights P t) : z ∈ DataW.weightsEach P ts ds := by
 induction ts generalizing ds j with
 | nil => simp at ht
 | cons a ts ih =>
  cases ds with
  | nil => simp at hd
  | cons b ds =>
   cases j with
   | zero =>
    simp at ht hd
    subst ht hd
    simp only [DataW.weightsEach]
    exact List.mem_append_left _ hz
   | succ j =>
    simp at ht hd
    simp only [DataW.weightsEach]
    exact List.mem_append_right _ (ih ht hd)
def Sized (P : Program) (t : TypeId) (d : DataW H) : Prop := ∀ z ∈ d.weights P t, z ≤ reachBytes
theorem slice_reach {P : Program} {t e : TypeId} {fuel : Nat} {a : Option Addr} {len cap : Nat} {x : DataW H × List MemPlace} (ht : P.underlying t = some (.slice e)) (h : DataW.trod enc P w 0 (fun _ => true) true fuel t [.slice a len cap] = some x) (hs : Sized P t x.1) (hb : 1 ≤ P.bytesOf e) : len ≤ 140737488355328 := by
 rcases open_slice ht h with ⟨hcs, _⟩ | ⟨a', len', cap', m, n, D, Pl, hcs, _, hl, hm, hmm, hx, hi⟩
 ·simp at hcs; omega
 ·simp only [List.cons.injEq, Value.slice.injEq, and_true] at hcs
  obtain ⟨_, rfl, rfl⟩ := hcs
  have h1 := hs ((((List.range len).map D).length + ((List.range (m - len)).map fun j => D (len + j)).length) * P.bytesOf e) (by rw [hx]; simp only [DataW.weights, ht]; exact List.mem_cons_self)
  simp only [List.length_map, List.length_range] at h1
  have h2 : len * 1 ≤ (len + (m - len)) * P.bytesOf e := Nat.mul_le_mul (by omega) hb
  unfold reachBytes at h1
  omega
theorem sized_of {P : Program} {ts : List TypeId} {ds : List (DataW H)} (h : (DataW.weightsEach P ts ds).all (· ≤ reachBytes) = true) {j : Nat} {t : TypeId} {d : DataW H} (ht : ts[j]? = some t) (hd : ds[j]? = some d) : Sized P t d := fun z hz => by
 rw [List.all_eq_true] at h
 simpa using h z (weightsEach_mem ht hd hz)
theorem leaf_u8 {P : Program} {t : TypeId} {fuel : Nat} {cs : List Value} {x : DataW H × List MemPlace} (ht : P.underlying t = some (.int .u8)) (hf : DataW.trod enc P w 0 (fun _ => true) true fuel t cs = some x) : ∃ k : Nat, cs = [.int .u8 (k : Int)] ∧ k < 256 := by
 obtain ⟨s, e, _, hw⟩ := DataW.trod_int ht hf
 have := bounds_u8 hw
 obtain ⟨q, rfl⟩ := Int.eq_ofNat_of_zero_le this.1
 exact ⟨q, e, by omega⟩
end
end Go.Proofs.YtibpfkcackdbgaaGreatDoor
