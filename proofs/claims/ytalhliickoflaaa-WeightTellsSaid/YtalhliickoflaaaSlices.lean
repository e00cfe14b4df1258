/-
  Rows of floats' bits that come in as slices: how they read, that they stay, and the contracts of the greatest one over them, nil and empty ones among them.
-/
import Derived.Test.YtalhliickoflaaaShown
import Derived.Test.YtalhliickoflaaaLaw
import Derived.ChangeSlices
namespace Go.Proofs.Ytalhliickoflaaa
open Go.ChangeShapes Go.WideShapes Go.ChangeAt Go.RowKit
set_option linter.unusedVariables false

/-- A slice that reads as a row of numbers of 64 bits. -/
def At (w : World) (a : Option Addr) (len : Nat) (zs : List Int) : Prop :=
  len ≤ zs.length ∧ (∀ y ∈ zs, 0 ≤ y ∧ y < 18446744073709551616) ∧ len ≤ 9223372036854775807 ∧
  (0 < len → ∃ b off, a = some ⟨b, off, none⟩ ∧ b < w.heap.size ∧ ∀ j, j < zs.length → w.cell? ⟨b, off + j, none⟩ = some (.int .u64 (zs.getD j 0)))

theorem At.below {w w' : World} {a : Option Addr} {len : Nat} {zs : List Int} (h : At w a len zs) (hb : Below w.heap.size w w') : At w' a len zs := by
  obtain ⟨h1, h2, h3, h4⟩ := h
  refine ⟨h1, h2, h3, fun hp => ?_⟩
  obtain ⟨b, off, e, hlt, hc⟩ := h4 hp
  exact ⟨b, off, e, Nat.lt_of_lt_of_le hlt hb.size, fun j hj => (hb.cell (p := ⟨b, off + j, none⟩) hlt).trans (hc j hj)⟩

theorem greatest_at (a : Option Addr) (len cap : Nat) (zs : List Int) (w : World) (h : At w a len zs) :
    Calls Try.prog 12 #[.slice a len cap] w fun e w' => e = .returned (.tuple #[.int .u64 (greI (zs.take len)), .bool (decide (0 < len))]) ∧ w = w' := by
  obtain ⟨h1, h2, h3, h4⟩ := h
  by_cases hp : 0 < len
  · obtain ⟨b, off, rfl, _, hc⟩ := h4 hp
    exact greatest_any b off len cap zs w h1 h3 h2 hc
  · obtain rfl : len = 0 := by omega
    exact greatest_empty a cap w

theorem refGreatest_at (a : Option Addr) (len cap : Nat) (zs : List Int) (w : World) (h : At w a len zs) :
    Calls Try.prog 13 #[.slice a len cap] w fun e w' => e = .returned (.tuple #[.int .u64 (greI (zs.take len)), .bool (decide (0 < len))]) ∧ w = w' := by
  obtain ⟨h1, h2, h3, h4⟩ := h
  by_cases hp : 0 < len
  · obtain ⟨b, off, rfl, _, hc⟩ := h4 hp
    have e : decide (0 < len) = true := by simpa using hp
    rw [e]
    exact refGreatest_any b off len cap zs w h1 h3 hp h2 hc
  · obtain rfl : len = 0 := by omega
    exact refGreatest_empty a cap w

theorem cells22 : Try.prog.cellsOf 22 = 1 := by kernel_rfl

theorem wf_u64 {n : Int} (h : (Lit.int .u64 n).wf = true) : 0 ≤ n ∧ n < 18446744073709551616 := by
  have hmin : IntKind.u64.min = 0 := rfl
  have hmax : IntKind.u64.max = 18446744073709551615 := rfl
  simp only [Lit.wf, Bool.and_eq_true, decide_eq_true_eq, hmin, hmax] at h
  omega

theorem open_at {H : Type} {enc : TypeId × Value → H} {W : World} {base : Nat} {v : Value} {d : DataW H} {ps : List MemPlace} (hval : Value.okWide Try.prog W .any base 23 v)
    (h : DataW.Trod enc Try.prog W 0 (fun _ => true) true 23 v d ps) (hlt : ∀ x ∈ ps, x.block < W.heap.size) :
    ∃ a len cap zs, v = .slice a len cap ∧ At W a len zs := by
  obtain ⟨a0, len, cap, rfl⟩ := okWide_slice Try.underlying23 hval
  obtain ⟨fuel, hf⟩ := h
  rcases open_ints Try.underlying23 Try.underlying22 cells22 hf with ⟨hcs, hx⟩ | ⟨a, len', cap', zs, hcs, _, hl, hm, hz, hx, hcell, hwz⟩
  · simp [Value.cells] at hcs
    obtain ⟨rfl, rfl, rfl⟩ := hcs
    exact ⟨none, 0, 0, [], rfl, Nat.le_refl _, fun y hy => by simp at hy, by omega, fun h => by omega⟩
  · simp [Value.cells] at hcs
    obtain ⟨rfl, rfl, rfl⟩ := hcs
    simp only [Prod.mk.injEq] at hx
    obtain ⟨rfl, rfl⟩ := hx
    simp only [if_true] at hz
    refine ⟨some a, len, cap, zs, rfl, by omega, fun y hy => wf_u64 (hwz y hy), by unfold maxLen at hm; omega, fun hp => ?_⟩
    obtain ⟨b, off, rfl, hc⟩ := ints_at hcell (by omega)
    refine ⟨b, off, rfl, ?_, hc⟩
    exact hlt (.cell b (off + 0)) (MemPlace.mem_row.2 ⟨0, by omega, rfl⟩)

end Go.Proofs.Ytalhliickoflaaa
