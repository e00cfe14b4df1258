/-
  Streams that come in as arguments, by value: bytes and a number.
-/
import Derived.Test.YtfggnmmiifjilaaBytes
import Derived.Deep.Fields
import Derived.ChangeSame
namespace Go.Proofs.Ytfggnmmiifjilaa
open Go.ChangeShapes Go.WideShapes Go.ChangeAt Go.RowKit Go.Deep
set_option linter.unusedVariables false

theorem wf_i64 {n : Int} (h : (Lit.int .i64 n).wf = true) : -9223372036854775808 ≤ n ∧ n < 9223372036854775808 := by
  have hmin : IntKind.i64.min = -9223372036854775808 := rfl
  have hmax : IntKind.i64.max = 9223372036854775807 := rfl
  simp only [Lit.wf, Bool.and_eq_true, decide_eq_true_eq, hmin, hmax] at h
  omega
section
variable {H : Type} {enc : TypeId × Value → H} {w : World}
/-- A slice of bytes as one cell of something that came in. -/
theorem bytes_cell {fuel : Nat} {cs : List Value} {x : DataW H × List MemPlace} (hf : DataW.trod enc Try.prog w 0 (fun _ => true) true fuel 27 cs = some x) (hlt : ∀ z ∈ x.2, z.block < w.heap.size) :
    ∃ a len cap xs, cs = [.slice a len cap] ∧ len ≤ cap ∧ AtB w a len xs := by
  rcases open_ints Try.underlying27 Try.underlying5 cells5 hf with ⟨hcs, hx⟩ | ⟨a, len, cap, zs, hcs, _, hl, hm, hz, hx, hcell, hwz⟩
  · exact ⟨none, 0, 0, [], hcs, Nat.le_refl _, AtB.nil _ _⟩
  · subst hx
    simp only [if_true] at hz
    refine ⟨some a, len, cap, (zs.take len).map Int.toNat, hcs, hl, by simp; omega, fun y hy => ?_, by unfold maxLen at hm; omega, fun hp => ?_⟩
    · obtain ⟨z, hzm, rfl⟩ := List.mem_map.1 hy
      have := wf_u8 (hwz z (List.mem_of_mem_take hzm))
      omega
    obtain ⟨b, off, rfl, hc⟩ := ints_at hcell (by omega)
    refine ⟨b, off, rfl, hlt (.cell b (off + 0)) (MemPlace.mem_row.2 ⟨0, by omega, rfl⟩), fun j hj => ?_⟩
    rw [hc j (by omega)]
    have hjz : j < zs.length := by omega
    have hw := wf_u8 (hwz zs[j] (List.getElem_mem _))
    have e : ((zs.take len).map Int.toNat).getD j 0 = zs[j].toNat := by
      rw [List.getD_eq_getElem?_getD, List.getElem?_map, List.getElem?_take, if_pos hj, List.getElem?_eq_getElem hjz]; rfl
    rw [e, List.getD_eq_getElem?_getD, List.getElem?_eq_getElem hjz]
    congr 2
    show zs[j] = _
    omega
theorem open_stm {W : World} {v : Value} {d : DataW H} {ps : List MemPlace} {b0 : Nat} (hval : Value.okWide Try.prog W .any b0 55 v) (h : DataW.Trod enc Try.prog W 0 (fun _ => true) true 55 v d ps) (hlt : ∀ x ∈ ps, x.block < W.heap.size) :
    ∃ (a : Option Addr) (len cap : Nat) (xs : List Nat) (s : Int), v = .agg #[.slice a len cap, .int .i64 s] ∧ len ≤ cap ∧ AtB W a len xs ∧ (-9223372036854775808 ≤ s ∧ s < 9223372036854775808) := by
  obtain ⟨cs, rfl, hsz⟩ := okWide_struct Try.underlying55 hval
  obtain ⟨fuel, hf⟩ := h
  obtain ⟨xs, n, _, hx, hlen, hxl, hg⟩ := DataW.trod_struct Try.underlying55 hf
  have hcs : (Value.agg cs).cells.toList = cs.toList := rfl
  rw [hcs] at hlen hg
  have h2 : cs.toList.length = 2 := hlen.trans (by kernel_rfl)
  have hx2 : xs.length = 2 := hxl
  have ho1 : Try.prog.cellsOf 27 = 1 := by kernel_rfl
  have ho2 : Try.prog.cellsOf 3 = 1 := by kernel_rfl
  have g0 : DataW.trod enc Try.prog W 0 (fun _ => true) true n 27 ((cs.toList.drop 0).take (Try.prog.cellsOf 27)) = xs[0]? := hg 0 _ rfl
  have g1 : DataW.trod enc Try.prog W 0 (fun _ => true) true n 3 ((cs.toList.drop 1).take (Try.prog.cellsOf 3)) = xs[1]? := hg 1 _ rfl
  have h0 : ∀ (j : Nat) (hj : j < cs.toList.length), (cs.toList.drop j).take 1 = [cs.toList[j]] := fun j hj => by rw [List.drop_eq_getElem_cons hj]; rfl
  rw [ho1] at g0
  rw [ho2] at g1
  rw [h0 0 (by omega), List.getElem?_eq_getElem (by omega)] at g0
  rw [h0 1 (by omega), List.getElem?_eq_getElem (by omega)] at g1
  simp only [Prod.mk.injEq] at hx
  obtain ⟨a, len, cap, ys, e0, hl, hat⟩ := bytes_cell g0 (fun z hz => hlt z (by rw [hx.2]; exact List.mem_flatMap.2 ⟨_, List.getElem_mem _, hz⟩))
  obtain ⟨s, e1, _, hw⟩ := DataW.trod_int Try.underlying3 g1
  refine ⟨a, len, cap, ys, s, ?_, hl, hat, wf_i64 hw⟩
  have e : cs.toList = [.slice a len cap, .int .i64 s] := by
    apply List.ext_getElem (by simp [h2])
    intro i h1 h2
    have hi : i = 0 ∨ i = 1 := by omega
    rcases hi with rfl | rfl
    · exact (List.cons.inj e0).1
    · exact (List.cons.inj e1).1
  rw [show cs = cs.toList.toArray by simp, e]
end
end Go.Proofs.Ytfggnmmiifjilaa
