/-
  Entries that come in as arguments: by value.
-/
import Derived.Test.YtioheffdolnciaaBytes
import Derived.Test.YtioheffdolnciaaEnt
import Derived.Deep.Fields
import Derived.ChangeSame
namespace Go.Proofs.Ytioheffdolnciaa
open Go.ChangeShapes Go.WideShapes Go.ChangeAt Go.RowKit Go.Deep
set_option linter.unusedVariables false

theorem wf_u64 {n : Int} (h : (Lit.int .u64 n).wf = true) : 0 ≤ n ∧ n < 18446744073709551616 := by
  have hmin : IntKind.u64.min = 0 := rfl
  have hmax : IntKind.u64.max = 18446744073709551615 := rfl
  simp only [Lit.wf, Bool.and_eq_true, decide_eq_true_eq, hmin, hmax] at h
  omega
theorem wf_i64 {n : Int} (h : (Lit.int .i64 n).wf = true) : -9223372036854775808 ≤ n ∧ n < 9223372036854775808 := by
  have hmin : IntKind.i64.min = -9223372036854775808 := rfl
  have hmax : IntKind.i64.max = 9223372036854775807 := rfl
  simp only [Lit.wf, Bool.and_eq_true, decide_eq_true_eq, hmin, hmax] at h
  omega
section
variable {H : Type} {enc : TypeId × Value → H} {w : World} {base : Nat} {spare : Nat → Bool} {held : Bool}
theorem one_int {fuel : Nat} {t : TypeId} {k : IntKind} {cs : List Value} {j : Nat} {y : Option (DataW H × List MemPlace)} (hk : Try.prog.underlying t = some (.int k)) (hc : Try.prog.cellsOf t = 1) (hj : j < cs.length) (hy : y.isSome = true)
    (h : DataW.trod enc Try.prog w base spare held fuel t ((cs.drop j).take (Try.prog.cellsOf t)) = y) : ∃ z, cs[j] = .int k z ∧ (Lit.int k z).wf = true := by
  obtain ⟨x, rfl⟩ := Option.isSome_iff_exists.1 hy
  rw [hc] at h
  obtain ⟨z, hz, _, hw⟩ := DataW.trod_int hk h
  refine ⟨z, ?_, hw⟩
  rw [List.drop_eq_getElem_cons hj, List.take_succ_cons, List.take_zero] at hz
  exact (List.cons.inj hz).1
/-- An entry's cells. -/
theorem ent_cells {fuel : Nat} {cs : List Value} {x : DataW H × List MemPlace} (h : DataW.trod enc Try.prog w base spare held fuel 24 cs = some x) :
    ∃ (k : Int) (s y u v z : Nat), cs = [.int .i64 k, .int .u64 (s : Int), .int .u64 (y : Int), .int .u64 (u : Int), .int .u64 (v : Int), .int .u64 (z : Int)] ∧ (-9223372036854775808 ≤ k ∧ k < 9223372036854775808) ∧ (Ent.mk k s y u v z).fit := by
  obtain ⟨xs, n, _, _, hlen, hxl, hg⟩ := DataW.trod_struct Try.underlying24 h
  have h6 : cs.length = 6 := hlen.trans (by kernel_rfl)
  have hx6 : xs.length = 6 := hxl
  have hone : Try.prog.cellsOf 3 = 1 := by kernel_rfl
  have hone2 : Try.prog.cellsOf 22 = 1 := by kernel_rfl
  have sm : ∀ j, j < 6 → (xs[j]?).isSome = true := fun j hj => by rw [List.getElem?_eq_getElem (by omega)]; rfl
  have g0 := hg 0 _ rfl
  have g1 := hg 1 _ rfl
  have g2 := hg 2 _ rfl
  have g3 := hg 3 _ rfl
  have g4 := hg 4 _ rfl
  have g5 := hg 5 _ rfl
  obtain ⟨k, e0, w0⟩ := one_int (j := 0) Try.underlying3 hone (by omega) (sm 0 (by omega)) g0
  obtain ⟨s, e1, w1⟩ := one_int (j := 1) Try.underlying22 hone2 (by omega) (sm 1 (by omega)) g1
  obtain ⟨y, e2, w2⟩ := one_int (j := 2) Try.underlying22 hone2 (by omega) (sm 2 (by omega)) g2
  obtain ⟨u, e3, w3⟩ := one_int (j := 3) Try.underlying22 hone2 (by omega) (sm 3 (by omega)) g3
  obtain ⟨v, e4, w4⟩ := one_int (j := 4) Try.underlying22 hone2 (by omega) (sm 4 (by omega)) g4
  obtain ⟨z, e5, w5⟩ := one_int (j := 5) Try.underlying22 hone2 (by omega) (sm 5 (by omega)) g5
  have b0 := wf_i64 w0
  have b1 := wf_u64 w1
  have b2 := wf_u64 w2
  have b3 := wf_u64 w3
  have b4 := wf_u64 w4
  have b5 := wf_u64 w5
  obtain ⟨s, rfl⟩ := Int.eq_ofNat_of_zero_le b1.1
  obtain ⟨y, rfl⟩ := Int.eq_ofNat_of_zero_le b2.1
  obtain ⟨u, rfl⟩ := Int.eq_ofNat_of_zero_le b3.1
  obtain ⟨v, rfl⟩ := Int.eq_ofNat_of_zero_le b4.1
  obtain ⟨z, rfl⟩ := Int.eq_ofNat_of_zero_le b5.1
  refine ⟨k, s, y, u, v, z, ?_, b0, by simp only [Ent.fit]; omega⟩
  apply List.ext_getElem (by simp [h6])
  intro i h1 h2
  have hi : i = 0 ∨ i = 1 ∨ i = 2 ∨ i = 3 ∨ i = 4 ∨ i = 5 := by omega
  rcases hi with rfl | rfl | rfl | rfl | rfl | rfl
  · exact e0
  · exact e1
  · exact e2
  · exact e3
  · exact e4
  · exact e5
theorem open_ent {W : World} {v : Value} {d : DataW H} {ps : List MemPlace} {b0 : Nat} (hval : Value.okWide Try.prog W .any b0 24 v) (h : DataW.Trod enc Try.prog W 0 (fun _ => true) true 24 v d ps) :
    ∃ (k : Int) (s y u v' z : Nat), v = .agg #[.int .i64 k, .int .u64 (s : Int), .int .u64 (y : Int), .int .u64 (u : Int), .int .u64 (v' : Int), .int .u64 (z : Int)] ∧ (-9223372036854775808 ≤ k ∧ k < 9223372036854775808) ∧ (Ent.mk k s y u v' z).fit := by
  obtain ⟨cs, rfl, hsz⟩ := okWide_struct Try.underlying24 hval
  obtain ⟨fuel, hf⟩ := h
  obtain ⟨k, s, y, u, v', z, e, hb, hfit⟩ := ent_cells hf
  refine ⟨k, s, y, u, v', z, ?_, hb, hfit⟩
  have : cs.toList = [.int .i64 k, .int .u64 (s : Int), .int .u64 (y : Int), .int .u64 (u : Int), .int .u64 (v' : Int), .int .u64 (z : Int)] := by simpa [Value.cells] using e
  rw [show cs = cs.toList.toArray by simp, this]
end
end Go.Proofs.Ytioheffdolnciaa
