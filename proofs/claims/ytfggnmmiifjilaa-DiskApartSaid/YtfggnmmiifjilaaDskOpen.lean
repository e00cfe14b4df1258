/-
  Disks that come in, by value, alone and in a struct: and that what comes in is not larger than memory.
-/
import Derived.Test.YtfggnmmiifjilaaStrmOpen
import Derived.Test.YtfggnmmiifjilaaDskCrash
import Derived.Deep.Slices
import Derived.OpenShut
namespace Go.Proofs.Ytfggnmmiifjilaa
open Go.ChangeShapes Go.WideShapes Go.ChangeAt Go.RowKit Go.Deep
set_option linter.unusedVariables false

section
variable {H : Type} {enc : TypeId × Value → H} {w : World}
theorem weightsEach_mem {P : Program} {ts : List TypeId} {ds : List (DataW H)} {j : Nat} {t : TypeId} {d : DataW H} {z : Nat} (ht : ts[j]? = some t) (hd : ds[j]? = some d) (hz : z ∈ d.weights P t) : z ∈ DataW.weightsEach P ts ds := by
  induction ts generalizing ds j with
  | nil => simp at ht
  | cons a ts ih =>
    cases ds with
    | nil => simp at hd
    | cons b ds =>
      cases j with
      | zero =>
        simp at ht hd
        subst ht hd
        simp only [DataW.weightsEach]
        exact List.mem_append_left _ hz
      | succ j =>
        simp at ht hd
        simp only [DataW.weightsEach]
        exact List.mem_append_right _ (ih ht hd)
theorem weightsAll_mem {P : Program} {e : TypeId} {ds : List (DataW H)} {d : DataW H} {z : Nat} (hd : d ∈ ds) (hz : z ∈ d.weights P e) : z ∈ DataW.weightsAll P e ds := by
  induction ds with
  | nil => simp at hd
  | cons b ds ih =>
    simp only [DataW.weightsAll]
    rcases List.mem_cons.1 hd with rfl | hd
    · exact List.mem_append_left _ hz
    · exact List.mem_append_right _ (ih hd)
/-- What one weighs is within reach. -/
def Sized (P : Program) (t : TypeId) (d : DataW H) : Prop := ∀ z ∈ d.weights P t, z ≤ reachBytes
theorem field_at {P : Program} {t : TypeId} {fs : Array Field} {fuel : Nat} {cs : List Value} {x : DataW H × List MemPlace} (ht : P.underlying t = some (.struct fs)) (h : DataW.trod enc P w 0 (fun _ => true) true fuel t cs = some x) (i : Nat) (f : Field) (hi : fs[i]? = some f) (ft : TypeId) (off k : Nat) (L : List Value) (hft : f.type = ft) (hof : f.offset = off) (hk : P.cellsOf ft = k) (hL : (cs.drop off).take k = L) (hs : Sized P t x.1) (hlt : ∀ z ∈ x.2, z.block < w.heap.size) :
    ∃ y n, DataW.trod enc P w 0 (fun _ => true) true n ft L = some y ∧ Sized P ft y.1 ∧ ∀ z ∈ y.2, z.block < w.heap.size := by
  obtain ⟨xs, n, _, hx, _, hxl, hg⟩ := DataW.trod_struct ht h
  have hil : i < xs.length := by rw [hxl]; exact (Array.getElem?_eq_some_iff.1 hi).1
  have hgi := hg i f hi
  rw [List.getElem?_eq_getElem hil] at hgi
  subst hft hof hk hL
  subst hx
  refine ⟨xs[i], n, hgi, fun z hz => hs z ?_, fun z hz => hlt z (List.mem_flatMap.2 ⟨_, List.getElem_mem _, hz⟩)⟩
  simp only [DataW.weights, ht]
  exact weightsEach_mem (j := i) (t := f.type) (d := xs[i].1) (by simp [hi]) (by simp [hil]) hz
theorem elem_at {P : Program} {t e : TypeId} {k : Nat} {fuel : Nat} {cs : List Value} {x : DataW H × List MemPlace} (ht : P.underlying t = some (.array k e)) (h : DataW.trod enc P w 0 (fun _ => true) true fuel t cs = some x) (i : Nat) (hi : i < k) (q : Nat) (L : List Value) (hq : P.cellsOf e = q) (hL : (cs.drop (i * q)).take q = L) (hs : Sized P t x.1) (hlt : ∀ z ∈ x.2, z.block < w.heap.size) :
    ∃ y n, DataW.trod enc P w 0 (fun _ => true) true n e L = some y ∧ Sized P e y.1 ∧ ∀ z ∈ y.2, z.block < w.heap.size := by
  obtain ⟨xs, n, _, hx, _, hxl, hg⟩ := DataW.trod_array ht h
  have hil : i < xs.length := by omega
  have hgi := hg i hi
  rw [List.getElem?_eq_getElem hil] at hgi
  subst hq hL
  subst hx
  refine ⟨xs[i], n, hgi, fun z hz => hs z ?_, fun z hz => hlt z (List.mem_flatMap.2 ⟨_, List.getElem_mem _, hz⟩)⟩
  simp only [DataW.weights, ht]
  exact weightsAll_mem (List.mem_map.2 ⟨_, List.getElem_mem _, rfl⟩) hz
/-- How long a slice may be. -/
theorem slice_reach {P : Program} {t e : TypeId} {fuel : Nat} {a : Option Addr} {len cap : Nat} {x : DataW H × List MemPlace} (ht : P.underlying t = some (.slice e)) (h : DataW.trod enc P w 0 (fun _ => true) true fuel t [.slice a len cap] = some x) (hs : Sized P t x.1) (hb : 1 ≤ P.bytesOf e) : len ≤ 140737488355328 := by
  rcases open_slice ht h with ⟨hcs, _⟩ | ⟨a', len', cap', m, n, D, Pl, hcs, _, hl, hm, hmm, hx, hi⟩
  · simp at hcs; omega
  · simp only [List.cons.injEq, Value.slice.injEq, and_true] at hcs
    obtain ⟨_, rfl, rfl⟩ := hcs
    have h1 := hs ((((List.range len).map D).length + ((List.range (m - len)).map fun j => D (len + j)).length) * P.bytesOf e) (by rw [hx]; simp only [DataW.weights, ht]; exact List.mem_cons_self)
    simp only [List.length_map, List.length_range] at h1
    have h2 : len * 1 ≤ (len + (m - len)) * P.bytesOf e := Nat.mul_le_mul (by omega) hb
    unfold reachBytes at h1
    omega
theorem bytes_reach {fuel : Nat} {cs : List Value} {x : DataW H × List MemPlace} (hf : DataW.trod enc Try.prog w 0 (fun _ => true) true fuel 27 cs = some x) (hs : Sized Try.prog 27 x.1) (hlt : ∀ z ∈ x.2, z.block < w.heap.size) :
    ∃ a len cap xs, cs = [.slice a len cap] ∧ len ≤ cap ∧ len ≤ 140737488355328 ∧ AtB w a len xs := by
  obtain ⟨a, len, cap, xs, rfl, hc, hat⟩ := bytes_cell hf hlt
  exact ⟨a, len, cap, xs, rfl, hc, slice_reach Try.underlying27 hf hs (by rw [show Try.prog.bytesOf 5 = 1 by kernel_rfl]; exact Nat.le_refl _), hat⟩
theorem cellsI : Try.prog.cellsOf 3 = 1 := by kernel_rfl
theorem ints_reach {fuel : Nat} {cs : List Value} {x : DataW H × List MemPlace} (hf : DataW.trod enc Try.prog w 0 (fun _ => true) true fuel 28 cs = some x) (hs : Sized Try.prog 28 x.1) (hlt : ∀ z ∈ x.2, z.block < w.heap.size) :
    ∃ a len cap f, cs = [.slice a len cap] ∧ len ≤ cap ∧ AtI w a len f := by
  rcases open_ints Try.underlying28 Try.underlying3 cellsI hf with ⟨hcs, hx⟩ | ⟨a, len, cap, zs, hcs, _, hl, hm, hz, hx, hcell, hwz⟩
  · exact ⟨none, 0, 0, fun _ => 0, hcs, Nat.le_refl _, AtI.nil _ _ _⟩
  · subst hcs
    have hr := slice_reach Try.underlying28 hf hs (by rw [show Try.prog.bytesOf 3 = 8 by kernel_rfl]; decide)
    subst hx
    simp only [if_true] at hz
    refine ⟨some a, len, cap, fun j => zs.getD j 0, rfl, hl, hr, fun j hj => ?_, fun hp => ?_⟩
    · have hjz : j < zs.length := by omega
      show -9223372036854775808 ≤ zs.getD j 0 ∧ zs.getD j 0 < 9223372036854775808
      rw [List.getD_eq_getElem?_getD, List.getElem?_eq_getElem hjz]
      exact wf_i64 (hwz zs[j] (List.getElem_mem _))
    · obtain ⟨b, off, rfl, hc⟩ := ints_at hcell (by omega)
      refine ⟨b, off, rfl, hlt (.cell b (off + 0)) (MemPlace.mem_row.2 ⟨0, by omega, rfl⟩), fun j hj => ?_⟩
      rw [hc j (by omega)]
theorem two_cells {α : Type} {l : List α} (h : l.length = 2) : ∃ a b, l = [a, b] := by
  match l, h with
  | [a, b], _ => exact ⟨a, b, rfl⟩
theorem three_cells {α : Type} {l : List α} (h : l.length = 3) : ∃ a b c, l = [a, b, c] := by
  match l, h with
  | [a, b, c], _ => exact ⟨a, b, c, rfl⟩
theorem stm_reach {fuel : Nat} {cs : List Value} {x : DataW H × List MemPlace} (hf : DataW.trod enc Try.prog w 0 (fun _ => true) true fuel 55 cs = some x) (hs : Sized Try.prog 55 x.1) (hlt : ∀ z ∈ x.2, z.block < w.heap.size) :
    ∃ (y : Stm) (a : Option Addr) (cap : Nat), cs = [.slice a y.bytes.length cap, .int .i64 y.synced] ∧ y.bytes.length ≤ cap ∧ y.bytes.length ≤ 140737488355328 ∧ AtB w a y.bytes.length y.bytes ∧ (-9223372036854775808 ≤ y.synced ∧ y.synced < 9223372036854775808) := by
  obtain ⟨_, _, _, _, hcl, _, _⟩ := DataW.trod_struct Try.underlying55 hf
  obtain ⟨c0, c1, rfl⟩ := two_cells (hcl.trans (show Try.prog.cellsOf 55 = 2 by kernel_rfl))
  obtain ⟨y0, n0, g0, s0, l0⟩ := field_at Try.underlying55 hf 0 _ rfl 27 0 1 [c0] rfl rfl (by kernel_rfl) rfl hs hlt
  obtain ⟨y1, n1, g1, s1, l1⟩ := field_at Try.underlying55 hf 1 _ rfl 3 1 1 [c1] rfl rfl (by kernel_rfl) rfl hs hlt
  obtain ⟨a, len, cap, ys, e0, hl, hr, hat⟩ := bytes_reach g0 s0 l0
  obtain ⟨s, e1, _, hw⟩ := DataW.trod_int Try.underlying3 g1
  obtain rfl : len = ys.length := hat.1.symm
  cases e0
  cases e1
  exact ⟨⟨ys, s⟩, a, cap, rfl, hl, hr, hat, wf_i64 hw⟩
/-- A stream's cells lie at a place of a row. -/
def StmIn (w : World) (a : Addr) (i : Nat) (y : Stm) (A : Option Addr) (c : Nat) : Prop :=
  w.cell? ((a.add (i * 2)).add 0) = some (.slice A y.bytes.length c) ∧ w.cell? ((a.add (i * 2)).add 1) = some (.int .i64 y.synced) ∧ y.bytes.length ≤ c ∧ y.bytes.length ≤ 140737488355328 ∧ AtB w A y.bytes.length y.bytes ∧ (-9223372036854775808 ≤ y.synced ∧ y.synced < 9223372036854775808)
theorem stms_reach {fuel : Nat} {cs : List Value} {x : DataW H × List MemPlace} (hf : DataW.trod enc Try.prog w 0 (fun _ => true) true fuel 23 cs = some x) (hs : Sized Try.prog 23 x.1) (hlt : ∀ z ∈ x.2, z.block < w.heap.size) :
    ∃ a len cap l, cs = [.slice a len cap] ∧ len ≤ cap ∧ StmsAt w a len l := by
  have h2 : Try.prog.cellsOf 55 = 2 := by kernel_rfl
  rcases open_slice Try.underlying23 hf with ⟨hcs, hx⟩ | ⟨a, len, cap, m, n, D, Pl, hcs, _, hl, hm, hmm, hx, hi⟩
  · exact ⟨none, 0, 0, [], hcs, Nat.le_refl _, StmsAt.nil _ _⟩
  · subst hcs
    have hr := slice_reach Try.underlying23 hf hs (by rw [show Try.prog.bytesOf 55 = 32 by kernel_rfl]; decide)
    simp only [if_true] at hmm
    subst hmm
    subst hx
    rw [h2] at hi
    have hex : ∀ i, i < len → ∃ y : Stm, ∃ (A : Option Addr) (c : Nat), StmIn w a i y A c := by
      intro i hil
      obtain ⟨cs', hc, ht⟩ := hi i (by omega)
      obtain ⟨y, A, c, e, k1, k2, k3, k4⟩ := stm_reach ht (fun z hz => hs z (by
        simp only [DataW.weights, Try.underlying23]
        exact List.mem_cons_of_mem _ (List.mem_append_left _ (weightsAll_mem (List.mem_map.2 ⟨i, List.mem_range.2 hil, rfl⟩) hz)))) (fun z hz => hlt z (List.mem_append_right _ (List.mem_flatMap.2 ⟨i, List.mem_range.2 (by omega), hz⟩)))
      obtain ⟨_, _, hat⟩ := World.cells?_some hc
      subst e
      exact ⟨y, A, c, hat 0 (by decide), hat 1 (by decide), k1, k2, k3, k4⟩
    obtain ⟨f, hf'⟩ := @choose_lt Stm ⟨Stm.zero⟩ len _ hex
    refine ⟨some a, len, _, (List.range len).map f, rfl, hl, by simp, hr, fun hp => ?_⟩
    obtain ⟨b, off, spot⟩ := a
    have hspot : spot = none := by
      obtain ⟨A, c, h0, _⟩ := hf' 0 hp
      have := World.cell?_spot h0
      simpa [Addr.add] using this
    subst hspot
    refine ⟨b, off, rfl, ?_, fun j y hy => ?_⟩
    · obtain ⟨A, c, h0, _⟩ := hf' 0 hp
      have := World.block_lt_of_cell? w _ h0
      simpa [Addr.add] using this
    · have hj : j < len := by have := (List.getElem?_eq_some_iff.1 hy).1; simpa using this
      rw [List.getElem?_map, List.getElem?_range hj] at hy
      simp only [Option.map_some, Option.some.injEq] at hy
      subst hy
      obtain ⟨A, c, k0, k1, k2, k3, k4, k5⟩ := hf' j hj
      rw [Go.WideShapes.add_plain, Go.WideShapes.add_plain, Nat.add_zero] at k0
      rw [Go.WideShapes.add_plain, Go.WideShapes.add_plain] at k1
      exact ⟨A, c, k0, k2, k3, k4, k1, k5⟩
theorem disk_reach {fuel : Nat} {cs : List Value} {x : DataW H × List MemPlace} (hf : DataW.trod enc Try.prog w 0 (fun _ => true) true fuel 26 cs = some x) (hs : Sized Try.prog 26 x.1) (hlt : ∀ z ∈ x.2, z.block < w.heap.size) :
    ∃ (r : Nat) (A : Option Addr) (n a : Nat) (B : Option Addr) (m b : Nat) (l0 l1 : List Stm), cs = [.int .u64 (r : Int), .slice A n a, .slice B m b] ∧ r < 18446744073709551616 ∧ n ≤ a ∧ m ≤ b ∧ StmsAt w A n l0 ∧ StmsAt w B m l1 := by
  obtain ⟨_, _, _, _, hcl, _, _⟩ := DataW.trod_struct Try.underlying26 hf
  obtain ⟨c0, c1, c2, rfl⟩ := three_cells (hcl.trans (show Try.prog.cellsOf 26 = 3 by kernel_rfl))
  obtain ⟨y0, n0, g0, s0, l0⟩ := field_at Try.underlying26 hf 0 _ rfl 22 0 1 [c0] rfl rfl (by kernel_rfl) rfl hs hlt
  obtain ⟨y1, n1, g1, s1, l1⟩ := field_at Try.underlying26 hf 1 _ rfl 24 1 2 [c1, c2] rfl rfl (by kernel_rfl) rfl hs hlt
  obtain ⟨z0, k0, e0, t0, q0⟩ := elem_at Try.underlying24 g1 0 (by decide) 1 [c1] (by kernel_rfl) rfl s1 l1
  obtain ⟨z1, k1, e1, t1, q1⟩ := elem_at Try.underlying24 g1 1 (by decide) 1 [c2] (by kernel_rfl) rfl s1 l1
  obtain ⟨A, n, a, la, f0, hna, hA⟩ := stms_reach e0 t0 q0
  obtain ⟨B, m, b, lb, f1, hmb, hB⟩ := stms_reach e1 t1 q1
  obtain ⟨s, e2, _, hw⟩ := DataW.trod_int Try.underlying22 g0
  have hw' : 0 ≤ s ∧ s < 18446744073709551616 := by
    have hmin : IntKind.u64.min = 0 := rfl
    have hmax : IntKind.u64.max = 18446744073709551615 := rfl
    simp only [Lit.wf, Bool.and_eq_true, decide_eq_true_eq, hmin, hmax] at hw
    omega
  obtain ⟨q, rfl⟩ := Int.eq_ofNat_of_zero_le hw'.1
  cases e2
  cases f0
  cases f1
  exact ⟨q, A, n, a, B, m, b, la, lb, rfl, by omega, hna, hmb, hA, hB⟩

/-! ### What a law is asked of -/
theorem list_agg {cs : Array Value} {L : List Value} (h : cs.toList = L) : Value.agg cs = .agg L.toArray := by rw [← h]
theorem u8_reach {fuel : Nat} {cs : List Value} {x : DataW H × List MemPlace} (hf : DataW.trod enc Try.prog w 0 (fun _ => true) true fuel 5 cs = some x) : ∃ k : Nat, cs = [.int .u8 (k : Int)] ∧ k < 256 := by
  obtain ⟨s, e, _, hw⟩ := DataW.trod_int Try.underlying5 hf
  have := wf_u8 hw
  obtain ⟨q, rfl⟩ := Int.eq_ofNat_of_zero_le this.1
  exact ⟨q, e, by omega⟩
theorem int_reach {fuel : Nat} {cs : List Value} {x : DataW H × List MemPlace} (hf : DataW.trod enc Try.prog w 0 (fun _ => true) true fuel 3 cs = some x) : ∃ s : Int, cs = [.int .i64 s] ∧ (-9223372036854775808 ≤ s ∧ s < 9223372036854775808) := by
  obtain ⟨s, e, _, hw⟩ := DataW.trod_int Try.underlying3 hf
  exact ⟨s, e, wf_i64 hw⟩
theorem u64_reach {fuel : Nat} {cs : List Value} {x : DataW H × List MemPlace} (hf : DataW.trod enc Try.prog w 0 (fun _ => true) true fuel 22 cs = some x) : ∃ k : Nat, cs = [.int .u64 (k : Int)] ∧ k < 18446744073709551616 := by
  obtain ⟨s, e, _, hw⟩ := DataW.trod_int Try.underlying22 hf
  have hw' : 0 ≤ s ∧ s < 18446744073709551616 := by
    have hmin : IntKind.u64.min = 0 := rfl
    have hmax : IntKind.u64.max = 18446744073709551615 := rfl
    simp only [Lit.wf, Bool.and_eq_true, decide_eq_true_eq, hmin, hmax] at hw
    omega
  obtain ⟨q, rfl⟩ := Int.eq_ofNat_of_zero_le hw'.1
  exact ⟨q, e, by omega⟩
theorem cells4_new {l : List Value} (h : l.length = 4) : ∃ c0 c1 c2 c3, l = [c0, c1, c2, c3] := by
  match l, h with
  | [c0, c1, c2, c3], _ => exact ⟨c0, c1, c2, c3, rfl⟩
theorem open_new {v : Value} {d : DataW H} {ps : List MemPlace} {base : Nat} (hval : Value.okWide Try.prog w .any base 65 v) (h : DataW.Trod enc Try.prog w 0 (fun _ => true) true 65 v d ps) (hs : Sized Try.prog 65 d) (hlt : ∀ z ∈ ps, z.block < w.heap.size) :
    ∃ (t : Nat) (row : Int) (i : Int) (D : Option Addr) (dn dc : Nat) (f : Nat → Int), v = .agg #[.int .u8 (t : Int), .int .i64 row, .int .i64 i, .slice D dn dc] ∧ t < 256 ∧ (-9223372036854775808 ≤ row ∧ row < 9223372036854775808) ∧ (-9223372036854775808 ≤ i ∧ i < 9223372036854775808) ∧ dn ≤ dc ∧ AtI w D dn f := by
  obtain ⟨cs, rfl, _⟩ := okWide_struct Try.underlying65 hval
  obtain ⟨fuel, hf⟩ := h
  have hcs : (Value.agg cs).cells.toList = cs.toList := rfl
  rw [hcs] at hf
  obtain ⟨_, _, _, _, hcl, _, _⟩ := DataW.trod_struct Try.underlying65 hf
  obtain ⟨c0, c1, c2, c3, hL⟩ := cells4_new (hcl.trans (show Try.prog.cellsOf 65 = 4 by kernel_rfl))
  rw [hL] at hf
  rw [list_agg hL]
  clear hcl hL
  obtain ⟨y0, n0, g0, s0, q0⟩ := field_at Try.underlying65 hf 0 _ rfl 5 0 1 [c0] rfl rfl (by kernel_rfl) rfl hs hlt
  obtain ⟨t, e0, w0⟩ := u8_reach g0
  obtain ⟨y1, n1, g1, s1, q1⟩ := field_at Try.underlying65 hf 1 _ rfl 3 1 1 [c1] rfl rfl (by kernel_rfl) rfl hs hlt
  obtain ⟨row, e1, w1⟩ := int_reach g1
  obtain ⟨y2, n2, g2, s2, q2⟩ := field_at Try.underlying65 hf 2 _ rfl 3 2 1 [c2] rfl rfl (by kernel_rfl) rfl hs hlt
  obtain ⟨i, e2, w2⟩ := int_reach g2
  obtain ⟨y3, n3, g3, s3, q3⟩ := field_at Try.underlying65 hf 3 _ rfl 28 3 1 [c3] rfl rfl (by kernel_rfl) rfl hs hlt
  obtain ⟨D, dn, dc, f, e3, hdc, hD⟩ := ints_reach g3 s3 q3
  cases e0
  cases e1
  cases e2
  cases e3
  exact ⟨t, row, i, D, dn, dc, f, rfl, w0, w1, w2, hdc, hD⟩
theorem cells6_rows {l : List Value} (h : l.length = 6) : ∃ c0 c1 c2 c3 c4 c5, l = [c0, c1, c2, c3, c4, c5] := by
  match l, h with
  | [c0, c1, c2, c3, c4, c5], _ => exact ⟨c0, c1, c2, c3, c4, c5, rfl⟩
theorem open_rows {v : Value} {d : DataW H} {ps : List MemPlace} {base : Nat} (hval : Value.okWide Try.prog w .any base 62 v) (h : DataW.Trod enc Try.prog w 0 (fun _ => true) true 62 v d ps) (hs : Sized Try.prog 62 d) (hlt : ∀ z ∈ ps, z.block < w.heap.size) :
    ∃ (r : Nat) (A : Option Addr) (n a : Nat) (B : Option Addr) (m b : Nat) (l0 l1 : List Stm) (row : Nat) (i : Nat) (C : Option Addr) (j jc : Nat) (ys : List Nat), v = .agg #[.int .u64 (r : Int), .slice A n a, .slice B m b, .int .u8 (row : Int), .int .u8 (i : Int), .slice C j jc] ∧ r < 18446744073709551616 ∧ n ≤ a ∧ m ≤ b ∧ StmsAt w A n l0 ∧ StmsAt w B m l1 ∧ row < 256 ∧ i < 256 ∧ j ≤ jc ∧ j ≤ 140737488355328 ∧ AtB w C j ys := by
  obtain ⟨cs, rfl, _⟩ := okWide_struct Try.underlying62 hval
  obtain ⟨fuel, hf⟩ := h
  have hcs : (Value.agg cs).cells.toList = cs.toList := rfl
  rw [hcs] at hf
  obtain ⟨_, _, _, _, hcl, _, _⟩ := DataW.trod_struct Try.underlying62 hf
  obtain ⟨c0, c1, c2, c3, c4, c5, hL⟩ := cells6_rows (hcl.trans (show Try.prog.cellsOf 62 = 6 by kernel_rfl))
  rw [hL] at hf
  rw [list_agg hL]
  clear hcl hL
  obtain ⟨y0, n0, g0, s0, q0⟩ := field_at Try.underlying62 hf 0 _ rfl 26 0 3 [c0, c1, c2] rfl rfl (by kernel_rfl) rfl hs hlt
  obtain ⟨r, A, n, a, B, m, b, l0, l1, e0, hr, hna, hmb, h0, h1⟩ := disk_reach g0 s0 q0
  obtain ⟨y1, n1, g1, s1, q1⟩ := field_at Try.underlying62 hf 1 _ rfl 5 3 1 [c3] rfl rfl (by kernel_rfl) rfl hs hlt
  obtain ⟨row, e1, w1⟩ := u8_reach g1
  obtain ⟨y2, n2, g2, s2, q2⟩ := field_at Try.underlying62 hf 2 _ rfl 5 4 1 [c4] rfl rfl (by kernel_rfl) rfl hs hlt
  obtain ⟨i, e2, w2⟩ := u8_reach g2
  obtain ⟨y3, n3, g3, s3, q3⟩ := field_at Try.underlying62 hf 3 _ rfl 27 5 1 [c5] rfl rfl (by kernel_rfl) rfl hs hlt
  obtain ⟨C, j, jc, ys, e3, hjc, hj, hC⟩ := bytes_reach g3 s3 q3
  cases e0
  cases e1
  cases e2
  cases e3
  exact ⟨r, A, n, a, B, m, b, l0, l1, row, i, C, j, jc, ys, rfl, hr, hna, hmb, h0, h1, w1, w2, hjc, hj, hC⟩
theorem cells8_apart {l : List Value} (h : l.length = 8) : ∃ c0 c1 c2 c3 c4 c5 c6 c7, l = [c0, c1, c2, c3, c4, c5, c6, c7] := by
  match l, h with
  | [c0, c1, c2, c3, c4, c5, c6, c7], _ => exact ⟨c0, c1, c2, c3, c4, c5, c6, c7, rfl⟩
theorem open_apart {v : Value} {d : DataW H} {ps : List MemPlace} {base : Nat} (hval : Value.okWide Try.prog w .any base 53 v) (h : DataW.Trod enc Try.prog w 0 (fun _ => true) true 53 v d ps) (hs : Sized Try.prog 53 d) (hlt : ∀ z ∈ ps, z.block < w.heap.size) :
    ∃ (r : Nat) (A : Option Addr) (n a : Nat) (B : Option Addr) (m b : Nat) (l0 l1 : List Stm) (row : Nat) (i : Nat) (C : Option Addr) (j jc : Nat) (ys : List Nat) (q : Nat) (D : Option Addr) (dn dc : Nat) (f : Nat → Int), v = .agg #[.int .u64 (r : Int), .slice A n a, .slice B m b, .int .u8 (row : Int), .int .u8 (i : Int), .slice C j jc, .int .u64 (q : Int), .slice D dn dc] ∧ r < 18446744073709551616 ∧ n ≤ a ∧ m ≤ b ∧ StmsAt w A n l0 ∧ StmsAt w B m l1 ∧ row < 256 ∧ i < 256 ∧ j ≤ jc ∧ j ≤ 140737488355328 ∧ AtB w C j ys ∧ q < 18446744073709551616 ∧ dn ≤ dc ∧ AtI w D dn f := by
  obtain ⟨cs, rfl, _⟩ := okWide_struct Try.underlying53 hval
  obtain ⟨fuel, hf⟩ := h
  have hcs : (Value.agg cs).cells.toList = cs.toList := rfl
  rw [hcs] at hf
  obtain ⟨_, _, _, _, hcl, _, _⟩ := DataW.trod_struct Try.underlying53 hf
  obtain ⟨c0, c1, c2, c3, c4, c5, c6, c7, hL⟩ := cells8_apart (hcl.trans (show Try.prog.cellsOf 53 = 8 by kernel_rfl))
  rw [hL] at hf
  rw [list_agg hL]
  clear hcl hL
  obtain ⟨y0, n0, g0, s0, q0⟩ := field_at Try.underlying53 hf 0 _ rfl 26 0 3 [c0, c1, c2] rfl rfl (by kernel_rfl) rfl hs hlt
  obtain ⟨r, A, n, a, B, m, b, l0, l1, e0, hr, hna, hmb, h0, h1⟩ := disk_reach g0 s0 q0
  obtain ⟨y1, n1, g1, s1, q1⟩ := field_at Try.underlying53 hf 1 _ rfl 5 3 1 [c3] rfl rfl (by kernel_rfl) rfl hs hlt
  obtain ⟨row, e1, w1⟩ := u8_reach g1
  obtain ⟨y2, n2, g2, s2, q2⟩ := field_at Try.underlying53 hf 2 _ rfl 5 4 1 [c4] rfl rfl (by kernel_rfl) rfl hs hlt
  obtain ⟨i, e2, w2⟩ := u8_reach g2
  obtain ⟨y3, n3, g3, s3, q3⟩ := field_at Try.underlying53 hf 3 _ rfl 27 5 1 [c5] rfl rfl (by kernel_rfl) rfl hs hlt
  obtain ⟨C, j, jc, ys, e3, hjc, hj, hC⟩ := bytes_reach g3 s3 q3
  obtain ⟨y4, n4, g4, s4, q4⟩ := field_at Try.underlying53 hf 4 _ rfl 22 6 1 [c6] rfl rfl (by kernel_rfl) rfl hs hlt
  obtain ⟨q, e4, w4⟩ := u64_reach g4
  obtain ⟨y5, n5, g5, s5, q5⟩ := field_at Try.underlying53 hf 5 _ rfl 28 7 1 [c7] rfl rfl (by kernel_rfl) rfl hs hlt
  obtain ⟨D, dn, dc, f, e5, hdc, hD⟩ := ints_reach g5 s5 q5
  cases e0
  cases e1
  cases e2
  cases e3
  cases e4
  cases e5
  exact ⟨r, A, n, a, B, m, b, l0, l1, row, i, C, j, jc, ys, q, D, dn, dc, f, rfl, hr, hna, hmb, h0, h1, w1, w2, hjc, hj, hC, w4, hdc, hD⟩
theorem cells7_tells {l : List Value} (h : l.length = 7) : ∃ c0 c1 c2 c3 c4 c5 c6, l = [c0, c1, c2, c3, c4, c5, c6] := by
  match l, h with
  | [c0, c1, c2, c3, c4, c5, c6], _ => exact ⟨c0, c1, c2, c3, c4, c5, c6, rfl⟩
theorem open_tells {v : Value} {d : DataW H} {ps : List MemPlace} {base : Nat} (hval : Value.okWide Try.prog w .any base 30 v) (h : DataW.Trod enc Try.prog w 0 (fun _ => true) true 30 v d ps) (hs : Sized Try.prog 30 d) (hlt : ∀ z ∈ ps, z.block < w.heap.size) :
    ∃ (r : Nat) (A : Option Addr) (n a : Nat) (B : Option Addr) (m b : Nat) (l0 l1 : List Stm) (row : Int) (i : Int) (C : Option Addr) (j jc : Nat) (ys : List Nat) (D : Option Addr) (dn dc : Nat) (f : Nat → Int), v = .agg #[.int .u64 (r : Int), .slice A n a, .slice B m b, .int .i64 row, .int .i64 i, .slice C j jc, .slice D dn dc] ∧ r < 18446744073709551616 ∧ n ≤ a ∧ m ≤ b ∧ StmsAt w A n l0 ∧ StmsAt w B m l1 ∧ (-9223372036854775808 ≤ row ∧ row < 9223372036854775808) ∧ (-9223372036854775808 ≤ i ∧ i < 9223372036854775808) ∧ j ≤ jc ∧ j ≤ 140737488355328 ∧ AtB w C j ys ∧ dn ≤ dc ∧ AtI w D dn f := by
  obtain ⟨cs, rfl, _⟩ := okWide_struct Try.underlying30 hval
  obtain ⟨fuel, hf⟩ := h
  have hcs : (Value.agg cs).cells.toList = cs.toList := rfl
  rw [hcs] at hf
  obtain ⟨_, _, _, _, hcl, _, _⟩ := DataW.trod_struct Try.underlying30 hf
  obtain ⟨c0, c1, c2, c3, c4, c5, c6, hL⟩ := cells7_tells (hcl.trans (show Try.prog.cellsOf 30 = 7 by kernel_rfl))
  rw [hL] at hf
  rw [list_agg hL]
  clear hcl hL
  obtain ⟨y0, n0, g0, s0, q0⟩ := field_at Try.underlying30 hf 0 _ rfl 26 0 3 [c0, c1, c2] rfl rfl (by kernel_rfl) rfl hs hlt
  obtain ⟨r, A, n, a, B, m, b, l0, l1, e0, hr, hna, hmb, h0, h1⟩ := disk_reach g0 s0 q0
  obtain ⟨y1, n1, g1, s1, q1⟩ := field_at Try.underlying30 hf 1 _ rfl 3 3 1 [c3] rfl rfl (by kernel_rfl) rfl hs hlt
  obtain ⟨row, e1, w1⟩ := int_reach g1
  obtain ⟨y2, n2, g2, s2, q2⟩ := field_at Try.underlying30 hf 2 _ rfl 3 4 1 [c4] rfl rfl (by kernel_rfl) rfl hs hlt
  obtain ⟨i, e2, w2⟩ := int_reach g2
  obtain ⟨y3, n3, g3, s3, q3⟩ := field_at Try.underlying30 hf 3 _ rfl 27 5 1 [c5] rfl rfl (by kernel_rfl) rfl hs hlt
  obtain ⟨C, j, jc, ys, e3, hjc, hj, hC⟩ := bytes_reach g3 s3 q3
  obtain ⟨y4, n4, g4, s4, q4⟩ := field_at Try.underlying30 hf 4 _ rfl 28 6 1 [c6] rfl rfl (by kernel_rfl) rfl hs hlt
  obtain ⟨D, dn, dc, f, e4, hdc, hD⟩ := ints_reach g4 s4 q4
  cases e0
  cases e1
  cases e2
  cases e3
  cases e4
  exact ⟨r, A, n, a, B, m, b, l0, l1, row, i, C, j, jc, ys, D, dn, dc, f, rfl, hr, hna, hmb, h0, h1, w1, w2, hjc, hj, hC, hdc, hD⟩
theorem open_disk {v : Value} {d : DataW H} {ps : List MemPlace} {base : Nat} (hval : Value.okWide Try.prog w .any base 26 v) (h : DataW.Trod enc Try.prog w 0 (fun _ => true) true 26 v d ps) (hs : Sized Try.prog 26 d) (hlt : ∀ z ∈ ps, z.block < w.heap.size) :
    ∃ (r : Nat) (A : Option Addr) (n a : Nat) (B : Option Addr) (m b : Nat) (l0 l1 : List Stm), v = .agg #[.int .u64 (r : Int), .slice A n a, .slice B m b] ∧ r < 18446744073709551616 ∧ n ≤ a ∧ m ≤ b ∧ StmsAt w A n l0 ∧ StmsAt w B m l1 := by
  obtain ⟨cs, rfl, _⟩ := okWide_struct Try.underlying26 hval
  obtain ⟨fuel, hf⟩ := h
  have hcs : (Value.agg cs).cells.toList = cs.toList := rfl
  rw [hcs] at hf
  obtain ⟨r, A, n, a, B, m, b, l0, l1, e, h2⟩ := disk_reach hf hs hlt
  exact ⟨r, A, n, a, B, m, b, l0, l1, list_agg e, h2⟩
theorem open_ints1 {v : Value} {d : DataW H} {ps : List MemPlace} {base : Nat} (hval : Value.okWide Try.prog w .any base 28 v) (h : DataW.Trod enc Try.prog w 0 (fun _ => true) true 28 v d ps) (hs : Sized Try.prog 28 d) (hlt : ∀ z ∈ ps, z.block < w.heap.size) :
    ∃ a len cap f, v = .slice a len cap ∧ len ≤ cap ∧ AtI w a len f := by
  obtain ⟨a0, len, cap, rfl⟩ := okWide_slice Try.underlying28 hval
  obtain ⟨fuel, hf⟩ := h
  obtain ⟨a, n, c, f, e, h2⟩ := ints_reach (cs := [.slice a0 len cap]) hf hs hlt
  cases e
  exact ⟨_, _, _, f, rfl, h2⟩
theorem sized_of {P : Program} {ts : List TypeId} {ds : List (DataW H)} (h : (DataW.weightsEach P ts ds).all (· ≤ reachBytes) = true) {j : Nat} {t : TypeId} {d : DataW H} (ht : ts[j]? = some t) (hd : ds[j]? = some d) : Sized P t d := fun z hz => by
  rw [List.all_eq_true] at h
  simpa using h z (weightsEach_mem ht hd hz)
end
end Go.Proofs.Ytfggnmmiifjilaa
