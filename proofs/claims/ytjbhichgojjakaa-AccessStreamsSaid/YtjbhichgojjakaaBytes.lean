/-
  Rows of bytes in memory: what comes in as a slice, cuts, rows of the call's own, append, make; regions that only read.
-/
import Derived.Test.YtjbhichgojjakaaRows
import Derived.Test.YtjbhichgojjakaaPlain
import Derived.WalkKit
import Derived.WalkLawsBesides
import Derived.ProofKit
import Derived.OpenShut
import Derived.Lib.Hide
import Derived.Laws.BitsAllLaws
import Derived.LoopTactic
import Derived.IntWalk
import Derived.Outline
import Derived.RowKit3
import Derived.Below
import Derived.ChangeSlices
import Derived.OwnWalk
import Derived.Deep.QuietTactic
import Derived.BigQuiet
import Derived.Laws.OwnMore
namespace Go.Proofs.Ytjbhichgojjakaa
open Go.ChangeShapes Go.WideShapes Go.ChangeAt Go.RowKit
set_option linter.unusedVariables false
set_option maxRecDepth 100000

/-- A slice that reads as a row of bytes. -/
def AtB (w : World) (a : Option Addr) (len : Nat) (xs : List Nat) : Prop :=
  xs.length = len ∧ Bytes xs ∧ len ≤ 9223372036854775807 ∧
  (0 < len → ∃ b off, a = some ⟨b, off, none⟩ ∧ b < w.heap.size ∧ ∀ j, j < len → w.cell? ⟨b, off + j, none⟩ = some (.int .u8 ((xs.getD j 0 : Nat) : Int)))

theorem AtB.below {B : Nat} {w w' : World} {a : Option Addr} {len : Nat} {xs : List Nat} (h : AtB w a len xs) (hb : Below B w w') (hB : w.heap.size ≤ B) : AtB w' a len xs := by
  obtain ⟨h1, h2, h3, h4⟩ := h
  refine ⟨h1, h2, h3, fun hp => ?_⟩
  obtain ⟨b, off, e, hlt, hc⟩ := h4 hp
  exact ⟨b, off, e, Nat.lt_of_lt_of_le hlt hb.size, fun j hj => (hb.cell (p := ⟨b, off + j, none⟩) (Nat.lt_of_lt_of_le hlt hB)).trans (hc j hj)⟩
theorem AtB.nil (w : World) (a : Option Addr) : AtB w a 0 [] := ⟨rfl, fun x hx => by simp at hx, by omega, fun h => by omega⟩
theorem AtB.one {w : World} {b x : Nat} (hx : x < 256) (h : w.cell? ⟨b, 0, none⟩ = some (.int .u8 ((x : Nat) : Int))) : AtB w (some ⟨b, 0, none⟩) 1 [x] :=
  ⟨rfl, fun y hy => by simp at hy; omega, by omega, fun _ => ⟨b, 0, rfl, World.block_lt_of_cell? w _ h, fun j hj => by
    obtain rfl : j = 0 := by omega
    exact h⟩⟩
theorem AtB.later {w w' : World} {a : Option Addr} {len : Nat} {xs : List Nat} (h : Hid (AtB w a len xs)) (hb : Below w.heap.size w w') : AtB w' a len xs := h.out.below hb (Nat.le_refl _)
/-- What is left of a row behind a cut. -/
theorem AtB.cut {w : World} {b off len : Nat} {xs : List Nat} (h : AtB w (some ⟨b, off, none⟩) len xs) (i n : Nat) (hi : i + n ≤ len) : AtB w (some ⟨b, off + i, none⟩) n ((xs.drop i).take n) := by
  obtain ⟨h1, h2, h3, h4⟩ := h
  refine ⟨by simp; omega, fun x hx => h2 x (List.mem_of_mem_drop (List.mem_of_mem_take hx)), by omega, fun hp => ?_⟩
  obtain ⟨b', off', e, hlt, hc⟩ := h4 (by omega)
  simp only [Option.some.injEq, Addr.mk.injEq, and_true] at e
  obtain ⟨rfl, rfl⟩ := e
  refine ⟨b, off + i, rfl, hlt, fun j hj => ?_⟩
  have := hc (i + j) (by omega)
  rw [Nat.add_assoc, this]
  simp [List.getElem?_drop, hj]

/-- A row's beginning. -/
theorem AtB.ahead {w : World} {a : Option Addr} {len : Nat} {xs : List Nat} (h : AtB w a len xs) (k : Nat) (hk : k ≤ len) : AtB w a k (xs.take k) := by
  obtain ⟨h1, h2, h3, h4⟩ := h
  refine ⟨by simp; omega, fun x hx => h2 x (List.mem_of_mem_take hx), by omega, fun hp => ?_⟩
  obtain ⟨b, off, e, hlt, hc⟩ := h4 (by omega)
  exact ⟨b, off, e, hlt, fun j hj => by rw [hc j (by omega)]; simp [hj]⟩

theorem cells5 : Try.prog.cellsOf 5 = 1 := by kernel_rfl

theorem wf_u8 {n : Int} (h : (Lit.int .u8 n).wf = true) : 0 ≤ n ∧ n < 256 := by
  have hmin : IntKind.u8.min = 0 := rfl
  have hmax : IntKind.u8.max = 255 := rfl
  simp only [Lit.wf, Bool.and_eq_true, decide_eq_true_eq, hmin, hmax] at h
  omega
theorem wf_u16 {n : Int} (h : (Lit.int .u16 n).wf = true) : 0 ≤ n ∧ n < 65536 := by
  have hmin : IntKind.u16.min = 0 := rfl
  have hmax : IntKind.u16.max = 65535 := rfl
  simp only [Lit.wf, Bool.and_eq_true, decide_eq_true_eq, hmin, hmax] at h
  omega
theorem wf_u32 {n : Int} (h : (Lit.int .u32 n).wf = true) : 0 ≤ n ∧ n < 4294967296 := by
  have hmin : IntKind.u32.min = 0 := rfl
  have hmax : IntKind.u32.max = 4294967295 := rfl
  simp only [Lit.wf, Bool.and_eq_true, decide_eq_true_eq, hmin, hmax] at h
  omega

theorem open_at2 {H : Type} {enc : TypeId × Value → H} {W : World} {base : Nat} {v : Value} {d : DataW H} {ps : List MemPlace} (hval : Value.okWide Try.prog W .any base 24 v)
    (h : DataW.Trod enc Try.prog W 0 (fun _ => true) true 24 v d ps) (hlt : ∀ x ∈ ps, x.block < W.heap.size) :
    ∃ a len cap xs, v = .slice a len cap ∧ len ≤ cap ∧ AtB W a len xs := by
  obtain ⟨a0, len, cap, rfl⟩ := okWide_slice Try.underlying24 hval
  obtain ⟨fuel, hf⟩ := h
  rcases open_ints Try.underlying24 Try.underlying5 cells5 hf with ⟨hcs, hx⟩ | ⟨a, len', cap', zs, hcs, _, hl, hm, hz, hx, hcell, hwz⟩
  · simp [Value.cells] at hcs
    obtain ⟨rfl, rfl, rfl⟩ := hcs
    exact ⟨none, 0, 0, [], rfl, Nat.le_refl _, AtB.nil _ _⟩
  · simp [Value.cells] at hcs
    obtain ⟨rfl, rfl, rfl⟩ := hcs
    simp only [Prod.mk.injEq] at hx
    obtain ⟨rfl, rfl⟩ := hx
    simp only [if_true] at hz
    refine ⟨some a, len, cap, (zs.take len).map Int.toNat, rfl, hl, by simp; omega, fun y hy => ?_, by unfold maxLen at hm; omega, fun hp => ?_⟩
    · obtain ⟨z, hzm, rfl⟩ := List.mem_map.1 hy
      have := wf_u8 (hwz z (List.mem_of_mem_take hzm))
      omega
    obtain ⟨b, off, rfl, hc⟩ := ints_at hcell (by omega)
    refine ⟨b, off, rfl, hlt (.cell b (off + 0)) (MemPlace.mem_row.2 ⟨0, by omega, rfl⟩), fun j hj => ?_⟩
    rw [hc j (by omega)]
    have hjz : j < zs.length := by omega
    have hw := wf_u8 (hwz zs[j] (List.getElem_mem _))
    have e : ((zs.take len).map Int.toNat).getD j 0 = zs[j].toNat := by
      rw [List.getD_eq_getElem?_getD, List.getElem?_map, List.getElem?_take, if_pos hj, List.getElem?_eq_getElem hjz]; rfl
    rw [e, List.getD_eq_getElem?_getD, List.getElem?_eq_getElem hjz]
    congr 2
    show zs[j] = _
    omega

theorem open_at {H : Type} {enc : TypeId × Value → H} {W : World} {base : Nat} {v : Value} {d : DataW H} {ps : List MemPlace} (hval : Value.okWide Try.prog W .any base 24 v)
    (h : DataW.Trod enc Try.prog W 0 (fun _ => true) true 24 v d ps) (hlt : ∀ x ∈ ps, x.block < W.heap.size) :
    ∃ a len cap xs, v = .slice a len cap ∧ AtB W a len xs :=
  let ⟨a, len, cap, xs, h1, _, h2⟩ := open_at2 hval h hlt
  ⟨a, len, cap, xs, h1, h2⟩

theorem AtB.drewN {w : World} {a : Option Addr} {len : Nat} {xs : List Nat} (h : AtB w a len xs) (n : Nat) : AtB (w.drewN n) a len xs := h
theorem elem23 : Try.prog.underlying 24 = some (.slice (Try.prog.elem 24)) := by kernel_rfl
theorem elem23' : Try.prog.elem 24 = 5 := by kernel_rfl
theorem size5 (w : World) : (sizeOf 5).run Try.prog w = .ok 1 w := by kernel_rfl

/-- The address behind a cut: as the model tells it. -/
def cutA (a : Option Addr) (cap lo : Nat) : Option Addr := if cap = lo then a else a.map (·.add (lo * 1))

theorem AtB.cutA {w : World} {a : Option Addr} {len cap : Nat} {xs : List Nat} (h : AtB w a len xs) (hc : len ≤ cap) (lo hi : Nat) (h1 : lo ≤ hi) (h2 : hi ≤ len) :
    AtB w (cutA a cap lo) (hi - lo) ((xs.drop lo).take (hi - lo)) := by
  by_cases hp : lo < hi
  · obtain ⟨b, off, rfl, hlt, _⟩ := h.2.2.2 (by omega)
    have := h.cut lo (hi - lo) (by omega)
    unfold Ytjbhichgojjakaa.cutA
    rw [if_neg (by omega)]
    simpa [Addr.add_lit] using this
  · have : hi - lo = 0 := by omega
    rw [this, List.take_zero]
    exact AtB.nil _ _

theorem run_cut_lh (a : Option Addr) (len cap lo hi : Nat) (h1 : lo ≤ hi) (h2 : hi ≤ cap) (W : World) :
    (Instr.slice 24 (.slice a len cap) (some (.int .i64 (lo : Int))) (some (.int .i64 (hi : Int))) none).run Try.prog W = .ok (.slice (cutA a cap lo) (hi - lo) (cap - lo)) W := by
  rw [run_slice_lh W 24 _ _ _ elem23 .i64 .i64 _ _ (by omega) (by omega) (by omega), elem23', size5]
  rfl
theorem run_cut_h (a : Option Addr) (len cap hi : Nat) (h2 : hi ≤ cap) (W : World) :
    (Instr.slice 24 (.slice a len cap) none (some (.int .i64 (hi : Int))) none).run Try.prog W = .ok (.slice (cutA a cap 0) hi cap) W := by
  rw [run_slice_h W 24 _ _ _ elem23 .i64 _ (by omega) (by omega), elem23', size5]
  rfl
theorem run_cut_l (a : Option Addr) (len cap lo : Nat) (h1 : lo ≤ len) (W : World) :
    (Instr.slice 24 (.slice a len cap) (some (.int .i64 (lo : Int))) none none).run Try.prog W = .ok (.slice (cutA a cap lo) (len - lo) (cap - lo)) W := by
  rw [run_slice_l W 24 _ _ _ elem23 .i64 _ (by omega) (by omega), elem23', size5]
  rfl

/-! ### Rows of the call's own -/
def vals (xs : List Nat) : List Value := xs.map fun x : Nat => Value.int .u8 (x : Int)
theorem vals_length (xs : List Nat) : (vals xs).length = xs.length := List.length_map _
theorem vals_one (xs : List Nat) : ∀ u ∈ vals xs, u.oneCell' = true := by
  intro u hu
  obtain ⟨z, _, rfl⟩ := List.mem_map.1 hu
  rfl
theorem vals_append (xs ys : List Nat) : vals (xs ++ ys) = vals xs ++ vals ys := List.map_append
theorem vals_set (xs : List Nat) (j y : Nat) : vals (xs.set j y) = (vals xs).set j (.int .u8 (y : Int)) := by unfold vals; rw [List.map_set]
theorem vals_get (xs : List Nat) (j : Nat) (h : j < xs.length) : (vals xs)[j]? = some (.int .u8 ((xs.getD j 0 : Nat) : Int)) := by
  unfold vals
  rw [List.getElem?_map, List.getD_eq_getElem?_getD, List.getElem?_eq_getElem h]; rfl

theorem AtB.news {w : World} {a : Option Addr} {len : Nat} {xs : List Nat} (h : AtB w a len xs) : ∀ ad, a = some ad → ∀ j u, (vals xs)[j]? = some u → w.cell? (ad.add j) = some u := by
  obtain ⟨h1, h2, h3, h4⟩ := h
  intro ad had j u hu
  have hj : j < len := by
    have := (List.getElem?_eq_some_iff.1 hu).1
    rw [vals_length] at this; omega
  obtain ⟨b, off, e, hlt, hc⟩ := h4 (by omega)
  rw [had] at e
  obtain rfl := Option.some.inj e
  rw [add_plain, hc j hj, ← vals_get xs j (by omega)]
  exact hu

def Own (w : World) (base : Nat) (v : Value) (n : Nat) (xs : List Nat) : Prop := Bytes xs ∧ w.ownsRow base 5 1 v n (vals xs)
theorem Own.length {w : World} {base : Nat} {v : Value} {n : Nat} {xs : List Nat} (h : Own w base v n xs) : xs.length = n := by have := h.2.1; rw [vals_length] at this; omega

/-- What a row of the call's own reads as. -/
theorem Own.at_ {w : World} {base : Nat} {v : Value} {n : Nat} {xs : List Nat} (h : Own w base v n xs) (hn : n ≤ 9223372036854775807) : ∃ A cap, v = .slice A n cap ∧ n ≤ cap ∧ AtB w A n xs := by
  have hl := h.length
  rcases h.2.2 with ⟨rfl, rfl⟩ | ⟨g, cap, cur, rfl, hg, hheap, hcap, hmax, hsz, htake⟩
  · obtain rfl : xs = [] := List.eq_nil_of_length_eq_zero hl
    exact ⟨none, 0, rfl, Nat.le_refl _, AtB.nil _ _⟩
  · refine ⟨_, cap, rfl, hcap, hl, h.1, hn, fun _ => ⟨g, 0, rfl, (Array.getElem?_eq_some_iff.1 hheap).1, fun j hj => ?_⟩⟩
    have := h.2.cellAt j (by omega)
    rw [Nat.zero_add, this, vals_get xs j (by omega)]

theorem Own.made (w : World) : Own (w.alloc (.cells #[] 5)) w.heap.size (.slice (some ⟨w.heap.size, 0, none⟩) 0 0) 0 [] :=
  ⟨fun x hx => by simp at hx, World.ownsRow_made w #[] 0 (Nat.le_refl _) (by decide) rfl⟩

theorem info5 : (Try.prog.info? 5).map (fun i => (i.zero, i.size, i.bytes)) = some (some (.int .u8 0), 1, 1) := by kernel_rfl

theorem run_append_nil_any (w : World) (base : Nat) (ty : TypeId) (v : Value) (n : Nat) (xs : List Value) (hown : w.ownsRow base 5 1 v n xs) (c : Nat) :
    (Builtin.append_ #[24, 24] ty #[v, .slice none 0 c]).run Try.prog w = .ok v w := by
  obtain ⟨i, hi, _, _, _⟩ := info_parts info5
  rcases hown.2 with ⟨rfl, rfl⟩ | ⟨g, cap, cur, rfl, _, _, hnc, _⟩
  · simp [Builtin.append_, run_underlying Try.underlying24, sizeOf, typeInfo, hi, Builtin.lenOf, Builtin.firstCells]
  · simp [Builtin.append_, run_underlying Try.underlying24, sizeOf, typeInfo, hi, Builtin.lenOf, Builtin.firstCells, hnc, storeCells]

/-- 'append(out, xs...)': out a row of the call's own, the source whatever row of bytes, nil and empty ones among them; guarded or not. -/
theorem wpList_append_bytes {ops : Array Oper} {rest : List Oper} {o : Oper} {a : Act} {w : World} {Q : Exit → Act → World → Prop} (hw : Region.wanted o (yielded ops a.tmps) = true) (s x : Operand)
    (ho : o.op = .call { callee := .builtin .append, args := #[s, x], argTypes := #[24, 24] }) (base : Nat) (v : Value) (n : Nat) (xs : List Nat) (hs : a.eval s = v) (hown : Own w base v n xs)
    (A : Option Addr) (m c : Nat) (ys : List Nat) (hx : a.eval x = .slice A m c) (hA : AtB w A m ys) (hb : (n + m) ≤ 140737488355328) (hbase : base ≤ w.heap.size)
    (h : ∀ v' w', Own w' base v' (n + m) (xs ++ ys) → w.grownBy w' v.ownBlock → wpList Try.prog ops Q rest (a.put o.dst v') w') : wpList Try.prog ops Q (o :: rest) a w := by
  obtain ⟨i, hi, hz0, hz1, hz2⟩ := info_parts info5
  have hB : Bytes (xs ++ ys) := fun z hz => (List.mem_append.1 hz).elim (hown.1 z) (hA.2.1 z)
  have hrun : ∃ v' w', (Builtin.append_ #[24, 24] o.type #[v, .slice A m c]).run Try.prog w = .ok v' w' ∧ Own w' base v' (n + m) (xs ++ ys) ∧ w.grownBy w' v.ownBlock := by
    rcases A with _ | ad
    · have hm : m = 0 := by
        rcases Nat.eq_zero_or_pos m with h0 | h0
        · exact h0
        · obtain ⟨b, off, e, _⟩ := hA.2.2.2 h0
          cases e
      subst hm
      obtain rfl : ys = [] := List.eq_nil_of_length_eq_zero hA.1
      exact ⟨v, w, run_append_nil_any w base o.type v n _ hown.2 c, by rw [List.append_nil]; exact hown, ⟨rfl, rfl, rfl, Nat.le_refl _, fun _ _ _ => rfl⟩⟩
    · obtain ⟨v', w', h1, h2, h3, _⟩ := run_append_own (P := Try.prog) w base 24 o.type 5 i (.int .u8 0) 1 1 Try.underlying24 hi hz0 hz1 hz2 rfl (by decide) v n (vals xs) hown.2 ad m c (vals ys)
        (by rw [vals_length, hA.1]; omega) (hA.news ad rfl) (vals_one ys) (by unfold maxLen; omega) (by omega) hbase
      exact ⟨v', w', h1, ⟨hB, by rw [vals_append]; exact h2⟩, h3⟩
  obtain ⟨v', w', hr, h2, h3⟩ := hrun
  refine BigFrame.wpList_want hw fun K hK => ?_
  unfold Oper.wp execOp
  simp only [ho, resolve, invoke, builtin, Sem.run_bind, Sem.run_pure, Result.andThen_ok, List.map_toArray, List.map_cons, List.map_nil, hs, hx, hr]
  exact hK _ _ (h v' w' h2 h3)

/-- Behind two appends onto a new, empty slice: the row, and what has stayed. -/
theorem Own.below {w w1 : World} (g1 : (w.alloc (.cells #[] 5)).grownBy w1 (Value.slice (some ⟨w.heap.size, 0, none⟩) 0 0).ownBlock) : Below w.heap.size w w1 := by
  have b0 : Below w.heap.size w (w.alloc (.cells #[] 5)) := (Below.refl _ _).alloc (Nat.le_refl _) _
  exact b0.grown g1 (by simp) (fun k hk => by simp [Value.ownBlock] at hk; omega)
theorem Own.below2 {w w1 w2 : World} {v1 : Value} {n1 : Nat} {xs : List Nat} (b1 : Below w.heap.size w w1) (h1 : Own w1 w.heap.size v1 n1 xs) (g2 : w1.grownBy w2 v1.ownBlock) : Below w.heap.size w w2 :=
  b1.grown g2 b1.size (fun k hk => (h1.2.lt k hk).1)
theorem below_made (w : World) : Below w.heap.size w (w.alloc (.cells #[] 5)) := (Below.refl _ _).alloc (Nat.le_refl _) _

theorem quietly {f : FuncId} {args : Array Value} {w : World} {n : Nat} {v : Value} (h : Calls Try.prog f args (w.drewN n) fun e w' => e = .returned v ∧ w.drewN n = w') :
    Calls Try.prog f args (w.drewN n) fun e w'' => e = .returned v ∧ ∃ m, w'' = w.drewN m := h.mono fun _ _ ⟨he, hm⟩ => ⟨he, n, hm.symm⟩
theorem Own.quiet {w : World} {base : Nat} {v : Value} {n : Nat} {xs : List Nat} (h : Own w base v n xs) (m : Nat) : Own (w.drewN m) base v n xs := h
theorem below_quiet {B : Nat} {a w : World} (h : Below B a w) (n : Nat) : Below B a (w.drewN n) := ⟨h.os, h.tape, h.output, h.size, h.block⟩
end Go.Proofs.Ytjbhichgojjakaa
