/-
  Rows of bytes in a walk: cuts of a slice told once for whatever bounds, append onto a row of the call's own from a source that may be nil or empty, and what such a row reads as.
-/
import Derived.Test.YtnjbhjlcibmknaaDoorSlices
import Derived.OwnWalk
import Derived.Deep.QuietTactic
import Derived.BigQuiet
import Derived.Laws.OwnMore
namespace Go.Proofs.YtnjbhjlcibmknaaDoor
open Go.ChangeShapes Go.WideShapes Go.ChangeAt Go.RowKit
set_option linter.unusedVariables false

theorem AtB.drewN {w : World} {a : Option Addr} {len : Nat} {xs : List Nat} (h : AtB w a len xs) (n : Nat) : AtB (w.drewN n) a len xs := h
theorem Tab.drewN {w : World} (h : Tab w) (n : Nat) : Tab (w.drewN n) := h

theorem elem23 : Tryd.prog.underlying 23 = some (.slice (Tryd.prog.elem 23)) := by kernel_rfl
theorem elem23' : Tryd.prog.elem 23 = 5 := by kernel_rfl
theorem size5 (w : World) : (sizeOf 5).run Tryd.prog w = .ok 1 w := by kernel_rfl

/-- The address behind a cut: as the model tells it. -/
def cutA (a : Option Addr) (cap lo : Nat) : Option Addr := if cap = lo then a else a.map (·.add (lo * 1))

theorem AtB.cutA {w : World} {a : Option Addr} {len cap : Nat} {xs : List Nat} (h : AtB w a len xs) (hc : len ≤ cap) (lo hi : Nat) (h1 : lo ≤ hi) (h2 : hi ≤ len) :
    AtB w (cutA a cap lo) (hi - lo) ((xs.drop lo).take (hi - lo)) := by
  by_cases hp : lo < hi
  · obtain ⟨b, off, rfl, hlt, _⟩ := h.2.2.2 (by omega)
    have := h.cut lo (hi - lo) (by omega)
    unfold YtnjbhjlcibmknaaDoor.cutA
    rw [if_neg (by omega)]
    simpa [Addr.add_lit] using this
  · have : hi - lo = 0 := by omega
    rw [this, List.take_zero]
    exact AtB.nil _ _

theorem run_cut_lh (a : Option Addr) (len cap lo hi : Nat) (h1 : lo ≤ hi) (h2 : hi ≤ cap) (W : World) :
    (Instr.slice 23 (.slice a len cap) (some (.int .i64 (lo : Int))) (some (.int .i64 (hi : Int))) none).run Tryd.prog W = .ok (.slice (cutA a cap lo) (hi - lo) (cap - lo)) W := by
  rw [run_slice_lh W 23 _ _ _ elem23 .i64 .i64 _ _ (by omega) (by omega) (by omega), elem23', size5]
  rfl
theorem run_cut_h (a : Option Addr) (len cap hi : Nat) (h2 : hi ≤ cap) (W : World) :
    (Instr.slice 23 (.slice a len cap) none (some (.int .i64 (hi : Int))) none).run Tryd.prog W = .ok (.slice (cutA a cap 0) hi cap) W := by
  rw [run_slice_h W 23 _ _ _ elem23 .i64 _ (by omega) (by omega), elem23', size5]
  rfl
theorem run_cut_l (a : Option Addr) (len cap lo : Nat) (h1 : lo ≤ len) (W : World) :
    (Instr.slice 23 (.slice a len cap) (some (.int .i64 (lo : Int))) none none).run Tryd.prog W = .ok (.slice (cutA a cap lo) (len - lo) (cap - lo)) W := by
  rw [run_slice_l W 23 _ _ _ elem23 .i64 _ (by omega) (by omega), elem23', size5]
  rfl

/-! ### Rows of the call's own -/
def vals (xs : List Nat) : List Value := xs.map fun x : Nat => Value.int .u8 (x : Int)
theorem vals_length (xs : List Nat) : (vals xs).length = xs.length := List.length_map _
theorem vals_one (xs : List Nat) : ∀ u ∈ vals xs, u.oneCell' = true := by
  intro u hu
  obtain ⟨z, _, rfl⟩ := List.mem_map.1 hu
  rfl
theorem vals_append (xs ys : List Nat) : vals (xs ++ ys) = vals xs ++ vals ys := List.map_append
theorem vals_set (xs : List Nat) (j y : Nat) : vals (xs.set j y) = (vals xs).set j (.int .u8 (y : Int)) := by unfold vals; rw [List.map_set]
theorem vals_get (xs : List Nat) (j : Nat) (h : j < xs.length) : (vals xs)[j]? = some (.int .u8 ((xs.getD j 0 : Nat) : Int)) := by
  unfold vals
  rw [List.getElem?_map, List.getD_eq_getElem?_getD, List.getElem?_eq_getElem h]; rfl

theorem AtB.news {w : World} {a : Option Addr} {len : Nat} {xs : List Nat} (h : AtB w a len xs) : ∀ ad, a = some ad → ∀ j u, (vals xs)[j]? = some u → w.cell? (ad.add j) = some u := by
  obtain ⟨h1, h2, h3, h4⟩ := h
  intro ad had j u hu
  have hj : j < len := by
    have := (List.getElem?_eq_some_iff.1 hu).1
    rw [vals_length] at this; omega
  obtain ⟨b, off, e, hlt, hc⟩ := h4 (by omega)
  rw [had] at e
  obtain rfl := Option.some.inj e
  rw [add_plain, hc j hj, ← vals_get xs j (by omega)]
  exact hu

def Own (w : World) (base : Nat) (v : Value) (n : Nat) (xs : List Nat) : Prop := Bytes xs ∧ w.ownsRow base 5 1 v n (vals xs)
theorem Own.length {w : World} {base : Nat} {v : Value} {n : Nat} {xs : List Nat} (h : Own w base v n xs) : xs.length = n := by have := h.2.1; rw [vals_length] at this; omega

/-- What a row of the call's own reads as. -/
theorem Own.at_ {w : World} {base : Nat} {v : Value} {n : Nat} {xs : List Nat} (h : Own w base v n xs) (hn : n ≤ 9223372036854775807) : ∃ A cap, v = .slice A n cap ∧ n ≤ cap ∧ AtB w A n xs := by
  have hl := h.length
  rcases h.2.2 with ⟨rfl, rfl⟩ | ⟨g, cap, cur, rfl, hg, hheap, hcap, hmax, hsz, htake⟩
  · obtain rfl : xs = [] := List.eq_nil_of_length_eq_zero hl
    exact ⟨none, 0, rfl, Nat.le_refl _, AtB.nil _ _⟩
  · refine ⟨_, cap, rfl, hcap, hl, h.1, hn, fun _ => ⟨g, 0, rfl, (Array.getElem?_eq_some_iff.1 hheap).1, fun j hj => ?_⟩⟩
    have := h.2.cellAt j (by omega)
    rw [Nat.zero_add, this, vals_get xs j (by omega)]

theorem Own.made (w : World) : Own (w.alloc (.cells #[] 5)) w.heap.size (.slice (some ⟨w.heap.size, 0, none⟩) 0 0) 0 [] :=
  ⟨fun x hx => by simp at hx, World.ownsRow_made w #[] 0 (Nat.le_refl _) (by decide) rfl⟩

theorem info5 : (Tryd.prog.info? 5).map (fun i => (i.zero, i.size, i.bytes)) = some (some (.int .u8 0), 1, 1) := by kernel_rfl

theorem run_append_nil_any (w : World) (base : Nat) (ty : TypeId) (v : Value) (n : Nat) (xs : List Value) (hown : w.ownsRow base 5 1 v n xs) (c : Nat) :
    (Builtin.append_ #[23, 23] ty #[v, .slice none 0 c]).run Tryd.prog w = .ok v w := by
  obtain ⟨i, hi, _, _, _⟩ := info_parts info5
  rcases hown.2 with ⟨rfl, rfl⟩ | ⟨g, cap, cur, rfl, _, _, hnc, _⟩
  · simp [Builtin.append_, run_underlying Tryd.underlying23, sizeOf, typeInfo, hi, Builtin.lenOf, Builtin.firstCells]
  · simp [Builtin.append_, run_underlying Tryd.underlying23, sizeOf, typeInfo, hi, Builtin.lenOf, Builtin.firstCells, hnc, storeCells]

/-- 'append(out, xs...)': out a row of the call's own, the source whatever row of bytes, nil and empty ones among them; guarded or not. -/
theorem wpList_append_bytes {ops : Array Oper} {rest : List Oper} {o : Oper} {a : Act} {w : World} {Q : Exit → Act → World → Prop} (hw : Region.wanted o (yielded ops a.tmps) = true) (s x : Operand)
    (ho : o.op = .call { callee := .builtin .append, args := #[s, x], argTypes := #[23, 23] }) (base : Nat) (v : Value) (n : Nat) (xs : List Nat) (hs : a.eval s = v) (hown : Own w base v n xs)
    (A : Option Addr) (m c : Nat) (ys : List Nat) (hx : a.eval x = .slice A m c) (hA : AtB w A m ys) (hb : (n + m) ≤ 140737488355328) (hbase : base ≤ w.heap.size)
    (h : ∀ v' w', Own w' base v' (n + m) (xs ++ ys) → w.grownBy w' v.ownBlock → wpList Tryd.prog ops Q rest (a.put o.dst v') w') : wpList Tryd.prog ops Q (o :: rest) a w := by
  obtain ⟨i, hi, hz0, hz1, hz2⟩ := info_parts info5
  have hB : Bytes (xs ++ ys) := fun z hz => (List.mem_append.1 hz).elim (hown.1 z) (hA.2.1 z)
  have hrun : ∃ v' w', (Builtin.append_ #[23, 23] o.type #[v, .slice A m c]).run Tryd.prog w = .ok v' w' ∧ Own w' base v' (n + m) (xs ++ ys) ∧ w.grownBy w' v.ownBlock := by
    rcases A with _ | ad
    · have hm : m = 0 := by
        rcases Nat.eq_zero_or_pos m with h0 | h0
        · exact h0
        · obtain ⟨b, off, e, _⟩ := hA.2.2.2 h0
          cases e
      subst hm
      obtain rfl : ys = [] := List.eq_nil_of_length_eq_zero hA.1
      exact ⟨v, w, run_append_nil_any w base o.type v n _ hown.2 c, by rw [List.append_nil]; exact hown, ⟨rfl, rfl, rfl, Nat.le_refl _, fun _ _ _ => rfl⟩⟩
    · obtain ⟨v', w', h1, h2, h3, _⟩ := run_append_own (P := Tryd.prog) w base 23 o.type 5 i (.int .u8 0) 1 1 Tryd.underlying23 hi hz0 hz1 hz2 rfl (by decide) v n (vals xs) hown.2 ad m c (vals ys)
        (by rw [vals_length, hA.1]; omega) (hA.news ad rfl) (vals_one ys) (by unfold maxLen; omega) (by omega) hbase
      exact ⟨v', w', h1, ⟨hB, by rw [vals_append]; exact h2⟩, h3⟩
  obtain ⟨v', w', hr, h2, h3⟩ := hrun
  refine BigFrame.wpList_want hw fun K hK => ?_
  unfold Oper.wp execOp
  simp only [ho, resolve, invoke, builtin, Sem.run_bind, Sem.run_pure, Result.andThen_ok, List.map_toArray, List.map_cons, List.map_nil, hs, hx, hr]
  exact hK _ _ (h v' w' h2 h3)

theorem more_is' (s : Nat) (hs : s < 4294967296) (a : Option Addr) (len cap : Nat) (xs : List Nat) (n : Nat) (w : World) (hT : Hid (Tab w)) (h : AtB w a len xs) (hn : moreN s xs = n) :
    Calls Tryd.prog 13 #[.int .u32 (s : Int), .slice a len cap] w fun e w' => e = .returned (.int .u32 (n : Int)) ∧ w = w' := by
  rw [← hn]; exact more_at s hs a len cap xs w hT h
theorem sum_is' (a : Option Addr) (len cap : Nat) (xs : List Nat) (n : Nat) (w : World) (hT : Hid (Tab w)) (h : AtB w a len xs) (hn : moreN 0 xs = n) :
    Calls Tryd.prog 11 #[.slice a len cap] w fun e w' => e = .returned (.int .u32 (n : Int)) ∧ w = w' := by
  rw [← hn]; exact sum_at a len cap xs w hT h
theorem sum_own (v : Value) (base n : Nat) (xs : List Nat) (m : Nat) (w : World) (hT : Hid (Tab w)) (h : Own w base v n xs) (hn : n ≤ 9223372036854775807) (hm : moreN 0 xs = m) :
    Calls Tryd.prog 11 #[v] w fun e w' => e = .returned (.int .u32 (m : Int)) ∧ w = w' := by
  obtain ⟨A, cap, rfl, _, hat⟩ := h.at_ hn
  exact sum_is' A n cap xs m w hT hat hm

/-- The same where something comes of it: the value written out. -/
theorem wpList_append_new {ops : Array Oper} {rest : List Oper} {o : Oper} {a : Act} {w : World} {Q : Exit → Act → World → Prop} (hw : Region.wanted o (yielded ops a.tmps) = true) (s x : Operand)
    (ho : o.op = .call { callee := .builtin .append, args := #[s, x], argTypes := #[23, 23] }) (base : Nat) (v : Value) (n : Nat) (xs : List Nat) (hs : a.eval s = v) (hown : Own w base v n xs)
    (A : Option Addr) (m c : Nat) (ys : List Nat) (hx : a.eval x = .slice A m c) (hA : AtB w A m ys) (L : Nat) (hL : n + m = L) (zs : List Nat) (hz : xs ++ ys = zs) (hp : 0 < L) (hb : L ≤ 140737488355328) (hbase : base ≤ w.heap.size)
    (h : ∀ g cap w', Own w' base (.slice (some ⟨g, 0, none⟩) L cap) L zs → L ≤ cap → base ≤ g → w.grownBy w' v.ownBlock → wpList Tryd.prog ops Q rest (a.put o.dst (.slice (some ⟨g, 0, none⟩) L cap)) w') : wpList Tryd.prog ops Q (o :: rest) a w := by
  subst hL hz
  refine wpList_append_bytes hw s x ho base v n xs hs hown A m c ys hx hA hb hbase fun v' w' hown' hg => ?_
  have h2 := hown'
  rcases hown'.2.2 with ⟨rfl, h0⟩ | ⟨g, cap, cur, rfl, hbg, _, hcap, _⟩
  · omega
  · exact h g cap w' h2 hcap hbg hg

theorem Own.cell {w : World} {base g n cap : Nat} {xs : List Nat} (h : Own w base (.slice (some ⟨g, 0, none⟩) n cap) n xs) (j : Nat) (hj : j < n) : w.cell? ⟨g, j, none⟩ = some (.int .u8 ((xs.getD j 0 : Nat) : Int)) := by
  have := h.2.cellAt j (by omega)
  rw [this, vals_get xs j (by rw [h.length]; exact hj)]
theorem Own.free {w : World} {base g n cap : Nat} {xs : List Nat} (h : Own w base (.slice (some ⟨g, 0, none⟩) n cap) n xs) (j : Nat) : w.frozen? ⟨g, j, none⟩ = false := h.2.frozenAt j
theorem Own.stored {w : World} {base g n cap : Nat} {xs : List Nat} (h : Own w base (.slice (some ⟨g, 0, none⟩) n cap) n xs) (j y : Nat) (hy : y < 256) :
    Own (w.setCell ⟨g, j, none⟩ (.int .u8 (y : Int))) base (.slice (some ⟨g, 0, none⟩) n cap) n (xs.set j y) :=
  ⟨fun z hz => (List.mem_or_eq_of_mem_set hz).elim (h.1 z) (fun e => by omega), by rw [vals_set]; exact (h.2.stored j _).1⟩
theorem AtB.cell {w : World} {b off len : Nat} {xs : List Nat} (h : AtB w (some ⟨b, off, none⟩) len xs) (j : Nat) (hj : j < len) : b < w.heap.size ∧ w.cell? ⟨b, off + j, none⟩ = some (.int .u8 ((xs.getD j 0 : Nat) : Int)) := by
  obtain ⟨b', off', e, hlt, hc⟩ := h.2.2.2 (by omega)
  simp only [Option.some.injEq, Addr.mk.injEq, and_true] at e
  obtain ⟨rfl, rfl⟩ := e
  exact ⟨hlt, hc j hj⟩

/-- Behind two appends onto a new, empty slice: the row, and what has stayed. -/
theorem Own.below {w w1 : World} (g1 : (w.alloc (.cells #[] 5)).grownBy w1 (Value.slice (some ⟨w.heap.size, 0, none⟩) 0 0).ownBlock) : Below w.heap.size w w1 := by
  have b0 : Below w.heap.size w (w.alloc (.cells #[] 5)) := (Below.refl _ _).alloc (Nat.le_refl _) _
  exact b0.grown g1 (by simp) (fun k hk => by simp [Value.ownBlock] at hk; omega)
theorem Own.below2 {w w1 w2 : World} {v1 : Value} {n1 : Nat} {xs : List Nat} (b1 : Below w.heap.size w w1) (h1 : Own w1 w.heap.size v1 n1 xs) (g2 : w1.grownBy w2 v1.ownBlock) : Below w.heap.size w w2 :=
  b1.grown g2 b1.size (fun k hk => (h1.2.lt k hk).1)
theorem below_made (w : World) : Below w.heap.size w (w.alloc (.cells #[] 5)) := (Below.refl _ _).alloc (Nat.le_refl _) _

theorem Tab.quiet {w : World} (h : Hid (Tab w)) (n : Nat) : Hid (Tab (w.drewN n)) := h
theorem quietly {f : FuncId} {args : Array Value} {w : World} {n : Nat} {v : Value} (h : Calls Tryd.prog f args (w.drewN n) fun e w' => e = .returned v ∧ w.drewN n = w') :
    Calls Tryd.prog f args (w.drewN n) fun e w'' => e = .returned v ∧ ∃ m, w'' = w.drewN m := h.mono fun _ _ ⟨he, hm⟩ => ⟨he, n, hm.symm⟩
theorem Own.quiet {w : World} {base : Nat} {v : Value} {n : Nat} {xs : List Nat} (h : Own w base v n xs) (m : Nat) : Own (w.drewN m) base v n xs := h
theorem below_quiet {B : Nat} {a w : World} (h : Below B a w) (n : Nat) : Below B a (w.drewN n) := ⟨h.os, h.tape, h.output, h.size, h.block⟩
end Go.Proofs.YtnjbhjlcibmknaaDoor
