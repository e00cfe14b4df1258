/-
  Rows of bytes of the call's own, second part: kept, laid byte by byte, appended to in a region that draws its order; bytes as texts.
-/
import Derived.Test.YtjbhichgojjakaaBytes
import Derived.Test.YtjbhichgojjakaaNum
import Derived.Laws.BytesArg
namespace Go.Proofs.Ytjbhichgojjakaa
open Go.ChangeShapes Go.WideShapes Go.ChangeAt Go.RowKit
set_option linter.unusedVariables false
set_option maxRecDepth 100000

theorem Own.alloc {w : World} {base : Nat} {v : Value} {n : Nat} {xs : List Nat} (h : Own w base v n xs) (o : Obj) : Own (w.alloc o) base v n xs := ⟨h.1, h.2.alloc o⟩
/-- The row, and what has stayed since w, when k bytes have been laid. -/
def LayRel (w : World) (base m : Nat) (xs : List Nat) (x : Nat) (wr : World) (v : Value) (k : Nat) : Prop := Own wr base v (m + k) (xs ++ leN k x) ∧ Below base w wr
theorem LayRel.step {w wr w' : World} {base m : Nat} {xs : List Nat} {x k : Nat} {v v' : Value} {o : Obj} (h : LayRel w base m xs x wr v k) (hbase : base ≤ w.heap.size)
    (hown : Own w' base v' (m + k + 1) (xs ++ leN k x ++ [shN k x % 256])) (hg : (wr.alloc o).grownBy w' v.ownBlock) : LayRel w base m xs x w' v' (k + 1) := by
  refine ⟨?_, ?_⟩
  · rw [leN_snoc, ← List.append_assoc]; exact hown
  · refine (h.2.alloc (Nat.le_trans hbase h.2.size) o).grown hg (by have := h.2.size; simp; omega) (fun k hk => (h.1.2.lt k hk).1)
def OwnPost (w : World) (base n : Nat) (xs : List Nat) (e : Ending) (w' : World) : Prop := ∃ v, e = .returned v ∧ Own w' base v n xs ∧ Below base w w'

theorem Own.lower {w : World} {b b' : Nat} {v : Value} {n : Nat} {xs : List Nat} (h : Own w b v n xs) (hb : b' ≤ b) : Own w b' v n xs := by
  refine ⟨h.1, h.2.1, ?_⟩
  rcases h.2.2 with h | ⟨g, cap, cur, e, hg, r⟩
  · exact .inl h
  · exact .inr ⟨g, cap, cur, e, Nat.le_trans hb hg, r⟩
theorem below_own {a w w' : World} {v : Value} {n : Nat} {xs : List Nat} (h : Below a.heap.size a w) (hown : Own w a.heap.size v n xs) (hg : w.grownBy w' v.ownBlock) : Below a.heap.size a w' :=
  h.grown hg h.size (fun k hk => (hown.2.lt k hk).1)
theorem made_at {a w : World} (h : Below a.heap.size a w) : Own (w.alloc (.cells #[] 5)) a.heap.size (.slice (some ⟨w.heap.size, 0, none⟩) 0 0) 0 [] := (Own.made w).lower h.size

/-- 'append(out, xs...)' as one step of a region that draws its order. -/
theorem step_append_bytes {ops : Array Oper} {o : Oper} {a : Act} {w : World} {K : Act → World → Prop} {Q : Exit → Act → World → Prop} {E : Prop} (hg : o.guard = none) (s x : Operand)
    (ho : o.op = .call { callee := .builtin .append, args := #[s, x], argTypes := #[24, 24] }) (base : Nat) (v : Value) (n : Nat) (xs : List Nat) (hs : a.eval s = v) (hown : Own w base v n xs)
    (A : Option Addr) (m c : Nat) (ys : List Nat) (hx : a.eval x = .slice A m c) (hA : AtB w A m ys) (hb : (n + m) ≤ 140737488355328) (hbase : base ≤ w.heap.size)
    (h : ∀ v' w', Own w' base v' (n + m) (xs ++ ys) → w.grownBy w' v.ownBlock → K (a.put o.dst v') w') : if Region.wanted o (yielded ops a.tmps) = true then Oper.wp Try.prog o a w K Q else E := by
  have hw : Region.wanted o (yielded ops a.tmps) = true := by simp [Region.wanted, hg]
  rw [if_pos hw]
  obtain ⟨i, hi, hz0, hz1, hz2⟩ := info_parts info5
  have hB : Bytes (xs ++ ys) := fun z hz => (List.mem_append.1 hz).elim (hown.1 z) (hA.2.1 z)
  have hrun : ∃ v' w', (Builtin.append_ #[24, 24] o.type #[v, .slice A m c]).run Try.prog w = .ok v' w' ∧ Own w' base v' (n + m) (xs ++ ys) ∧ w.grownBy w' v.ownBlock := by
    rcases A with _ | ad
    · have hm : m = 0 := by
        rcases Nat.eq_zero_or_pos m with h0 | h0
        · exact h0
        · obtain ⟨b, off, e, _⟩ := hA.2.2.2 h0
          cases e
      subst hm
      obtain rfl : ys = [] := List.eq_nil_of_length_eq_zero hA.1
      exact ⟨v, w, run_append_nil_any w base o.type v n _ hown.2 c, by rw [List.append_nil]; exact hown, ⟨rfl, rfl, rfl, Nat.le_refl _, fun _ _ _ => rfl⟩⟩
    · obtain ⟨v', w', h1, h2, h3, _⟩ := run_append_own (P := Try.prog) w base 24 o.type 5 i (.int .u8 0) 1 1 Try.underlying24 hi hz0 hz1 hz2 rfl (by decide) v n (vals xs) hown.2 ad m c (vals ys)
        (by rw [vals_length, hA.1]; omega) (hA.news ad rfl) (vals_one ys) (by unfold maxLen; omega) (by omega) hbase
      exact ⟨v', w', h1, ⟨hB, by rw [vals_append]; exact h2⟩, h3⟩
  obtain ⟨v', w', hr, h2, h3⟩ := hrun
  unfold Oper.wp execOp
  simp only [ho, resolve, invoke, builtin, Sem.run_bind, Sem.run_pure, Result.andThen_ok, List.map_toArray, List.map_cons, List.map_nil, hs, hx, hr]
  exact h v' w' h2 h3

/-- Onto a row of the call's own: what lay when w0 was is as it was. -/
theorem step_append_below {ops : Array Oper} {o : Oper} {a : Act} {w0 w : World} {K : Act → World → Prop} {Q : Exit → Act → World → Prop} {E : Prop} (hB : Below w0.heap.size w0 w) (hg : o.guard = none) (s x : Operand)
    (ho : o.op = .call { callee := .builtin .append, args := #[s, x], argTypes := #[24, 24] }) (v : Value) (n : Nat) (xs : List Nat) (hs : a.eval s = v) (hown : Own w w0.heap.size v n xs)
    (A : Option Addr) (m c : Nat) (ys : List Nat) (hx : a.eval x = .slice A m c) (hA : AtB w A m ys) (hb : n + m ≤ 140737488355328)
    (h : ∀ v' w', Own w' w0.heap.size v' (n + m) (xs ++ ys) → Below w0.heap.size w0 w' → K (a.put o.dst v') w') : if Region.wanted o (yielded ops a.tmps) = true then Oper.wp Try.prog o a w K Q else E :=
  step_append_bytes hg s x ho w0.heap.size v n xs hs hown A m c ys hx hA hb hB.size (fun v' w' h1 h2 => h v' w' h1 (below_own hB hown h2))

theorem Own.later {w w' : World} {base : Nat} {v : Value} {n : Nat} {xs : List Nat} (h : Own w base v n xs) (hb : Below w.heap.size w w') : Own w' base v n xs :=
  ⟨h.1, h.2.kept (row := none) ⟨hb.os, hb.tape, hb.output, hb.size, fun k hk _ => hb.block k hk⟩ (by cases v.ownBlock <;> simp)⟩
/-- Bytes as a text. -/
def strN (xs : List Nat) : ByteArray := strOfNums (xs.map fun n : Nat => (n : Int))
theorem run_str {w : World} {A : Option Addr} {len : Nat} {xs : List Nat} (h : AtB w A len xs) (cap : Nat) : (convert 24 9 (.slice A len cap)).run Try.prog w = .ok (.string (strN xs)) w := by
  obtain ⟨h1, h2, h3, h4⟩ := h
  by_cases hp : 0 < len
  · obtain ⟨b, off, rfl, _, hc⟩ := h4 hp
    exact run_convert_bytes_arg w 24 5 Try.underlying24 Try.underlying5 b off len cap (xs.map fun n : Nat => (n : Int)) (by simp [h1]) (fun i hi => by
      rw [hc i hi]; simp only [List.getD_eq_getElem?_getD, List.getElem?_map, List.getElem?_eq_getElem (show i < xs.length by omega)]; rfl) 9 Try.underlying9
  · obtain rfl : len = 0 := by omega
    obtain rfl : xs = [] := by simpa using h1
    rw [run_convert_bytes_string w 24 9 5 _ 0 cap Try.underlying24 Try.underlying5 Try.underlying9]
    cases A <;> simp [Conv.bytesToString, loadCells]
    all_goals rfl

theorem Own.lit (w : World) (xs : List Nat) (h : Bytes xs) (hm : xs.length ≤ maxLen) : Own (w.alloc (.cells (vals xs).toArray 5)) w.heap.size (.slice (some ⟨w.heap.size, 0, none⟩) xs.length xs.length) xs.length xs := by
  refine ⟨h, by rw [vals_length, Nat.mul_one], .inr ⟨w.heap.size, xs.length, (vals xs).toArray, rfl, Nat.le_refl _, heap_alloc_new w _, Nat.le_refl _, hm, by simp [vals_length], ?_⟩⟩
  rw [Nat.mul_one, List.take_of_length_le (by simp [vals_length])]

end Go.Proofs.Ytjbhichgojjakaa
