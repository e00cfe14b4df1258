/-
  Who makes accesses of words: a function value with states, of which each access tells a number, or by which the program is left. The calls of play over any such; a rule for a label that is jumped back to, with a count that no slot holds.
-/
import Derived.Test.YtadknblgfcgkpaaPlyWord
import Derived.Test.YtadknblgfcgkpaaWrdCalls
import Derived.Test.YtadknblgfcgkpaaCllCalls
import Derived.ScopeJumps
import Derived.WalkMore
namespace Go.Proofs.Ytadknblgfcgkpaa
open Go.ChangeShapes Go.WideShapes Go.ChangeAt Go.RowKit Go.BigFrame
set_option linter.unusedVariables false
set_option maxRecDepth 100000

/-! ### A label, by a count that no slot holds -/
theorem least_of {p : Nat → Prop} (h : ∃ n, p n) : ∃ n, p n ∧ ∀ m, p m → n ≤ m := by
  obtain ⟨n, hn⟩ := h
  induction n using Nat.strongRecOn with
  | _ n ih =>
    by_cases hx : ∃ m, m < n ∧ p m
    · obtain ⟨m, hm, hp⟩ := hx
      exact ih m hm hp
    · exact ⟨n, hn, fun m hm => by
        rcases Nat.lt_or_ge m n with h | h
        · exact absurd ⟨m, h, hm⟩ hx
        · exact h⟩
theorem wp_scope_count {P : Program} {a : Act} {w : World} {Q : Exit → Act → World → Prop} {c rest : Code} (l : Nat) (J : Nat → Act → World → Prop) (hf : findLabel c l = some rest)
    (first : c.wp P (Exit.jump l (fun a' w' => ∃ n, J n a' w') Q) a w)
    (pass : ∀ n a w, J n a w → rest.wp P (Exit.jump l (fun a' w' => ∃ m, m < n ∧ J m a' w') Q) a w) : (Code.scope c).wp P Q a w := by
  classical
  refine wp_scope_jumps l (fun a' w' => ∃ n, J n a' w') (fun a' w' => if h : ∃ n, J n a' w' then Classical.choose (least_of h) else 0) hf first ?_
  intro a w hJ
  have hs := Classical.choose_spec (least_of hJ)
  refine wp_mono (pass _ a w hs.1) ?_
  intro e a' w' hq
  cases e with
  | goto l' =>
    obtain ⟨rfl, m, hm, hJ'⟩ := hq
    have hx : ∃ n, J n a' w' := ⟨m, hJ'⟩
    refine ⟨rfl, hx, ?_⟩
    simp only [dif_pos hx, dif_pos hJ]
    exact Nat.lt_of_le_of_lt ((Classical.choose_spec (least_of hx)).2 m hJ') hm
  | _ => exact hq
theorem wp_scope_again {P : Program} {a : Act} {w : World} {Q : Exit → Act → World → Prop} {c rest : Code} (l : Nat) (J : Nat → Act → World → Prop) (hf : findLabel c l = some (Code.skip.seq rest))
    (pass : ∀ n a w, J n a w → rest.wp P (Exit.jump l (fun a' w' => ∃ m, m < n ∧ J m a' w') Q) a w)
    (first : (∀ n a w, J n a w → rest.wp P (Exit.jump l (fun a' w' => ∃ n, J n a' w') Q) a w) → c.wp P (Exit.jump l (fun a' w' => ∃ n, J n a' w') Q) a w) : (Code.scope c).wp P Q a w := by
  refine wp_scope_count l J hf (first fun n a w h => wp_mono (pass n a w h) ?_) fun n a w h => wp_seq (wp_skip (pass n a w h))
  intro e a' w' hq
  cases e with
  | goto l' =>
    obtain ⟨rfl, m, _, hJ⟩ := hq
    exact ⟨rfl, m, hJ⟩
  | _ => exact hq

/-! ### Who makes accesses -/
/-- What an access is told: a number, and the state behind it; the program is left; or nothing is said of it. -/
inductive Tell (S : Type) where
  | told (n : Nat) (s : S)
  | left
  | bad
/-- What a program ends with: a number, and the state then; or it is left at an access. -/
inductive Ran (S : Type) where
  | done (r : Nat) (s : S)
  | left (k i : Int) (a b : Nat)
  | bad
def Quits (pv : Value) (P : World → Prop) (e : Ending) (w' : World) : Prop := e = .panicked [{ v := pv, recovered := false }] ∧ P w'
/-- Numbers that an access may have. -/
def Bnd (k i : Int) (a b : Nat) : Prop := (-9223372036854775808 ≤ k ∧ k < 9223372036854775808) ∧ (-9223372036854775808 ≤ i ∧ i < 9223372036854775808) ∧ a < 18446744073709551616 ∧ b < 18446744073709551616
structure Srv (dv : Value) (S : Type) where
  I : S → World → Prop
  g : Nat
  tell : S → Int → Int → Nat → Nat → Tell S
  pv : Value
  L : Int → Int → Nat → Nat → World → Prop
  isFn : ∃ f first cap, dv = .func (.func f) first cap
  small : ∀ {s k i a b n s'}, tell s k i a b = .told n s' → n < 18446744073709551616
  B : World → Nat
  ble : ∀ {s w}, I s w → B w ≤ w.heap.size
  stay : ∀ {s w w'}, I s w → Below (B w) w w' → I s w'
  told : ∀ {s k i a b n s'}, tell s k i a b = .told n s' → Bnd k i a b → ∀ w, I s w → Calls Try.prog 51 #[dv, .int .i64 k, .int .i64 i, .int .u64 (a : Int), .int .u64 (b : Int)] w (Tells n (fun w' => I s' w' ∧ But g w w'))
  left : ∀ {s k i a b}, tell s k i a b = .left → Bnd k i a b → ∀ w, I s w → Calls Try.prog 51 #[dv, .int .i64 k, .int .i64 i, .int .u64 (a : Int), .int .u64 (b : Int)] w (Quits pv (L k i a b))
theorem Srv.later {dv : Value} {S : Type} (V : Srv dv S) {s : S} {w w' : World} (h : V.I s w) (hb : Below w.heap.size w w') : V.I s w' := V.stay h (hb.mono (V.ble h))
/-- A program's end, by what it ran to. -/
def RunEnd {dv : Value} {S : Type} (V : Srv dv S) (w : World) (ret : Nat → Value) : Ran S → Ending → World → Prop
  | .done r s, e, w' => e = .returned (ret r) ∧ V.I s w' ∧ But V.g w w'
  | .left k i a b, e, w' => Quits V.pv (V.L k i a b) e w'
  | .bad, _, _ => True
section
variable (dv : Value) (i : Int) (a b : Nat) (pv : Value) (P : World → Prop) (w : World)
theorem load_left (h : Calls Try.prog 51 #[dv, .int .i64 0, .int .i64 i, .int .u64 0, .int .u64 0] w (Quits pv P)) :
    Calls Try.prog 34 #[dv, .int .i64 i] w (Quits pv P) := by
  go_enter Try.func34, Try.ntmps34
  go_wp2_with fail
  (with_reducible refine h.mono ?_)
  rintro e w' ⟨rfl, hp⟩
  exact ⟨rfl, rfl, hp⟩
theorem store_left (h : Calls Try.prog 51 #[dv, .int .i64 1, .int .i64 i, .int .u64 (a : Int), .int .u64 0] w (Quits pv P)) :
    Calls Try.prog 35 #[dv, .int .i64 i, .int .u64 (a : Int)] w (Quits pv P) := by
  go_enter Try.func35, Try.ntmps35
  go_wp2_with fail
  (with_reducible refine h.mono ?_)
  rintro e w' ⟨rfl, hp⟩
  exact ⟨rfl, rfl, hp⟩
theorem cas_left (h : Calls Try.prog 51 #[dv, .int .i64 2, .int .i64 i, .int .u64 (a : Int), .int .u64 (b : Int)] w (Quits pv P)) :
    Calls Try.prog 54 #[dv, .int .i64 i, .int .u64 (a : Int), .int .u64 (b : Int)] w (Quits pv P) := by
  go_enter Try.func54, Try.ntmps54
  go_wp2_with fail
  (with_reducible refine h.mono ?_)
  rintro e w' ⟨rfl, hp⟩
  exact ⟨rfl, rfl, hp⟩
end
section
variable {dv : Value} {S : Type} (V : Srv dv S) {s s' : S} {i : Int} {a b n : Nat}
theorem Bnd.load (hi : -9223372036854775808 ≤ i ∧ i < 9223372036854775808) : Bnd 0 i 0 0 := ⟨by decide, hi, by decide, by decide⟩
theorem Bnd.store (hi : -9223372036854775808 ≤ i ∧ i < 9223372036854775808) (ha : a < 18446744073709551616) : Bnd 1 i a 0 := ⟨by decide, hi, ha, by decide⟩
theorem Bnd.cas (hi : -9223372036854775808 ≤ i ∧ i < 9223372036854775808) (ha : a < 18446744073709551616) (hb : b < 18446744073709551616) : Bnd 2 i a b := ⟨by decide, hi, ha, hb⟩
theorem Srv.load (ht : V.tell s 0 i 0 0 = .told n s') (hi : -9223372036854775808 ≤ i ∧ i < 9223372036854775808) (w : World) (hI : V.I s w) :
    Calls Try.prog 34 #[dv, .int .i64 i] w (Tells n (fun w' => V.I s' w' ∧ But V.g w w')) := load_of dv i n _ w (V.told ht (Bnd.load hi) w hI)
theorem Srv.loadL (ht : V.tell s 0 i 0 0 = .left) (hi : -9223372036854775808 ≤ i ∧ i < 9223372036854775808) (w : World) (hI : V.I s w) :
    Calls Try.prog 34 #[dv, .int .i64 i] w (Quits V.pv (V.L 0 i 0 0)) := load_left dv i V.pv _ w (V.left ht (Bnd.load hi) w hI)
theorem Srv.store (ht : V.tell s 1 i a 0 = .told n s') (hi : -9223372036854775808 ≤ i ∧ i < 9223372036854775808) (ha : a < 18446744073709551616) (w : World) (hI : V.I s w) :
    Calls Try.prog 35 #[dv, .int .i64 i, .int .u64 (a : Int)] w (fun e w' => e = .returned (.tuple #[]) ∧ V.I s' w' ∧ But V.g w w') := store_of dv i a n _ w (V.told ht (Bnd.store hi ha) w hI)
theorem Srv.storeL (ht : V.tell s 1 i a 0 = .left) (hi : -9223372036854775808 ≤ i ∧ i < 9223372036854775808) (ha : a < 18446744073709551616) (w : World) (hI : V.I s w) :
    Calls Try.prog 35 #[dv, .int .i64 i, .int .u64 (a : Int)] w (Quits V.pv (V.L 1 i a 0)) := store_left dv i a V.pv _ w (V.left ht (Bnd.store hi ha) w hI)
theorem Srv.cas (ht : V.tell s 2 i a b = .told n s') (hi : -9223372036854775808 ≤ i ∧ i < 9223372036854775808) (ha : a < 18446744073709551616) (hb : b < 18446744073709551616) (w : World) (hI : V.I s w) :
    Calls Try.prog 54 #[dv, .int .i64 i, .int .u64 (a : Int), .int .u64 (b : Int)] w (fun e w' => e = .returned (.bool ((n : Int) == 1)) ∧ V.I s' w' ∧ But V.g w w') := cas_of dv i a b n _ w (V.told ht (Bnd.cas hi ha hb) w hI)
theorem Srv.casL (ht : V.tell s 2 i a b = .left) (hi : -9223372036854775808 ≤ i ∧ i < 9223372036854775808) (ha : a < 18446744073709551616) (hb : b < 18446744073709551616) (w : World) (hI : V.I s w) :
    Calls Try.prog 54 #[dv, .int .i64 i, .int .u64 (a : Int), .int .u64 (b : Int)] w (Quits V.pv (V.L 2 i a b)) := cas_left dv i a b V.pv _ w (V.left ht (Bnd.cas hi ha hb) w hI)
end
end Go.Proofs.Ytadknblgfcgkpaa
