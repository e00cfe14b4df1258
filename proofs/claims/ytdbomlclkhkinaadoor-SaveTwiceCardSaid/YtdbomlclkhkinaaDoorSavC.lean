/-
  Texts of one kind, one behind the other: SavWorld, SavAlone, SavShown.
-/
import Derived.Test.YtdbomlclkhkinaaDoorSavA
import Derived.Test.YtdbomlclkhkinaaDoorAccBoth
import Derived.Test.YtdbomlclkhkinaaDoorPolB
import Derived.Test.YtdbomlclkhkinaaDoorAccB
import Derived.Test.YtdbomlclkhkinaaDoorAccOther
import Derived.Test.YtdbomlclkhkinaaDoorFrmB
import Derived.Test.YtdbomlclkhkinaaDoorLexFast
import Derived.Test.YtdbomlclkhkinaaDoorAfter
import Derived.Deep.Cut
namespace Go.Proofs.YtdbomlclkhkinaaDoor
open Go.ChangeShapes Go.WideShapes Go.ChangeAt Go.RowKit Go.BigFrame
set_option linter.unusedVariables false
set_option maxRecDepth 100000

abbrev WS := (Nat → Nat) × List Stm
def stmAt (W : WS) (me : Nat) : Stm := W.2.getD me ⟨[], 0⟩
/-- An access of a thread: what is told, whether it failed, and the world then. -/
def stepS (n me : Nat) (K i : Int) (a b : Nat) (d : List Nat) (fa : Bool) (W : WS) : Option (Nat × Bool × WS) :=
  if 0 ≤ K ∧ K < 5 ∧ 0 ≤ i ∧ i < n then some (toldN K.toNat a b (W.1 i.toNat), false, (setW W.1 i.toNat (isN K.toNat a b (W.1 i.toNat)), W.2))
  else if (K = 5 ∨ K = 6) ∧ i = 0 ∧ a = 0 ∧ b = 0 ∧ me < W.2.length ∧ (stmAt W me).bytes.length + d.length ≤ 100000 then
    some (0, fa, if fa = true then W else (W.1, W.2.set me (if K = 5 then (stmAt W me).app d else (stmAt W me).syn)))
  else none
namespace Prd
def aloneD (p : Prd) (n me : Nat) (fail : Nat → Bool) : Nat → List Res → WS → Option (Nat × WS)
  | 0, _, _ => none
  | f + 1, log, W =>
    match p.run tapeTellD log with
    | .bad => none
    | .done r _ => some (r, W)
    | .left K i a b d =>
      match stepS n me K i a b d (fail log.length) W with
      | none => none
      | some (N, fl, W') => aloneD p n me fail f (log ++ [⟨N, [], fl⟩]) W'
/-- The world, as who tells; with how many accesses were made. -/
def wTell (n me : Nat) (fail : Nat → Bool) (s : WS × Nat) (k i : Int) (a b : Nat) (d : List Nat) : Tell (WS × Nat) :=
  match stepS n me k i a b d (fail s.2) s.1 with
  | none => .bad
  | some (N, fl, W') => .told (toldR k ⟨N, [], fl⟩) (W', s.2 + 1)
inductive AfterD : Prd → List Res → Prd → Prop
  | nil (p : Prd) : AfterD p [] p
  | cons {k i : Int} {a b : Nat} {d : List Nat} {f : Nat → Prd} {r : Res} {log : List Res} {p' : Prd} (h : AfterD (f (toldR k r)) log p') : AfterD (ask k i a b d f) (r :: log) p'
theorem AfterD.snoc {p : Prd} {log : List Res} {k i : Int} {a b : Nat} {d : List Nat} {f : Nat → Prd} (h : AfterD p log (ask k i a b d f)) (r : Res) : AfterD p (log ++ [r]) (f (toldR k r)) := by
  generalize hq : ask k i a b d f = q at h
  induction h with
  | nil p => subst hq; exact .cons (.nil _)
  | cons h ih => exact .cons (ih hq)
theorem AfterD.run {p p' : Prd} {log : List Res} (h : AfterD p log p') (l : List Res) : p.run tapeTellD (log ++ l) = p'.run tapeTellD l := by
  induction h with
  | nil p => rfl
  | cons h ih =>
    simp only [List.cons_append, Prd.run, tapeTellD]
    exact ih
theorem alone_world (p : Prd) (n me : Nat) (fail : Nat → Bool) : ∀ (p' : Prd) (log : List Res) (W W' : WS) (d j f : Nat), AfterD p log p' → p'.run (wTell n me fail) (W, log.length) = .done d (W', j) → j < log.length + f → aloneD p n me fail f log W = some (d, W')
  | ret d', log, W, W', d, j, f, ha, hr, hf => by
    cases hr
    cases f with
    | zero => omega
    | succ f =>
      have h := ha.run []
      rw [List.append_nil] at h
      unfold aloneD
      rw [h]
      rfl
  | bad, log, W, W', d, j, f, ha, hr, hf => by cases hr
  | ask k i a b dd g, log, W, W', d, j, f, ha, hr, hf => by
    simp only [run] at hr
    unfold wTell at hr
    simp only [] at hr
    cases hs : stepS n me k i a b dd (fail log.length) W with
    | none => rw [hs] at hr; cases hr
    | some q =>
      obtain ⟨N, fl, W2⟩ := q
      rw [hs] at hr
      have hmore : ∀ (p : Prd) (W : WS) (i0 : Nat), p.run (wTell n me fail) (W, i0) = .done d (W', j) → i0 ≤ j := by
        intro p
        induction p with
        | ret d => intro W i0 h; cases h; exact Nat.le_refl _
        | bad => intro W i0 h; cases h
        | ask k i a b dd g ih =>
          intro W i0 h
          simp only [run] at h
          unfold wTell at h
          simp only [] at h
          cases hs : stepS n me k i a b dd (fail i0) W with
          | none => rw [hs] at h; cases h
          | some q =>
            rw [hs] at h
            have := ih _ _ _ h
            omega
      have hj := hmore _ _ _ hr
      cases f with
      | zero => omega
      | succ f =>
        have h := ha.run []
        rw [List.append_nil] at h
        unfold aloneD
        rw [h]
        simp only [run, tapeTellD, hs]
        refine alone_world p n me fail _ (log ++ [⟨N, [], fl⟩]) W2 W' d j f (ha.snoc ⟨N, [], fl⟩) ?_ (by rw [List.length_append]; simp; omega)
        rw [List.length_append]
        exact hr
theorem alone_ofW {p : Prd} {n me : Nat} {fail : Nat → Bool} {W W' : WS} {d j f : Nat} (h : p.run (wTell n me fail) (W, 0) = .done d (W', j)) (hf : j < f) : aloneD p n me fail f [] W = some (d, W') :=
  alone_world p n me fail p [] W W' d j f (.nil p) h (by simpa using hf)
/-- By logs it runs as the document's Next does. -/
inductive ExtD : Prd → Prd → Prop
  | bad (q : Prd) : ExtD .bad q
  | ret (d : Nat) : ExtD (.ret d) (.ret d)
  | ask (k i : Int) (a b : Nat) (d : List Nat) (f g : Nat → Prd) (h : ∀ x, ExtD (f x) (g x)) : ExtD (.ask k i a b d f) (.ask k i a b d g)
theorem ExtD.refl : ∀ p : Prd, ExtD p p
  | .bad => .bad _
  | .ret d => .ret d
  | .ask k i a b d f => .ask k i a b d f f fun x => ExtD.refl (f x)
theorem ExtD.bind {p p' : Prd} {q q' : Nat → Prd} (h : ExtD p p') (hq : ∀ d, ExtD (q d) (q' d)) : ExtD (p.bind q) (p'.bind q') := by
  induction h with
  | bad p => exact .bad _
  | ret d => exact hq d
  | ask k i a b d f g h ih => exact .ask _ _ _ _ _ _ _ ih
theorem ExtD.run {S : Type} {T : S → Int → Int → Nat → Nat → List Nat → Tell S} {p p' : Prd} (h : ExtD p p') (s : S) (hb : p.run T s ≠ .bad) : p.run T s = p'.run T s := by
  induction h generalizing s with
  | bad p => exact absurd rfl hb
  | ret d => rfl
  | ask k i a b d f g h ih =>
    simp only [Prd.run] at hb ⊢
    cases hT : T s k i a b d with
    | bad => rfl
    | left => rfl
    | told n s' =>
      rw [hT] at hb
      exact ih _ _ hb
theorem ext_raise (F b : Nat) (ov : Nat → Bool) : ∀ {n m : Nat}, n ≤ m → ExtD (raise F b ov n) (raise F b ov m)
  | 0, m, _ => .bad _
  | n + 1, 0, h => by omega
  | n + 1, m + 1, h => by
    unfold raise
    refine .ask _ _ _ _ _ _ _ fun g => ?_
    split
    · exact ExtD.refl _
    · refine .ask _ _ _ _ _ _ _ fun d => ?_
      split
      · exact ExtD.refl _
      · exact ext_raise F b ov (by omega)
theorem ext_saved (t r b s : Nat) (d : List Nat) {n m : Nat} (h : n ≤ m) : ExtD (saved t r b s n d) (saved t r b s m d) := (ExtD.refl _).bind fun x => by
  split
  · exact (ext_raise _ _ _ h).bind fun _ => ExtD.refl _
  · exact ExtD.refl _
theorem ext_rest (t r b f : Nat) {n m : Nat} (h : n ≤ m) : ExtD (rest t r b f n) (rest t r b f m) := by
  unfold rest
  split
  · exact ExtD.refl _
  · split
    · exact ext_saved _ _ _ _ _ h
    · exact .ask _ _ _ _ _ _ _ fun y => .ask _ _ _ _ _ _ _ fun u => .ask _ _ _ _ _ _ _ fun v => .ask _ _ _ _ _ _ _ fun x => ext_saved _ _ _ _ _ h
end Prd
theorem sPrg_ext (t : Nat) (k u v : Int) (x : Nat) {n m : Nat} (h : n ≤ m) : Prd.ExtD (sPrg t k u v x n) (sPrg t k u v x m) := by
  unfold sPrg
  split
  · exact Prd.ExtD.refl _
  · split
    · exact Prd.ExtD.refl _
    · split
      · exact Prd.ext_raise _ _ _ h
      · split
        · exact .ask _ _ _ _ _ _ _ fun f => Prd.ext_rest _ _ _ _ h
        · split
          · exact .ask _ _ _ _ _ _ _ fun f => by
              split
              · exact Prd.ext_rest _ _ _ _ h
              · exact Prd.ExtD.refl _
          · exact Prd.ExtD.refl _
theorem sNextR_same {t : Nat} {k u v : Int} {x : Nat} {log : List Res} {m : Nat} (h : log.length < m) : sNextR t k u v x log = (sPrg t k u v x m).run tapeTellD log :=
  (sPrg_ext t k u v x (by omega)).run log (sNextR_ok t k u v x log)

/-! ### What the operations make of a world -/
namespace Prd
section
variable {n me : Nat} {fail : Nat → Bool} {W : WS} {j : Nat}
theorem run_mem {k i : Nat} (hk : k < 5) (hi : i < n) (hW : ∀ q, W.1 q < 18446744073709551616) (a b : Nat) (f : Nat → Prd) :
    (ask ((k : Nat) : Int) ((i : Nat) : Int) a b [] f).run (wTell n me fail) (W, j) = (f (toldN k a b (W.1 i))).run (wTell n me fail) ((setW W.1 i (isN k a b (W.1 i)), W.2), j + 1) := by
  have hs : stepS n me ((k : Nat) : Int) ((i : Nat) : Int) a b [] (fail j) W = some (toldN k a b (W.1 i), false, (setW W.1 i (isN k a b (W.1 i)), W.2)) := by
    unfold stepS
    rw [if_pos ⟨by omega, by omega, by omega, by omega⟩, Int.toNat_natCast, Int.toNat_natCast]
  have ht : toldR ((k : Nat) : Int) ⟨toldN k a b (W.1 i), [], false⟩ = toldN k a b (W.1 i) := by
    unfold toldR
    rw [if_pos (by omega)]
    exact Nat.mod_eq_of_lt (toldN_lt (b := b) (hW i))
  simp only [run, wTell, hs, ht]
theorem run_load {i : Nat} (hi : i < n) (hW : ∀ q, W.1 q < 18446744073709551616) (f : Nat → Prd) :
    (ask 0 ((i : Nat) : Int) 0 0 [] f).run (wTell n me fail) (W, j) = (f (W.1 i)).run (wTell n me fail) (W, j + 1) := by
  have h := run_mem (me := me) (fail := fail) (W := W) (j := j) (k := 0) (by decide) hi hW 0 0 f
  have e : setW W.1 i (isN 0 0 0 (W.1 i)) = W.1 := setW_self rfl
  rw [e] at h
  exact h
theorem run_store {i a : Nat} (hi : i < n) (hW : ∀ q, W.1 q < 18446744073709551616) (f : Nat → Prd) :
    (ask 1 ((i : Nat) : Int) a 0 [] f).run (wTell n me fail) (W, j) = (f 0).run (wTell n me fail) ((setW W.1 i a, W.2), j + 1) :=
  run_mem (me := me) (fail := fail) (W := W) (j := j) (k := 1) (by decide) hi hW a 0 f
theorem run_disk {k : Int} (hk : k = 5 ∨ k = 6) (hm : me < W.2.length) (d : List Nat) (hd : (stmAt W me).bytes.length + d.length ≤ 100000) (f : Nat → Prd) :
    (ask k 0 0 0 d f).run (wTell n me fail) (W, j) = (f (if fail j = true then 1 else 0)).run (wTell n me fail) ((if fail j = true then W else (W.1, W.2.set me (if k = 5 then (stmAt W me).app d else (stmAt W me).syn))), j + 1) := by
  have hs : stepS n me k 0 0 0 d (fail j) W = some (0, fail j, if fail j = true then W else (W.1, W.2.set me (if k = 5 then (stmAt W me).app d else (stmAt W me).syn))) := by
    unfold stepS
    rw [if_neg (by omega), if_pos ⟨hk, rfl, rfl, rfl, hm, hd⟩]
  have ht : toldR k ⟨0, [], fail j⟩ = if fail j = true then 1 else 0 := by
    unfold toldR
    rw [if_neg (by omega)]
  simp only [run, wTell, hs, ht]
theorem run_cas {i : Nat} (hi : i < n) (hW : ∀ q, W.1 q < 18446744073709551616) (b : Nat) (f : Nat → Prd) :
    (ask 2 ((i : Nat) : Int) (W.1 i) b [] f).run (wTell n me fail) (W, j) = (f 1).run (wTell n me fail) ((setW W.1 i b, W.2), j + 1) := by
  have h := run_mem (me := me) (fail := fail) (W := W) (j := j) (k := 2) (by decide) hi hW (W.1 i) b f
  have e1 : toldN 2 (W.1 i) b (W.1 i) = 1 := by unfold toldN; simp
  have e2 : isN 2 (W.1 i) b (W.1 i) = b := by unfold isN; simp
  rw [e1, e2] at h
  exact h
theorem run_add {i a : Nat} (hi : i < n) (hW : ∀ q, W.1 q < 18446744073709551616) (f : Nat → Prd) :
    (ask 3 ((i : Nat) : Int) a 0 [] f).run (wTell n me fail) (W, j) = (f (W.1 i)).run (wTell n me fail) ((setW W.1 i ((W.1 i + a) % 18446744073709551616), W.2), j + 1) :=
  run_mem (me := me) (fail := fail) (W := W) (j := j) (k := 3) (by decide) hi hW a 0 f
/-- The words behind Make. -/
def makeG (t r y u v x m : Nat) (G : Nat → Nat) : Nat → Nat :=
  setW (setW (setW (setW (setW (setW (setW G 2 ((G 2 + 1) % 18446744073709551616)) (fieldN t r 2) (flagN ((G 2 + 1) % 18446744073709551616) 0)) (fieldN t r 1) y) (fieldN t r 3) m) (fieldN t r 4) u) (fieldN t r 5) v) (fieldN t r 6) x
theorem make_run {t r y u v x m : Nat} (hn : fieldN t r 6 < n) (hr : 1 ≤ r) (hW : ∀ q, W.1 q < 18446744073709551616) (hy : y < 18446744073709551616) (hu : u < 18446744073709551616) (hv : v < 18446744073709551616) (hx : x < 18446744073709551616) (hm : m < 18446744073709551616) :
    (make t r y u v x m).run (wTell n me fail) (W, j) = .done ((W.1 2 + 1) % 18446744073709551616) ((makeG t r y u v x m W.1, W.2), j + 7) := by
  have hf : ∀ q, q ≤ 6 → fieldN t r q < n := fun q hq => by unfold fieldN at *; omega
  have h2 : 2 < n := by unfold fieldN at hn; omega
  have hs : (W.1 2 + 1) % 18446744073709551616 < 18446744073709551616 := Nat.mod_lt _ (by decide)
  unfold make makeG
  rw [show (Prd.ask 3 2 1 0 [] = Prd.ask 3 ((2 : Nat) : Int) 1 0 []) from rfl, run_add h2 hW]
  have w1 := setW_lt hW (i := 2) hs
  rw [run_store (hf 2 (by omega)) w1]
  have w2 := setW_lt w1 (i := fieldN t r 2) (flag_lt ((W.1 2 + 1) % 18446744073709551616) 0)
  rw [run_store (hf 1 (by omega)) w2]
  have w3 := setW_lt w2 (i := fieldN t r 1) hy
  rw [run_store (hf 3 (by omega)) w3]
  have w4 := setW_lt w3 (i := fieldN t r 3) hm
  rw [run_store (hf 4 (by omega)) w4]
  have w5 := setW_lt w4 (i := fieldN t r 4) hu
  rw [run_store (hf 5 (by omega)) w5]
  have w6 := setW_lt w5 (i := fieldN t r 5) hv
  rw [run_store (hf 6 (by omega)) w6]
  rfl
theorem alive_run {t r s : Nat} (hn : fieldN t r 2 < n) (hW : ∀ q, W.1 q < 18446744073709551616) :
    (alive t r s).run (wTell n me fail) (W, j) = .done (if stampN (W.1 (fieldN t r 2)) = s ∧ markB (W.1 (fieldN t r 0)) = false then 1 else 0) (W, j + 2) := by
  have h0 : fieldN t r 0 < n := by unfold fieldN at *; omega
  unfold alive
  rw [run_load h0 hW, run_load hn hW]
  rfl
/-- A bit is put at once where nobody else steps. -/
theorem raise_run {F b m : Nat} {ov : Nat → Bool} (hF : F < n) (hW : ∀ q, W.1 q < 18446744073709551616) (ho : ov (W.1 F) = false) :
    (raise F b ov (m + 1)).run (wTell n me fail) (W, j) = .done 0 ((setW W.1 F (W.1 F + b), W.2), j + 2) := by
  unfold raise
  rw [run_load hF hW, if_neg (by rw [ho]; decide), run_cas hF hW, if_pos rfl]
  rfl
theorem raise_over {F b m : Nat} {ov : Nat → Bool} (hF : F < n) (hW : ∀ q, W.1 q < 18446744073709551616) (ho : ov (W.1 F) = true) :
    (raise F b ov (m + 1)).run (wTell n me fail) (W, j) = .done 0 (W, j + 1) := by
  unfold raise
  rw [run_load hF hW, if_pos ho]
  rfl
/-- The row behind the entry's two accesses. -/
def putR (me : Nat) (d : List Nat) (l : List Stm) : List Stm := l.set me ⟨(l.getD me ⟨[], 0⟩).bytes ++ d, (((l.getD me ⟨[], 0⟩).bytes ++ d).length : Int)⟩
def appR (me : Nat) (d : List Nat) (l : List Stm) : List Stm := l.set me ⟨(l.getD me ⟨[], 0⟩).bytes ++ d, (l.getD me ⟨[], 0⟩).synced⟩
theorem both_run {d : List Nat} (hm : me < W.2.length) (hd : (stmAt W me).bytes.length + d.length ≤ 100000) (h0 : fail j = false) (h1 : fail (j + 1) = false) :
    (both d).run (wTell n me fail) (W, j) = .done 1 ((W.1, putR me d W.2), j + 2) := by
  have e0 : stmAt (W.1, W.2.set me ((stmAt W me).app d)) me = (stmAt W me).app d := by
    unfold stmAt
    simp only [List.getD_eq_getElem?_getD, List.getElem?_set, hm]
    simp
  unfold both sync
  rw [run_disk (.inl rfl) hm d hd, h0]
  simp only [if_true, if_false, Bool.false_eq_true]
  rw [run_disk (.inr rfl) (by simp only [List.length_set]; exact hm) [] (by rw [e0]; unfold Stm.app; simp only [List.length_append, List.length_nil]; omega), h1]
  simp only [if_true, if_false, Bool.false_eq_true]
  rw [e0, if_neg (by decide), List.set_set]
  rfl
theorem both_fail0 {d : List Nat} (hm : me < W.2.length) (hd : (stmAt W me).bytes.length + d.length ≤ 100000) (h0 : fail j = true) :
    (both d).run (wTell n me fail) (W, j) = .done 0 (W, j + 1) := by
  unfold both
  rw [run_disk (.inl rfl) hm d hd, h0]
  rfl
theorem both_fail1 {d : List Nat} (hm : me < W.2.length) (hd : (stmAt W me).bytes.length + d.length ≤ 100000) (h0 : fail j = false) (h1 : fail (j + 1) = true) :
    (both d).run (wTell n me fail) (W, j) = .done 0 ((W.1, appR me d W.2), j + 2) := by
  have e0 : stmAt (W.1, W.2.set me ((stmAt W me).app d)) me = (stmAt W me).app d := by
    unfold stmAt
    simp only [List.getD_eq_getElem?_getD, List.getElem?_set, hm]
    simp
  unfold both sync
  rw [run_disk (.inl rfl) hm d hd, h0]
  simp only [if_true, if_false, Bool.false_eq_true]
  rw [run_disk (.inr rfl) (by simp only [List.length_set]; exact hm) [] (by rw [e0]; unfold Stm.app; simp only [List.length_append, List.length_nil]; omega), h1]
  rfl
theorem saved_run {t r b s m : Nat} {d : List Nat} (hF : fieldN t r 2 < n) (hW : ∀ q, W.1 q < 18446744073709551616) (hm : me < W.2.length) (hd : (stmAt W me).bytes.length + d.length ≤ 100000) (h0 : fail j = false) (h1 : fail (j + 1) = false) (hs : stampN (W.1 (fieldN t r 2)) = s) (hh : hasF (W.1 (fieldN t r 2)) (b : Int) = false) :
    (saved t r b s (m + 1) d).run (wTell n me fail) (W, j) = .done 1 ((setW W.1 (fieldN t r 2) (W.1 (fieldN t r 2) + b), putR me d W.2), j + 4) := by
  unfold saved
  rw [run_bind, both_run hm hd h0 h1]
  simp only [RanD.next, if_true]
  rw [run_bind, raise_run hF (W := (W.1, putR me d W.2)) hW (by unfold over; rw [hh, hs]; simp)]
  rfl
theorem saved_fail0 {t r b s m : Nat} {d : List Nat} (hm : me < W.2.length) (hd : (stmAt W me).bytes.length + d.length ≤ 100000) (h0 : fail j = true) :
    (saved t r b s m d).run (wTell n me fail) (W, j) = .done 0 (W, j + 1) := by
  unfold saved
  rw [run_bind, both_fail0 hm hd h0]
  rfl
theorem saved_fail1 {t r b s m : Nat} {d : List Nat} (hm : me < W.2.length) (hd : (stmAt W me).bytes.length + d.length ≤ 100000) (h0 : fail j = false) (h1 : fail (j + 1) = true) :
    (saved t r b s m d).run (wTell n me fail) (W, j) = .done 0 ((W.1, appR me d W.2), j + 2) := by
  unfold saved
  rw [run_bind, both_fail1 hm hd h0 h1]
  rfl
/-- The entry that Save appends. -/
def entW (t r b : Nat) (G : Nat → Nat) : Ent := if b = 2 then ⟨2, stampN (G (fieldN t r 2)), 0, 0, 0, 0⟩ else ⟨1, stampN (G (fieldN t r 2)), G (fieldN t r 1), G (fieldN t r 4), G (fieldN t r 5), G (fieldN t r 6)⟩
def loadsN (b : Nat) : Nat := if b = 2 then 0 else 4
theorem rest_has {t r b m : Nat} {f : Nat} (hh : hasF f (b : Int) = true) : (rest t r b f m).run (wTell n me fail) (W, j) = .done 1 (W, j) := by
  unfold rest
  rw [if_pos hh]
  rfl
theorem rest_saved {t r b m : Nat} (hn : fieldN t r 6 < n) (hW : ∀ q, W.1 q < 18446744073709551616) (hh : hasF (W.1 (fieldN t r 2)) (b : Int) = false) :
    (rest t r b (W.1 (fieldN t r 2)) m).run (wTell n me fail) (W, j) = (saved t r b (stampN (W.1 (fieldN t r 2))) m (dataN (entW t r b W.1))).run (wTell n me fail) (W, j + loadsN b) := by
  have hf : ∀ q, q ≤ 6 → fieldN t r q < n := fun q hq => by unfold fieldN at *; omega
  unfold rest entW loadsN
  rw [if_neg (by rw [hh]; decide)]
  by_cases hb : b = 2
  · rw [if_pos hb, if_pos hb, if_pos hb]
    rfl
  · rw [if_neg hb, if_neg hb, if_neg hb, run_load (hf 1 (by omega)) hW, run_load (hf 4 (by omega)) hW, run_load (hf 5 (by omega)) hW, run_load (hf 6 (by omega)) hW]
theorem save_run {t r b m : Nat} (hF : fieldN t r 2 < n) (hW : ∀ q, W.1 q < 18446744073709551616) :
    (save t r b m).run (wTell n me fail) (W, j) = (rest t r b (W.1 (fieldN t r 2)) m).run (wTell n me fail) (W, j + 1) := by
  unfold save
  rw [run_load hF hW]
theorem dead_run {t r s m : Nat} (hF : fieldN t r 2 < n) (hW : ∀ q, W.1 q < 18446744073709551616) (hs : stampN (W.1 (fieldN t r 2)) = s) :
    (dead t r s m).run (wTell n me fail) (W, j) = (rest t r 2 (W.1 (fieldN t r 2)) m).run (wTell n me fail) (W, j + 1) := by
  unfold dead
  rw [run_load hF hW, if_pos hs]
theorem dead_other {t r s m : Nat} (hF : fieldN t r 2 < n) (hW : ∀ q, W.1 q < 18446744073709551616) (hs : stampN (W.1 (fieldN t r 2)) ≠ s) :
    (dead t r s m).run (wTell n me fail) (W, j) = .done 1 (W, j + 1) := by
  unfold dead
  rw [run_load hF hW, if_neg hs]
  rfl
end
end Prd
end Go.Proofs.YtdbomlclkhkinaaDoor
namespace Go.Proofs.YtdbomlclkhkinaaDoor
open Go.ChangeShapes Go.WideShapes Go.ChangeAt Go.RowKit Go.BigFrame Go.Deep
set_option linter.unusedVariables false
set_option maxRecDepth 100000

/-- What Next tells, where it asks. -/
def NextS (K i : Int) (a b : Nat) (d : List Nat) (w : World) (e : Ending) (w' : World) : Prop :=
  ∃ D dc E ec, e = .returned (.tuple #[.agg #[.int .i64 K, .int .i64 i, .int .u64 (a : Int), .int .u64 (b : Int), .slice D d.length dc, .slice E 0 ec], .agg #[.int .i64 0, .bool false, .int .i64 0, .int .u64 0, .slice none 0 0], .bool false]) ∧ AccP w' (accD K i a b d) D dc E ec ∧ Below w.heap.size w w'
/-- What an access tells. -/
def DoS (w : World) (t c : Int) (A : Option Addr) (n : Nat) (R S : Option Addr) (m : Nat) (G : Nat → Nat) (l0 l1 : List Stm) (N : Nat) (fl : Bool) (e : Ending) (w' : World) : Prop :=
  ∃ A' ka R' ra S' sa X kx, e = .returned (.tuple #[.agg #[.int .i64 t, .int .i64 c, .slice A' n ka, .int .u64 0, .slice R' m ra, .slice S' m sa], .agg #[.int .u64 (N : Int), .slice X 0 kx, .bool fl]]) ∧ AtW w' A' n G ∧ StmsAt w' R' m l0 ∧ StmsAt w' S' m l1 ∧ Below w.heap.size w w' ∧
    ∀ P : Nat → Prop, (∀ b, w.heap.size ≤ b → P b) → OffW P A n → OffS P w R m → OffS P w S m → OffW P A' n ∧ OffS P w' R' m ∧ OffS P w' S' m
theorem DoS.of {w : World} {t c : Int} {A : Option Addr} {n : Nat} {R S : Option Addr} {m : Nat} {G : Nat → Nat} {l0 l1 : List Stm} {N : Nat} {fl : Bool} {e : Ending} {w' : World} (h : DoW w t c A n 0 R S m G l0 l1 N [] fl e w') : DoS w t c A n R S m G l0 l1 N fl e w' := by
  obtain ⟨A', ka', R', ra', S', sa', X, kx, rfl, h1, h2, h3, h4, h5, h6, h7⟩ := h
  exact ⟨A', ka', R', ra', S', sa', X, kx, rfl, h1, h2, h3, h6, fun P p0 p1 p2 p3 => ⟨(h7 P p0 p1 p2 p3).1, (h7 P p0 p1 p2 p3).2.1, (h7 P p0 p1 p2 p3).2.2.1⟩⟩
theorem stepS_lt {n me : Nat} {K i : Int} {a b : Nat} {d : List Nat} {fa : Bool} {W : WS} {N : Nat} {fl : Bool} {W' : WS} (h : stepS n me K i a b d fa W = some (N, fl, W')) (hW : ∀ q, W.1 q < 18446744073709551616) : N < 18446744073709551616 := by
  unfold stepS at h
  split at h
  · cases h; exact toldN_lt (b := b) (hW _)
  · split at h
    · cases h; decide
    · cases h
theorem doS (t c : Int) (A : Option Addr) (n ka : Nat) (G : Nat → Nat) (R S : Option Addr) (m ra sa : Nat) (l0 l1 : List Stm) (me : Nat) (hme : me < m) (hm8 : m ≤ 8) (K i : Int) (a b : Nat) (d : List Nat) (fa : Bool) (N : Nat) (fl : Bool) (W' : WS) (hn : n ≤ 1000000) (hs : stepS n me K i a b d fa (G, l0) = some (N, fl, W')) (D : Option Addr) (dc : Nat) (E : Option Addr) (ec : Nat) (x : World) (hx : AccP x (accD K i a b d) D dc E ec) (h0 : Hid (AtW x A n G)) (h1 : Hid (StmsAt x R m l0)) (h2 : Hid (StmsAt x S m l1)) :
    Calls Tryd.prog 15 #[.agg #[.int .i64 t, .int .i64 c, .slice A n ka, .int .u64 0, .slice R m ra, .slice S m sa], .int .i64 (me : Int), .agg #[.int .i64 K, .int .i64 i, .int .u64 (a : Int), .int .u64 (b : Int), .slice D d.length dc, .slice E 0 ec], .bool fa] x (DoS x t c A n R S m W'.1 W'.2 l1 N fl) := by
  unfold stepS at hs
  split at hs
  case isTrue hc =>
    cases hs
    obtain ⟨hk0, hk5, hi0, hin⟩ := hc
    obtain ⟨Kn, rfl⟩ : ∃ Kn : Nat, K = (Kn : Int) := ⟨K.toNat, by omega⟩
    obtain ⟨ix, rfl⟩ : ∃ ix : Nat, i = (ix : Int) := ⟨i.toNat, by omega⟩
    rw [Int.toNat_natCast, Int.toNat_natCast]
    exact (doWord t c A n ka G 0 R S m ra sa l0 l1 (me : Int) a b D d.length dc E 0 ec Kn ix (by omega) (by omega) hn h0.out.1 hx.a hx.b fa x h0 h1 h2).mono fun e w' h => DoS.of h
  case isFalse =>
    split at hs
    case isFalse => cases hs
    case isTrue hc =>
      cases hs
      obtain ⟨hk, rfl, rfl, rfl, hml, hd⟩ := hc
      have hlen : l0.length = m := h1.out.1
      have hat : l0[me]? = some (stmAt (G, l0) me) := by
        unfold stmAt
        rw [List.getD_eq_getElem?_getD, List.getElem?_eq_getElem (by omega)]
        rfl
      cases fa with
      | true =>
        rw [if_pos rfl]
        exact (do_fails t c A n ka G 0 R S m ra sa l0 l1 (me : Int) K 0 0 0 D d.length dc E 0 ec (by rcases hk with rfl | rfl <;> rfl) x h0 h1 h2).mono fun e w' h => DoS.of h
      | false =>
        rw [if_neg (by decide)]
        have hD := Lib.hid hx.d
        rcases hk with rfl | rfl
        · rw [if_pos rfl]
          refine (do_disk t c A n ka G 0 R S m ra sa l0 l1 (me : Int) 5 0 0 0 D d.length dc E 0 ec (by decide) false rfl d 0 0 (l0.set me ((stmAt (G, l0) me).app d)) l1 [] (fun w g0 g1 g2 => ofDisk_append 0 (by decide) R S m ra sa l0 l1 0 1 rfl (by decide) (me : Int) 0 0 0 D d.length dc E 0 ec _ _ 0 d (fun w g0 g1 g2 => dskAppend0_at 0 R m ra S m sa l0 l1 me hme (by omega) (stmAt (G, l0) me) hat D dc d.length d (by omega) w g0 g1 g2) w g0 g1 g2) x h0 h1 h2 hD).mono fun e w' h => DoS.of h
        · rw [if_neg (by decide)]
          refine (do_disk t c A n ka G 0 R S m ra sa l0 l1 (me : Int) 6 0 0 0 D d.length dc E 0 ec (by decide) false rfl d 0 0 (l0.set me (stmAt (G, l0) me).syn) l1 [] (fun w g0 g1 _ => ofDisk_sync 0 (by decide) R S m ra sa l0 l1 0 1 rfl (by decide) (me : Int) 0 0 0 D d.length dc E 0 ec _ _ 0 [] (fun w g0 g1 => dskSync0_at 0 R m ra S m sa l0 l1 me hme (by omega) (stmAt (G, l0) me) hat w g0 g1) w g0 g1) x h0 h1 h2 hD).mono fun e w' h => DoS.of h
/-- Behind an access in a region that draws: the new world's variable, and what was told. -/
def DoFact (wr w4 : World) (N2 : Nat) (A0 : Option Addr) (n : Nat) (R0 S0 : Option Addr) (m : Nat) (A4 R4 S4 : Option Addr) (G : Nat → Nat) (l0 l1 : List Stm) : Prop :=
  wr.heap.size ≤ N2 ∧ AtW w4 A4 n G ∧ StmsAt w4 R4 m l0 ∧ StmsAt w4 S4 m l1 ∧ (OffW (fun b => b < wr.heap.size ∨ N2 ≤ b) A4 n ∧ OffS (fun b => b < wr.heap.size ∨ N2 ≤ b) w4 R4 m ∧ OffS (fun b => b < wr.heap.size ∨ N2 ≤ b) w4 S4 m) ∧
    ∀ P : Nat → Prop, (∀ b, wr.heap.size ≤ b → P b) → OffW P A0 n → OffS P wr R0 m → OffS P wr S0 m → OffW P A4 n ∧ OffS P w4 R4 m ∧ OffS P w4 S4 m
theorem doCut_fact {wr wa w4 : World} {A0 A4 R0 R4 S0 S4 : Option Addr} {n m : Nat} {F G : Nat → Nat} {l0 l1 k0 k1 : List Stm} (hwr : Below wr.heap.size wr wa) (hb : Below wa.heap.size wa w4) (ha : AtW w4 A4 n G) (hs0 : StmsAt w4 R4 m k0) (hs1 : StmsAt w4 S4 m k1)
    (hP : ∀ P : Nat → Prop, (∀ b, wa.heap.size ≤ b → P b) → OffW P A0 n → OffS P wa R0 m → OffS P wa S0 m → OffW P A4 n ∧ OffS P w4 R4 m ∧ OffS P w4 S4 m)
    (hA : AtW wr A0 n F) (h0 : StmsAt wr R0 m l0) (h1 : StmsAt wr S0 m l1) : ∃ N2, N2 = wa.heap.size ∧ DoFact wr w4 N2 A0 n R0 S0 m A4 R4 S4 G k0 k1 := by
  have hz := hwr.size
  refine ⟨_, rfl, hz, ha, hs0, hs1, hP _ (fun b hb => .inr hb) (hA.old.mono fun b hb => .inl hb) ((h0.old.mono fun b hb => (.inl hb : b < wr.heap.size ∨ wa.heap.size ≤ b)).later h0 hwr) ((h1.old.mono fun b hb => (.inl hb : b < wr.heap.size ∨ wa.heap.size ≤ b)).later h1 hwr), fun P hF p0 p1 p2 => hP P (fun b hb => hF b (by omega)) p0 (p1.later h0 hwr) (p2.later h1 hwr)⟩
def DoCut (t : Nat) (c : Int) (A0 : Option Addr) (n : Nat) (R0 S0 : Option Addr) (m : Nat) (G : Nat → Nat) (l0 l1 : List Stm) (N : Nat) (fl : Bool) (wr : World) (v18 v19 : Value) (y : World) : Prop :=
  ∃ b1 b2 A ka R ra S sa X kx, v18 = .pointer (some ⟨b1, 0, none⟩) ∧ v19 = .pointer (some ⟨b2, 0, none⟩) ∧ wr.heap.size ≤ b1 ∧ wr.heap.size ≤ b2 ∧ WdAt y b1 (t : Int) c A n ka 0 R m ra S sa G l0 l1 ∧ VarAt y b2 [.int .u64 (N : Int), .slice X 0 kx, .bool fl] ∧ Below wr.heap.size wr y ∧
    ∀ P : Nat → Prop, (∀ b, wr.heap.size ≤ b → P b) → OffW P A0 n → OffS P wr R0 m → OffS P wr S0 m → OffW P A n ∧ OffS P y R m ∧ OffS P y S m
theorem DoCut.of {t : Nat} {c : Int} {A0 R0 S0 A4 R4 S4 X : Option Addr} {n m N N2 b1 b2 ka ra sa kx : Nat} {G : Nat → Nat} {l0 l1 : List Stm} {fl : Bool} {wr w4 y : World} (h : DoFact wr w4 N2 A0 n R0 S0 m A4 R4 S4 G l0 l1) (hk : Keep (fun b => b < wr.heap.size ∨ N2 ≤ b) w4 y) (n1 : wr.heap.size ≤ b1) (n2 : wr.heap.size ≤ b2)
    (v1 : VarAt y b1 [.int .i64 (t : Int), .int .i64 c, .slice A4 n ka, .int .u64 0, .slice R4 m ra, .slice S4 m sa]) (v2 : VarAt y b2 [.int .u64 (N : Int), .slice X 0 kx, .bool fl]) (hb : Below wr.heap.size wr y) :
    DoCut t c A0 n R0 S0 m G l0 l1 N fl wr (.pointer (some ⟨b1, 0, none⟩)) (.pointer (some ⟨b2, 0, none⟩)) y := by
  obtain ⟨hz, ha, hs0, hs1, ⟨q0, q1, q2⟩, hP⟩ := h
  refine ⟨b1, b2, A4, ka, R4, ra, S4, sa, X, kx, rfl, rfl, n1, n2, ⟨v1, ha.keep hk q0, hs0.keep hk q1, hs1.keep hk q2⟩, v2, hb, fun P hF p0 p1 p2 => ?_⟩
  obtain ⟨r0, r1, r2⟩ := hP P hF p0 p1 p2
  exact ⟨r0, r1.keep hs0 hk q1, r2.keep hs1 hk q2⟩
/-- What alone tells, done. -/
def AloneS (w : World) (t c : Int) (A : Option Addr) (n : Nat) (R S : Option Addr) (m : Nat) (G : Nat → Nat) (l0 l1 : List Stm) (er : Int) (oi : Bool) (N : Nat) (e : Ending) (w' : World) : Prop :=
  ∃ A' ka R' ra S' sa, e = .returned (.tuple #[.agg #[.int .i64 t, .int .i64 c, .slice A' n ka, .int .u64 0, .slice R' m ra, .slice S' m sa], .agg #[.int .i64 er, .bool oi, .int .i64 0, .int .u64 (N : Int), .slice none 0 0], .bool true]) ∧ AtW w' A' n G ∧ StmsAt w' R' m l0 ∧ StmsAt w' S' m l1 ∧ Below w.heap.size w w' ∧
    ∀ P, From w w.heap.size A n R S m P → OffW P A' n ∧ OffS P w' R' m ∧ OffS P w' S' m
theorem RunZA.nextF {y0 : World} {gx B0 : Nat} {F : (Nat → Prop) → Prop} {L : List (Nat × List Value)} {t c : Int} {n r m : Nat} {l0 l1 : List Stm} {v : Value} {log : List Res} {vs : List Value} {X : Option Addr} {kx N : Nat} {fl : Bool} {G : Nat → Nat} {x : World} {v' : Value} {w' : World} (h : RunZA y0 gx B0 F L t c n r m l0 l1 v log vs X kx N G x)
    (hown : w'.ownsRow B0 60 3 v' (log.length + 1) (vs ++ resA ⟨N, [], fl⟩ X kx)) (hg : x.grownBy w' v.ownBlock) (hv : v'.ownBlock = v.ownBlock ∨ v'.ownBlock = some x.heap.size) :
    RunA y0 gx B0 F L t c n r m l0 l1 v' (log ++ [⟨N, [], fl⟩]) G w' := by
  have hrow : ∀ k, v.ownBlock = some k → B0 ≤ k := fun k hk => (h.own.lt k hk).1
  have hK : Keep (fun b => Nt gx gx v b ∧ Nt gx gx v' b) x w' := Keep.grown hg (fun b hb k hk => hb.1.2.2 k hk)
  have sub : ∀ b, b < x.heap.size → Nt gx gx v b → Nt gx gx v b ∧ Nt gx gx v' b := fun b hb hn => ⟨hn, hn.both hv hb⟩
  have hlt := h.lt
  have hvx : ∀ us, VarAt x gx us → VarAt w' gx us := fun us hu => hu.grown hg (fun k hk e => by have := hrow k hk; omega)
  have hb : Below y0.heap.size y0 w' := h.below.grown hg h.below.size (fun k hk => by have := hrow k hk; omega)
  have k1 := (h.run.sub sub).keep hK hvx
  have k3 := ((h.raw.sub sub).keep hK)
  have hres : ResP w' ⟨N, [], fl⟩ X kx := ⟨h.num, ⟨Nat.zero_le _, Nat.zero_le _⟩, AtB.nil _ _⟩
  refine ⟨hb, Nat.le_trans h.size hg.size, hlt, fun p hp => (h.vars p hp).grown hg (fun k hk e => by have := hrow k hk; have := (h.vlt p hp).2.1; omega), h.vlt, k1.sub fun b _ h => h.2, _, ?_, (k3.add hres (OffW.nil _ _)).sub fun b _ h => h.2⟩
  rw [List.length_append]
  exact hown
variable {m : Nat}
set_option maxHeartbeats 16000000 in
set_option maxRecDepth 100000 in
theorem sAlone_at (t : Nat) (ht : t ≤ 64) (me : Nat) (hme : me < m) (c k u v : Int) (q : Nat) (hq : q < 18446744073709551616) (hop : SOp k u v) (most : Nat) (hm : most ≤ 1000) (A : Option Addr) (n ka : Nat) (R : Option Addr) (ra : Nat) (S : Option Addr) (sa : Nat) (hn : n ≤ 1000000) (hm8 : m ≤ 8) (FA : Option Addr) (fn fc : Nat) (ff : Nat → Bool) (hfc : fn ≤ fc) (G : Nat → Nat) (l0 l1 : List Stm) (N : Nat) (WF : WS)
    (hrun : Prd.aloneD (sPrg t k u v q 2000) n me (fun j => decide (j < fn) && ff j) (most + 1) [] (G, l0) = some (N, WF)) (w : World) (HTab : Hid (Tab w)) (HFA : Hid (BlsAt w FA fn ff)) (HA : Hid (AtW w A n G)) (H0 : Hid (StmsAt w R m l0)) (H1 : Hid (StmsAt w S m l1)) :
    Calls Tryd.prog 9 #[.agg #[.int .i64 (t : Int), .int .i64 c, .slice A n ka, .int .u64 0, .slice R m ra, .slice S m sa], .int .i64 (me : Int), .agg #[.int .i64 k, .int .i64 u, .int .i64 v, .int .u64 (q : Int)], .int .i64 (most : Int), .slice FA fn fc] w (AloneS w t c A n R S m WF.1 WF.2 l1 (sErr k) (sIs k N) (sW k N)) := by
  have hPP : ∀ log : List Res, log.length < 2000 → sNextR t k u v q log = (sPrg t k u v q 2000).run tapeTellD log := fun log h => sNextR_same h
  generalize sPrg t k u v q 2000 = PP at *
  have HL : ∀ (la : Option Addr) (j cap : Nat) (log : List Res) (x : World), j ≤ cap → Tab x → Hid (LogAt x la j log) → log.length < 2000 → ∀ K i a b d, PP.run tapeTellD log = .left K i a b d → Calls Tryd.prog 14 #[.int .i64 (t : Int), .int .i64 c, .int .i64 (me : Int), .agg #[.int .i64 k, .int .i64 u, .int .i64 v, .int .u64 (q : Int)], .slice la j cap] x (NextS K i a b d x) := by
    intro la j cap log x hc htx hl hz K i a b d hN
    rw [← hPP log hz] at hN
    refine (sNext_left t ht c (me : Int) k u v q hq hop la j cap log hc x htx hl K i a b d hN).mono ?_
    rintro e w' ⟨D, dc, E, ec, rfl, hX, hb, _, _⟩
    exact ⟨D, dc, E, ec, rfl, hX, hb⟩
  have HD : ∀ (la : Option Addr) (j cap : Nat) (log : List Res) (x : World), j ≤ cap → Tab x → Hid (LogAt x la j log) → log.length < 2000 → ∀ r' s, PP.run tapeTellD log = .done r' s → Calls Tryd.prog 14 #[.int .i64 (t : Int), .int .i64 c, .int .i64 (me : Int), .agg #[.int .i64 k, .int .i64 u, .int .i64 v, .int .u64 (q : Int)], .slice la j cap] x (RunE (sErr k) (sIs k r') 0 (sW k r' : Int) x) :=
    fun la j cap log x hc htx hl hz r' s hN => sNext_done t ht c (me : Int) k u v q hq hop la j cap log hc x htx hl r' s (by rw [hPP log hz]; exact hN)
  have HDO := fun (A : Option Addr) (ka : Nat) (G : Nat → Nat) (R : Option Addr) (ra : Nat) (S : Option Addr) (sa : Nat) (l0 : List Stm) (K i : Int) (a b : Nat) (d : List Nat) (fa : Bool) (N : Nat) (fl : Bool) (W' : WS) hs D dc E ec x hx h0 h1 h2 => doS (t : Int) c A n ka G R S m ra sa l0 l1 me hme hm8 K i a b d fa N fl W' hn hs D dc E ec x hx h0 h1 h2
  have HM := Lib.hid hm
  have HRUN := Lib.hid hrun
  clear hrun hop hq ht hm hPP hme hm8
  go_enter Tryd.func9, Tryd.ntmps9
  go_upto_region 2 with fail
  refine gen_w (P := fun W => Code.wp _ _ _ _ W) (fun y => RunA w w.heap.size (w.heap.size + 1 + 1 + 1 + 1) (From w (w.heap.size + 1 + 1 + 1 + 1) A n R S m) [(w.heap.size + 1, [.int .i64 k, .int .i64 u, .int .i64 v, .int .u64 (q : Int)]), (w.heap.size + 1 + 1, [.int .i64 0, .int .i64 0, .slice none 0 0, .int .u64 0, .slice none 0 0, .slice none 0 0]), (w.heap.size + 1 + 1 + 1, [.int .i64 0, .bool false, .int .i64 0, .int .u64 0, .slice none 0 0])] t c n 0 m l0 l1 (.slice none 0 0) [] G y) ⟨(by repeat (first | with_reducible assumption | with_reducible exact Below.refl _ _ | with_reducible refine Below.drew ?_ | with_reducible refine below_al ?_ | (with_reducible refine below_set1 (by omega) _ ?_))), by simp, by omega, ?vars, ?vlt, ?run, ⟨[], World.ownsRow_nil _ _ _ _, LogRaw.nil _ _⟩⟩ ?_
  case vars =>
    intro p hp
    simp only [List.mem_cons, List.not_mem_nil, or_false] at hp
    rcases hp with rfl | rfl | rfl
    · exact VarAt.mk4 (by simp <;> omega) (by go_simp) (by go_simp) (by go_simp) (by go_simp) (by go_simp) (by go_simp) (by go_simp) (by go_simp)
    · exact VarAt.of6 (by simp <;> omega) (by go_simp) (by go_simp) (by go_simp) (by go_simp) (by go_simp) (by go_simp) (by go_simp) (by go_simp) (by go_simp) (by go_simp) (by go_simp) (by go_simp)
    · exact VarAt.mk5 (by simp <;> omega) (by go_simp) (by go_simp) (by go_simp) (by go_simp) (by go_simp) (by go_simp) (by go_simp) (by go_simp) (by go_simp) (by go_simp)
  case vlt =>
    intro p hp
    simp only [List.mem_cons, List.not_mem_nil, or_false] at hp
    rcases hp with rfl | rfl | rfl <;> simp only [] <;> omega
  case run =>
    have hb : Below w.heap.size w ((((w.alloc (.cells #[.int .i64 (t : Int), .int .i64 c, .slice A n ka, .int .u64 0, .slice R m ra, .slice S m sa] 33)).alloc (.cells #[.int .i64 k, .int .i64 u, .int .i64 v, .int .u64 (q : Int)] 42)).alloc (.cells #[.int .i64 0, .int .i64 0, .slice none 0 0, .int .u64 0, .slice none 0 0, .slice none 0 0] 33)).alloc (.cells #[.int .i64 0, .bool false, .int .i64 0, .int .u64 0, .slice none 0 0] 38)) := (by repeat (first | with_reducible assumption | with_reducible exact Below.refl _ _ | with_reducible refine Below.drew ?_ | with_reducible refine below_al ?_ | (with_reducible refine below_set1 (by omega) _ ?_)))
    have nt : ∀ b, b < w.heap.size → Nt w.heap.size w.heap.size (.slice none 0 0) b := fun b hb => ⟨by omega, by omega, fun k hk => by cases hk⟩
    exact ⟨A, ka, R, ra, S, sa, ⟨VarAt.of6 (by simp <;> omega) (by go_simp) (by go_simp) (by go_simp) (by go_simp) (by go_simp) (by go_simp) (by go_simp) (by go_simp) (by go_simp) (by go_simp) (by go_simp) (by go_simp), HA.out.later hb, H0.out.later hb, H1.out.later hb⟩, HA.out.old.mono nt, (H0.out.old.mono nt).later H0.out hb, (H1.out.old.mono nt).later H1.out hb, fun P hF => ⟨hF.2.1, hF.2.2.1.later H0.out hb, hF.2.2.2.later H1.out hb⟩⟩
  rintro y hy
  have HZ := Lib.hid hy
  clear hy
  obtain ⟨Nw, hNw⟩ : ∃ N, w.heap.size = N := ⟨_, rfl⟩
  rw [hNw] at HZ ⊢
  have HNW := Lib.hid hNw
  clear hNw
  go_wp2_with fail
  go_loopw [13, 14] (fun u13 u14 wr => ∃ (j : Nat) (log : List Res) (G : Nat → Nat) (l0 : List Stm), u14 = .int .i64 (j : Int) ∧ log.length = j ∧ Prd.aloneD PP n me (fun j => decide (j < fn) && ff j) (most + 1 - j) log (G, l0) = some (N, WF) ∧ RunA w Nw (Nw + 1 + 1 + 1 + 1) (From w (Nw + 1 + 1 + 1 + 1) A n R S m) [(Nw + 1, [.int .i64 k, .int .i64 u, .int .i64 v, .int .u64 (q : Int)]), (Nw + 1 + 1, [.int .i64 0, .int .i64 0, .slice none 0 0, .int .u64 0, .slice none 0 0, .slice none 0 0]), (Nw + 1 + 1 + 1, [.int .i64 0, .bool false, .int .i64 0, .int .u64 0, .slice none 0 0])] t c n 0 m l0 l1 u13 log G wr) (fun _ i _ => most + 1 - (intOf i).toNat)
  case atStart => exact ⟨0, [], G, l0, rfl, rfl, HRUN.out, HZ.out⟩
  case round =>
    clear HZ HRUN
    have HOS : Hid (StmsAt w R m l0) := H0
    clear y
    obtain ⟨j, log, G, l0, rfl, hlen, hR, hrun⟩ := hrel
    have HR := Lib.hid hrun
    clear hrun
    have hjm : j ≤ most := by
      rcases Nat.lt_or_ge most j with h | h
      · rw [show most + 1 - j = 0 by omega] at hR; cases hR
      · exact h
    obtain ⟨f, hf⟩ : ∃ f, most + 1 - j = f + 1 := ⟨most - j, by omega⟩
    rw [hf] at hR
    have d1 : decide ((j : Int) ≤ (most : Int)) = true := by rw [decide_eq_true_iff]; omega
    have d1' : decide (j ≤ most) = true := by rw [decide_eq_true_iff]; omega
    obtain ⟨vs, hown, hraw⟩ := HR.out.log
    rw [hlen] at hown
    obtain ⟨la, cap, rfl, hcap, hlog, _⟩ := hraw.raw.at_ hown (by have := HM.out; omega)
    have HOWN := Lib.hid hown
    have HRAW := Lib.hid hraw
    have HLEN := Lib.hid hlen
    have HLOG := Lib.hid hlog
    have HF := Lib.hid hf
    have HV := Lib.hid HR.out.vars
    obtain ⟨A1, ka1, R1, ra1, S1, sa1, hW, o0, o1, o2, hP⟩ := HR.out.run
    have W1 := Lib.hid hW
    have O1 := Lib.hid (And.intro o0 (And.intro o1 (And.intro o2 hP)))
    have HBW := Lib.hid HR.out.below
    have HSZ := Lib.hid HR.out.size
    clear hlog hown hraw hW o0 o1 o2 hP hf HR
    obtain ⟨c0, c1, c2, c3, c4, c5⟩ := W1.out.cells
    have v1 := HV.out (Nw + 1, [.int .i64 k, .int .i64 u, .int .i64 v, .int .u64 (q : Int)]) (by simp)
    obtain ⟨b0, b1, b2, b3⟩ : wr.cell? ⟨Nw + 1, 0, none⟩ = some (.int .i64 k) ∧ wr.cell? ⟨Nw + 1, 1, none⟩ = some (.int .i64 u) ∧ wr.cell? ⟨Nw + 1, 2, none⟩ = some (.int .i64 v) ∧ wr.cell? ⟨Nw + 1, 3, none⟩ = some (.int .u64 (q : Int)) := ⟨v1.2.1 0 _ rfl, v1.2.1 1 _ rfl, v1.2.1 2 _ rfl, v1.2.1 3 _ rfl⟩
    clear v1
    unfold Prd.aloneD at hR
    have hz : log.length < 2000 := by have := HM.out; omega
    have htb := HTab.out.below HBW.out HTab.out.pos
    cases hN : PP.run tapeTellD log with
    | bad => rw [hN] at hR; cases hR
    | done r' s =>
      rw [hN] at hR
      cases hR
      have HDj := HD la j cap log wr hcap htb HLOG hz _ _ hN
      clear hN HD HL HDO hz hlen hcap htb
      go_wp2_with fail
      (with_reducible refine HDj.mono ?_)
      clear HDj
      rintro e w3 ⟨rfl, hb3⟩
      go_upto_region 7 with fail
      have hbx3 : Below w3.heap.size w3 ((w3.alloc (.cells #[.int .i64 0, .int .i64 0, .int .u64 0, .int .u64 0, .slice none 0 0, .slice none 0 0] 55)).alloc (.cells #[.int .i64 (sErr k), .bool (sIs k N), .int .i64 0, .int .u64 (sW k N : Int), .slice none 0 0] 38)) := below_pair _ _ _
      have V3 := VarAt.made1 w3 (.cells #[.int .i64 0, .int .i64 0, .int .u64 0, .int .u64 0, .slice none 0 0, .slice none 0 0] 55) #[.int .i64 (sErr k), .bool (sIs k N), .int .i64 0, .int .u64 (sW k N : Int), .slice none 0 0] 38
      have BX := hb3.trans (hbx3.mono hb3.size)
      generalize (w3.alloc (.cells #[.int .i64 0, .int .i64 0, .int .u64 0, .int .u64 0, .slice none 0 0, .slice none 0 0] 55)).alloc (.cells #[.int .i64 (sErr k), .bool (sIs k N), .int .i64 0, .int .u64 (sW k N : Int), .slice none 0 0] 38) = x3 at hbx3 V3 BX ⊢
      have W3 := Lib.hid (W1.out.later BX)
      have hV3 := HV.out.below BX
      have HBW3 := Lib.hid (HBW.out.trans (BX.mono HBW.out.size))
      have OP3 : Hid (∀ P, From w (Nw + 1 + 1 + 1 + 1) A n R S m P → OffW P A1 n ∧ OffS P x3 R1 m ∧ OffS P x3 S1 m) := Lib.hid (fun P hF => ⟨(O1.out.2.2.2 P hF).1, (O1.out.2.2.2 P hF).2.1.later W1.out.2.2.1 BX, (O1.out.2.2.2 P hF).2.2.later W1.out.2.2.2 BX⟩)
      have hs3 : Nw + 1 + 1 + 1 + 1 ≤ w3.heap.size := Nat.le_trans HSZ.out hb3.size
      have HS3 := Lib.hid hs3
      obtain ⟨_, ⟨e1, e2, e3, e4, e5⟩, _⟩ := V3.five
      obtain ⟨m8, ⟨p0, p1, p2, p3, p4, p5⟩, q0, q1, q2, q3, q4, q5⟩ := (hV3 (Nw + 1 + 1, [.int .i64 0, .int .i64 0, .slice none 0 0, .int .u64 0, .slice none 0 0, .slice none 0 0]) (by simp)).six
      obtain ⟨m9, ⟨s1, s2, s3, s4, s5⟩, z1, z2, z3, z4, z5⟩ := (hV3 (Nw + 1 + 1 + 1, [.int .i64 0, .bool false, .int .i64 0, .int .u64 0, .slice none 0 0]) (by simp)).five
      clear hb3 hbx3 V3 BX hV3 c0 c1 c2 c3 c4 c5 b0 b1 b2 b3
      obtain ⟨c0, c1, c2, c3, c4, c5⟩ := W3.out.cells
      generalize w3.heap.size = b14 at e1 e2 e3 e4 e5 hs3 HS3 ⊢
      have n1 : ¬ (b14 + 1 = Nw + 1 + 1) := by omega
      have n2 : ¬ (Nw + 1 + 1 = b14 + 1) := by omega
      have n3 : ¬ (b14 + 1 = Nw + 1 + 1 + 1) := by omega
      have n4 : ¬ (Nw + 1 + 1 + 1 = b14 + 1) := by omega
      go_region
      all_goals
        go_wp2_with fail
        have hnw := HNW.out
        have hbw := HBW3.out
        have hPP := OP3.out (fun b => b < Nw ∨ Nw + 1 + 1 + 1 + 1 ≤ b) ⟨fun b hb => .inr hb, HA.out.old.mono fun b hb => .inl (by omega), H0.out.old.mono fun b hb => .inl (by omega), H1.out.old.mono fun b hb => .inl (by omega)⟩
        exact bodyPost_ret (v := .tuple #[.agg #[.int .i64 (t : Int), .int .i64 c, .slice A1 n ka1, .int .u64 0, .slice R1 m ra1, .slice S1 m sa1], .agg #[.int .i64 (sErr k), .bool (sIs k N), .int .i64 0, .int .u64 (sW k N : Int), .slice none 0 0], .bool true]) (by simp [results, Tryd.results9, go_sem, p0, p1, p2, p3, p4, p5, s1, s2, s3, s4, s5]) rfl
          ⟨A1, ka1, R1, ra1, S1, sa1, rfl, W3.out.2.1.keep (Q := fun b => b < Nw ∨ Nw + 1 + 1 + 1 + 1 ≤ b) (by repeat (first | with_reducible exact Keep.refl _ _ | with_reducible refine Keep.drew ?_ | with_reducible refine Keep.alloc ?_ _ | (with_reducible refine Keep.set ?_ _ _ _ (by omega)))) hPP.1, W3.out.2.2.1.keep (Q := fun b => b < Nw ∨ Nw + 1 + 1 + 1 + 1 ≤ b) (by repeat (first | with_reducible exact Keep.refl _ _ | with_reducible refine Keep.drew ?_ | with_reducible refine Keep.alloc ?_ _ | (with_reducible refine Keep.set ?_ _ _ _ (by omega)))) hPP.2.1, W3.out.2.2.2.keep (Q := fun b => b < Nw ∨ Nw + 1 + 1 + 1 + 1 ≤ b) (by repeat (first | with_reducible exact Keep.refl _ _ | with_reducible refine Keep.drew ?_ | with_reducible refine Keep.alloc ?_ _ | (with_reducible refine Keep.set ?_ _ _ _ (by omega)))) hPP.2.2, (by repeat (first | with_reducible assumption | with_reducible refine Below.drew ?_ | with_reducible refine below_al ?_ | (with_reducible refine below_set1 (by omega) _ ?_))), fun P hF => ⟨(OP3.out P ⟨fun b hb => hF.1 b (by omega), hF.2⟩).1, (OP3.out P ⟨fun b hb => hF.1 b (by omega), hF.2⟩).2.1.keep W3.out.2.2.1 (Q := fun b => b < Nw ∨ Nw + 1 + 1 + 1 + 1 ≤ b) (by repeat (first | with_reducible exact Keep.refl _ _ | with_reducible refine Keep.drew ?_ | with_reducible refine Keep.alloc ?_ _ | (with_reducible refine Keep.set ?_ _ _ _ (by omega)))) hPP.2.1, (OP3.out P ⟨fun b hb => hF.1 b (by omega), hF.2⟩).2.2.keep W3.out.2.2.2 (Q := fun b => b < Nw ∨ Nw + 1 + 1 + 1 + 1 ≤ b) (by repeat (first | with_reducible exact Keep.refl _ _ | with_reducible refine Keep.drew ?_ | with_reducible refine Keep.alloc ?_ _ | (with_reducible refine Keep.set ?_ _ _ _ (by omega)))) hPP.2.2⟩⟩
    | left K i a b d =>
      rw [hN] at hR
      dsimp only at hR
      cases hst : stepS n me K i a b d (decide (log.length < fn) && ff log.length) (G, l0) with
      | none => rw [hst] at hR; cases hR
      | some qq =>
      obtain ⟨N5, fl5, W5⟩ := qq
      rw [hst] at hR
      dsimp only at hR
      obtain ⟨G5, l5⟩ := W5
      rw [hlen] at hst
      have hj1 : j < most := by
        cases f with
        | zero => cases hR
        | succ f => have := HF.out; omega
      have HJ1 := Lib.hid hj1
      have HLj := HL la j cap log wr hcap htb HLOG hz _ _ _ _ _ hN
      have HDj := fun D dc E ec x hx h0 h1 h2 => HDO A1 ka1 G R1 ra1 S1 sa1 l0 K i a b d (decide (j < fn) && ff j) N5 fl5 (G5, l5) hst D dc E ec x hx h0 h1 h2
      have HN5 := Lib.hid (stepS_lt hst W1.out.2.1.1)
      have HRN := Lib.hid hR
      clear hN HD HL HDO hz hlen hcap hst hR htb
      obtain ⟨nd, hnd⟩ : ∃ m, d.length = m := ⟨_, rfl⟩
      have HND := Lib.hid hnd
      unfold NextS at HLj
      rw [hnd] at HLj HDj
      clear hnd
      generalize hfa : (decide (j < fn) && ff j) = fa at *
      have HFB := Lib.hid hfa
      clear hfa
      go_wp2_with fail
      (with_reducible refine HLj.mono ?_)
      clear HLj
      rintro e w3 ⟨D3, dc3, E3, ec3, rfl, ha3, hb3⟩
      go_upto_region 8 with fail
      have hbx3 : Below w3.heap.size w3 ((w3.alloc (.cells #[.int .i64 K, .int .i64 i, .int .u64 (a : Int), .int .u64 (b : Int), .slice D3 nd dc3, .slice E3 0 ec3] 55)).alloc (.cells #[.int .i64 0, .bool false, .int .i64 0, .int .u64 0, .slice none 0 0] 38)) := below_pair _ _ _
      have V3 := (VarAt.made w3 #[.int .i64 K, .int .i64 i, .int .u64 (a : Int), .int .u64 (b : Int), .slice D3 nd dc3, .slice E3 0 ec3] 55).below (al_below _ (.cells #[.int .i64 0, .bool false, .int .i64 0, .int .u64 0, .slice none 0 0] 38))
      have BX := hb3.trans (hbx3.mono hb3.size)
      generalize (w3.alloc (.cells #[.int .i64 K, .int .i64 i, .int .u64 (a : Int), .int .u64 (b : Int), .slice D3 nd dc3, .slice E3 0 ec3] 55)).alloc (.cells #[.int .i64 0, .bool false, .int .i64 0, .int .u64 0, .slice none 0 0] 38) = x3 at hbx3 V3 BX ⊢
      generalize w3.heap.size = b14 at V3 ⊢
      have W3 := Lib.hid (W1.out.later BX)
      have HAP := Lib.hid (ha3.later hbx3)
      have HV3 := Lib.hid (HV.out.below BX)
      have HBW3 := Lib.hid (HBW.out.trans (BX.mono HBW.out.size))
      have O3 := Lib.hid (And.intro O1.out.1 (And.intro (O1.out.2.1.later W1.out.2.2.1 BX) (O1.out.2.2.1.later W1.out.2.2.2 BX)))
      have OP3 : Hid (∀ P, From w (Nw + 1 + 1 + 1 + 1) A n R S m P → OffW P A1 n ∧ OffS P x3 R1 m ∧ OffS P x3 S1 m) := Lib.hid (fun P hF => ⟨(O1.out.2.2.2 P hF).1, (O1.out.2.2.2 P hF).2.1.later W1.out.2.2.1 BX, (O1.out.2.2.2 P hF).2.2.later W1.out.2.2.2 BX⟩)
      have HOWN3 := Lib.hid (ownsRow_laterR HOWN.out BX)
      have HRAW3 := Lib.hid (HRAW.out.later BX)
      have HSZ3 := Lib.hid (Nat.le_trans HSZ.out BX.size)
      have VA3 := Lib.hid V3
      have HFX := Lib.hid (HFA.out.later (HBW3.out))
      clear hb3 V3 BX W1 HV HBW O1 HOWN HRAW HSZ HLOG hbx3
      obtain ⟨_, ⟨a0, a1, a2, a3, a4, a5⟩, _⟩ := VA3.out.six
      go_cut [18, 19] from 20 to 63 (fun s18 s19 wx => DoCut t c A1 n R1 S1 m G5 l5 l1 N5 fl5 x3 s18 s19 wx)
      case first =>
        have HB0 : Below x3.heap.size x3 x3 := Below.refl _ _
        obtain ⟨_, ⟨a0, a1, a2, a3, a4, a5⟩, _⟩ := VA3.out.six
        clear a0 a1 a2 a3 a4 a5
        have rC0 := fun w' (hb : Below x3.heap.size x3 w') => (W3.out.later hb).cells.1
        have rC1 := fun w' (hb : Below x3.heap.size x3 w') => (W3.out.later hb).cells.2.1
        have rC2 := fun w' (hb : Below x3.heap.size x3 w') => (W3.out.later hb).cells.2.2.1
        have rC3 := fun w' (hb : Below x3.heap.size x3 w') => (W3.out.later hb).cells.2.2.2.1
        have rC4 := fun w' (hb : Below x3.heap.size x3 w') => (W3.out.later hb).cells.2.2.2.2.1
        have rC5 := fun w' (hb : Below x3.heap.size x3 w') => (W3.out.later hb).cells.2.2.2.2.2
        have rA0 := fun w' (hb : Below x3.heap.size x3 w') => (VA3.out.below hb).2.1 0 _ rfl
        have rA1 := fun w' (hb : Below x3.heap.size x3 w') => (VA3.out.below hb).2.1 1 _ rfl
        have rA2 := fun w' (hb : Below x3.heap.size x3 w') => (VA3.out.below hb).2.1 2 _ rfl
        have rA3 := fun w' (hb : Below x3.heap.size x3 w') => (VA3.out.below hb).2.1 3 _ rfl
        have rA4 := fun w' (hb : Below x3.heap.size x3 w') => (VA3.out.below hb).2.1 4 _ rfl
        have rA5 := fun w' (hb : Below x3.heap.size x3 w') => (VA3.out.below hb).2.1 5 _ rfl
        by_cases hjf : j < fn
        · have d3 : decide ((j : Int) < (fn : Int)) = true := by rw [decide_eq_true_iff]; omega
          have d3' : decide (j < fn) = true := by rw [decide_eq_true_iff]; omega
          have hfe : fa = ff j := by rw [← HFB.out, d3']; rfl
          obtain ⟨fb, fo, rfl, hfl, hfc'⟩ := HFX.out.2 (by omega)
          have hfj := hfc' j hjf
          rw [← hfe] at hfj
          have rF : ∀ w', Below x3.heap.size x3 w' → w'.cell? ⟨fb, fo + j, none⟩ = some (.bool fa) := fun w' hb => (hb.cell (p := ⟨fb, fo + j, none⟩) hfl).trans hfj
          have i1 : (0 : Int) ≤ (j : Int) := by omega
          have i2 : (j : Int) < (fn : Int) := by omega
          clear hfc' hfe
          refine wp_region_noPanic ?_
          refine wp_region_held_drew (S := fun w' => Below x3.heap.size x3 w') (by kernel_rfl) (Below.drew (Below.refl _ _)) (fun hHeld => ?_)
          refine wpAnyH_take (i := 0) (oi := _) (v := ?_) rfl (by kernel_rfl) (by kernel_rfl) (by kernel_rfl) (fun _ _ _ h => h) (Or.inl ⟨by rfl, ?_⟩) (by assumption) ?_
          rotate_left
          · intro w hSw
            (try dsimp only at hSw)
            go_simp
            with_reducible rfl
          try simp only [List.getElem_toArray, List.getElem_cons_zero, Act.put, List.setIfInBounds_toArray, List.set_cons_zero, List.set_cons_succ]
          refine wpAnyH_take (i := 1) (oi := _) (v := ?_) rfl (by kernel_rfl) (by kernel_rfl) (by kernel_rfl) (fun _ _ _ h => h) (Or.inl ⟨by rfl, ?_⟩) (by assumption) ?_
          rotate_left
          · intro w hSw
            (try dsimp only at hSw)
            go_simp
            with_reducible rfl
          try simp only [List.getElem_toArray, List.getElem_cons_succ, List.getElem_cons_zero, Act.put, List.setIfInBounds_toArray, List.set_cons_zero, List.set_cons_succ]
          refine wpAnyH_take (i := 2) (oi := _) (v := ?_) rfl (by kernel_rfl) (by kernel_rfl) (by kernel_rfl) (fun _ _ _ h => h) (Or.inl ⟨by rfl, ?_⟩) (by assumption) ?_
          rotate_left
          · intro w hSw
            (try dsimp only at hSw)
            go_simp
            with_reducible rfl
          try simp only [List.getElem_toArray, List.getElem_cons_succ, List.getElem_cons_zero, Act.put, List.setIfInBounds_toArray, List.set_cons_zero, List.set_cons_succ]
          refine wpAnyH_take (i := 3) (oi := _) (v := ?_) rfl (by kernel_rfl) (by kernel_rfl) (by kernel_rfl) (fun _ _ _ h => h) (Or.inl ⟨by rfl, ?_⟩) (by assumption) ?_
          rotate_left
          · intro w hSw
            (try dsimp only at hSw)
            go_simp
            with_reducible rfl
          try simp only [List.getElem_toArray, List.getElem_cons_succ, List.getElem_cons_zero, Act.put, List.setIfInBounds_toArray, List.set_cons_zero, List.set_cons_succ]
          refine wpAnyH_take (i := 4) (oi := _) (v := ?_) rfl (by kernel_rfl) (by kernel_rfl) (by kernel_rfl) (fun _ _ _ h => h) (Or.inl ⟨by rfl, ?_⟩) (by assumption) ?_
          rotate_left
          · intro w hSw
            (try dsimp only at hSw)
            go_simp
            with_reducible rfl
          try simp only [List.getElem_toArray, List.getElem_cons_succ, List.getElem_cons_zero, Act.put, List.setIfInBounds_toArray, List.set_cons_zero, List.set_cons_succ]
          refine wpAnyH_take (i := 5) (oi := _) (v := ?_) rfl (by kernel_rfl) (by kernel_rfl) (by kernel_rfl) (fun _ _ _ h => h) (Or.inl ⟨by rfl, ?_⟩) (by assumption) ?_
          rotate_left
          · intro w hSw
            (try dsimp only at hSw)
            go_simp
            with_reducible rfl
          try simp only [List.getElem_toArray, List.getElem_cons_succ, List.getElem_cons_zero, Act.put, List.setIfInBounds_toArray, List.set_cons_zero, List.set_cons_succ]
          refine wpAnyH_take (i := 6) (oi := _) (v := ?_) rfl (by kernel_rfl) (by kernel_rfl) (by kernel_rfl) (fun _ _ _ h => h) (Or.inl ⟨by rfl, ?_⟩) (by assumption) ?_
          rotate_left
          · intro w hSw
            (try dsimp only at hSw)
            go_simp
            with_reducible rfl
          try simp only [List.getElem_toArray, List.getElem_cons_succ, List.getElem_cons_zero, Act.put, List.setIfInBounds_toArray, List.set_cons_zero, List.set_cons_succ]
          refine wpAnyH_take (i := 7) (oi := _) (v := ?_) rfl (by kernel_rfl) (by kernel_rfl) (by kernel_rfl) (fun _ _ _ h => h) (Or.inl ⟨by rfl, ?_⟩) (by assumption) ?_
          rotate_left
          · intro w hSw
            (try dsimp only at hSw)
            go_simp
            with_reducible rfl
          try simp only [List.getElem_toArray, List.getElem_cons_succ, List.getElem_cons_zero, Act.put, List.setIfInBounds_toArray, List.set_cons_zero, List.set_cons_succ]
          refine wpAnyH_take (i := 8) (oi := _) (v := ?_) rfl (by kernel_rfl) (by kernel_rfl) (by kernel_rfl) (fun _ _ _ h => h) (Or.inl ⟨by rfl, ?_⟩) (by assumption) ?_
          rotate_left
          · intro w hSw
            (try dsimp only at hSw)
            go_simp
            with_reducible rfl
          try simp only [List.getElem_toArray, List.getElem_cons_succ, List.getElem_cons_zero, Act.put, List.setIfInBounds_toArray, List.set_cons_zero, List.set_cons_succ]
          refine wpAnyH_take (i := 9) (oi := _) (v := ?_) rfl (by kernel_rfl) (by kernel_rfl) (by kernel_rfl) (fun _ _ _ h => h) (Or.inl ⟨by rfl, ?_⟩) (by assumption) ?_
          rotate_left
          · intro w hSw
            (try dsimp only at hSw)
            go_simp
            with_reducible rfl
          try simp only [List.getElem_toArray, List.getElem_cons_succ, List.getElem_cons_zero, Act.put, List.setIfInBounds_toArray, List.set_cons_zero, List.set_cons_succ]
          refine wpAnyH_take (i := 10) (oi := _) (v := ?_) rfl (by kernel_rfl) (by kernel_rfl) (by kernel_rfl) (fun _ _ _ h => h) (Or.inl ⟨by rfl, ?_⟩) (by assumption) ?_
          rotate_left
          · intro w hSw
            (try dsimp only at hSw)
            go_simp
            with_reducible rfl
          try simp only [List.getElem_toArray, List.getElem_cons_succ, List.getElem_cons_zero, Act.put, List.setIfInBounds_toArray, List.set_cons_zero, List.set_cons_succ]
          refine wpAnyH_take (i := 11) (oi := _) (v := ?_) rfl (by kernel_rfl) (by kernel_rfl) (by kernel_rfl) (fun _ _ _ h => h) (Or.inl ⟨by rfl, ?_⟩) (by assumption) ?_
          rotate_left
          · intro w hSw
            (try dsimp only at hSw)
            go_simp
            with_reducible rfl
          try simp only [List.getElem_toArray, List.getElem_cons_succ, List.getElem_cons_zero, Act.put, List.setIfInBounds_toArray, List.set_cons_zero, List.set_cons_succ]
          refine wpAnyH_take (i := 12) (oi := _) (v := ?_) rfl (by kernel_rfl) (by kernel_rfl) (by kernel_rfl) (fun _ _ _ h => h) (Or.inl ⟨by rfl, ?_⟩) (by assumption) ?_
          rotate_left
          · intro w hSw
            (try dsimp only at hSw)
            go_simp
            with_reducible rfl
          try simp only [List.getElem_toArray, List.getElem_cons_succ, List.getElem_cons_zero, Act.put, List.setIfInBounds_toArray, List.set_cons_zero, List.set_cons_succ]
          refine wpAnyH_ready (rs := [13, 17, 18]) (by kernel_rfl) (by simp) ?_
          refine AllReadyH.cons rfl (fun K hK => ?_) ?_
          · go_simp
            go_at_call 15; (with_reducible refine (HDj D3 dc3 E3 ec3 _ (HAP.out.later (by repeat (first | with_reducible assumption | with_reducible refine Below.drew ?_ | with_reducible refine below_al ?_))) (W3.out.later (by repeat (first | with_reducible assumption | with_reducible refine Below.drew ?_ | with_reducible refine below_al ?_))).gA (W3.out.later (by repeat (first | with_reducible assumption | with_reducible refine Below.drew ?_ | with_reducible refine below_al ?_))).g0 (W3.out.later (by repeat (first | with_reducible assumption | with_reducible refine Below.drew ?_ | with_reducible refine below_al ?_))).g1).mono ?_); rintro e w4 ⟨A4, ka4, R4, ra4, S4, sa4, X4, kx4, rfl, ha, hs0, hs1, hb, hP⟩; have hBw4 : Below x3.heap.size x3 w4 := below_step hb (by repeat (first | with_reducible assumption | with_reducible refine Below.drew ?_ | with_reducible refine below_al ?_)); have hz4 := hBw4.size; have HQ := Lib.hid (doCut_fact (by repeat (first | with_reducible assumption | with_reducible refine Below.drew ?_ | with_reducible refine below_al ?_)) hb ha hs0 hs1 hP W3.out.2.1 W3.out.2.2.1 W3.out.2.2.2); clear ha hs0 hs1 hb hP
            refine hK.out _ _ ?_ (fun hHeld => ?_)
            · assumption
            clear hK K
            try simp only [List.getElem_toArray, List.getElem_cons_succ, List.getElem_cons_zero, Act.put, List.setIfInBounds_toArray, List.set_cons_zero, List.set_cons_succ]
            refine wpAnyH_take (i := 14) (oi := _) (v := ?_) rfl (by kernel_rfl) (by kernel_rfl) (by kernel_rfl) (fun _ _ _ h => h) (Or.inl ⟨by rfl, ?_⟩) (by assumption) ?_
            rotate_left
            · intro w hSw
              (try dsimp only at hSw)
              go_simp
              with_reducible rfl
            try simp only [List.getElem_toArray, List.getElem_cons_succ, List.getElem_cons_zero, Act.put, List.setIfInBounds_toArray, List.set_cons_zero, List.set_cons_succ]
            refine wpAnyH_take (i := 15) (oi := _) (v := ?_) rfl (by kernel_rfl) (by kernel_rfl) (by kernel_rfl) (fun _ _ _ h => h) (Or.inl ⟨by rfl, ?_⟩) (by assumption) ?_
            rotate_left
            · intro w hSw
              (try dsimp only at hSw)
              go_simp
              with_reducible rfl
            try simp only [List.getElem_toArray, List.getElem_cons_succ, List.getElem_cons_zero, Act.put, List.setIfInBounds_toArray, List.set_cons_zero, List.set_cons_succ]
            refine wpAnyH_take (i := 16) (oi := _) (v := ?_) rfl (by kernel_rfl) (by kernel_rfl) (by kernel_rfl) (fun _ _ _ h => h) (Or.inl ⟨by rfl, ?_⟩) (by assumption) ?_
            rotate_left
            · intro w hSw
              (try dsimp only at hSw)
              go_simp
              with_reducible rfl
            try simp only [List.getElem_toArray, List.getElem_cons_succ, List.getElem_cons_zero, Act.put, List.setIfInBounds_toArray, List.set_cons_zero, List.set_cons_succ]
            refine wpAnyH_ready (rs := [17, 18]) (by kernel_rfl) (by simp) ?_
            refine AllReadyH.cons rfl (fun K hK => ?_) ?_
            · go_simp
              refine hK.out _ _ ?_ (fun hHeld => ?_)
              · repeat (first | with_reducible assumption | with_reducible refine Below.drew ?_ | with_reducible refine below_al ?_)
              clear hK K
              try simp only [List.getElem_toArray, List.getElem_cons_succ, List.getElem_cons_zero, Act.put, List.setIfInBounds_toArray, List.set_cons_zero, List.set_cons_succ]
              refine wpAnyH_ready (rs := [18]) (by kernel_rfl) (by simp) ?_
              refine AllReadyH.cons rfl (fun K hK => ?_) ?_
              · go_simp
                refine hK.out _ _ ?_ (fun hHeld => ?_)
                · repeat (first | with_reducible assumption | with_reducible refine Below.drew ?_ | with_reducible refine below_al ?_)
                clear hK K
                try simp only [List.getElem_toArray, List.getElem_cons_succ, List.getElem_cons_zero, Act.put, List.setIfInBounds_toArray, List.set_cons_zero, List.set_cons_succ]
                refine wpAnyH_ready (rs := [19]) (by kernel_rfl) (by simp) ?_
                refine AllReadyH.cons rfl (fun K hK => ?_) AllReadyH.nil
                go_simp
                refine hK.out _ _ ?_ (fun hHeld => ?_)
                · repeat (first | with_reducible assumption | with_reducible refine Below.drew ?_ | with_reducible refine below_al ?_ | (with_reducible refine below_set1 (by omega) _ ?_))
                clear hK K
                try simp only [List.getElem_toArray, List.getElem_cons_succ, List.getElem_cons_zero, Act.put, List.setIfInBounds_toArray, List.set_cons_zero, List.set_cons_succ]
                refine wpAnyH_ready (rs := [20]) (by kernel_rfl) (by simp) ?_
                refine AllReadyH.cons rfl (fun K hK => ?_) AllReadyH.nil
                go_simp
                refine hK.out _ _ ?_ (fun hHeld => ?_)
                · repeat (first | with_reducible assumption | with_reducible refine Below.drew ?_ | with_reducible refine below_al ?_ | (with_reducible refine below_set1 (by omega) _ ?_))
                clear hK K
                try simp only [List.getElem_toArray, List.getElem_cons_succ, List.getElem_cons_zero, Act.put, List.setIfInBounds_toArray, List.set_cons_zero, List.set_cons_succ]
                refine wpAnyH_done (by kernel_rfl) ?_ _
                refine NoPanic.normal ?_
                go_wp2_with fail
                go_meet
                obtain ⟨N2, hN2, hq⟩ := HQ.out
                simp at hN2
                exact DoCut.of (ka := ka4) (ra := ra4) (sa := sa4) (X := X4) (kx := kx4) hq (by repeat (first | with_reducible exact Keep.refl _ _ | with_reducible refine Keep.drew ?_ | with_reducible refine Keep.alloc ?_ _ | (with_reducible refine Keep.set ?_ _ _ _ (by omega)))) (by omega) (by omega) (VarAt.of6 (by first | (simp; done) | (simp; omega) | omega) (by go_simp) (by go_simp) (by go_simp) (by go_simp) (by go_simp) (by go_simp) (by go_simp) (by go_simp) (by go_simp) (by go_simp) (by go_simp) (by go_simp)) (VarAt.mk3 (by first | (simp; done) | (simp; omega) | omega) (by go_simp) (by go_simp) (by go_simp) (by go_simp) (by go_simp) (by go_simp)) (by repeat (first | with_reducible assumption | with_reducible refine Below.drew ?_ | with_reducible refine below_al ?_ | (with_reducible refine below_set1 (by omega) _ ?_)))
              exact AllReadyH.nil
            refine AllReadyH.cons rfl (fun K hK => ?_) ?_
            · go_simp
              refine hK.out _ _ ?_ (fun hHeld => ?_)
              · repeat (first | with_reducible assumption | with_reducible refine Below.drew ?_ | with_reducible refine below_al ?_)
              clear hK K
              try simp only [List.getElem_toArray, List.getElem_cons_succ, List.getElem_cons_zero, Act.put, List.setIfInBounds_toArray, List.set_cons_zero, List.set_cons_succ]
              refine wpAnyH_ready (rs := [17]) (by kernel_rfl) (by simp) ?_
              refine AllReadyH.cons rfl (fun K hK => ?_) ?_
              · go_simp
                refine hK.out _ _ ?_ (fun hHeld => ?_)
                · repeat (first | with_reducible assumption | with_reducible refine Below.drew ?_ | with_reducible refine below_al ?_)
                clear hK K
                try simp only [List.getElem_toArray, List.getElem_cons_succ, List.getElem_cons_zero, Act.put, List.setIfInBounds_toArray, List.set_cons_zero, List.set_cons_succ]
                refine wpAnyH_ready (rs := [19]) (by kernel_rfl) (by simp) ?_
                refine AllReadyH.cons rfl (fun K hK => ?_) AllReadyH.nil
                go_simp
                refine hK.out _ _ ?_ (fun hHeld => ?_)
                · repeat (first | with_reducible assumption | with_reducible refine Below.drew ?_ | with_reducible refine below_al ?_ | (with_reducible refine below_set1 (by omega) _ ?_))
                clear hK K
                try simp only [List.getElem_toArray, List.getElem_cons_succ, List.getElem_cons_zero, Act.put, List.setIfInBounds_toArray, List.set_cons_zero, List.set_cons_succ]
                refine wpAnyH_ready (rs := [20]) (by kernel_rfl) (by simp) ?_
                refine AllReadyH.cons rfl (fun K hK => ?_) AllReadyH.nil
                go_simp
                refine hK.out _ _ ?_ (fun hHeld => ?_)
                · repeat (first | with_reducible assumption | with_reducible refine Below.drew ?_ | with_reducible refine below_al ?_ | (with_reducible refine below_set1 (by omega) _ ?_))
                clear hK K
                try simp only [List.getElem_toArray, List.getElem_cons_succ, List.getElem_cons_zero, Act.put, List.setIfInBounds_toArray, List.set_cons_zero, List.set_cons_succ]
                refine wpAnyH_done (by kernel_rfl) ?_ _
                refine NoPanic.normal ?_
                go_wp2_with fail
                go_meet
                obtain ⟨N2, hN2, hq⟩ := HQ.out
                simp at hN2
                exact DoCut.of (ka := ka4) (ra := ra4) (sa := sa4) (X := X4) (kx := kx4) hq (by repeat (first | with_reducible exact Keep.refl _ _ | with_reducible refine Keep.drew ?_ | with_reducible refine Keep.alloc ?_ _ | (with_reducible refine Keep.set ?_ _ _ _ (by omega)))) (by omega) (by omega) (VarAt.of6 (by first | (simp; done) | (simp; omega) | omega) (by go_simp) (by go_simp) (by go_simp) (by go_simp) (by go_simp) (by go_simp) (by go_simp) (by go_simp) (by go_simp) (by go_simp) (by go_simp) (by go_simp)) (VarAt.mk3 (by first | (simp; done) | (simp; omega) | omega) (by go_simp) (by go_simp) (by go_simp) (by go_simp) (by go_simp) (by go_simp)) (by repeat (first | with_reducible assumption | with_reducible refine Below.drew ?_ | with_reducible refine below_al ?_ | (with_reducible refine below_set1 (by omega) _ ?_)))
              exact AllReadyH.nil
            exact AllReadyH.nil
          refine AllReadyH.cons rfl (fun K hK => ?_) ?_
          · go_simp
            refine hK.out _ _ ?_ (fun hHeld => ?_)
            · repeat (first | with_reducible assumption | with_reducible refine Below.drew ?_ | with_reducible refine below_al ?_)
            clear hK K
            try simp only [List.getElem_toArray, List.getElem_cons_succ, List.getElem_cons_zero, Act.put, List.setIfInBounds_toArray, List.set_cons_zero, List.set_cons_succ]
            refine wpAnyH_ready (rs := [13, 18]) (by kernel_rfl) (by simp) ?_
            refine AllReadyH.cons rfl (fun K hK => ?_) ?_
            · go_simp
              go_at_call 15; (with_reducible refine (HDj D3 dc3 E3 ec3 _ (HAP.out.later (by repeat (first | with_reducible assumption | with_reducible refine Below.drew ?_ | with_reducible refine below_al ?_))) (W3.out.later (by repeat (first | with_reducible assumption | with_reducible refine Below.drew ?_ | with_reducible refine below_al ?_))).gA (W3.out.later (by repeat (first | with_reducible assumption | with_reducible refine Below.drew ?_ | with_reducible refine below_al ?_))).g0 (W3.out.later (by repeat (first | with_reducible assumption | with_reducible refine Below.drew ?_ | with_reducible refine below_al ?_))).g1).mono ?_); rintro e w4 ⟨A4, ka4, R4, ra4, S4, sa4, X4, kx4, rfl, ha, hs0, hs1, hb, hP⟩; have hBw4 : Below x3.heap.size x3 w4 := below_step hb (by repeat (first | with_reducible assumption | with_reducible refine Below.drew ?_ | with_reducible refine below_al ?_)); have hz4 := hBw4.size; have HQ := Lib.hid (doCut_fact (by repeat (first | with_reducible assumption | with_reducible refine Below.drew ?_ | with_reducible refine below_al ?_)) hb ha hs0 hs1 hP W3.out.2.1 W3.out.2.2.1 W3.out.2.2.2); (try (have VBa : VarAt w4 x3.heap.size [.int .i64 0, .int .i64 0, .slice none 0 0, .int .u64 0, .slice none 0 0, .slice none 0 0] := VarAt.onto hb (VarAt.made x3 #[.int .i64 0, .int .i64 0, .slice none 0 0, .int .u64 0, .slice none 0 0, .slice none 0 0] 33) rfl; obtain ⟨_, ⟨va0, va1, va2, va3, va4, va5⟩, wa0, wa1, wa2, wa3, wa4, wa5⟩ := VBa.six)); clear ha hs0 hs1 hb hP
              refine hK.out _ _ ?_ (fun hHeld => ?_)
              · assumption
              clear hK K
              try simp only [List.getElem_toArray, List.getElem_cons_succ, List.getElem_cons_zero, Act.put, List.setIfInBounds_toArray, List.set_cons_zero, List.set_cons_succ]
              refine wpAnyH_take (i := 14) (oi := _) (v := ?_) rfl (by kernel_rfl) (by kernel_rfl) (by kernel_rfl) (fun _ _ _ h => h) (Or.inl ⟨by rfl, ?_⟩) (by assumption) ?_
              rotate_left
              · intro w hSw
                (try dsimp only at hSw)
                go_simp
                with_reducible rfl
              try simp only [List.getElem_toArray, List.getElem_cons_succ, List.getElem_cons_zero, Act.put, List.setIfInBounds_toArray, List.set_cons_zero, List.set_cons_succ]
              refine wpAnyH_take (i := 15) (oi := _) (v := ?_) rfl (by kernel_rfl) (by kernel_rfl) (by kernel_rfl) (fun _ _ _ h => h) (Or.inl ⟨by rfl, ?_⟩) (by assumption) ?_
              rotate_left
              · intro w hSw
                (try dsimp only at hSw)
                go_simp
                with_reducible rfl
              try simp only [List.getElem_toArray, List.getElem_cons_succ, List.getElem_cons_zero, Act.put, List.setIfInBounds_toArray, List.set_cons_zero, List.set_cons_succ]
              refine wpAnyH_take (i := 16) (oi := _) (v := ?_) rfl (by kernel_rfl) (by kernel_rfl) (by kernel_rfl) (fun _ _ _ h => h) (Or.inl ⟨by rfl, ?_⟩) (by assumption) ?_
              rotate_left
              · intro w hSw
                (try dsimp only at hSw)
                go_simp
                with_reducible rfl
              try simp only [List.getElem_toArray, List.getElem_cons_succ, List.getElem_cons_zero, Act.put, List.setIfInBounds_toArray, List.set_cons_zero, List.set_cons_succ]
              refine wpAnyH_ready (rs := [18]) (by kernel_rfl) (by simp) ?_
              refine AllReadyH.cons rfl (fun K hK => ?_) ?_
              · go_simp
                refine hK.out _ _ ?_ (fun hHeld => ?_)
                · repeat (first | with_reducible assumption | with_reducible refine Below.drew ?_ | with_reducible refine below_al ?_)
                clear hK K
                try simp only [List.getElem_toArray, List.getElem_cons_succ, List.getElem_cons_zero, Act.put, List.setIfInBounds_toArray, List.set_cons_zero, List.set_cons_succ]
                refine wpAnyH_ready (rs := [19]) (by kernel_rfl) (by simp) ?_
                refine AllReadyH.cons rfl (fun K hK => ?_) AllReadyH.nil
                go_simp
                refine hK.out _ _ ?_ (fun hHeld => ?_)
                · repeat (first | with_reducible assumption | with_reducible refine Below.drew ?_ | with_reducible refine below_al ?_ | (with_reducible refine below_set1 (by omega) _ ?_))
                clear hK K
                try simp only [List.getElem_toArray, List.getElem_cons_succ, List.getElem_cons_zero, Act.put, List.setIfInBounds_toArray, List.set_cons_zero, List.set_cons_succ]
                refine wpAnyH_ready (rs := [20]) (by kernel_rfl) (by simp) ?_
                refine AllReadyH.cons rfl (fun K hK => ?_) AllReadyH.nil
                go_simp
                refine hK.out _ _ ?_ (fun hHeld => ?_)
                · repeat (first | with_reducible assumption | with_reducible refine Below.drew ?_ | with_reducible refine below_al ?_ | (with_reducible refine below_set1 (by omega) _ ?_))
                clear hK K
                try simp only [List.getElem_toArray, List.getElem_cons_succ, List.getElem_cons_zero, Act.put, List.setIfInBounds_toArray, List.set_cons_zero, List.set_cons_succ]
                refine wpAnyH_done (by kernel_rfl) ?_ _
                refine NoPanic.normal ?_
                go_wp2_with fail
                go_meet
                obtain ⟨N2, hN2, hq⟩ := HQ.out
                simp at hN2
                exact DoCut.of (ka := ka4) (ra := ra4) (sa := sa4) (X := X4) (kx := kx4) hq (by repeat (first | with_reducible exact Keep.refl _ _ | with_reducible refine Keep.drew ?_ | with_reducible refine Keep.alloc ?_ _ | (with_reducible refine Keep.set ?_ _ _ _ (by omega)))) (by omega) (by omega) (VarAt.of6 (by first | (simp; done) | (simp; omega) | omega) (by go_simp) (by go_simp) (by go_simp) (by go_simp) (by go_simp) (by go_simp) (by go_simp) (by go_simp) (by go_simp) (by go_simp) (by go_simp) (by go_simp)) (VarAt.mk3 (by first | (simp; done) | (simp; omega) | omega) (by go_simp) (by go_simp) (by go_simp) (by go_simp) (by go_simp) (by go_simp)) (by repeat (first | with_reducible assumption | with_reducible refine Below.drew ?_ | with_reducible refine below_al ?_ | (with_reducible refine below_set1 (by omega) _ ?_)))
              exact AllReadyH.nil
            refine AllReadyH.cons rfl (fun K hK => ?_) ?_
            · go_simp
              refine hK.out _ _ ?_ (fun hHeld => ?_)
              · repeat (first | with_reducible assumption | with_reducible refine Below.drew ?_ | with_reducible refine below_al ?_)
              clear hK K
              try simp only [List.getElem_toArray, List.getElem_cons_succ, List.getElem_cons_zero, Act.put, List.setIfInBounds_toArray, List.set_cons_zero, List.set_cons_succ]
              refine wpAnyH_ready (rs := [13]) (by kernel_rfl) (by simp) ?_
              refine AllReadyH.cons rfl (fun K hK => ?_) ?_
              · go_simp
                go_at_call 15; (with_reducible refine (HDj D3 dc3 E3 ec3 _ (HAP.out.later (by repeat (first | with_reducible assumption | with_reducible refine Below.drew ?_ | with_reducible refine below_al ?_))) (W3.out.later (by repeat (first | with_reducible assumption | with_reducible refine Below.drew ?_ | with_reducible refine below_al ?_))).gA (W3.out.later (by repeat (first | with_reducible assumption | with_reducible refine Below.drew ?_ | with_reducible refine below_al ?_))).g0 (W3.out.later (by repeat (first | with_reducible assumption | with_reducible refine Below.drew ?_ | with_reducible refine below_al ?_))).g1).mono ?_); rintro e w4 ⟨A4, ka4, R4, ra4, S4, sa4, X4, kx4, rfl, ha, hs0, hs1, hb, hP⟩; have hBw4 : Below x3.heap.size x3 w4 := below_step hb (by repeat (first | with_reducible assumption | with_reducible refine Below.drew ?_ | with_reducible refine below_al ?_)); have hz4 := hBw4.size; have HQ := Lib.hid (doCut_fact (by repeat (first | with_reducible assumption | with_reducible refine Below.drew ?_ | with_reducible refine below_al ?_)) hb ha hs0 hs1 hP W3.out.2.1 W3.out.2.2.1 W3.out.2.2.2); (try (have VBe : VarAt w4 x3.heap.size [.int .i64 0, .int .i64 0, .slice none 0 0, .int .u64 0, .slice none 0 0, .slice none 0 0] := VarAt.onto hb ((VarAt.made x3 #[.int .i64 0, .int .i64 0, .slice none 0 0, .int .u64 0, .slice none 0 0, .slice none 0 0] 33).below (al_below _ (.cells #[.int .u64 0, .slice none 0 0, .bool false] 60))) rfl; obtain ⟨_, ⟨ve0, ve1, ve2, ve3, ve4, ve5⟩, we0, we1, we2, we3, we4, we5⟩ := VBe.six)); (try (have VBc : VarAt w4 (x3.heap.size + 1) [.int .u64 0, .slice none 0 0, .bool false] := VarAt.onto hb (VarAt.made1 x3 (.cells #[.int .i64 0, .int .i64 0, .slice none 0 0, .int .u64 0, .slice none 0 0, .slice none 0 0] 33) #[.int .u64 0, .slice none 0 0, .bool false] 60) rfl; obtain ⟨_, vc0, vc1, vc2, wc0, wc1, wc2⟩ := VBc.three)); clear ha hs0 hs1 hb hP
                refine hK.out _ _ ?_ (fun hHeld => ?_)
                · assumption
                clear hK K
                try simp only [List.getElem_toArray, List.getElem_cons_succ, List.getElem_cons_zero, Act.put, List.setIfInBounds_toArray, List.set_cons_zero, List.set_cons_succ]
                refine wpAnyH_take (i := 14) (oi := _) (v := ?_) rfl (by kernel_rfl) (by kernel_rfl) (by kernel_rfl) (fun _ _ _ h => h) (Or.inl ⟨by rfl, ?_⟩) (by assumption) ?_
                rotate_left
                · intro w hSw
                  (try dsimp only at hSw)
                  go_simp
                  with_reducible rfl
                try simp only [List.getElem_toArray, List.getElem_cons_succ, List.getElem_cons_zero, Act.put, List.setIfInBounds_toArray, List.set_cons_zero, List.set_cons_succ]
                refine wpAnyH_take (i := 15) (oi := _) (v := ?_) rfl (by kernel_rfl) (by kernel_rfl) (by kernel_rfl) (fun _ _ _ h => h) (Or.inl ⟨by rfl, ?_⟩) (by assumption) ?_
                rotate_left
                · intro w hSw
                  (try dsimp only at hSw)
                  go_simp
                  with_reducible rfl
                try simp only [List.getElem_toArray, List.getElem_cons_succ, List.getElem_cons_zero, Act.put, List.setIfInBounds_toArray, List.set_cons_zero, List.set_cons_succ]
                refine wpAnyH_take (i := 16) (oi := _) (v := ?_) rfl (by kernel_rfl) (by kernel_rfl) (by kernel_rfl) (fun _ _ _ h => h) (Or.inl ⟨by rfl, ?_⟩) (by assumption) ?_
                rotate_left
                · intro w hSw
                  (try dsimp only at hSw)
                  go_simp
                  with_reducible rfl
                try simp only [List.getElem_toArray, List.getElem_cons_succ, List.getElem_cons_zero, Act.put, List.setIfInBounds_toArray, List.set_cons_zero, List.set_cons_succ]
                refine wpAnyH_ready (rs := [19]) (by kernel_rfl) (by simp) ?_
                refine AllReadyH.cons rfl (fun K hK => ?_) AllReadyH.nil
                go_simp
                refine hK.out _ _ ?_ (fun hHeld => ?_)
                · repeat (first | with_reducible assumption | with_reducible refine Below.drew ?_ | with_reducible refine below_al ?_ | (with_reducible refine below_set1 (by omega) _ ?_))
                clear hK K
                try simp only [List.getElem_toArray, List.getElem_cons_succ, List.getElem_cons_zero, Act.put, List.setIfInBounds_toArray, List.set_cons_zero, List.set_cons_succ]
                refine wpAnyH_ready (rs := [20]) (by kernel_rfl) (by simp) ?_
                refine AllReadyH.cons rfl (fun K hK => ?_) AllReadyH.nil
                go_simp
                refine hK.out _ _ ?_ (fun hHeld => ?_)
                · repeat (first | with_reducible assumption | with_reducible refine Below.drew ?_ | with_reducible refine below_al ?_ | (with_reducible refine below_set1 (by omega) _ ?_))
                clear hK K
                try simp only [List.getElem_toArray, List.getElem_cons_succ, List.getElem_cons_zero, Act.put, List.setIfInBounds_toArray, List.set_cons_zero, List.set_cons_succ]
                refine wpAnyH_done (by kernel_rfl) ?_ _
                refine NoPanic.normal ?_
                go_wp2_with fail
                go_meet
                obtain ⟨N2, hN2, hq⟩ := HQ.out
                simp at hN2
                exact DoCut.of (ka := ka4) (ra := ra4) (sa := sa4) (X := X4) (kx := kx4) hq (by repeat (first | with_reducible exact Keep.refl _ _ | with_reducible refine Keep.drew ?_ | with_reducible refine Keep.alloc ?_ _ | (with_reducible refine Keep.set ?_ _ _ _ (by omega)))) (by omega) (by omega) (VarAt.of6 (by first | (simp; done) | (simp; omega) | omega) (by go_simp) (by go_simp) (by go_simp) (by go_simp) (by go_simp) (by go_simp) (by go_simp) (by go_simp) (by go_simp) (by go_simp) (by go_simp) (by go_simp)) (VarAt.mk3 (by first | (simp; done) | (simp; omega) | omega) (by go_simp) (by go_simp) (by go_simp) (by go_simp) (by go_simp) (by go_simp)) (by repeat (first | with_reducible assumption | with_reducible refine Below.drew ?_ | with_reducible refine below_al ?_ | (with_reducible refine below_set1 (by omega) _ ?_)))
              exact AllReadyH.nil
            exact AllReadyH.nil
          refine AllReadyH.cons rfl (fun K hK => ?_) ?_
          · go_simp
            refine hK.out _ _ ?_ (fun hHeld => ?_)
            · repeat (first | with_reducible assumption | with_reducible refine Below.drew ?_ | with_reducible refine below_al ?_)
            clear hK K
            try simp only [List.getElem_toArray, List.getElem_cons_succ, List.getElem_cons_zero, Act.put, List.setIfInBounds_toArray, List.set_cons_zero, List.set_cons_succ]
            refine wpAnyH_ready (rs := [13, 17]) (by kernel_rfl) (by simp) ?_
            refine AllReadyH.cons rfl (fun K hK => ?_) ?_
            · go_simp
              go_at_call 15; (with_reducible refine (HDj D3 dc3 E3 ec3 _ (HAP.out.later (by repeat (first | with_reducible assumption | with_reducible refine Below.drew ?_ | with_reducible refine below_al ?_))) (W3.out.later (by repeat (first | with_reducible assumption | with_reducible refine Below.drew ?_ | with_reducible refine below_al ?_))).gA (W3.out.later (by repeat (first | with_reducible assumption | with_reducible refine Below.drew ?_ | with_reducible refine below_al ?_))).g0 (W3.out.later (by repeat (first | with_reducible assumption | with_reducible refine Below.drew ?_ | with_reducible refine below_al ?_))).g1).mono ?_); rintro e w4 ⟨A4, ka4, R4, ra4, S4, sa4, X4, kx4, rfl, ha, hs0, hs1, hb, hP⟩; have hBw4 : Below x3.heap.size x3 w4 := below_step hb (by repeat (first | with_reducible assumption | with_reducible refine Below.drew ?_ | with_reducible refine below_al ?_)); have hz4 := hBw4.size; have HQ := Lib.hid (doCut_fact (by repeat (first | with_reducible assumption | with_reducible refine Below.drew ?_ | with_reducible refine below_al ?_)) hb ha hs0 hs1 hP W3.out.2.1 W3.out.2.2.1 W3.out.2.2.2); (try (have VBb : VarAt w4 x3.heap.size [.int .u64 0, .slice none 0 0, .bool false] := VarAt.onto hb (VarAt.made x3 #[.int .u64 0, .slice none 0 0, .bool false] 60) rfl; obtain ⟨_, vb0, vb1, vb2, wb0, wb1, wb2⟩ := VBb.three)); clear ha hs0 hs1 hb hP
              refine hK.out _ _ ?_ (fun hHeld => ?_)
              · assumption
              clear hK K
              try simp only [List.getElem_toArray, List.getElem_cons_succ, List.getElem_cons_zero, Act.put, List.setIfInBounds_toArray, List.set_cons_zero, List.set_cons_succ]
              refine wpAnyH_take (i := 14) (oi := _) (v := ?_) rfl (by kernel_rfl) (by kernel_rfl) (by kernel_rfl) (fun _ _ _ h => h) (Or.inl ⟨by rfl, ?_⟩) (by assumption) ?_
              rotate_left
              · intro w hSw
                (try dsimp only at hSw)
                go_simp
                with_reducible rfl
              try simp only [List.getElem_toArray, List.getElem_cons_succ, List.getElem_cons_zero, Act.put, List.setIfInBounds_toArray, List.set_cons_zero, List.set_cons_succ]
              refine wpAnyH_take (i := 15) (oi := _) (v := ?_) rfl (by kernel_rfl) (by kernel_rfl) (by kernel_rfl) (fun _ _ _ h => h) (Or.inl ⟨by rfl, ?_⟩) (by assumption) ?_
              rotate_left
              · intro w hSw
                (try dsimp only at hSw)
                go_simp
                with_reducible rfl
              try simp only [List.getElem_toArray, List.getElem_cons_succ, List.getElem_cons_zero, Act.put, List.setIfInBounds_toArray, List.set_cons_zero, List.set_cons_succ]
              refine wpAnyH_take (i := 16) (oi := _) (v := ?_) rfl (by kernel_rfl) (by kernel_rfl) (by kernel_rfl) (fun _ _ _ h => h) (Or.inl ⟨by rfl, ?_⟩) (by assumption) ?_
              rotate_left
              · intro w hSw
                (try dsimp only at hSw)
                go_simp
                with_reducible rfl
              try simp only [List.getElem_toArray, List.getElem_cons_succ, List.getElem_cons_zero, Act.put, List.setIfInBounds_toArray, List.set_cons_zero, List.set_cons_succ]
              refine wpAnyH_ready (rs := [17]) (by kernel_rfl) (by simp) ?_
              refine AllReadyH.cons rfl (fun K hK => ?_) ?_
              · go_simp
                refine hK.out _ _ ?_ (fun hHeld => ?_)
                · repeat (first | with_reducible assumption | with_reducible refine Below.drew ?_ | with_reducible refine below_al ?_)
                clear hK K
                try simp only [List.getElem_toArray, List.getElem_cons_succ, List.getElem_cons_zero, Act.put, List.setIfInBounds_toArray, List.set_cons_zero, List.set_cons_succ]
                refine wpAnyH_ready (rs := [19]) (by kernel_rfl) (by simp) ?_
                refine AllReadyH.cons rfl (fun K hK => ?_) AllReadyH.nil
                go_simp
                refine hK.out _ _ ?_ (fun hHeld => ?_)
                · repeat (first | with_reducible assumption | with_reducible refine Below.drew ?_ | with_reducible refine below_al ?_ | (with_reducible refine below_set1 (by omega) _ ?_))
                clear hK K
                try simp only [List.getElem_toArray, List.getElem_cons_succ, List.getElem_cons_zero, Act.put, List.setIfInBounds_toArray, List.set_cons_zero, List.set_cons_succ]
                refine wpAnyH_ready (rs := [20]) (by kernel_rfl) (by simp) ?_
                refine AllReadyH.cons rfl (fun K hK => ?_) AllReadyH.nil
                go_simp
                refine hK.out _ _ ?_ (fun hHeld => ?_)
                · repeat (first | with_reducible assumption | with_reducible refine Below.drew ?_ | with_reducible refine below_al ?_ | (with_reducible refine below_set1 (by omega) _ ?_))
                clear hK K
                try simp only [List.getElem_toArray, List.getElem_cons_succ, List.getElem_cons_zero, Act.put, List.setIfInBounds_toArray, List.set_cons_zero, List.set_cons_succ]
                refine wpAnyH_done (by kernel_rfl) ?_ _
                refine NoPanic.normal ?_
                go_wp2_with fail
                go_meet
                obtain ⟨N2, hN2, hq⟩ := HQ.out
                simp at hN2
                exact DoCut.of (ka := ka4) (ra := ra4) (sa := sa4) (X := X4) (kx := kx4) hq (by repeat (first | with_reducible exact Keep.refl _ _ | with_reducible refine Keep.drew ?_ | with_reducible refine Keep.alloc ?_ _ | (with_reducible refine Keep.set ?_ _ _ _ (by omega)))) (by omega) (by omega) (VarAt.of6 (by first | (simp; done) | (simp; omega) | omega) (by go_simp) (by go_simp) (by go_simp) (by go_simp) (by go_simp) (by go_simp) (by go_simp) (by go_simp) (by go_simp) (by go_simp) (by go_simp) (by go_simp)) (VarAt.mk3 (by first | (simp; done) | (simp; omega) | omega) (by go_simp) (by go_simp) (by go_simp) (by go_simp) (by go_simp) (by go_simp)) (by repeat (first | with_reducible assumption | with_reducible refine Below.drew ?_ | with_reducible refine below_al ?_ | (with_reducible refine below_set1 (by omega) _ ?_)))
              exact AllReadyH.nil
            refine AllReadyH.cons rfl (fun K hK => ?_) ?_
            · go_simp
              refine hK.out _ _ ?_ (fun hHeld => ?_)
              · repeat (first | with_reducible assumption | with_reducible refine Below.drew ?_ | with_reducible refine below_al ?_)
              clear hK K
              try simp only [List.getElem_toArray, List.getElem_cons_succ, List.getElem_cons_zero, Act.put, List.setIfInBounds_toArray, List.set_cons_zero, List.set_cons_succ]
              refine wpAnyH_ready (rs := [13]) (by kernel_rfl) (by simp) ?_
              refine AllReadyH.cons rfl (fun K hK => ?_) ?_
              · go_simp
                go_at_call 15; (with_reducible refine (HDj D3 dc3 E3 ec3 _ (HAP.out.later (by repeat (first | with_reducible assumption | with_reducible refine Below.drew ?_ | with_reducible refine below_al ?_))) (W3.out.later (by repeat (first | with_reducible assumption | with_reducible refine Below.drew ?_ | with_reducible refine below_al ?_))).gA (W3.out.later (by repeat (first | with_reducible assumption | with_reducible refine Below.drew ?_ | with_reducible refine below_al ?_))).g0 (W3.out.later (by repeat (first | with_reducible assumption | with_reducible refine Below.drew ?_ | with_reducible refine below_al ?_))).g1).mono ?_); rintro e w4 ⟨A4, ka4, R4, ra4, S4, sa4, X4, kx4, rfl, ha, hs0, hs1, hb, hP⟩; have hBw4 : Below x3.heap.size x3 w4 := below_step hb (by repeat (first | with_reducible assumption | with_reducible refine Below.drew ?_ | with_reducible refine below_al ?_)); have hz4 := hBw4.size; have HQ := Lib.hid (doCut_fact (by repeat (first | with_reducible assumption | with_reducible refine Below.drew ?_ | with_reducible refine below_al ?_)) hb ha hs0 hs1 hP W3.out.2.1 W3.out.2.2.1 W3.out.2.2.2); (try (have VBf : VarAt w4 x3.heap.size [.int .u64 0, .slice none 0 0, .bool false] := VarAt.onto hb ((VarAt.made x3 #[.int .u64 0, .slice none 0 0, .bool false] 60).below (al_below _ (.cells #[.int .i64 0, .int .i64 0, .slice none 0 0, .int .u64 0, .slice none 0 0, .slice none 0 0] 33))) rfl; obtain ⟨_, vf0, vf1, vf2, wf0, wf1, wf2⟩ := VBf.three)); (try (have VBd : VarAt w4 (x3.heap.size + 1) [.int .i64 0, .int .i64 0, .slice none 0 0, .int .u64 0, .slice none 0 0, .slice none 0 0] := VarAt.onto hb (VarAt.made1 x3 (.cells #[.int .u64 0, .slice none 0 0, .bool false] 60) #[.int .i64 0, .int .i64 0, .slice none 0 0, .int .u64 0, .slice none 0 0, .slice none 0 0] 33) rfl; obtain ⟨_, ⟨vd0, vd1, vd2, vd3, vd4, vd5⟩, wd0, wd1, wd2, wd3, wd4, wd5⟩ := VBd.six)); clear ha hs0 hs1 hb hP
                refine hK.out _ _ ?_ (fun hHeld => ?_)
                · assumption
                clear hK K
                try simp only [List.getElem_toArray, List.getElem_cons_succ, List.getElem_cons_zero, Act.put, List.setIfInBounds_toArray, List.set_cons_zero, List.set_cons_succ]
                refine wpAnyH_take (i := 14) (oi := _) (v := ?_) rfl (by kernel_rfl) (by kernel_rfl) (by kernel_rfl) (fun _ _ _ h => h) (Or.inl ⟨by rfl, ?_⟩) (by assumption) ?_
                rotate_left
                · intro w hSw
                  (try dsimp only at hSw)
                  go_simp
                  with_reducible rfl
                try simp only [List.getElem_toArray, List.getElem_cons_succ, List.getElem_cons_zero, Act.put, List.setIfInBounds_toArray, List.set_cons_zero, List.set_cons_succ]
                refine wpAnyH_take (i := 15) (oi := _) (v := ?_) rfl (by kernel_rfl) (by kernel_rfl) (by kernel_rfl) (fun _ _ _ h => h) (Or.inl ⟨by rfl, ?_⟩) (by assumption) ?_
                rotate_left
                · intro w hSw
                  (try dsimp only at hSw)
                  go_simp
                  with_reducible rfl
                try simp only [List.getElem_toArray, List.getElem_cons_succ, List.getElem_cons_zero, Act.put, List.setIfInBounds_toArray, List.set_cons_zero, List.set_cons_succ]
                refine wpAnyH_take (i := 16) (oi := _) (v := ?_) rfl (by kernel_rfl) (by kernel_rfl) (by kernel_rfl) (fun _ _ _ h => h) (Or.inl ⟨by rfl, ?_⟩) (by assumption) ?_
                rotate_left
                · intro w hSw
                  (try dsimp only at hSw)
                  go_simp
                  with_reducible rfl
                try simp only [List.getElem_toArray, List.getElem_cons_succ, List.getElem_cons_zero, Act.put, List.setIfInBounds_toArray, List.set_cons_zero, List.set_cons_succ]
                refine wpAnyH_ready (rs := [19]) (by kernel_rfl) (by simp) ?_
                refine AllReadyH.cons rfl (fun K hK => ?_) AllReadyH.nil
                go_simp
                refine hK.out _ _ ?_ (fun hHeld => ?_)
                · repeat (first | with_reducible assumption | with_reducible refine Below.drew ?_ | with_reducible refine below_al ?_ | (with_reducible refine below_set1 (by omega) _ ?_))
                clear hK K
                try simp only [List.getElem_toArray, List.getElem_cons_succ, List.getElem_cons_zero, Act.put, List.setIfInBounds_toArray, List.set_cons_zero, List.set_cons_succ]
                refine wpAnyH_ready (rs := [20]) (by kernel_rfl) (by simp) ?_
                refine AllReadyH.cons rfl (fun K hK => ?_) AllReadyH.nil
                go_simp
                refine hK.out _ _ ?_ (fun hHeld => ?_)
                · repeat (first | with_reducible assumption | with_reducible refine Below.drew ?_ | with_reducible refine below_al ?_ | (with_reducible refine below_set1 (by omega) _ ?_))
                clear hK K
                try simp only [List.getElem_toArray, List.getElem_cons_succ, List.getElem_cons_zero, Act.put, List.setIfInBounds_toArray, List.set_cons_zero, List.set_cons_succ]
                refine wpAnyH_done (by kernel_rfl) ?_ _
                refine NoPanic.normal ?_
                go_wp2_with fail
                go_meet
                obtain ⟨N2, hN2, hq⟩ := HQ.out
                simp at hN2
                exact DoCut.of (ka := ka4) (ra := ra4) (sa := sa4) (X := X4) (kx := kx4) hq (by repeat (first | with_reducible exact Keep.refl _ _ | with_reducible refine Keep.drew ?_ | with_reducible refine Keep.alloc ?_ _ | (with_reducible refine Keep.set ?_ _ _ _ (by omega)))) (by omega) (by omega) (VarAt.of6 (by first | (simp; done) | (simp; omega) | omega) (by go_simp) (by go_simp) (by go_simp) (by go_simp) (by go_simp) (by go_simp) (by go_simp) (by go_simp) (by go_simp) (by go_simp) (by go_simp) (by go_simp)) (VarAt.mk3 (by first | (simp; done) | (simp; omega) | omega) (by go_simp) (by go_simp) (by go_simp) (by go_simp) (by go_simp) (by go_simp)) (by repeat (first | with_reducible assumption | with_reducible refine Below.drew ?_ | with_reducible refine below_al ?_ | (with_reducible refine below_set1 (by omega) _ ?_)))
              exact AllReadyH.nil
            exact AllReadyH.nil
          exact AllReadyH.nil
        · have d3 : decide ((j : Int) < (fn : Int)) = false := by rw [decide_eq_false_iff_not]; omega
          have d3' : decide (j < fn) = false := by rw [decide_eq_false_iff_not]; omega
          have hfe : fa = false := by rw [← HFB.out, d3']; rfl
          subst hfe
          refine wp_region_noPanic ?_
          refine wp_region_held_drew (S := fun w' => Below x3.heap.size x3 w') (by kernel_rfl) (Below.drew (Below.refl _ _)) (fun hHeld => ?_)
          refine wpAnyH_take (i := 0) (oi := _) (v := ?_) rfl (by kernel_rfl) (by kernel_rfl) (by kernel_rfl) (fun _ _ _ h => h) (Or.inl ⟨by rfl, ?_⟩) (by assumption) ?_
          rotate_left
          · intro w hSw
            (try dsimp only at hSw)
            go_simp
            with_reducible rfl
          try simp only [List.getElem_toArray, List.getElem_cons_zero, Act.put, List.setIfInBounds_toArray, List.set_cons_zero, List.set_cons_succ]
          refine wpAnyH_take (i := 1) (oi := _) (v := ?_) rfl (by kernel_rfl) (by kernel_rfl) (by kernel_rfl) (fun _ _ _ h => h) (Or.inl ⟨by rfl, ?_⟩) (by assumption) ?_
          rotate_left
          · intro w hSw
            (try dsimp only at hSw)
            go_simp
            with_reducible rfl
          try simp only [List.getElem_toArray, List.getElem_cons_succ, List.getElem_cons_zero, Act.put, List.setIfInBounds_toArray, List.set_cons_zero, List.set_cons_succ]
          refine wpAnyH_take (i := 2) (oi := _) (v := ?_) rfl (by kernel_rfl) (by kernel_rfl) (by kernel_rfl) (fun _ _ _ h => h) (Or.inl ⟨by rfl, ?_⟩) (by assumption) ?_
          rotate_left
          · intro w hSw
            (try dsimp only at hSw)
            go_simp
            with_reducible rfl
          try simp only [List.getElem_toArray, List.getElem_cons_succ, List.getElem_cons_zero, Act.put, List.setIfInBounds_toArray, List.set_cons_zero, List.set_cons_succ]
          refine wpAnyH_take (i := 3) (oi := _) (v := ?_) rfl (by kernel_rfl) (by kernel_rfl) (by kernel_rfl) (fun _ _ _ h => h) (Or.inl ⟨by rfl, ?_⟩) (by assumption) ?_
          rotate_left
          · intro w hSw
            (try dsimp only at hSw)
            go_simp
            with_reducible rfl
          try simp only [List.getElem_toArray, List.getElem_cons_succ, List.getElem_cons_zero, Act.put, List.setIfInBounds_toArray, List.set_cons_zero, List.set_cons_succ]
          refine wpAnyH_take (i := 4) (oi := _) (v := ?_) rfl (by kernel_rfl) (by kernel_rfl) (by kernel_rfl) (fun _ _ _ h => h) (Or.inl ⟨by rfl, ?_⟩) (by assumption) ?_
          rotate_left
          · intro w hSw
            (try dsimp only at hSw)
            go_simp
            with_reducible rfl
          try simp only [List.getElem_toArray, List.getElem_cons_succ, List.getElem_cons_zero, Act.put, List.setIfInBounds_toArray, List.set_cons_zero, List.set_cons_succ]
          refine wpAnyH_take (i := 5) (oi := _) (v := ?_) rfl (by kernel_rfl) (by kernel_rfl) (by kernel_rfl) (fun _ _ _ h => h) (Or.inl ⟨by rfl, ?_⟩) (by assumption) ?_
          rotate_left
          · intro w hSw
            (try dsimp only at hSw)
            go_simp
            with_reducible rfl
          try simp only [List.getElem_toArray, List.getElem_cons_succ, List.getElem_cons_zero, Act.put, List.setIfInBounds_toArray, List.set_cons_zero, List.set_cons_succ]
          refine wpAnyH_take (i := 6) (oi := _) (v := ?_) rfl (by kernel_rfl) (by kernel_rfl) (by kernel_rfl) (fun _ _ _ h => h) (Or.inl ⟨by rfl, ?_⟩) (by assumption) ?_
          rotate_left
          · intro w hSw
            (try dsimp only at hSw)
            go_simp
            with_reducible rfl
          try simp only [List.getElem_toArray, List.getElem_cons_succ, List.getElem_cons_zero, Act.put, List.setIfInBounds_toArray, List.set_cons_zero, List.set_cons_succ]
          refine wpAnyH_take (i := 7) (oi := _) (v := ?_) rfl (by kernel_rfl) (by kernel_rfl) (by kernel_rfl) (fun _ _ _ h => h) (Or.inl ⟨by rfl, ?_⟩) (by assumption) ?_
          rotate_left
          · intro w hSw
            (try dsimp only at hSw)
            go_simp
            with_reducible rfl
          try simp only [List.getElem_toArray, List.getElem_cons_succ, List.getElem_cons_zero, Act.put, List.setIfInBounds_toArray, List.set_cons_zero, List.set_cons_succ]
          refine wpAnyH_take (i := 8) (oi := _) (v := undef) rfl (by kernel_rfl) (by kernel_rfl) (by kernel_rfl) (fun _ _ _ h => h) (Or.inr ⟨by rfl, rfl⟩) (by assumption) ?_
          try simp only [List.getElem_toArray, List.getElem_cons_succ, List.getElem_cons_zero, Act.put, List.setIfInBounds_toArray, List.set_cons_zero, List.set_cons_succ]
          refine wpAnyH_take (i := 9) (oi := _) (v := undef) rfl (by kernel_rfl) (by kernel_rfl) (by kernel_rfl) (fun _ _ _ h => h) (Or.inr ⟨by rfl, rfl⟩) (by assumption) ?_
          try simp only [List.getElem_toArray, List.getElem_cons_succ, List.getElem_cons_zero, Act.put, List.setIfInBounds_toArray, List.set_cons_zero, List.set_cons_succ]
          refine wpAnyH_take (i := 10) (oi := _) (v := undef) rfl (by kernel_rfl) (by kernel_rfl) (by kernel_rfl) (fun _ _ _ h => h) (Or.inr ⟨by rfl, rfl⟩) (by assumption) ?_
          try simp only [List.getElem_toArray, List.getElem_cons_succ, List.getElem_cons_zero, Act.put, List.setIfInBounds_toArray, List.set_cons_zero, List.set_cons_succ]
          refine wpAnyH_take (i := 11) (oi := _) (v := undef) rfl (by kernel_rfl) (by kernel_rfl) (by kernel_rfl) (fun _ _ _ h => h) (Or.inr ⟨by rfl, rfl⟩) (by assumption) ?_
          try simp only [List.getElem_toArray, List.getElem_cons_succ, List.getElem_cons_zero, Act.put, List.setIfInBounds_toArray, List.set_cons_zero, List.set_cons_succ]
          refine wpAnyH_take (i := 12) (oi := _) (v := ?_) rfl (by kernel_rfl) (by kernel_rfl) (by kernel_rfl) (fun _ _ _ h => h) (Or.inl ⟨by rfl, ?_⟩) (by assumption) ?_
          rotate_left
          · intro w hSw
            (try dsimp only at hSw)
            go_simp
            with_reducible rfl
          try simp only [List.getElem_toArray, List.getElem_cons_succ, List.getElem_cons_zero, Act.put, List.setIfInBounds_toArray, List.set_cons_zero, List.set_cons_succ]
          refine wpAnyH_ready (rs := [13, 17, 18]) (by kernel_rfl) (by simp) ?_
          refine AllReadyH.cons rfl (fun K hK => ?_) ?_
          · go_simp
            go_at_call 15; (with_reducible refine (HDj D3 dc3 E3 ec3 _ (HAP.out.later (by repeat (first | with_reducible assumption | with_reducible refine Below.drew ?_ | with_reducible refine below_al ?_))) (W3.out.later (by repeat (first | with_reducible assumption | with_reducible refine Below.drew ?_ | with_reducible refine below_al ?_))).gA (W3.out.later (by repeat (first | with_reducible assumption | with_reducible refine Below.drew ?_ | with_reducible refine below_al ?_))).g0 (W3.out.later (by repeat (first | with_reducible assumption | with_reducible refine Below.drew ?_ | with_reducible refine below_al ?_))).g1).mono ?_); rintro e w4 ⟨A4, ka4, R4, ra4, S4, sa4, X4, kx4, rfl, ha, hs0, hs1, hb, hP⟩; have hBw4 : Below x3.heap.size x3 w4 := below_step hb (by repeat (first | with_reducible assumption | with_reducible refine Below.drew ?_ | with_reducible refine below_al ?_)); have hz4 := hBw4.size; have HQ := Lib.hid (doCut_fact (by repeat (first | with_reducible assumption | with_reducible refine Below.drew ?_ | with_reducible refine below_al ?_)) hb ha hs0 hs1 hP W3.out.2.1 W3.out.2.2.1 W3.out.2.2.2); clear ha hs0 hs1 hb hP
            refine hK.out _ _ ?_ (fun hHeld => ?_)
            · assumption
            clear hK K
            try simp only [List.getElem_toArray, List.getElem_cons_succ, List.getElem_cons_zero, Act.put, List.setIfInBounds_toArray, List.set_cons_zero, List.set_cons_succ]
            refine wpAnyH_take (i := 14) (oi := _) (v := ?_) rfl (by kernel_rfl) (by kernel_rfl) (by kernel_rfl) (fun _ _ _ h => h) (Or.inl ⟨by rfl, ?_⟩) (by assumption) ?_
            rotate_left
            · intro w hSw
              (try dsimp only at hSw)
              go_simp
              with_reducible rfl
            try simp only [List.getElem_toArray, List.getElem_cons_succ, List.getElem_cons_zero, Act.put, List.setIfInBounds_toArray, List.set_cons_zero, List.set_cons_succ]
            refine wpAnyH_take (i := 15) (oi := _) (v := ?_) rfl (by kernel_rfl) (by kernel_rfl) (by kernel_rfl) (fun _ _ _ h => h) (Or.inl ⟨by rfl, ?_⟩) (by assumption) ?_
            rotate_left
            · intro w hSw
              (try dsimp only at hSw)
              go_simp
              with_reducible rfl
            try simp only [List.getElem_toArray, List.getElem_cons_succ, List.getElem_cons_zero, Act.put, List.setIfInBounds_toArray, List.set_cons_zero, List.set_cons_succ]
            refine wpAnyH_take (i := 16) (oi := _) (v := ?_) rfl (by kernel_rfl) (by kernel_rfl) (by kernel_rfl) (fun _ _ _ h => h) (Or.inl ⟨by rfl, ?_⟩) (by assumption) ?_
            rotate_left
            · intro w hSw
              (try dsimp only at hSw)
              go_simp
              with_reducible rfl
            try simp only [List.getElem_toArray, List.getElem_cons_succ, List.getElem_cons_zero, Act.put, List.setIfInBounds_toArray, List.set_cons_zero, List.set_cons_succ]
            refine wpAnyH_ready (rs := [17, 18]) (by kernel_rfl) (by simp) ?_
            refine AllReadyH.cons rfl (fun K hK => ?_) ?_
            · go_simp
              refine hK.out _ _ ?_ (fun hHeld => ?_)
              · repeat (first | with_reducible assumption | with_reducible refine Below.drew ?_ | with_reducible refine below_al ?_)
              clear hK K
              try simp only [List.getElem_toArray, List.getElem_cons_succ, List.getElem_cons_zero, Act.put, List.setIfInBounds_toArray, List.set_cons_zero, List.set_cons_succ]
              refine wpAnyH_ready (rs := [18]) (by kernel_rfl) (by simp) ?_
              refine AllReadyH.cons rfl (fun K hK => ?_) ?_
              · go_simp
                refine hK.out _ _ ?_ (fun hHeld => ?_)
                · repeat (first | with_reducible assumption | with_reducible refine Below.drew ?_ | with_reducible refine below_al ?_)
                clear hK K
                try simp only [List.getElem_toArray, List.getElem_cons_succ, List.getElem_cons_zero, Act.put, List.setIfInBounds_toArray, List.set_cons_zero, List.set_cons_succ]
                refine wpAnyH_ready (rs := [19]) (by kernel_rfl) (by simp) ?_
                refine AllReadyH.cons rfl (fun K hK => ?_) AllReadyH.nil
                go_simp
                refine hK.out _ _ ?_ (fun hHeld => ?_)
                · repeat (first | with_reducible assumption | with_reducible refine Below.drew ?_ | with_reducible refine below_al ?_ | (with_reducible refine below_set1 (by omega) _ ?_))
                clear hK K
                try simp only [List.getElem_toArray, List.getElem_cons_succ, List.getElem_cons_zero, Act.put, List.setIfInBounds_toArray, List.set_cons_zero, List.set_cons_succ]
                refine wpAnyH_ready (rs := [20]) (by kernel_rfl) (by simp) ?_
                refine AllReadyH.cons rfl (fun K hK => ?_) AllReadyH.nil
                go_simp
                refine hK.out _ _ ?_ (fun hHeld => ?_)
                · repeat (first | with_reducible assumption | with_reducible refine Below.drew ?_ | with_reducible refine below_al ?_ | (with_reducible refine below_set1 (by omega) _ ?_))
                clear hK K
                try simp only [List.getElem_toArray, List.getElem_cons_succ, List.getElem_cons_zero, Act.put, List.setIfInBounds_toArray, List.set_cons_zero, List.set_cons_succ]
                refine wpAnyH_done (by kernel_rfl) ?_ _
                refine NoPanic.normal ?_
                go_wp2_with fail
                go_meet
                obtain ⟨N2, hN2, hq⟩ := HQ.out
                simp at hN2
                exact DoCut.of (ka := ka4) (ra := ra4) (sa := sa4) (X := X4) (kx := kx4) hq (by repeat (first | with_reducible exact Keep.refl _ _ | with_reducible refine Keep.drew ?_ | with_reducible refine Keep.alloc ?_ _ | (with_reducible refine Keep.set ?_ _ _ _ (by omega)))) (by omega) (by omega) (VarAt.of6 (by first | (simp; done) | (simp; omega) | omega) (by go_simp) (by go_simp) (by go_simp) (by go_simp) (by go_simp) (by go_simp) (by go_simp) (by go_simp) (by go_simp) (by go_simp) (by go_simp) (by go_simp)) (VarAt.mk3 (by first | (simp; done) | (simp; omega) | omega) (by go_simp) (by go_simp) (by go_simp) (by go_simp) (by go_simp) (by go_simp)) (by repeat (first | with_reducible assumption | with_reducible refine Below.drew ?_ | with_reducible refine below_al ?_ | (with_reducible refine below_set1 (by omega) _ ?_)))
              exact AllReadyH.nil
            refine AllReadyH.cons rfl (fun K hK => ?_) ?_
            · go_simp
              refine hK.out _ _ ?_ (fun hHeld => ?_)
              · repeat (first | with_reducible assumption | with_reducible refine Below.drew ?_ | with_reducible refine below_al ?_)
              clear hK K
              try simp only [List.getElem_toArray, List.getElem_cons_succ, List.getElem_cons_zero, Act.put, List.setIfInBounds_toArray, List.set_cons_zero, List.set_cons_succ]
              refine wpAnyH_ready (rs := [17]) (by kernel_rfl) (by simp) ?_
              refine AllReadyH.cons rfl (fun K hK => ?_) ?_
              · go_simp
                refine hK.out _ _ ?_ (fun hHeld => ?_)
                · repeat (first | with_reducible assumption | with_reducible refine Below.drew ?_ | with_reducible refine below_al ?_)
                clear hK K
                try simp only [List.getElem_toArray, List.getElem_cons_succ, List.getElem_cons_zero, Act.put, List.setIfInBounds_toArray, List.set_cons_zero, List.set_cons_succ]
                refine wpAnyH_ready (rs := [19]) (by kernel_rfl) (by simp) ?_
                refine AllReadyH.cons rfl (fun K hK => ?_) AllReadyH.nil
                go_simp
                refine hK.out _ _ ?_ (fun hHeld => ?_)
                · repeat (first | with_reducible assumption | with_reducible refine Below.drew ?_ | with_reducible refine below_al ?_ | (with_reducible refine below_set1 (by omega) _ ?_))
                clear hK K
                try simp only [List.getElem_toArray, List.getElem_cons_succ, List.getElem_cons_zero, Act.put, List.setIfInBounds_toArray, List.set_cons_zero, List.set_cons_succ]
                refine wpAnyH_ready (rs := [20]) (by kernel_rfl) (by simp) ?_
                refine AllReadyH.cons rfl (fun K hK => ?_) AllReadyH.nil
                go_simp
                refine hK.out _ _ ?_ (fun hHeld => ?_)
                · repeat (first | with_reducible assumption | with_reducible refine Below.drew ?_ | with_reducible refine below_al ?_ | (with_reducible refine below_set1 (by omega) _ ?_))
                clear hK K
                try simp only [List.getElem_toArray, List.getElem_cons_succ, List.getElem_cons_zero, Act.put, List.setIfInBounds_toArray, List.set_cons_zero, List.set_cons_succ]
                refine wpAnyH_done (by kernel_rfl) ?_ _
                refine NoPanic.normal ?_
                go_wp2_with fail
                go_meet
                obtain ⟨N2, hN2, hq⟩ := HQ.out
                simp at hN2
                exact DoCut.of (ka := ka4) (ra := ra4) (sa := sa4) (X := X4) (kx := kx4) hq (by repeat (first | with_reducible exact Keep.refl _ _ | with_reducible refine Keep.drew ?_ | with_reducible refine Keep.alloc ?_ _ | (with_reducible refine Keep.set ?_ _ _ _ (by omega)))) (by omega) (by omega) (VarAt.of6 (by first | (simp; done) | (simp; omega) | omega) (by go_simp) (by go_simp) (by go_simp) (by go_simp) (by go_simp) (by go_simp) (by go_simp) (by go_simp) (by go_simp) (by go_simp) (by go_simp) (by go_simp)) (VarAt.mk3 (by first | (simp; done) | (simp; omega) | omega) (by go_simp) (by go_simp) (by go_simp) (by go_simp) (by go_simp) (by go_simp)) (by repeat (first | with_reducible assumption | with_reducible refine Below.drew ?_ | with_reducible refine below_al ?_ | (with_reducible refine below_set1 (by omega) _ ?_)))
              exact AllReadyH.nil
            exact AllReadyH.nil
          refine AllReadyH.cons rfl (fun K hK => ?_) ?_
          · go_simp
            refine hK.out _ _ ?_ (fun hHeld => ?_)
            · repeat (first | with_reducible assumption | with_reducible refine Below.drew ?_ | with_reducible refine below_al ?_)
            clear hK K
            try simp only [List.getElem_toArray, List.getElem_cons_succ, List.getElem_cons_zero, Act.put, List.setIfInBounds_toArray, List.set_cons_zero, List.set_cons_succ]
            refine wpAnyH_ready (rs := [13, 18]) (by kernel_rfl) (by simp) ?_
            refine AllReadyH.cons rfl (fun K hK => ?_) ?_
            · go_simp
              go_at_call 15; (with_reducible refine (HDj D3 dc3 E3 ec3 _ (HAP.out.later (by repeat (first | with_reducible assumption | with_reducible refine Below.drew ?_ | with_reducible refine below_al ?_))) (W3.out.later (by repeat (first | with_reducible assumption | with_reducible refine Below.drew ?_ | with_reducible refine below_al ?_))).gA (W3.out.later (by repeat (first | with_reducible assumption | with_reducible refine Below.drew ?_ | with_reducible refine below_al ?_))).g0 (W3.out.later (by repeat (first | with_reducible assumption | with_reducible refine Below.drew ?_ | with_reducible refine below_al ?_))).g1).mono ?_); rintro e w4 ⟨A4, ka4, R4, ra4, S4, sa4, X4, kx4, rfl, ha, hs0, hs1, hb, hP⟩; have hBw4 : Below x3.heap.size x3 w4 := below_step hb (by repeat (first | with_reducible assumption | with_reducible refine Below.drew ?_ | with_reducible refine below_al ?_)); have hz4 := hBw4.size; have HQ := Lib.hid (doCut_fact (by repeat (first | with_reducible assumption | with_reducible refine Below.drew ?_ | with_reducible refine below_al ?_)) hb ha hs0 hs1 hP W3.out.2.1 W3.out.2.2.1 W3.out.2.2.2); (try (have VBa : VarAt w4 x3.heap.size [.int .i64 0, .int .i64 0, .slice none 0 0, .int .u64 0, .slice none 0 0, .slice none 0 0] := VarAt.onto hb (VarAt.made x3 #[.int .i64 0, .int .i64 0, .slice none 0 0, .int .u64 0, .slice none 0 0, .slice none 0 0] 33) rfl; obtain ⟨_, ⟨va0, va1, va2, va3, va4, va5⟩, wa0, wa1, wa2, wa3, wa4, wa5⟩ := VBa.six)); clear ha hs0 hs1 hb hP
              refine hK.out _ _ ?_ (fun hHeld => ?_)
              · assumption
              clear hK K
              try simp only [List.getElem_toArray, List.getElem_cons_succ, List.getElem_cons_zero, Act.put, List.setIfInBounds_toArray, List.set_cons_zero, List.set_cons_succ]
              refine wpAnyH_take (i := 14) (oi := _) (v := ?_) rfl (by kernel_rfl) (by kernel_rfl) (by kernel_rfl) (fun _ _ _ h => h) (Or.inl ⟨by rfl, ?_⟩) (by assumption) ?_
              rotate_left
              · intro w hSw
                (try dsimp only at hSw)
                go_simp
                with_reducible rfl
              try simp only [List.getElem_toArray, List.getElem_cons_succ, List.getElem_cons_zero, Act.put, List.setIfInBounds_toArray, List.set_cons_zero, List.set_cons_succ]
              refine wpAnyH_take (i := 15) (oi := _) (v := ?_) rfl (by kernel_rfl) (by kernel_rfl) (by kernel_rfl) (fun _ _ _ h => h) (Or.inl ⟨by rfl, ?_⟩) (by assumption) ?_
              rotate_left
              · intro w hSw
                (try dsimp only at hSw)
                go_simp
                with_reducible rfl
              try simp only [List.getElem_toArray, List.getElem_cons_succ, List.getElem_cons_zero, Act.put, List.setIfInBounds_toArray, List.set_cons_zero, List.set_cons_succ]
              refine wpAnyH_take (i := 16) (oi := _) (v := ?_) rfl (by kernel_rfl) (by kernel_rfl) (by kernel_rfl) (fun _ _ _ h => h) (Or.inl ⟨by rfl, ?_⟩) (by assumption) ?_
              rotate_left
              · intro w hSw
                (try dsimp only at hSw)
                go_simp
                with_reducible rfl
              try simp only [List.getElem_toArray, List.getElem_cons_succ, List.getElem_cons_zero, Act.put, List.setIfInBounds_toArray, List.set_cons_zero, List.set_cons_succ]
              refine wpAnyH_ready (rs := [18]) (by kernel_rfl) (by simp) ?_
              refine AllReadyH.cons rfl (fun K hK => ?_) ?_
              · go_simp
                refine hK.out _ _ ?_ (fun hHeld => ?_)
                · repeat (first | with_reducible assumption | with_reducible refine Below.drew ?_ | with_reducible refine below_al ?_)
                clear hK K
                try simp only [List.getElem_toArray, List.getElem_cons_succ, List.getElem_cons_zero, Act.put, List.setIfInBounds_toArray, List.set_cons_zero, List.set_cons_succ]
                refine wpAnyH_ready (rs := [19]) (by kernel_rfl) (by simp) ?_
                refine AllReadyH.cons rfl (fun K hK => ?_) AllReadyH.nil
                go_simp
                refine hK.out _ _ ?_ (fun hHeld => ?_)
                · repeat (first | with_reducible assumption | with_reducible refine Below.drew ?_ | with_reducible refine below_al ?_ | (with_reducible refine below_set1 (by omega) _ ?_))
                clear hK K
                try simp only [List.getElem_toArray, List.getElem_cons_succ, List.getElem_cons_zero, Act.put, List.setIfInBounds_toArray, List.set_cons_zero, List.set_cons_succ]
                refine wpAnyH_ready (rs := [20]) (by kernel_rfl) (by simp) ?_
                refine AllReadyH.cons rfl (fun K hK => ?_) AllReadyH.nil
                go_simp
                refine hK.out _ _ ?_ (fun hHeld => ?_)
                · repeat (first | with_reducible assumption | with_reducible refine Below.drew ?_ | with_reducible refine below_al ?_ | (with_reducible refine below_set1 (by omega) _ ?_))
                clear hK K
                try simp only [List.getElem_toArray, List.getElem_cons_succ, List.getElem_cons_zero, Act.put, List.setIfInBounds_toArray, List.set_cons_zero, List.set_cons_succ]
                refine wpAnyH_done (by kernel_rfl) ?_ _
                refine NoPanic.normal ?_
                go_wp2_with fail
                go_meet
                obtain ⟨N2, hN2, hq⟩ := HQ.out
                simp at hN2
                exact DoCut.of (ka := ka4) (ra := ra4) (sa := sa4) (X := X4) (kx := kx4) hq (by repeat (first | with_reducible exact Keep.refl _ _ | with_reducible refine Keep.drew ?_ | with_reducible refine Keep.alloc ?_ _ | (with_reducible refine Keep.set ?_ _ _ _ (by omega)))) (by omega) (by omega) (VarAt.of6 (by first | (simp; done) | (simp; omega) | omega) (by go_simp) (by go_simp) (by go_simp) (by go_simp) (by go_simp) (by go_simp) (by go_simp) (by go_simp) (by go_simp) (by go_simp) (by go_simp) (by go_simp)) (VarAt.mk3 (by first | (simp; done) | (simp; omega) | omega) (by go_simp) (by go_simp) (by go_simp) (by go_simp) (by go_simp) (by go_simp)) (by repeat (first | with_reducible assumption | with_reducible refine Below.drew ?_ | with_reducible refine below_al ?_ | (with_reducible refine below_set1 (by omega) _ ?_)))
              exact AllReadyH.nil
            refine AllReadyH.cons rfl (fun K hK => ?_) ?_
            · go_simp
              refine hK.out _ _ ?_ (fun hHeld => ?_)
              · repeat (first | with_reducible assumption | with_reducible refine Below.drew ?_ | with_reducible refine below_al ?_)
              clear hK K
              try simp only [List.getElem_toArray, List.getElem_cons_succ, List.getElem_cons_zero, Act.put, List.setIfInBounds_toArray, List.set_cons_zero, List.set_cons_succ]
              refine wpAnyH_ready (rs := [13]) (by kernel_rfl) (by simp) ?_
              refine AllReadyH.cons rfl (fun K hK => ?_) ?_
              · go_simp
                go_at_call 15; (with_reducible refine (HDj D3 dc3 E3 ec3 _ (HAP.out.later (by repeat (first | with_reducible assumption | with_reducible refine Below.drew ?_ | with_reducible refine below_al ?_))) (W3.out.later (by repeat (first | with_reducible assumption | with_reducible refine Below.drew ?_ | with_reducible refine below_al ?_))).gA (W3.out.later (by repeat (first | with_reducible assumption | with_reducible refine Below.drew ?_ | with_reducible refine below_al ?_))).g0 (W3.out.later (by repeat (first | with_reducible assumption | with_reducible refine Below.drew ?_ | with_reducible refine below_al ?_))).g1).mono ?_); rintro e w4 ⟨A4, ka4, R4, ra4, S4, sa4, X4, kx4, rfl, ha, hs0, hs1, hb, hP⟩; have hBw4 : Below x3.heap.size x3 w4 := below_step hb (by repeat (first | with_reducible assumption | with_reducible refine Below.drew ?_ | with_reducible refine below_al ?_)); have hz4 := hBw4.size; have HQ := Lib.hid (doCut_fact (by repeat (first | with_reducible assumption | with_reducible refine Below.drew ?_ | with_reducible refine below_al ?_)) hb ha hs0 hs1 hP W3.out.2.1 W3.out.2.2.1 W3.out.2.2.2); (try (have VBe : VarAt w4 x3.heap.size [.int .i64 0, .int .i64 0, .slice none 0 0, .int .u64 0, .slice none 0 0, .slice none 0 0] := VarAt.onto hb ((VarAt.made x3 #[.int .i64 0, .int .i64 0, .slice none 0 0, .int .u64 0, .slice none 0 0, .slice none 0 0] 33).below (al_below _ (.cells #[.int .u64 0, .slice none 0 0, .bool false] 60))) rfl; obtain ⟨_, ⟨ve0, ve1, ve2, ve3, ve4, ve5⟩, we0, we1, we2, we3, we4, we5⟩ := VBe.six)); (try (have VBc : VarAt w4 (x3.heap.size + 1) [.int .u64 0, .slice none 0 0, .bool false] := VarAt.onto hb (VarAt.made1 x3 (.cells #[.int .i64 0, .int .i64 0, .slice none 0 0, .int .u64 0, .slice none 0 0, .slice none 0 0] 33) #[.int .u64 0, .slice none 0 0, .bool false] 60) rfl; obtain ⟨_, vc0, vc1, vc2, wc0, wc1, wc2⟩ := VBc.three)); clear ha hs0 hs1 hb hP
                refine hK.out _ _ ?_ (fun hHeld => ?_)
                · assumption
                clear hK K
                try simp only [List.getElem_toArray, List.getElem_cons_succ, List.getElem_cons_zero, Act.put, List.setIfInBounds_toArray, List.set_cons_zero, List.set_cons_succ]
                refine wpAnyH_take (i := 14) (oi := _) (v := ?_) rfl (by kernel_rfl) (by kernel_rfl) (by kernel_rfl) (fun _ _ _ h => h) (Or.inl ⟨by rfl, ?_⟩) (by assumption) ?_
                rotate_left
                · intro w hSw
                  (try dsimp only at hSw)
                  go_simp
                  with_reducible rfl
                try simp only [List.getElem_toArray, List.getElem_cons_succ, List.getElem_cons_zero, Act.put, List.setIfInBounds_toArray, List.set_cons_zero, List.set_cons_succ]
                refine wpAnyH_take (i := 15) (oi := _) (v := ?_) rfl (by kernel_rfl) (by kernel_rfl) (by kernel_rfl) (fun _ _ _ h => h) (Or.inl ⟨by rfl, ?_⟩) (by assumption) ?_
                rotate_left
                · intro w hSw
                  (try dsimp only at hSw)
                  go_simp
                  with_reducible rfl
                try simp only [List.getElem_toArray, List.getElem_cons_succ, List.getElem_cons_zero, Act.put, List.setIfInBounds_toArray, List.set_cons_zero, List.set_cons_succ]
                refine wpAnyH_take (i := 16) (oi := _) (v := ?_) rfl (by kernel_rfl) (by kernel_rfl) (by kernel_rfl) (fun _ _ _ h => h) (Or.inl ⟨by rfl, ?_⟩) (by assumption) ?_
                rotate_left
                · intro w hSw
                  (try dsimp only at hSw)
                  go_simp
                  with_reducible rfl
                try simp only [List.getElem_toArray, List.getElem_cons_succ, List.getElem_cons_zero, Act.put, List.setIfInBounds_toArray, List.set_cons_zero, List.set_cons_succ]
                refine wpAnyH_ready (rs := [19]) (by kernel_rfl) (by simp) ?_
                refine AllReadyH.cons rfl (fun K hK => ?_) AllReadyH.nil
                go_simp
                refine hK.out _ _ ?_ (fun hHeld => ?_)
                · repeat (first | with_reducible assumption | with_reducible refine Below.drew ?_ | with_reducible refine below_al ?_ | (with_reducible refine below_set1 (by omega) _ ?_))
                clear hK K
                try simp only [List.getElem_toArray, List.getElem_cons_succ, List.getElem_cons_zero, Act.put, List.setIfInBounds_toArray, List.set_cons_zero, List.set_cons_succ]
                refine wpAnyH_ready (rs := [20]) (by kernel_rfl) (by simp) ?_
                refine AllReadyH.cons rfl (fun K hK => ?_) AllReadyH.nil
                go_simp
                refine hK.out _ _ ?_ (fun hHeld => ?_)
                · repeat (first | with_reducible assumption | with_reducible refine Below.drew ?_ | with_reducible refine below_al ?_ | (with_reducible refine below_set1 (by omega) _ ?_))
                clear hK K
                try simp only [List.getElem_toArray, List.getElem_cons_succ, List.getElem_cons_zero, Act.put, List.setIfInBounds_toArray, List.set_cons_zero, List.set_cons_succ]
                refine wpAnyH_done (by kernel_rfl) ?_ _
                refine NoPanic.normal ?_
                go_wp2_with fail
                go_meet
                obtain ⟨N2, hN2, hq⟩ := HQ.out
                simp at hN2
                exact DoCut.of (ka := ka4) (ra := ra4) (sa := sa4) (X := X4) (kx := kx4) hq (by repeat (first | with_reducible exact Keep.refl _ _ | with_reducible refine Keep.drew ?_ | with_reducible refine Keep.alloc ?_ _ | (with_reducible refine Keep.set ?_ _ _ _ (by omega)))) (by omega) (by omega) (VarAt.of6 (by first | (simp; done) | (simp; omega) | omega) (by go_simp) (by go_simp) (by go_simp) (by go_simp) (by go_simp) (by go_simp) (by go_simp) (by go_simp) (by go_simp) (by go_simp) (by go_simp) (by go_simp)) (VarAt.mk3 (by first | (simp; done) | (simp; omega) | omega) (by go_simp) (by go_simp) (by go_simp) (by go_simp) (by go_simp) (by go_simp)) (by repeat (first | with_reducible assumption | with_reducible refine Below.drew ?_ | with_reducible refine below_al ?_ | (with_reducible refine below_set1 (by omega) _ ?_)))
              exact AllReadyH.nil
            exact AllReadyH.nil
          refine AllReadyH.cons rfl (fun K hK => ?_) ?_
          · go_simp
            refine hK.out _ _ ?_ (fun hHeld => ?_)
            · repeat (first | with_reducible assumption | with_reducible refine Below.drew ?_ | with_reducible refine below_al ?_)
            clear hK K
            try simp only [List.getElem_toArray, List.getElem_cons_succ, List.getElem_cons_zero, Act.put, List.setIfInBounds_toArray, List.set_cons_zero, List.set_cons_succ]
            refine wpAnyH_ready (rs := [13, 17]) (by kernel_rfl) (by simp) ?_
            refine AllReadyH.cons rfl (fun K hK => ?_) ?_
            · go_simp
              go_at_call 15; (with_reducible refine (HDj D3 dc3 E3 ec3 _ (HAP.out.later (by repeat (first | with_reducible assumption | with_reducible refine Below.drew ?_ | with_reducible refine below_al ?_))) (W3.out.later (by repeat (first | with_reducible assumption | with_reducible refine Below.drew ?_ | with_reducible refine below_al ?_))).gA (W3.out.later (by repeat (first | with_reducible assumption | with_reducible refine Below.drew ?_ | with_reducible refine below_al ?_))).g0 (W3.out.later (by repeat (first | with_reducible assumption | with_reducible refine Below.drew ?_ | with_reducible refine below_al ?_))).g1).mono ?_); rintro e w4 ⟨A4, ka4, R4, ra4, S4, sa4, X4, kx4, rfl, ha, hs0, hs1, hb, hP⟩; have hBw4 : Below x3.heap.size x3 w4 := below_step hb (by repeat (first | with_reducible assumption | with_reducible refine Below.drew ?_ | with_reducible refine below_al ?_)); have hz4 := hBw4.size; have HQ := Lib.hid (doCut_fact (by repeat (first | with_reducible assumption | with_reducible refine Below.drew ?_ | with_reducible refine below_al ?_)) hb ha hs0 hs1 hP W3.out.2.1 W3.out.2.2.1 W3.out.2.2.2); (try (have VBb : VarAt w4 x3.heap.size [.int .u64 0, .slice none 0 0, .bool false] := VarAt.onto hb (VarAt.made x3 #[.int .u64 0, .slice none 0 0, .bool false] 60) rfl; obtain ⟨_, vb0, vb1, vb2, wb0, wb1, wb2⟩ := VBb.three)); clear ha hs0 hs1 hb hP
              refine hK.out _ _ ?_ (fun hHeld => ?_)
              · assumption
              clear hK K
              try simp only [List.getElem_toArray, List.getElem_cons_succ, List.getElem_cons_zero, Act.put, List.setIfInBounds_toArray, List.set_cons_zero, List.set_cons_succ]
              refine wpAnyH_take (i := 14) (oi := _) (v := ?_) rfl (by kernel_rfl) (by kernel_rfl) (by kernel_rfl) (fun _ _ _ h => h) (Or.inl ⟨by rfl, ?_⟩) (by assumption) ?_
              rotate_left
              · intro w hSw
                (try dsimp only at hSw)
                go_simp
                with_reducible rfl
              try simp only [List.getElem_toArray, List.getElem_cons_succ, List.getElem_cons_zero, Act.put, List.setIfInBounds_toArray, List.set_cons_zero, List.set_cons_succ]
              refine wpAnyH_take (i := 15) (oi := _) (v := ?_) rfl (by kernel_rfl) (by kernel_rfl) (by kernel_rfl) (fun _ _ _ h => h) (Or.inl ⟨by rfl, ?_⟩) (by assumption) ?_
              rotate_left
              · intro w hSw
                (try dsimp only at hSw)
                go_simp
                with_reducible rfl
              try simp only [List.getElem_toArray, List.getElem_cons_succ, List.getElem_cons_zero, Act.put, List.setIfInBounds_toArray, List.set_cons_zero, List.set_cons_succ]
              refine wpAnyH_take (i := 16) (oi := _) (v := ?_) rfl (by kernel_rfl) (by kernel_rfl) (by kernel_rfl) (fun _ _ _ h => h) (Or.inl ⟨by rfl, ?_⟩) (by assumption) ?_
              rotate_left
              · intro w hSw
                (try dsimp only at hSw)
                go_simp
                with_reducible rfl
              try simp only [List.getElem_toArray, List.getElem_cons_succ, List.getElem_cons_zero, Act.put, List.setIfInBounds_toArray, List.set_cons_zero, List.set_cons_succ]
              refine wpAnyH_ready (rs := [17]) (by kernel_rfl) (by simp) ?_
              refine AllReadyH.cons rfl (fun K hK => ?_) ?_
              · go_simp
                refine hK.out _ _ ?_ (fun hHeld => ?_)
                · repeat (first | with_reducible assumption | with_reducible refine Below.drew ?_ | with_reducible refine below_al ?_)
                clear hK K
                try simp only [List.getElem_toArray, List.getElem_cons_succ, List.getElem_cons_zero, Act.put, List.setIfInBounds_toArray, List.set_cons_zero, List.set_cons_succ]
                refine wpAnyH_ready (rs := [19]) (by kernel_rfl) (by simp) ?_
                refine AllReadyH.cons rfl (fun K hK => ?_) AllReadyH.nil
                go_simp
                refine hK.out _ _ ?_ (fun hHeld => ?_)
                · repeat (first | with_reducible assumption | with_reducible refine Below.drew ?_ | with_reducible refine below_al ?_ | (with_reducible refine below_set1 (by omega) _ ?_))
                clear hK K
                try simp only [List.getElem_toArray, List.getElem_cons_succ, List.getElem_cons_zero, Act.put, List.setIfInBounds_toArray, List.set_cons_zero, List.set_cons_succ]
                refine wpAnyH_ready (rs := [20]) (by kernel_rfl) (by simp) ?_
                refine AllReadyH.cons rfl (fun K hK => ?_) AllReadyH.nil
                go_simp
                refine hK.out _ _ ?_ (fun hHeld => ?_)
                · repeat (first | with_reducible assumption | with_reducible refine Below.drew ?_ | with_reducible refine below_al ?_ | (with_reducible refine below_set1 (by omega) _ ?_))
                clear hK K
                try simp only [List.getElem_toArray, List.getElem_cons_succ, List.getElem_cons_zero, Act.put, List.setIfInBounds_toArray, List.set_cons_zero, List.set_cons_succ]
                refine wpAnyH_done (by kernel_rfl) ?_ _
                refine NoPanic.normal ?_
                go_wp2_with fail
                go_meet
                obtain ⟨N2, hN2, hq⟩ := HQ.out
                simp at hN2
                exact DoCut.of (ka := ka4) (ra := ra4) (sa := sa4) (X := X4) (kx := kx4) hq (by repeat (first | with_reducible exact Keep.refl _ _ | with_reducible refine Keep.drew ?_ | with_reducible refine Keep.alloc ?_ _ | (with_reducible refine Keep.set ?_ _ _ _ (by omega)))) (by omega) (by omega) (VarAt.of6 (by first | (simp; done) | (simp; omega) | omega) (by go_simp) (by go_simp) (by go_simp) (by go_simp) (by go_simp) (by go_simp) (by go_simp) (by go_simp) (by go_simp) (by go_simp) (by go_simp) (by go_simp)) (VarAt.mk3 (by first | (simp; done) | (simp; omega) | omega) (by go_simp) (by go_simp) (by go_simp) (by go_simp) (by go_simp) (by go_simp)) (by repeat (first | with_reducible assumption | with_reducible refine Below.drew ?_ | with_reducible refine below_al ?_ | (with_reducible refine below_set1 (by omega) _ ?_)))
              exact AllReadyH.nil
            refine AllReadyH.cons rfl (fun K hK => ?_) ?_
            · go_simp
              refine hK.out _ _ ?_ (fun hHeld => ?_)
              · repeat (first | with_reducible assumption | with_reducible refine Below.drew ?_ | with_reducible refine below_al ?_)
              clear hK K
              try simp only [List.getElem_toArray, List.getElem_cons_succ, List.getElem_cons_zero, Act.put, List.setIfInBounds_toArray, List.set_cons_zero, List.set_cons_succ]
              refine wpAnyH_ready (rs := [13]) (by kernel_rfl) (by simp) ?_
              refine AllReadyH.cons rfl (fun K hK => ?_) ?_
              · go_simp
                go_at_call 15; (with_reducible refine (HDj D3 dc3 E3 ec3 _ (HAP.out.later (by repeat (first | with_reducible assumption | with_reducible refine Below.drew ?_ | with_reducible refine below_al ?_))) (W3.out.later (by repeat (first | with_reducible assumption | with_reducible refine Below.drew ?_ | with_reducible refine below_al ?_))).gA (W3.out.later (by repeat (first | with_reducible assumption | with_reducible refine Below.drew ?_ | with_reducible refine below_al ?_))).g0 (W3.out.later (by repeat (first | with_reducible assumption | with_reducible refine Below.drew ?_ | with_reducible refine below_al ?_))).g1).mono ?_); rintro e w4 ⟨A4, ka4, R4, ra4, S4, sa4, X4, kx4, rfl, ha, hs0, hs1, hb, hP⟩; have hBw4 : Below x3.heap.size x3 w4 := below_step hb (by repeat (first | with_reducible assumption | with_reducible refine Below.drew ?_ | with_reducible refine below_al ?_)); have hz4 := hBw4.size; have HQ := Lib.hid (doCut_fact (by repeat (first | with_reducible assumption | with_reducible refine Below.drew ?_ | with_reducible refine below_al ?_)) hb ha hs0 hs1 hP W3.out.2.1 W3.out.2.2.1 W3.out.2.2.2); (try (have VBf : VarAt w4 x3.heap.size [.int .u64 0, .slice none 0 0, .bool false] := VarAt.onto hb ((VarAt.made x3 #[.int .u64 0, .slice none 0 0, .bool false] 60).below (al_below _ (.cells #[.int .i64 0, .int .i64 0, .slice none 0 0, .int .u64 0, .slice none 0 0, .slice none 0 0] 33))) rfl; obtain ⟨_, vf0, vf1, vf2, wf0, wf1, wf2⟩ := VBf.three)); (try (have VBd : VarAt w4 (x3.heap.size + 1) [.int .i64 0, .int .i64 0, .slice none 0 0, .int .u64 0, .slice none 0 0, .slice none 0 0] := VarAt.onto hb (VarAt.made1 x3 (.cells #[.int .u64 0, .slice none 0 0, .bool false] 60) #[.int .i64 0, .int .i64 0, .slice none 0 0, .int .u64 0, .slice none 0 0, .slice none 0 0] 33) rfl; obtain ⟨_, ⟨vd0, vd1, vd2, vd3, vd4, vd5⟩, wd0, wd1, wd2, wd3, wd4, wd5⟩ := VBd.six)); clear ha hs0 hs1 hb hP
                refine hK.out _ _ ?_ (fun hHeld => ?_)
                · assumption
                clear hK K
                try simp only [List.getElem_toArray, List.getElem_cons_succ, List.getElem_cons_zero, Act.put, List.setIfInBounds_toArray, List.set_cons_zero, List.set_cons_succ]
                refine wpAnyH_take (i := 14) (oi := _) (v := ?_) rfl (by kernel_rfl) (by kernel_rfl) (by kernel_rfl) (fun _ _ _ h => h) (Or.inl ⟨by rfl, ?_⟩) (by assumption) ?_
                rotate_left
                · intro w hSw
                  (try dsimp only at hSw)
                  go_simp
                  with_reducible rfl
                try simp only [List.getElem_toArray, List.getElem_cons_succ, List.getElem_cons_zero, Act.put, List.setIfInBounds_toArray, List.set_cons_zero, List.set_cons_succ]
                refine wpAnyH_take (i := 15) (oi := _) (v := ?_) rfl (by kernel_rfl) (by kernel_rfl) (by kernel_rfl) (fun _ _ _ h => h) (Or.inl ⟨by rfl, ?_⟩) (by assumption) ?_
                rotate_left
                · intro w hSw
                  (try dsimp only at hSw)
                  go_simp
                  with_reducible rfl
                try simp only [List.getElem_toArray, List.getElem_cons_succ, List.getElem_cons_zero, Act.put, List.setIfInBounds_toArray, List.set_cons_zero, List.set_cons_succ]
                refine wpAnyH_take (i := 16) (oi := _) (v := ?_) rfl (by kernel_rfl) (by kernel_rfl) (by kernel_rfl) (fun _ _ _ h => h) (Or.inl ⟨by rfl, ?_⟩) (by assumption) ?_
                rotate_left
                · intro w hSw
                  (try dsimp only at hSw)
                  go_simp
                  with_reducible rfl
                try simp only [List.getElem_toArray, List.getElem_cons_succ, List.getElem_cons_zero, Act.put, List.setIfInBounds_toArray, List.set_cons_zero, List.set_cons_succ]
                refine wpAnyH_ready (rs := [19]) (by kernel_rfl) (by simp) ?_
                refine AllReadyH.cons rfl (fun K hK => ?_) AllReadyH.nil
                go_simp
                refine hK.out _ _ ?_ (fun hHeld => ?_)
                · repeat (first | with_reducible assumption | with_reducible refine Below.drew ?_ | with_reducible refine below_al ?_ | (with_reducible refine below_set1 (by omega) _ ?_))
                clear hK K
                try simp only [List.getElem_toArray, List.getElem_cons_succ, List.getElem_cons_zero, Act.put, List.setIfInBounds_toArray, List.set_cons_zero, List.set_cons_succ]
                refine wpAnyH_ready (rs := [20]) (by kernel_rfl) (by simp) ?_
                refine AllReadyH.cons rfl (fun K hK => ?_) AllReadyH.nil
                go_simp
                refine hK.out _ _ ?_ (fun hHeld => ?_)
                · repeat (first | with_reducible assumption | with_reducible refine Below.drew ?_ | with_reducible refine below_al ?_ | (with_reducible refine below_set1 (by omega) _ ?_))
                clear hK K
                try simp only [List.getElem_toArray, List.getElem_cons_succ, List.getElem_cons_zero, Act.put, List.setIfInBounds_toArray, List.set_cons_zero, List.set_cons_succ]
                refine wpAnyH_done (by kernel_rfl) ?_ _
                refine NoPanic.normal ?_
                go_wp2_with fail
                go_meet
                obtain ⟨N2, hN2, hq⟩ := HQ.out
                simp at hN2
                exact DoCut.of (ka := ka4) (ra := ra4) (sa := sa4) (X := X4) (kx := kx4) hq (by repeat (first | with_reducible exact Keep.refl _ _ | with_reducible refine Keep.drew ?_ | with_reducible refine Keep.alloc ?_ _ | (with_reducible refine Keep.set ?_ _ _ _ (by omega)))) (by omega) (by omega) (VarAt.of6 (by first | (simp; done) | (simp; omega) | omega) (by go_simp) (by go_simp) (by go_simp) (by go_simp) (by go_simp) (by go_simp) (by go_simp) (by go_simp) (by go_simp) (by go_simp) (by go_simp) (by go_simp)) (VarAt.mk3 (by first | (simp; done) | (simp; omega) | omega) (by go_simp) (by go_simp) (by go_simp) (by go_simp) (by go_simp) (by go_simp)) (by repeat (first | with_reducible assumption | with_reducible refine Below.drew ?_ | with_reducible refine below_al ?_ | (with_reducible refine below_set1 (by omega) _ ?_)))
              exact AllReadyH.nil
            exact AllReadyH.nil
          exact AllReadyH.nil
      case rest =>
        obtain ⟨b1, b2, A5, k5, R5, ra5, S5, sa5, X5, kx5, rfl, rfl, hb1, hb2, hW5, hV5, hbn5, hP⟩ := hcut
        have W5 := Lib.hid hW5
        have V5 := Lib.hid hV5
        have hgx : Nw < x3.heap.size := W3.out.1.1
        have hvb : ∀ k, (Value.slice la j cap).ownBlock = some k → k < x3.heap.size := fun k hk => (HOWN3.out.lt k hk).2
        have O5 : Hid (OffW (Nt Nw Nw (.slice la j cap)) A5 n ∧ OffS (Nt Nw Nw (.slice la j cap)) wc R5 m ∧ OffS (Nt Nw Nw (.slice la j cap)) wc S5 m) := Lib.hid (hP (Nt Nw Nw (.slice la j cap)) (fun b hb => ⟨by omega, by omega, fun k hk => by have := hvb k hk; omega⟩) O3.out.1 O3.out.2.1 O3.out.2.2)
        have OP5 : Hid (∀ P, From w (Nw + 1 + 1 + 1 + 1) A n R S m P → OffW P A5 n ∧ OffS P wc R5 m ∧ OffS P wc S5 m) := Lib.hid (fun P hF => by
          obtain ⟨q0, q1, q2⟩ := OP3.out P hF
          exact hP P (fun b hb => hF.1 b (Nat.le_trans HSZ3.out hb)) q0 q1 q2)
        clear hP hgx hvb OP3 hW5 hV5 HDj
        have WX := Lib.hid (W3.out.1.below hbn5)
        have HOWNn := Lib.hid (ownsRow_laterR HOWN3.out hbn5); clear HOWN3; have HOWN := HOWNn; clear HOWNn
        have HRAWn := Lib.hid (HRAW3.out.later hbn5); clear HRAW3; have HRAW := HRAWn; clear HRAWn
        have HV5 := Lib.hid (HV3.out.below hbn5)
        have HBW5 := Lib.hid (HBW3.out.trans (hbn5.mono HBW3.out.size))
        have HSZ5 := Lib.hid (Nat.le_trans HSZ3.out hbn5.size)
        have hgx3 : Nw < x3.heap.size := W3.out.1.1
        clear hbn5 W3 HV3 HBW3 O3 HAP VA3 HFX
        have n5 : ¬ (b1 = Nw) := by omega
        have n7 : ¬ (b2 = Nw) := by omega
        have n15 : ¬ (Nw = b1) := by omega
        have hs35 := HSZ3.out
        obtain ⟨_, ⟨c0, c1, c2, c3, c4, c5⟩, _⟩ := W5.out.1.six
        obtain ⟨_, g0, g1, g2, _⟩ := V5.out.three
        obtain ⟨zx, ⟨x0, x1, x2, x3', x4', x5'⟩, y0, y1, y2, y3, y4, y5⟩ := WX.out.six
        go_upto_region 10 with fail
        have hrow : ∀ k, (Value.slice la j cap).ownBlock = some k → Nw + 1 + 1 + 1 + 1 ≤ k := fun k hk => (HOWN.out.lt k hk).1
        have hbw5 := HBW5.out
        have hsz5 := HSZ5.out
        have hnw := HNW.out
        have hlen := HLEN.out
        refine gen_w (P := fun W => Code.wp _ _ _ _ W) (fun z => RunZA w Nw (Nw + 1 + 1 + 1 + 1) (From w (Nw + 1 + 1 + 1 + 1) A n R S m) [(Nw + 1, [.int .i64 k, .int .i64 u, .int .i64 v, .int .u64 (q : Int)]), (Nw + 1 + 1, [.int .i64 0, .int .i64 0, .slice none 0 0, .int .u64 0, .slice none 0 0, .slice none 0 0]), (Nw + 1 + 1 + 1, [.int .i64 0, .bool false, .int .i64 0, .int .u64 0, .slice none 0 0])] t c n 0 m l5 l1 (.slice la j cap) log vs X5 kx5 N5 G5 z ∧ VarAt z b2 [.int .u64 (N5 : Int), .slice X5 0 kx5, .bool fl5]) ⟨⟨(by repeat (first | with_reducible exact hbw5 | with_reducible refine Below.drew ?_ | with_reducible refine below_al ?_ | (with_reducible refine below_set1 (by omega) _ ?_))), by simp; omega, by omega, (by have hv := HV5.out; repeat (first | with_reducible exact hv | (with_reducible refine Vars.apart ?_ _ _ (by intro p hp; simp only [List.mem_cons, List.not_mem_nil, or_false] at hp; rcases hp with rfl | rfl | rfl <;> simp only [] <;> omega)))), (by intro p hp; simp only [List.mem_cons, List.not_mem_nil, or_false] at hp; rcases hp with rfl | rfl | rfl <;> simp only [] <;> omega), ⟨A5, k5, R5, ra5, S5, sa5, ⟨VarAt.of6 (by simp; omega) (by go_simp) (by go_simp) (by go_simp) (by go_simp) (by go_simp) (by go_simp) (by go_simp) (by go_simp) (by go_simp) (by go_simp) (by go_simp) (by go_simp), W5.out.2.1.keep (by repeat (first | with_reducible exact Keep.refl _ _ | with_reducible refine Keep.drew ?_ | with_reducible refine Keep.alloc ?_ _ | (with_reducible refine Keep.set ?_ _ _ _ (by unfold Nt; omega)))) O5.out.1, W5.out.2.2.1.keep (by repeat (first | with_reducible exact Keep.refl _ _ | with_reducible refine Keep.drew ?_ | with_reducible refine Keep.alloc ?_ _ | (with_reducible refine Keep.set ?_ _ _ _ (by unfold Nt; omega)))) O5.out.2.1, W5.out.2.2.2.keep (by repeat (first | with_reducible exact Keep.refl _ _ | with_reducible refine Keep.drew ?_ | with_reducible refine Keep.alloc ?_ _ | (with_reducible refine Keep.set ?_ _ _ _ (by unfold Nt; omega)))) O5.out.2.2⟩, O5.out.1, O5.out.2.1.keep W5.out.2.2.1 (by repeat (first | with_reducible exact Keep.refl _ _ | with_reducible refine Keep.drew ?_ | with_reducible refine Keep.alloc ?_ _ | (with_reducible refine Keep.set ?_ _ _ _ (by unfold Nt; omega)))) O5.out.2.1, O5.out.2.2.keep W5.out.2.2.2 (by repeat (first | with_reducible exact Keep.refl _ _ | with_reducible refine Keep.drew ?_ | with_reducible refine Keep.alloc ?_ _ | (with_reducible refine Keep.set ?_ _ _ _ (by unfold Nt; omega)))) O5.out.2.2, fun P hF => ⟨(OP5.out P hF).1, (OP5.out P hF).2.1.keep W5.out.2.2.1 (by repeat (first | with_reducible exact Keep.refl _ _ | with_reducible refine Keep.drew ?_ | with_reducible refine Keep.alloc ?_ _ | (with_reducible refine Keep.set ?_ _ _ _ (by unfold Nt; omega)))) O5.out.2.1, (OP5.out P hF).2.2.keep W5.out.2.2.2 (by repeat (first | with_reducible exact Keep.refl _ _ | with_reducible refine Keep.drew ?_ | with_reducible refine Keep.alloc ?_ _ | (with_reducible refine Keep.set ?_ _ _ _ (by unfold Nt; omega)))) O5.out.2.2⟩⟩, by rw [hlen]; exact (by repeat (first | with_reducible exact HOWN.out | (with_reducible refine ownsRow_apart ?_ _ _ _ (by omega)))), HRAW.out.keep (by repeat (first | with_reducible exact Keep.refl _ _ | with_reducible refine Keep.drew ?_ | with_reducible refine Keep.alloc ?_ _ | (with_reducible refine Keep.set ?_ _ _ _ (by unfold Nt; omega)))), HN5.out⟩, (by repeat (first | with_reducible exact V5.out | (with_reducible refine VarAt.apart ?_ _ _ (by omega))))⟩ ?_
        rintro z ⟨k0, k1⟩
        obtain ⟨zz, g0, g1, g2, _⟩ := k1.three
        have KZ := Lib.hid k0
        have HOZ : Hid (∀ o, (z.alloc o).ownsRow (Nw + 1 + 1 + 1 + 1) 60 3 (.slice la j cap) j vs) := Lib.hid (fun o => by have h := (k0.later (al_below z o)).own; rw [hlen] at h; exact h)
        have hjk : j ≤ 1000 := by have := HM.out; omega
        have HJ : Hid (j ≤ 900000) := Lib.hid (by have := HM.out; omega)
        have HLQ : Hid (log.length = j) := HLEN
        clear k0 k1 c0 c1 c2 c3 c4 c5 zx x0 x1 x2 x3' x4' x5' y0 y1 y2 y3 y4 y5 hrow hbw5 hsz5 hnw hgx3 hs35
        clear WX W5 V5 HOWN HRAW HV5 HBW5 O5 OP5
        go_wp2_with (at_builtin; (refine wpList_appendR1 (by rfl) (.tmp 60) (.tmp 62) (by rfl) (Nw + 1 + 1 + 1 + 1) (.slice la j cap) j vs (by rfl) (HOZ.out _) z.heap.size 1 ⟨N5, [], fl5⟩ X5 kx5 (by rfl) (by go_simp) (by go_simp) (by go_simp) HJ.out (by have := KZ.out.size; simp; omega) ?_); (intro v9 w9 hown9 hg9 hv9; have HNX : Hid (RunA w Nw (Nw + 1 + 1 + 1 + 1) (From w (Nw + 1 + 1 + 1 + 1) A n R S m) [(Nw + 1, [.int .i64 k, .int .i64 u, .int .i64 v, .int .u64 (q : Int)]), (Nw + 1 + 1, [.int .i64 0, .int .i64 0, .slice none 0 0, .int .u64 0, .slice none 0 0, .slice none 0 0]), (Nw + 1 + 1 + 1, [.int .i64 0, .bool false, .int .i64 0, .int .u64 0, .slice none 0 0])] t c n 0 m l5 l1 v9 (log ++ [⟨N5, [], fl5⟩]) G5 w9) := Lib.hid ((KZ.out.later (al_below z _)).nextF (by rw [HLQ.out]; exact hown9) hg9 hv9); clear hown9 hg9 hv9))
        go_roundw
        case rel =>
          refine ⟨j + 1, log ++ [⟨N5, [], fl5⟩], G5, l5, by go_num, by rw [List.length_append, HLQ.out]; rfl, ?_, HNX.out⟩
          rw [show most + 1 - (j + 1) = f by have := HF.out; omega]
          exact HRN.out
        case measure => have := HJ1.out; simp [intOf]; omega
end Go.Proofs.YtdbomlclkhkinaaDoor
namespace Go.Proofs.YtdbomlclkhkinaaDoor
open Go.ChangeShapes Go.WideShapes Go.ChangeAt Go.RowKit Go.BigFrame Go.Deep
set_option linter.unusedVariables false
set_option maxRecDepth 100000

def noF : Nat → Bool := fun j => decide (j < 0) && false
theorem noF_no (j : Nat) : noF j = false := by simp [noF]
theorem aloneN {m : Nat} (t : Nat) (ht : t ≤ 64) (me : Nat) (hme : me < m) (c k u v : Int) (q : Nat) (hq : q < 18446744073709551616) (hop : SOp k u v) (most : Nat) (hm : most ≤ 1000) (n : Nat) (hn : n ≤ 1000000) (hm8 : m ≤ 8) (G : Nat → Nat) (l0 l1 : List Stm) (N : Nat) (WF : WS) (j : Nat)
    (hrun : (sPrg t k u v q 2000).run (Prd.wTell n me noF) ((G, l0), 0) = .done N (WF, j)) (hj : j ≤ most) (A : Option Addr) (ka : Nat) (R : Option Addr) (ra : Nat) (S : Option Addr) (sa : Nat) (w : World) (HTab : Hid (Tab w)) (HA : Hid (AtW w A n G)) (H0 : Hid (StmsAt w R m l0)) (H1 : Hid (StmsAt w S m l1)) :
    Calls Tryd.prog 9 #[.agg #[.int .i64 (t : Int), .int .i64 c, .slice A n ka, .int .u64 0, .slice R m ra, .slice S m sa], .int .i64 (me : Int), .agg #[.int .i64 k, .int .i64 u, .int .i64 v, .int .u64 (q : Int)], .int .i64 (most : Int), .slice none 0 0] w (AloneS w t c A n R S m WF.1 WF.2 l1 (sErr k) (sIs k N) (sW k N)) :=
  sAlone_at t ht me hme c k u v q hq hop most hm A n ka R ra S sa hn hm8 none 0 0 (fun _ => false) (Nat.le_refl 0) G l0 l1 N WF (Prd.alone_ofW hrun (by omega)) w HTab (Lib.hid ⟨Nat.zero_le _, fun h => absurd h (Nat.lt_irrefl 0)⟩) HA H0 H1
theorem data_may (e : Ent) (h : e.mayB = true) : dataN e = frameN e.bytes ∧ May e.bytes := by
  refine ⟨by unfold dataN; rw [if_pos h], ?_⟩
  have := e.bytes_pos
  exact ⟨this.1, by omega, Ent.bytes_ok (of_decide_eq_true h)⟩
theorem split_data (e : Ent) (h : e.mayB = true) : splitN (dataN e) = [e.bytes] := by
  obtain ⟨h1, h2⟩ := data_may e h
  have h3 := split_frame [] h2
  rw [List.append_nil] at h3
  rw [h1, h3, split_short (by decide)]
def svG1 : Nat → Nat := Prd.makeG 1 1 0 0 0 0 0 (newF 1 1)
def svE : Ent := ⟨1, 1, 0, 0, 0, 0⟩
def svG2 : Nat → Nat := setW svG1 (fieldN 1 1 2) (svG1 (fieldN 1 1 2) + 1)
def svR : List Stm := Prd.putR 0 (dataN svE) (zerosS 1)
theorem svG1_lt (q : Nat) : svG1 q < 18446744073709551616 := by
  unfold svG1 Prd.makeG
  exact setW_lt (setW_lt (setW_lt (setW_lt (setW_lt (setW_lt (setW_lt (newF_lt (by decide)) (Nat.mod_lt _ (by decide))) (flag_lt _ _)) (by decide)) (by decide)) (by decide)) (by decide)) (by decide) q
theorem sv_run1 : (sPrg 1 20 1 0 0 2000).run (Prd.wTell (sizeN 1 1) 0 noF) ((newF 1 1, zerosS 1), 0) = .done 1 ((svG1, zerosS 1), 7) := by
  have e : sPrg 1 20 1 0 0 2000 = Prd.make 1 1 0 0 0 0 0 := rfl
  rw [e, Prd.make_run (W := (newF 1 1, zerosS 1)) (by decide) (by decide) (newF_lt (by decide)) (by decide) (by decide) (by decide) (by decide) (by decide)]
  rfl
theorem sv_flag : svG1 (fieldN 1 1 2) = 4 := by decide
theorem sv_ent : Prd.entW 1 1 1 svG1 = svE := by decide
theorem sv_run2 : (sPrg 1 7 1 1 0 2000).run (Prd.wTell (sizeN 1 1) 0 noF) ((svG1, zerosS 1), 0) = .done 1 ((svG2, svR), 9) := by
  have e : sPrg 1 7 1 1 0 2000 = Prd.save 1 1 1 2000 := rfl
  rw [e, Prd.save_run (W := (svG1, zerosS 1)) (by decide) svG1_lt, Prd.rest_saved (W := (svG1, zerosS 1)) (by decide) svG1_lt (by show hasF (svG1 (fieldN 1 1 2)) _ = _; rw [sv_flag]; decide)]
  have h5 : Prd.entW 1 1 1 (svG1, zerosS 1).1 = svE := sv_ent
  rw [h5, Prd.saved_run (m := 1999) (W := (svG1, zerosS 1)) (by decide) svG1_lt (by decide) (by have := data_len svE; show (stmAt (svG1, zerosS 1) 0).bytes.length + _ ≤ _; simp [stmAt, zerosS, Stm.zero]; omega) (noF_no _) (noF_no _) rfl (by show hasF (svG1 (fieldN 1 1 2)) _ = _; rw [sv_flag]; decide)]
  rfl
theorem svG2_lt (q : Nat) : svG2 q < 18446744073709551616 := setW_lt svG1_lt (by rw [sv_flag]; decide) q
theorem sv_flag2 : svG2 (fieldN 1 1 2) = 5 := by decide
theorem sv_run3 : (sPrg 1 7 1 1 0 2000).run (Prd.wTell (sizeN 1 1) 0 noF) ((svG2, svR), 0) = .done 1 ((svG2, svR), 1) := by
  have e : sPrg 1 7 1 1 0 2000 = Prd.save 1 1 1 2000 := rfl
  rw [e, Prd.save_run (W := (svG2, svR)) (by decide) svG2_lt]
  exact Prd.rest_has (by show hasF (svG2 (fieldN 1 1 2)) _ = _; rw [sv_flag2]; decide)
theorem sv_run4 : (sPrg 1 22 1 0 1 2000).run (Prd.wTell (sizeN 1 1) 0 noF) ((svG2, svR), 0) = .done 1 ((svG2, svR), 2) := by
  have e : sPrg 1 22 1 0 1 2000 = Prd.alive 1 1 1 := rfl
  rw [e, Prd.alive_run (W := (svG2, svR)) (by decide) svG2_lt]
  have h0 : svG2 (fieldN 1 1 0) = 0 := by decide
  show RanD.done (if stampN (svG2 (fieldN 1 1 2)) = 1 ∧ markB (svG2 (fieldN 1 1 0)) = false then 1 else 0) _ = _
  rw [sv_flag2, h0]
  rfl
set_option maxHeartbeats 8000000 in
set_option maxRecDepth 100000 in
theorem savShown (w : World) (HTab : Hid (Tab w)) : Calls Tryd.prog 7 #[] w (Kept w (.bool true)) := by
  have HN : ∀ w, Calls Tryd.prog 8 #[.int .i64 1, .int .i64 1] w (NewWd w 1 1 (sizeN 1 1) (newF 1 1)) := fun w => newWd_at 1 1 (by decide) (by decide) (by decide) w
  have hsz : sizeN 1 1 ≤ 1000000 := by decide
  have C1 : ∀ (A : Option Addr) (ka : Nat) (R : Option Addr) (ra : Nat) (S : Option Addr) (sa : Nat) (w : World), Hid (Tab w) → Hid (AtW w A (sizeN 1 1) (newF 1 1)) → Hid (StmsAt w R 1 (zerosS 1)) → Hid (StmsAt w S 1 (zerosS 1)) →
      Calls Tryd.prog 9 #[.agg #[.int .i64 1, .int .i64 1, .slice A (sizeN 1 1) ka, .int .u64 0, .slice R 1 ra, .slice S 1 sa], .int .i64 0, .agg #[.int .i64 20, .int .i64 1, .int .i64 0, .int .u64 0], .int .i64 20, .slice none 0 0] w (AloneS w 1 1 A (sizeN 1 1) R S 1 svG1 (zerosS 1) (zerosS 1) 0 false 1) := fun A ka R ra S sa w h0 h1 h2 h3 => aloneN 1 (by decide) 0 (by decide) 1 20 1 0 0 (by decide) ⟨fun _ => by decide, fun h => absurd h (by decide)⟩ 20 (by decide) (sizeN 1 1) hsz (by decide) (newF 1 1) (zerosS 1) (zerosS 1) 1 (svG1, (zerosS 1)) 7 sv_run1 (by decide) A ka R ra S sa w h0 h1 h2 h3
  have C2 : ∀ (A : Option Addr) (ka : Nat) (R : Option Addr) (ra : Nat) (S : Option Addr) (sa : Nat) (w : World), Hid (Tab w) → Hid (AtW w A (sizeN 1 1) svG1) → Hid (StmsAt w R 1 (zerosS 1)) → Hid (StmsAt w S 1 (zerosS 1)) →
      Calls Tryd.prog 9 #[.agg #[.int .i64 1, .int .i64 1, .slice A (sizeN 1 1) ka, .int .u64 0, .slice R 1 ra, .slice S 1 sa], .int .i64 0, .agg #[.int .i64 7, .int .i64 1, .int .i64 1, .int .u64 0], .int .i64 20, .slice none 0 0] w (AloneS w 1 1 A (sizeN 1 1) R S 1 svG2 svR (zerosS 1) 0 true 0) := fun A ka R ra S sa w h0 h1 h2 h3 => aloneN 1 (by decide) 0 (by decide) 1 7 1 1 0 (by decide) ⟨fun _ => by decide, fun _ => by decide⟩ 20 (by decide) (sizeN 1 1) hsz (by decide) svG1 (zerosS 1) (zerosS 1) 1 (svG2, svR) 9 sv_run2 (by decide) A ka R ra S sa w h0 h1 h2 h3
  have C3 : ∀ (A : Option Addr) (ka : Nat) (R : Option Addr) (ra : Nat) (S : Option Addr) (sa : Nat) (w : World), Hid (Tab w) → Hid (AtW w A (sizeN 1 1) svG2) → Hid (StmsAt w R 1 svR) → Hid (StmsAt w S 1 (zerosS 1)) →
      Calls Tryd.prog 9 #[.agg #[.int .i64 1, .int .i64 1, .slice A (sizeN 1 1) ka, .int .u64 0, .slice R 1 ra, .slice S 1 sa], .int .i64 0, .agg #[.int .i64 7, .int .i64 1, .int .i64 1, .int .u64 0], .int .i64 20, .slice none 0 0] w (AloneS w 1 1 A (sizeN 1 1) R S 1 svG2 svR (zerosS 1) 0 true 0) := fun A ka R ra S sa w h0 h1 h2 h3 => aloneN 1 (by decide) 0 (by decide) 1 7 1 1 0 (by decide) ⟨fun _ => by decide, fun _ => by decide⟩ 20 (by decide) (sizeN 1 1) hsz (by decide) svG2 svR (zerosS 1) 1 (svG2, svR) 1 sv_run3 (by decide) A ka R ra S sa w h0 h1 h2 h3
  have C4 : ∀ (A : Option Addr) (ka : Nat) (R : Option Addr) (ra : Nat) (S : Option Addr) (sa : Nat) (w : World), Hid (Tab w) → Hid (AtW w A (sizeN 1 1) svG2) → Hid (StmsAt w R 1 svR) → Hid (StmsAt w S 1 (zerosS 1)) →
      Calls Tryd.prog 9 #[.agg #[.int .i64 1, .int .i64 1, .slice A (sizeN 1 1) ka, .int .u64 0, .slice R 1 ra, .slice S 1 sa], .int .i64 0, .agg #[.int .i64 22, .int .i64 1, .int .i64 0, .int .u64 1], .int .i64 20, .slice none 0 0] w (AloneS w 1 1 A (sizeN 1 1) R S 1 svG2 svR (zerosS 1) 0 true 0) := fun A ka R ra S sa w h0 h1 h2 h3 => aloneN 1 (by decide) 0 (by decide) 1 22 1 0 1 (by decide) ⟨fun _ => by decide, fun h => absurd h (by decide)⟩ 20 (by decide) (sizeN 1 1) hsz (by decide) svG2 svR (zerosS 1) 1 (svG2, svR) 2 sv_run4 (by decide) A ka R ra S sa w h0 h1 h2 h3
  have hmay : svE.mayB = true := by decide
  have hsp := split_data svE hmay
  obtain ⟨nd, hnd⟩ : ∃ m, (dataN svE).length = m := ⟨_, rfl⟩
  have hdl := data_len svE
  have hr0 : svR = [⟨dataN svE, ((dataN svE).length : Int)⟩] := by
    unfold svR Prd.putR zerosS Stm.zero
    simp
  have hsl : (splitN (dataN svE)).length = 1 := by rw [hsp]; rfl
  clear hsz hmay
  generalize dataN svE = dd at *
  rw [hr0] at C2 C3 C4
  clear hr0 hsp
  generalize newF 1 1 = G0 at *
  generalize svG1 = G1 at *
  generalize svG2 = G2 at *
  generalize sizeN 1 1 = n at *
  have HND := Lib.hid hnd
  have HDL := Lib.hid hdl
  have HSL := Lib.hid hsl
  clear hdl hnd hsl
  have HT := HTab
  go_enter Tryd.func7, Tryd.ntmps7
  go_wp2_with fail
  (with_reducible refine (HN _).mono ?_)
  clear HN
  rintro e w0 ⟨A0, ka0, R0, ra0, S0, sa0, rfl, ha, hs0, hs1, hb, _⟩
  go_upto_region 2 with fail
  have W0 := Lib.hid (WdAt.made0 (t := 1) (c := 1) (k := ka0) (r := 0) (ra := ra0) (sa := sa0) w0 33 ha hs0 hs1)
  have BB := Lib.hid (hb.trans ((al_below w0 (.cells #[.int .i64 1, .int .i64 1, .slice A0 n ka0, .int .u64 0, .slice R0 1 ra0, .slice S0 1 sa0] 33)).mono hb.size))
  clear ha hs0 hs1 hb
  generalize w0.alloc (.cells #[.int .i64 1, .int .i64 1, .slice A0 n ka0, .int .u64 0, .slice R0 1 ra0, .slice S0 1 sa0] 33) = x0 at W0 BB ⊢
  generalize w0.heap.size = b0 at W0 ⊢
  have HT0 := Tab.later HT BB.out
  obtain ⟨c0, c1, c2, c3, c4, c5⟩ := W0.out.cells
  go_wp2_with fail
  (with_reducible refine (C1 A0 ka0 R0 ra0 S0 sa0 _ HT0 W0.out.gA W0.out.g0 W0.out.g1).mono ?_)
  clear c0 c1 c2 c3 c4 c5 C1
  rintro e w1 ⟨A1, ka1, R1, ra1, S1, sa1, rfl, ha, hs0, hs1, hb, hP⟩
  go_upto_region 3 with fail
  have hbx : Below w1.heap.size w1 ((w1.alloc (.cells #[.int .i64 1, .int .i64 1, .slice A1 n ka1, .int .u64 0, .slice R1 1 ra1, .slice S1 1 sa1] 33)).alloc (.cells #[.int .i64 0, .bool false, .int .i64 0, .int .u64 1, .slice none 0 0] 38)) := below_pair _ _ _
  have W1 := Lib.hid (WdAt.made (t := 1) (c := 1) (k := ka1) (r := 0) (ra := ra1) (sa := sa1) w1 (.cells #[.int .i64 0, .bool false, .int .i64 0, .int .u64 1, .slice none 0 0] 38) 33 ha hs0 hs1)
  have O1 := Lib.hid (VarAt.made1 w1 (.cells #[.int .i64 1, .int .i64 1, .slice A1 n ka1, .int .u64 0, .slice R1 1 ra1, .slice S1 1 sa1] 33) #[.int .i64 0, .bool false, .int .i64 0, .int .u64 1, .slice none 0 0] 38)
  have HBN := Lib.hid (hb.trans (hbx.mono hb.size))
  generalize (w1.alloc (.cells #[.int .i64 1, .int .i64 1, .slice A1 n ka1, .int .u64 0, .slice R1 1 ra1, .slice S1 1 sa1] 33)).alloc (.cells #[.int .i64 0, .bool false, .int .i64 0, .int .u64 1, .slice none 0 0] 38) = x1 at hbx HBN W1 O1 ⊢
  clear ha hs0 hs1 hb hP hbx
  obtain ⟨b1, hb1⟩ : ∃ b, w1.heap.size = b := ⟨_, rfl⟩
  rw [hb1] at W1 O1 ⊢
  clear hb1
  have HT1 := Tab.later HT0 HBN.out
  have BBn := Lib.hid (BB.out.trans (HBN.out.mono BB.out.size)); clear BB; have BB := BBn; clear BBn
  have W0n := Lib.hid (W0.out.later HBN.out); clear W0; have W0 := W0n; clear W0n
  clear HBN
  obtain ⟨c0, c1, c2, c3, c4, c5⟩ := W1.out.cells
  go_wp2_with fail
  (with_reducible refine (C2 A1 ka1 R1 ra1 S1 sa1 _ HT1 W1.out.gA W1.out.g0 W1.out.g1).mono ?_)
  clear c0 c1 c2 c3 c4 c5 C2 W0
  rintro e w2 ⟨A2, ka2, R2, ra2, S2, sa2, rfl, ha, hs0, hs1, hb, hP⟩
  go_upto_region 4 with fail
  have hbx : Below w2.heap.size w2 ((w2.alloc (.cells #[.int .i64 1, .int .i64 1, .slice A2 n ka2, .int .u64 0, .slice R2 1 ra2, .slice S2 1 sa2] 33)).alloc (.cells #[.int .i64 0, .bool true, .int .i64 0, .int .u64 0, .slice none 0 0] 38)) := below_pair _ _ _
  have W2 := Lib.hid (WdAt.made (t := 1) (c := 1) (k := ka2) (r := 0) (ra := ra2) (sa := sa2) w2 (.cells #[.int .i64 0, .bool true, .int .i64 0, .int .u64 0, .slice none 0 0] 38) 33 ha hs0 hs1)
  have O2 := Lib.hid (VarAt.made1 w2 (.cells #[.int .i64 1, .int .i64 1, .slice A2 n ka2, .int .u64 0, .slice R2 1 ra2, .slice S2 1 sa2] 33) #[.int .i64 0, .bool true, .int .i64 0, .int .u64 0, .slice none 0 0] 38)
  have HBN := Lib.hid (hb.trans (hbx.mono hb.size))
  generalize (w2.alloc (.cells #[.int .i64 1, .int .i64 1, .slice A2 n ka2, .int .u64 0, .slice R2 1 ra2, .slice S2 1 sa2] 33)).alloc (.cells #[.int .i64 0, .bool true, .int .i64 0, .int .u64 0, .slice none 0 0] 38) = x2 at hbx HBN W2 O2 ⊢
  clear ha hs0 hs1 hb hP hbx
  obtain ⟨b2, hb2⟩ : ∃ b, w2.heap.size = b := ⟨_, rfl⟩
  rw [hb2] at W2 O2 ⊢
  clear hb2
  have HT2 := Tab.later HT1 HBN.out
  have BBn := Lib.hid (BB.out.trans (HBN.out.mono BB.out.size)); clear BB; have BB := BBn; clear BBn
  have O1n := Lib.hid (O1.out.below HBN.out); clear O1; have O1 := O1n; clear O1n
  have W1n := Lib.hid (W1.out.later HBN.out); clear W1; have W1 := W1n; clear W1n
  clear HBN
  obtain ⟨c0, c1, c2, c3, c4, c5⟩ := W2.out.cells
  go_wp2_with fail
  (with_reducible refine (C3 A2 ka2 R2 ra2 S2 sa2 _ HT2 W2.out.gA W2.out.g0 W2.out.g1).mono ?_)
  clear c0 c1 c2 c3 c4 c5 C3 W1
  rintro e w3 ⟨A3, ka3, R3, ra3, S3, sa3, rfl, ha, hs0, hs1, hb, hP⟩
  go_upto_region 5 with fail
  have hbx : Below w3.heap.size w3 ((w3.alloc (.cells #[.int .i64 1, .int .i64 1, .slice A3 n ka3, .int .u64 0, .slice R3 1 ra3, .slice S3 1 sa3] 33)).alloc (.cells #[.int .i64 0, .bool true, .int .i64 0, .int .u64 0, .slice none 0 0] 38)) := below_pair _ _ _
  have W3 := Lib.hid (WdAt.made (t := 1) (c := 1) (k := ka3) (r := 0) (ra := ra3) (sa := sa3) w3 (.cells #[.int .i64 0, .bool true, .int .i64 0, .int .u64 0, .slice none 0 0] 38) 33 ha hs0 hs1)
  have O3 := Lib.hid (VarAt.made1 w3 (.cells #[.int .i64 1, .int .i64 1, .slice A3 n ka3, .int .u64 0, .slice R3 1 ra3, .slice S3 1 sa3] 33) #[.int .i64 0, .bool true, .int .i64 0, .int .u64 0, .slice none 0 0] 38)
  have HBN := Lib.hid (hb.trans (hbx.mono hb.size))
  generalize (w3.alloc (.cells #[.int .i64 1, .int .i64 1, .slice A3 n ka3, .int .u64 0, .slice R3 1 ra3, .slice S3 1 sa3] 33)).alloc (.cells #[.int .i64 0, .bool true, .int .i64 0, .int .u64 0, .slice none 0 0] 38) = x3 at hbx HBN W3 O3 ⊢
  clear ha hs0 hs1 hb hP hbx
  obtain ⟨b3, hb3⟩ : ∃ b, w3.heap.size = b := ⟨_, rfl⟩
  rw [hb3] at W3 O3 ⊢
  clear hb3
  have HT3 := Tab.later HT2 HBN.out
  have BBn := Lib.hid (BB.out.trans (HBN.out.mono BB.out.size)); clear BB; have BB := BBn; clear BBn
  have O1n := Lib.hid (O1.out.below HBN.out); clear O1; have O1 := O1n; clear O1n
  have O2n := Lib.hid (O2.out.below HBN.out); clear O2; have O2 := O2n; clear O2n
  have W2n := Lib.hid (W2.out.later HBN.out); clear W2; have W2 := W2n; clear W2n
  clear HBN
  obtain ⟨c0, c1, c2, c3, c4, c5⟩ := W2.out.cells
  go_wp2_with fail
  (with_reducible refine (C4 A2 ka2 R2 ra2 S2 sa2 _ HT3 W2.out.gA W2.out.g0 W2.out.g1).mono ?_)
  clear c0 c1 c2 c3 c4 c5 C4
  rintro e w4 ⟨A4, ka4, R4, ra4, S4, sa4, rfl, ha, hs0, hs1, hb, hP⟩
  go_upto_region 6 with fail
  have hbx : Below w4.heap.size w4 ((w4.alloc (.cells #[.int .i64 1, .int .i64 1, .slice A4 n ka4, .int .u64 0, .slice R4 1 ra4, .slice S4 1 sa4] 33)).alloc (.cells #[.int .i64 0, .bool true, .int .i64 0, .int .u64 0, .slice none 0 0] 38)) := below_pair _ _ _
  have W4 := Lib.hid (WdAt.made (t := 1) (c := 1) (k := ka4) (r := 0) (ra := ra4) (sa := sa4) w4 (.cells #[.int .i64 0, .bool true, .int .i64 0, .int .u64 0, .slice none 0 0] 38) 33 ha hs0 hs1)
  have O4 := Lib.hid (VarAt.made1 w4 (.cells #[.int .i64 1, .int .i64 1, .slice A4 n ka4, .int .u64 0, .slice R4 1 ra4, .slice S4 1 sa4] 33) #[.int .i64 0, .bool true, .int .i64 0, .int .u64 0, .slice none 0 0] 38)
  have HBN := Lib.hid (hb.trans (hbx.mono hb.size))
  generalize (w4.alloc (.cells #[.int .i64 1, .int .i64 1, .slice A4 n ka4, .int .u64 0, .slice R4 1 ra4, .slice S4 1 sa4] 33)).alloc (.cells #[.int .i64 0, .bool true, .int .i64 0, .int .u64 0, .slice none 0 0] 38) = x4 at hbx HBN W4 O4 ⊢
  clear ha hs0 hs1 hb hP hbx
  obtain ⟨b4, hb4⟩ : ∃ b, w4.heap.size = b := ⟨_, rfl⟩
  rw [hb4] at W4 O4 ⊢
  clear hb4
  have HT4 := Tab.later HT3 HBN.out
  have BBn := Lib.hid (BB.out.trans (HBN.out.mono BB.out.size)); clear BB; have BB := BBn; clear BBn
  have O1n := Lib.hid (O1.out.below HBN.out); clear O1; have O1 := O1n; clear O1n
  have O2n := Lib.hid (O2.out.below HBN.out); clear O2; have O2 := O2n; clear O2n
  have O3n := Lib.hid (O3.out.below HBN.out); clear O3; have O3 := O3n; clear O3n
  have W2n := Lib.hid (W2.out.later HBN.out); clear W2; have W2 := W2n; clear W2n
  have W3n := Lib.hid (W3.out.later HBN.out); clear W3; have W3 := W3n; clear W3n
  clear HBN
  obtain ⟨c0, c1, c2, c3, c4, c5⟩ := W2.out.cells
  obtain ⟨d0, d1, d2, d3, d4, d5⟩ := W3.out.cells
  obtain ⟨g2, f2, rfl, hg2, hc2⟩ := W2.out.2.2.1.2.2 (by decide)
  obtain ⟨g3, f3, rfl, hg3, hc3⟩ := W3.out.2.2.1.2.2 (by decide)
  obtain ⟨D2, q2, z20, z21, z22, z23, z24, z25⟩ := hc2 0 _ rfl
  obtain ⟨D3, q3, z30, z31, z32, z33, z34, z35⟩ := hc3 0 _ rfl
  dsimp only at z20 z21 z22 z23 z24 z25 z30 z31 z32 z33 z34 z35
  rw [HND.out] at z20 z21 z22 z23 z24 z25 z30 z31 z32 z33 z34 z35
  rw [show f2 + 0 * 2 = f2 by omega] at z20 z24
  rw [show f3 + 0 * 2 = f3 by omega] at z30 z34
  have HAT2 := Lib.hid z23
  clear z22 z23 z25 z31 z32 z33 z35 hc2 hc3
  go_upto_region 9 with fail
  have hb9 : Below x4.heap.size x4 (x4.alloc (.cells #[.slice D2 nd q2, .int .i64 (nd : Int)] 50)) := al_below _ _
  have V9 := Lib.hid (VarAt.made x4 #[.slice D2 nd q2, .int .i64 (nd : Int)] 50)
  generalize x4.alloc (.cells #[.slice D2 nd q2, .int .i64 (nd : Int)] 50) = x9 at hb9 V9 ⊢
  have HAT9 := Lib.hid (HAT2.out.below hb9 (Nat.le_refl _))
  obtain ⟨b9, hb9e⟩ : ∃ b, x4.heap.size = b := ⟨_, rfl⟩
  rw [hb9e] at V9 ⊢
  clear hb9e
  obtain ⟨_, e0, e1, _, _⟩ := V9.out.two
  go_wp2_with fail
  (with_reducible refine (refSplit_at D2 nd q2 dd (by omega) (by have := HND.out; have := HDL.out; omega) _ HAT9).mono ?_)
  rintro e w10 ⟨v10, rfl, hO10, hb10⟩
  have hb49 : Below x4.heap.size x4 w10 := (hb9.trans (hb10.mono hb9.size))
  obtain ⟨A10, cap10, rfl, _, _⟩ := hO10.atC
  rw [HSL.out]
  clear hO10 c0 c1 c2 c3 c4 c5 d0 d1 d2 d3 d4 d5 e0 e1
  obtain ⟨c0, c1, c2, c3, c4, c5⟩ := (W2.out.later hb49).cells
  obtain ⟨d0, d1, d2, d3, d4, d5⟩ := (W3.out.later hb49).cells
  obtain ⟨_, e0, e1, _, _⟩ := (V9.out.below hb10).two
  obtain ⟨_, ⟨o0, o1, o2, o3, o4⟩, _⟩ := (O1.out.below hb49).five
  obtain ⟨_, ⟨p0, p1, p2, p3, p4⟩, _⟩ := (O2.out.below hb49).five
  obtain ⟨_, ⟨r0, r1, r2, r3, r4⟩, _⟩ := (O3.out.below hb49).five
  obtain ⟨_, ⟨s0, s1, s2, s3, s4⟩, _⟩ := (O4.out.below hb49).five
  have y30 := (hb49.cell hg3).trans z30
  have y34 := (hb49.cell hg3).trans z34
  have BBn := Lib.hid (BB.out.trans (hb49.mono BB.out.size)); clear BB; have BB := BBn; clear BBn
  clear o0 o1 o2 o4 p0 p2 p3 p4 r0 r2 r3 r4 s0 s2 s3 s4 d0 d1 d2 d3 d5 z30 z34 z20 z24 c0 c1 c2 c3 c4 c5
  go_wp2_with fail
  go_quiet (fail)
  go_wp2_with fail
  go_ret
  exact ⟨rfl, below_draw BB.out _⟩
end Go.Proofs.YtdbomlclkhkinaaDoor
