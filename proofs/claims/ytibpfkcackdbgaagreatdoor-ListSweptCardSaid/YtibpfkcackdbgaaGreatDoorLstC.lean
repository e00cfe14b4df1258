/- LstC -/
import Derived.Test.YtibpfkcackdbgaaGreatDoorLstNext
import Derived.Test.YtibpfkcackdbgaaGreatDoorAccC
import Derived.Test.YtibpfkcackdbgaaGreatDoorPolB
import Derived.Test.YtibpfkcackdbgaaGreatDoorSmal
import Derived.Deep.Cut
namespace Go.Proofs.YtibpfkcackdbgaaGreatDoor
open Go.ChangeShapes Go.WideShapes Go.ChangeAt Go.RowKit Go.BigFrame
set_option linter.unusedVariables false
set_option maxRecDepth 100000
abbrev WS := (Nat → Nat) × List Stm
def stmAt (W : WS) (me : Nat) : Stm := W.2.getD me ⟨[], 0⟩
def stepS (n me : Nat) (K i : Int) (a b : Nat) (d : List Nat) (fa : Bool) (W : WS) : Option (Nat × Bool × WS) :=
 if 0 ≤ K ∧ K < 5 ∧ 0 ≤ i ∧ i < n then some (toldN K.toNat a b (W.1 i.toNat), false, (setW W.1 i.toNat (isN K.toNat a b (W.1 i.toNat)), W.2))
 else if (K = 5 ∨ K = 6) ∧ i = 0 ∧ a = 0 ∧ b = 0 ∧ me < W.2.length ∧ (stmAt W me).bytes.length + d.length ≤ 100000 then
  some (0, fa, if fa = true then W else (W.1, W.2.set me (if K = 5 then (stmAt W me).app d else (stmAt W me).syn)))
 else none
namespace Prd
def aloneD (p : Prd) (n me : Nat) (fail : Nat → Bool) : Nat → List Res → WS → Option (Nat × WS)
 | 0, _, _ => none
 | f + 1, log, W =>
  match p.run tapeTellD log with
  | .bad => none
  | .done r _ => some (r, W)
  | .left K i a b d =>
   match stepS n me K i a b d (fail log.length) W with
   | none => none
   | some (N, fl, W') => aloneD p n me fail f (log ++ [⟨N, [], fl⟩]) W'
def wTell (n me : Nat) (fail : Nat → Bool) (s : WS × Nat) (k i : Int) (a b : Nat) (d : List Nat) : Tell (WS × Nat) :=
 match stepS n me k i a b d (fail s.2) s.1 with
 | none => .bad
 | some (N, fl, W') => .told (toldR k ⟨N, [], fl⟩) (W', s.2 + 1)
inductive AfterD : Prd → List Res → Prd → Prop
 | nil (p : Prd) : AfterD p [] p
 | cons {k i : Int} {a b : Nat} {d : List Nat} {f : Nat → Prd} {r : Res} {log : List Res} {p' : Prd} (h : AfterD (f (toldR k r)) log p') : AfterD (ask k i a b d f) (r :: log) p'
theorem AfterD.snoc {p : Prd} {log : List Res} {k i : Int} {a b : Nat} {d : List Nat} {f : Nat → Prd} (h : AfterD p log (ask k i a b d f)) (r : Res) : AfterD p (log ++ [r]) (f (toldR k r)) := by
 generalize hq : ask k i a b d f = q at h
 induction h with
 | nil p => subst hq; exact .cons (.nil _)
 | cons h ih => exact .cons (ih hq)
theorem AfterD.run {p p' : Prd} {log : List Res} (h : AfterD p log p') (l : List Res) : p.run tapeTellD (log ++ l) = p'.run tapeTellD l := by
 induction h with
 | nil p => rfl
 | cons h ih =>
  simp only [List.cons_append, Prd.run, tapeTellD]
  exact ih
theorem alone_world (p : Prd) (n me : Nat) (fail : Nat → Bool) : ∀ (p' : Prd) (log : List Res) (W W' : WS) (d j f : Nat), AfterD p log p' → p'.run (wTell n me fail) (W, log.length) = .done d (W', j) → j < log.length + f → aloneD p n me fail f log W = some (d, W')
 | ret d', log, W, W', d, j, f, ha, hr, hf => by
  cases hr
  cases f with
  | zero => omega
  | succ f =>
   have h := ha.run []
   rw [List.append_nil] at h
   unfold aloneD
   rw [h]
   rfl
 | bad, log, W, W', d, j, f, ha, hr, hf => by cases hr
 | ask k i a b dd g, log, W, W', d, j, f, ha, hr, hf => by
  simp only [run] at hr
  unfold wTell at hr
  simp only [] at hr
  cases hs : stepS n me k i a b dd (fail log.length) W with
  | none => rw [hs] at hr; cases hr
  | some q =>
   obtain ⟨N, fl, W2⟩ := q
   rw [hs] at hr
   have hmore : ∀ (p : Prd) (W : WS) (i0 : Nat), p.run (wTell n me fail) (W, i0) = .done d (W', j) → i0 ≤ j := by
    intro p
    induction p with
    | ret d => intro W i0 h; cases h; exact Nat.le_refl _
    | bad => intro W i0 h; cases h
    | ask k i a b dd g ih =>
     intro W i0 h
     simp only [run] at h
     unfold wTell at h
     simp only [] at h
     cases hs : stepS n me k i a b dd (fail i0) W with
     | none => rw [hs] at h; cases h
     | some q =>
      rw [hs] at h
      have := ih _ _ _ h
      omega
   have hj := hmore _ _ _ hr
   cases f with
   | zero => omega
   | succ f =>
    have h := ha.run []
    rw [List.append_nil] at h
    unfold aloneD
    rw [h]
    simp only [run, tapeTellD, hs]
    refine alone_world p n me fail _ (log ++ [⟨N, [], fl⟩]) W2 W' d j f (ha.snoc ⟨N, [], fl⟩) ?_ (by rw [List.length_append]; simp; omega)
    rw [List.length_append]
    exact hr
theorem alone_ofW {p : Prd} {n me : Nat} {fail : Nat → Bool} {W W' : WS} {d j f : Nat} (h : p.run (wTell n me fail) (W, 0) = .done d (W', j)) (hf : j < f) : aloneD p n me fail f [] W = some (d, W') :=
 alone_world p n me fail p [] W W' d j f (.nil p) h (by simpa using hf)
inductive ExtD : Prd → Prd → Prop
 | bad (q : Prd) : ExtD .bad q
 | ret (d : Nat) : ExtD (.ret d) (.ret d)
 | ask (k i : Int) (a b : Nat) (d : List Nat) (f g : Nat → Prd) (h : ∀ x, ExtD (f x) (g x)) : ExtD (.ask k i a b d f) (.ask k i a b d g)
theorem ExtD.refl : ∀ p : Prd, ExtD p p
 | .bad => .bad _
 | .ret d => .ret d
 | .ask k i a b d f => .ask k i a b d f f fun x => ExtD.refl (f x)
theorem ExtD.bind {p p' : Prd} {q q' : Nat → Prd} (h : ExtD p p') (hq : ∀ d, ExtD (q d) (q' d)) : ExtD (p.bind q) (p'.bind q') := by
 induction h with
 | bad p => exact .bad _
 | ret d => exact hq d
 | ask k i a b d f g h ih => exact .ask _ _ _ _ _ _ _ ih
theorem ExtD.run {S : Type} {T : S → Int → Int → Nat → Nat → List Nat → Tell S} {p p' : Prd} (h : ExtD p p') (s : S) (hb : p.run T s ≠ .bad) : p.run T s = p'.run T s := by
 induction h generalizing s with
 | bad p => exact absurd rfl hb
 | ret d => rfl
 | ask k i a b d f g h ih =>
  simp only [Prd.run] at hb ⊢
  cases hT : T s k i a b d with
  | bad => rfl
  | left => rfl
  | told n s' =>
   rw [hT] at hb
   exact ih _ _ hb
theorem ext_raise (F b : Nat) (ov : Nat → Bool) : ∀ {n m : Nat}, n ≤ m → ExtD (raise F b ov n) (raise F b ov m)
 | 0, m, _ => .bad _
 | n + 1, 0, h => by omega
 | n + 1, m + 1, h => by
  unfold raise
  refine .ask _ _ _ _ _ _ _ fun g => ?_
  split
  ·exact ExtD.refl _
  ·refine .ask _ _ _ _ _ _ _ fun d => ?_
   split
   ·exact ExtD.refl _
   ·exact ext_raise F b ov (by omega)
theorem ext_saved (t r b s : Nat) (d : List Nat) {n m : Nat} (h : n ≤ m) : ExtD (saved t r b s n d) (saved t r b s m d) := (ExtD.refl _).bind fun x => by
 split
 ·exact (ext_raise _ _ _ h).bind fun _ => ExtD.refl _
 ·exact ExtD.refl _
theorem ext_rest (t r b f : Nat) {n m : Nat} (h : n ≤ m) : ExtD (rest t r b f n) (rest t r b f m) := by
 unfold rest
 split
 ·exact ExtD.refl _
 ·split
  ·exact ext_saved _ _ _ _ _ h
  ·exact .ask _ _ _ _ _ _ _ fun y => .ask _ _ _ _ _ _ _ fun u => .ask _ _ _ _ _ _ _ fun v => .ask _ _ _ _ _ _ _ fun x => ext_saved _ _ _ _ _ h
end Prd
theorem up_retireL (t r l : Nat) : ∀ {n m : Nat}, n ≤ m → Prd.ExtD (Prg.retireL t r l n).up (Prg.retireL t r l m).up
 | 0, m, _ => .bad _
 | n + 1, 0, h => by omega
 | n + 1, m + 1, h => by
  refine .ask _ _ _ _ _ _ _ fun w => .ask _ _ _ _ _ _ _ fun _ => .ask _ _ _ _ _ _ _ fun d => ?_
  show Prd.ExtD (if d = 1 then Prg.ret 0 else Prg.retireL t r l n).up (if d = 1 then Prg.ret 0 else Prg.retireL t r l m).up
  by_cases hd : d = 1
  ·rw [if_pos hd, if_pos hd]; exact Prd.ExtD.refl _
  ·rw [if_neg hd, if_neg hd]; exact up_retireL t r l (by omega)
theorem up_retire (t r : Nat) {n m : Nat} (h : n ≤ m) : Prd.ExtD (Prg.retire t r n).up (Prg.retire t r m).up := .ask _ _ _ _ _ _ _ fun _ => up_retireL t r _ h
namespace Prd
theorem ext_save (t r b : Nat) {n m : Nat} (h : n ≤ m) : ExtD (save t r b n) (save t r b m) := .ask _ _ _ _ _ _ _ fun f => ext_rest _ _ _ _ h
theorem ext_takeOut (t p x w : Nat) {n m : Nat} (h : n ≤ m) : ExtD (takeOut t p x w n) (takeOut t p x w m) := (ext_save t x 2 h).bind fun s => by
 split
 ·refine .ask _ _ _ _ _ _ _ fun d => ?_
  split
  ·exact (up_retire t x h).bind fun _ => ExtD.refl _
  ·exact ExtD.refl _
 ·exact ExtD.refl _
theorem ext_walk (t : Nat) (l1 l2 : Nat → Nat → Prd) (hl : ∀ x w, ExtD (l1 x w) (l2 x w)) {n m : Nat} (h : n ≤ m) : ∀ {f g : Nat} (p x : Nat), f ≤ g → ExtD (walk t l1 n f p x) (walk t l2 m g p x)
 | 0, _, _, _, _ => .bad _
 | f + 1, 0, _, _, h => by omega
 | f + 1, g + 1, p, x, hf => by
  unfold walk
  split
  ·exact ExtD.refl _
  ·refine .ask _ _ _ _ _ _ _ fun w => ?_
   split
   ·refine (ext_takeOut t p x w h).bind fun d => ?_
    split
    ·exact ExtD.refl _
    ·split
     ·exact ext_walk t l1 l2 hl h _ _ (by omega)
     ·exact .ask _ _ _ _ _ _ _ fun y => ext_walk t l1 l2 hl h _ _ (by omega)
   ·refine (hl x w).bind fun d => ?_
    split
    ·exact ext_walk t l1 l2 hl h _ _ (by omega)
    ·split
     ·exact ext_walk t l1 l2 hl h _ _ (by omega)
     ·exact ExtD.refl _
theorem ext_start (t : Nat) (l1 l2 : Nat → Nat → Prd) (hl : ∀ x w, ExtD (l1 x w) (l2 x w)) {n m : Nat} (h : n ≤ m) : ExtD (start t l1 n n) (start t l2 m m) := .ask _ _ _ _ _ _ _ fun _ => ext_walk t l1 l2 hl h _ _ h
theorem ext_lookW (t st x w : Nat) {n m : Nat} (h : n ≤ m) : ExtD (lookW t st n x w) (lookW t st m x w) := (ExtD.refl _).bind fun e => by
 split
 ·refine (ExtD.refl _).bind fun d => ?_
  split
  ·exact (ext_raise _ _ _ h).bind fun _ => ExtD.refl _
  ·exact ExtD.refl _
 ·exact ExtD.refl _
theorem ext_seekL (t k : Nat) : ∀ {f g : Nat} (x : Nat), f ≤ g → ExtD (seekL t k f x) (seekL t k g x)
 | 0, _, _, _ => .bad _
 | f + 1, 0, _, h => by omega
 | f + 1, g + 1, x, h => by
  unfold seekL
  split
  ·exact ExtD.refl _
  ·refine .ask _ _ _ _ _ _ _ fun a => ?_
   split
   ·exact ExtD.refl _
   ·exact .ask _ _ _ _ _ _ _ fun w => ext_seekL t k _ (by omega)
end Prd
theorem lPrg_ext (t : Nat) (k u v : Int) (x : Nat) {n m : Nat} (h : n ≤ m) : Prd.ExtD (lPrg t k u v x n) (lPrg t k u v x m) := by
 unfold lPrg
 split
 ·exact Prd.ext_start _ _ _ (fun _ _ => Prd.ExtD.refl _) h
 ·split
  ·exact .ask _ _ _ _ _ _ _ fun w => Prd.ext_seekL _ _ _ h
  ·split
   ·exact Prd.ExtD.refl _
   ·split
    ·exact Prd.ExtD.refl _
    ·split
     ·exact Prd.ext_start _ _ _ (fun x w => Prd.ext_lookW _ _ x w h) h
     ·exact Prd.ExtD.refl _
theorem lNextR_same {t : Nat} {k u v : Int} {x : Nat} {log : List Res} {m : Nat} (h : log.length < m) : lNextR t k u v x log = (lPrg t k u v x m).run tapeTellD log :=
 (lPrg_ext t k u v x (by omega)).run log (lNextR_ok t k u v x log)
namespace Prd
section
variable {n me : Nat} {fail : Nat → Bool} {W : WS} {j : Nat}
theorem run_mem {k i : Nat} (hk : k < 5) (hi : i < n) (hW : ∀ q, W.1 q < 18446744073709551616) (a b : Nat) (f : Nat → Prd) :
  (ask ((k : Nat) : Int) ((i : Nat) : Int) a b [] f).run (wTell n me fail) (W, j) = (f (toldN k a b (W.1 i))).run (wTell n me fail) ((setW W.1 i (isN k a b (W.1 i)), W.2), j + 1) := by
 have hs : stepS n me ((k : Nat) : Int) ((i : Nat) : Int) a b [] (fail j) W = some (toldN k a b (W.1 i), false, (setW W.1 i (isN k a b (W.1 i)), W.2)) := by
  unfold stepS
  rw [if_pos ⟨by omega, by omega, by omega, by omega⟩, Int.toNat_natCast, Int.toNat_natCast]
 have ht : toldR ((k : Nat) : Int) ⟨toldN k a b (W.1 i), [], false⟩ = toldN k a b (W.1 i) := by
  unfold toldR
  rw [if_pos (by omega)]
  exact Nat.mod_eq_of_lt (toldN_lt (b := b) (hW i))
 simp only [run, wTell, hs, ht]
theorem run_load {i : Nat} (hi : i < n) (hW : ∀ q, W.1 q < 18446744073709551616) (f : Nat → Prd) :
  (ask 0 ((i : Nat) : Int) 0 0 [] f).run (wTell n me fail) (W, j) = (f (W.1 i)).run (wTell n me fail) (W, j + 1) := by
 have h := run_mem (me := me) (fail := fail) (W := W) (j := j) (k := 0) (by decide) hi hW 0 0 f
 have e : setW W.1 i (isN 0 0 0 (W.1 i)) = W.1 := setW_self rfl
 rw [e] at h
 exact h
theorem run_store {i a : Nat} (hi : i < n) (hW : ∀ q, W.1 q < 18446744073709551616) (f : Nat → Prd) :
  (ask 1 ((i : Nat) : Int) a 0 [] f).run (wTell n me fail) (W, j) = (f 0).run (wTell n me fail) ((setW W.1 i a, W.2), j + 1) :=
 run_mem (me := me) (fail := fail) (W := W) (j := j) (k := 1) (by decide) hi hW a 0 f
theorem run_disk {k : Int} (hk : k = 5 ∨ k = 6) (hm : me < W.2.length) (d : List Nat) (hd : (stmAt W me).bytes.length + d.length ≤ 100000) (f : Nat → Prd) :
  (ask k 0 0 0 d f).run (wTell n me fail) (W, j) = (f (if fail j = true then 1 else 0)).run (wTell n me fail) ((if fail j = true then W else (W.1, W.2.set me (if k = 5 then (stmAt W me).app d else (stmAt W me).syn))), j + 1) := by
 have hs : stepS n me k 0 0 0 d (fail j) W = some (0, fail j, if fail j = true then W else (W.1, W.2.set me (if k = 5 then (stmAt W me).app d else (stmAt W me).syn))) := by
  unfold stepS
  rw [if_neg (by omega), if_pos ⟨hk, rfl, rfl, rfl, hm, hd⟩]
 have ht : toldR k ⟨0, [], fail j⟩ = if fail j = true then 1 else 0 := by
  unfold toldR
  rw [if_neg (by omega)]
 simp only [run, wTell, hs, ht]
theorem run_cas {i : Nat} (hi : i < n) (hW : ∀ q, W.1 q < 18446744073709551616) (b : Nat) (f : Nat → Prd) :
  (ask 2 ((i : Nat) : Int) (W.1 i) b [] f).run (wTell n me fail) (W, j) = (f 1).run (wTell n me fail) ((setW W.1 i b, W.2), j + 1) := by
 have h := run_mem (me := me) (fail := fail) (W := W) (j := j) (k := 2) (by decide) hi hW (W.1 i) b f
 have e1 : toldN 2 (W.1 i) b (W.1 i) = 1 := by unfold toldN; simp
 have e2 : isN 2 (W.1 i) b (W.1 i) = b := by unfold isN; simp
 rw [e1, e2] at h
 exact h
theorem raise_run {F b m : Nat} {ov : Nat → Bool} (hF : F < n) (hW : ∀ q, W.1 q < 18446744073709551616) (ho : ov (W.1 F) = false) :
  (raise F b ov (m + 1)).run (wTell n me fail) (W, j) = .done 0 ((setW W.1 F (W.1 F + b), W.2), j + 2) := by
 unfold raise
 rw [run_load hF hW, if_neg (by rw [ho]; decide), run_cas hF hW, if_pos rfl]
 rfl
def putR (me : Nat) (d : List Nat) (l : List Stm) : List Stm := l.set me ⟨(l.getD me ⟨[], 0⟩).bytes ++ d, (((l.getD me ⟨[], 0⟩).bytes ++ d).length : Int)⟩
theorem both_run {d : List Nat} (hm : me < W.2.length) (hd : (stmAt W me).bytes.length + d.length ≤ 100000) (h0 : fail j = false) (h1 : fail (j + 1) = false) :
  (both d).run (wTell n me fail) (W, j) = .done 1 ((W.1, putR me d W.2), j + 2) := by
 have e0 : stmAt (W.1, W.2.set me ((stmAt W me).app d)) me = (stmAt W me).app d := by
  unfold stmAt
  simp only [List.getD_eq_getElem?_getD, List.getElem?_set, hm]
  simp
 unfold both sync
 rw [run_disk (.inl rfl) hm d hd, h0]
 simp only [if_true, if_false, Bool.false_eq_true]
 rw [run_disk (.inr rfl) (by simp only [List.length_set]; exact hm) [] (by rw [e0]; unfold Stm.app; simp only [List.length_append, List.length_nil]; omega), h1]
 simp only [if_true, if_false, Bool.false_eq_true]
 rw [e0, if_neg (by decide), List.set_set]
 rfl
theorem saved_run {t r b s m : Nat} {d : List Nat} (hF : fieldN t r 2 < n) (hW : ∀ q, W.1 q < 18446744073709551616) (hm : me < W.2.length) (hd : (stmAt W me).bytes.length + d.length ≤ 100000) (h0 : fail j = false) (h1 : fail (j + 1) = false) (hs : stampN (W.1 (fieldN t r 2)) = s) (hh : hasF (W.1 (fieldN t r 2)) (b : Int) = false) :
  (saved t r b s (m + 1) d).run (wTell n me fail) (W, j) = .done 1 ((setW W.1 (fieldN t r 2) (W.1 (fieldN t r 2) + b), putR me d W.2), j + 4) := by
 unfold saved
 rw [run_bind, both_run hm hd h0 h1]
 simp only [RanD.next, if_true]
 rw [run_bind, raise_run hF (W := (W.1, putR me d W.2)) hW (by unfold over; rw [hh, hs]; simp)]
 rfl
def entW (t r b : Nat) (G : Nat → Nat) : Ent := if b = 2 then ⟨2, stampN (G (fieldN t r 2)), 0, 0, 0, 0⟩ else ⟨1, stampN (G (fieldN t r 2)), G (fieldN t r 1), G (fieldN t r 4), G (fieldN t r 5), G (fieldN t r 6)⟩
def loadsN (b : Nat) : Nat := if b = 2 then 0 else 4
theorem rest_has {t r b m : Nat} {f : Nat} (hh : hasF f (b : Int) = true) : (rest t r b f m).run (wTell n me fail) (W, j) = .done 1 (W, j) := by
 unfold rest
 rw [if_pos hh]
 rfl
theorem rest_saved {t r b m : Nat} (hn : fieldN t r 6 < n) (hW : ∀ q, W.1 q < 18446744073709551616) (hh : hasF (W.1 (fieldN t r 2)) (b : Int) = false) :
  (rest t r b (W.1 (fieldN t r 2)) m).run (wTell n me fail) (W, j) = (saved t r b (stampN (W.1 (fieldN t r 2))) m (dataN (entW t r b W.1))).run (wTell n me fail) (W, j + loadsN b) := by
 have hf : ∀ q, q ≤ 6 → fieldN t r q < n := fun q hq => by unfold fieldN at *; omega
 unfold rest entW loadsN
 rw [if_neg (by rw [hh]; decide)]
 by_cases hb : b = 2
 ·rw [if_pos hb, if_pos hb, if_pos hb]
  rfl
 ·rw [if_neg hb, if_neg hb, if_neg hb, run_load (hf 1 (by omega)) hW, run_load (hf 4 (by omega)) hW, run_load (hf 5 (by omega)) hW, run_load (hf 6 (by omega)) hW]
theorem save_run {t r b m : Nat} (hF : fieldN t r 2 < n) (hW : ∀ q, W.1 q < 18446744073709551616) :
  (save t r b m).run (wTell n me fail) (W, j) = (rest t r b (W.1 (fieldN t r 2)) m).run (wTell n me fail) (W, j + 1) := by
 unfold save
 rw [run_load hF hW]
end
end Prd
end Go.Proofs.YtibpfkcackdbgaaGreatDoor
namespace Go.Proofs.YtibpfkcackdbgaaGreatDoor
open Go.ChangeShapes Go.WideShapes Go.ChangeAt Go.RowKit Go.BigFrame Go.Deep
set_option linter.unusedVariables false
set_option maxRecDepth 100000
def NextS (K i : Int) (a b : Nat) (d : List Nat) (w : World) (e : Ending) (w' : World) : Prop :=
 ∃ D dc E ec, e = .returned (.tuple #[.agg #[.int .i64 K, .int .i64 i, .int .u64 (a : Int), .int .u64 (b : Int), .slice D d.length dc, .slice E 0 ec], .agg #[.int .i64 0, .bool false, .int .i64 0, .int .u64 0, .slice none 0 0], .bool false]) ∧ AccP w' (accD K i a b d) D dc E ec ∧ Below w.heap.size w w'
def DoS (w : World) (t c : Int) (A : Option Addr) (n : Nat) (R S : Option Addr) (m : Nat) (G : Nat → Nat) (l0 l1 : List Stm) (N : Nat) (fl : Bool) (e : Ending) (w' : World) : Prop :=
 ∃ A' ka R' ra S' sa X kx, e = .returned (.tuple #[.agg #[.int .i64 t, .int .i64 c, .slice A' n ka, .int .u64 0, .slice R' m ra, .slice S' m sa], .agg #[.int .u64 (N : Int), .slice X 0 kx, .bool fl]]) ∧ AtW w' A' n G ∧ StmsAt w' R' m l0 ∧ StmsAt w' S' m l1 ∧ Below w.heap.size w w' ∧
  ∀ P : Nat → Prop, (∀ b, w.heap.size ≤ b → P b) → OffW P A n → OffS P w R m → OffS P w S m → OffW P A' n ∧ OffS P w' R' m ∧ OffS P w' S' m
theorem DoS.of {w : World} {t c : Int} {A : Option Addr} {n : Nat} {R S : Option Addr} {m : Nat} {G : Nat → Nat} {l0 l1 : List Stm} {N : Nat} {fl : Bool} {e : Ending} {w' : World} (h : DoW w t c A n 0 R S m G l0 l1 N [] fl e w') : DoS w t c A n R S m G l0 l1 N fl e w' := by
 obtain ⟨A', ka', R', ra', S', sa', X, kx, rfl, h1, h2, h3, h4, h5, h6, h7⟩ := h
 exact ⟨A', ka', R', ra', S', sa', X, kx, rfl, h1, h2, h3, h6, fun P p0 p1 p2 p3 => ⟨(h7 P p0 p1 p2 p3).1, (h7 P p0 p1 p2 p3).2.1, (h7 P p0 p1 p2 p3).2.2.1⟩⟩
theorem stepS_lt {n me : Nat} {K i : Int} {a b : Nat} {d : List Nat} {fa : Bool} {W : WS} {N : Nat} {fl : Bool} {W' : WS} (h : stepS n me K i a b d fa W = some (N, fl, W')) (hW : ∀ q, W.1 q < 18446744073709551616) : N < 18446744073709551616 := by
 unfold stepS at h
 split at h
 ·cases h; exact toldN_lt (b := b) (hW _)
 ·split at h
  ·cases h; decide
  ·cases h
theorem doS (t c : Int) (A : Option Addr) (n ka : Nat) (G : Nat → Nat) (R S : Option Addr) (m ra sa : Nat) (l0 l1 : List Stm) (me : Nat) (hme : me < m) (hm8 : m ≤ 8) (K i : Int) (a b : Nat) (d : List Nat) (fa : Bool) (N : Nat) (fl : Bool) (W' : WS) (hn : n ≤ 1000000) (hs : stepS n me K i a b d fa (G, l0) = some (N, fl, W')) (D : Option Addr) (dc : Nat) (E : Option Addr) (ec : Nat) (x : World) (hx : AccP x (accD K i a b d) D dc E ec) (h0 : Hid (AtW x A n G)) (h1 : Hid (StmsAt x R m l0)) (h2 : Hid (StmsAt x S m l1)) :
  Calls Tryz.prog 34 #[.agg #[.int .i64 t, .int .i64 c, .slice A n ka, .int .u64 0, .slice R m ra, .slice S m sa], .int .i64 (me : Int), .agg #[.int .i64 K, .int .i64 i, .int .u64 (a : Int), .int .u64 (b : Int), .slice D d.length dc, .slice E 0 ec], .bool fa] x (DoS x t c A n R S m W'.1 W'.2 l1 N fl) := by
 unfold stepS at hs
 split at hs
 case isTrue hc =>
  cases hs
  obtain ⟨hk0, hk5, hi0, hin⟩ := hc
  obtain ⟨Kn, rfl⟩ : ∃ Kn : Nat, K = (Kn : Int) := ⟨K.toNat, by omega⟩
  obtain ⟨ix, rfl⟩ : ∃ ix : Nat, i = (ix : Int) := ⟨i.toNat, by omega⟩
  rw [Int.toNat_natCast, Int.toNat_natCast]
  exact (doWord t c A n ka G 0 R S m ra sa l0 l1 (me : Int) a b D d.length dc E 0 ec Kn ix (by omega) (by omega) hn h0.out.1 hx.a hx.b fa x h0 h1 h2).mono fun e w' h => DoS.of h
 case isFalse =>
  split at hs
  case isFalse => cases hs
  case isTrue hc =>
   cases hs
   obtain ⟨hk, rfl, rfl, rfl, hml, hd⟩ := hc
   have hlen : l0.length = m := h1.out.1
   have hat : l0[me]? = some (stmAt (G, l0) me) := by
    unfold stmAt
    rw [List.getD_eq_getElem?_getD, List.getElem?_eq_getElem (by omega)]
    rfl
   cases fa with
   | true =>
    rw [if_pos rfl]
    exact (do_fails t c A n ka G 0 R S m ra sa l0 l1 (me : Int) K 0 0 0 D d.length dc E 0 ec (by rcases hk with rfl | rfl <;> rfl) x h0 h1 h2).mono fun e w' h => DoS.of h
   | false =>
    rw [if_neg (by decide)]
    have hD := Lib.hid hx.d
    rcases hk with rfl | rfl
    ·rw [if_pos rfl]
     refine (do_disk t c A n ka G 0 R S m ra sa l0 l1 (me : Int) 5 0 0 0 D d.length dc E 0 ec (by decide) false rfl d 0 0 (l0.set me ((stmAt (G, l0) me).app d)) l1 [] (fun w g0 g1 g2 => ofDisk_append 0 (by decide) R S m ra sa l0 l1 0 1 rfl (by decide) (me : Int) 0 0 0 D d.length dc E 0 ec _ _ 0 d (fun w g0 g1 g2 => dskAppend0_at 0 R m ra S m sa l0 l1 me hme (by omega) (stmAt (G, l0) me) hat D dc d.length d (by omega) w g0 g1 g2) w g0 g1 g2) x h0 h1 h2 hD).mono fun e w' h => DoS.of h
    ·rw [if_neg (by decide)]
     refine (do_disk t c A n ka G 0 R S m ra sa l0 l1 (me : Int) 6 0 0 0 D d.length dc E 0 ec (by decide) false rfl d 0 0 (l0.set me (stmAt (G, l0) me).syn) l1 [] (fun w g0 g1 _ => ofDisk_sync 0 (by decide) R S m ra sa l0 l1 0 1 rfl (by decide) (me : Int) 0 0 0 D d.length dc E 0 ec _ _ 0 [] (fun w g0 g1 => dskSync0_at 0 R m ra S m sa l0 l1 me hme (by omega) (stmAt (G, l0) me) hat w g0 g1) w g0 g1) x h0 h1 h2 hD).mono fun e w' h => DoS.of h
def AloneL (w : World) (t c : Int) (A : Option Addr) (n : Nat) (R S : Option Addr) (m : Nat) (G : Nat → Nat) (l0 l1 : List Stm) (er : Int) (oi : Bool) (M N : Nat) (e : Ending) (w' : World) : Prop :=
 ∃ A' ka R' ra S' sa, e = .returned (.tuple #[.agg #[.int .i64 t, .int .i64 c, .slice A' n ka, .int .u64 0, .slice R' m ra, .slice S' m sa], .agg #[.int .i64 er, .bool oi, .int .i64 (M : Int), .int .u64 (N : Int), .slice none 0 0], .bool true]) ∧ AtW w' A' n G ∧ StmsAt w' R' m l0 ∧ StmsAt w' S' m l1 ∧ Below w.heap.size w w' ∧
  ∀ P, From w w.heap.size A n R S m P → OffW P A' n ∧ OffS P w' R' m ∧ OffS P w' S' m
theorem RunZA.nextF {y0 : World} {gx B0 : Nat} {F : (Nat → Prop) → Prop} {L : List (Nat × List Value)} {t c : Int} {n r m : Nat} {l0 l1 : List Stm} {v : Value} {log : List Res} {vs : List Value} {X : Option Addr} {kx N : Nat} {fl : Bool} {G : Nat → Nat} {x : World} {v' : Value} {w' : World} (h : RunZA y0 gx B0 F L t c n r m l0 l1 v log vs X kx N G x)
  (hown : w'.ownsRow B0 81 3 v' (log.length + 1) (vs ++ resA ⟨N, [], fl⟩ X kx)) (hg : x.grownBy w' v.ownBlock) (hv : v'.ownBlock = v.ownBlock ∨ v'.ownBlock = some x.heap.size) :
  RunA y0 gx B0 F L t c n r m l0 l1 v' (log ++ [⟨N, [], fl⟩]) G w' := by
 have hrow : ∀ k, v.ownBlock = some k → B0 ≤ k := fun k hk => (h.own.lt k hk).1
 have hK : Keep (fun b => Nt gx gx v b ∧ Nt gx gx v' b) x w' := Keep.grown hg (fun b hb k hk => hb.1.2.2 k hk)
 have sub : ∀ b, b < x.heap.size → Nt gx gx v b → Nt gx gx v b ∧ Nt gx gx v' b := fun b hb hn => ⟨hn, hn.both hv hb⟩
 have hlt := h.lt
 have hvx : ∀ us, VarAt x gx us → VarAt w' gx us := fun us hu => hu.grown hg (fun k hk e => by have := hrow k hk; omega)
 have hb : Below y0.heap.size y0 w' := h.below.grown hg h.below.size (fun k hk => by have := hrow k hk; omega)
 have k1 := (h.run.sub sub).keep hK hvx
 have k3 := ((h.raw.sub sub).keep hK)
 have hres : ResP w' ⟨N, [], fl⟩ X kx := ⟨h.num, ⟨Nat.zero_le _, Nat.zero_le _⟩, AtB.nil _ _⟩
 refine ⟨hb, Nat.le_trans h.size hg.size, hlt, fun p hp => (h.vars p hp).grown hg (fun k hk e => by have := hrow k hk; have := (h.vlt p hp).2.1; omega), h.vlt, k1.sub fun b _ h => h.2, _, ?_, (k3.add hres (OffW.nil _ _)).sub fun b _ h => h.2⟩
 rw [List.length_append]
 exact hown
variable {m : Nat}
set_option maxHeartbeats 16000000 in
set_option maxRecDepth 100000 in
theorem lAlone_at (t : Nat) (ht : t ≤ 64) (me : Nat) (hme : me < m) (c k u v : Int) (q : Nat) (hq : q < 18446744073709551616) (hop : LOp k u v q) (most : Nat) (hm : most ≤ 1000) (A : Option Addr) (n ka : Nat) (R : Option Addr) (ra : Nat) (S : Option Addr) (sa : Nat) (hn : n ≤ 1000000) (hm8 : m ≤ 8) (G : Nat → Nat) (l0 l1 : List Stm) (N : Nat) (WF : WS)
  (hrun : Prd.aloneD (lPrg t k u v q 2000) n me (fun _ => false) (most + 1) [] (G, l0) = some (N, WF)) (w : World) (HTab : Hid (Tab w)) (HA : Hid (AtW w A n G)) (H0 : Hid (StmsAt w R m l0)) (H1 : Hid (StmsAt w S m l1)) :
  Calls Tryz.prog 14 #[.agg #[.int .i64 (t : Int), .int .i64 c, .slice A n ka, .int .u64 0, .slice R m ra, .slice S m sa], .int .i64 (me : Int), .agg #[.int .i64 k, .int .i64 u, .int .i64 v, .int .u64 (q : Int)], .int .i64 (most : Int)] w (AloneL w t c A n R S m WF.1 WF.2 l1 (lErr k N) (lIs k N) (lN k N) (lW k N)) := by
 have hPP : ∀ log : List Res, log.length < 2000 → lNextR t k u v q log = (lPrg t k u v q 2000).run tapeTellD log := fun log h => lNextR_same h
 generalize lPrg t k u v q 2000 = PP at *
 have HL : ∀ (la : Option Addr) (j cap : Nat) (log : List Res) (x : World), j ≤ cap → Tab x → Hid (LogAt x la j log) → log.length < 2000 → ∀ K i a b d, PP.run tapeTellD log = .left K i a b d → Calls Tryz.prog 43 #[.int .i64 (t : Int), .int .i64 c, .int .i64 (me : Int), .agg #[.int .i64 k, .int .i64 u, .int .i64 v, .int .u64 (q : Int)], .slice la j cap] x (NextS K i a b d x) := by
  intro la j cap log x hc htx hl hz K i a b d hN
  rw [← hPP log hz] at hN
  refine (lNext_left t ht c (me : Int) k u v q hq hop la j cap log hc x htx hl K i a b d hN).mono ?_
  rintro e w' ⟨D, dc, E, ec, rfl, hX, hb, _, _⟩
  exact ⟨D, dc, E, ec, rfl, hX, hb⟩
 have HD : ∀ (la : Option Addr) (j cap : Nat) (log : List Res) (x : World), j ≤ cap → Tab x → Hid (LogAt x la j log) → log.length < 2000 → ∀ r' s, PP.run tapeTellD log = .done r' s → Calls Tryz.prog 43 #[.int .i64 (t : Int), .int .i64 c, .int .i64 (me : Int), .agg #[.int .i64 k, .int .i64 u, .int .i64 v, .int .u64 (q : Int)], .slice la j cap] x (RunE (lErr k r') (lIs k r') (lN k r' : Int) (lW k r' : Int) x) :=
  fun la j cap log x hc htx hl hz r' s hN => lNext_done t ht c (me : Int) k u v q hq hop la j cap log hc x htx hl r' s (by rw [hPP log hz]; exact hN)
 have HDO := fun (A : Option Addr) (ka : Nat) (G : Nat → Nat) (R : Option Addr) (ra : Nat) (S : Option Addr) (sa : Nat) (l0 : List Stm) (K i : Int) (a b : Nat) (d : List Nat) (fa : Bool) (N : Nat) (fl : Bool) (W' : WS) hs D dc E ec x hx h0 h1 h2 => doS (t : Int) c A n ka G R S m ra sa l0 l1 me hme hm8 K i a b d fa N fl W' hn hs D dc E ec x hx h0 h1 h2
 have HM := Lib.hid hm
 have HRUN := Lib.hid hrun
 clear hrun hop hq ht hm hPP hme hm8
 go_enter Tryz.func14, Tryz.ntmps14
 go_upto_region 2 with fail
 refine gen_w (P := fun W => Code.wp _ _ _ _ W) (fun y => RunA w w.heap.size (w.heap.size + 1 + 1 + 1 + 1) (From w (w.heap.size + 1 + 1 + 1 + 1) A n R S m) [(w.heap.size + 1, [.int .i64 k, .int .i64 u, .int .i64 v, .int .u64 (q : Int)]), (w.heap.size + 1 + 1, [.int .i64 0, .int .i64 0, .slice none 0 0, .int .u64 0, .slice none 0 0, .slice none 0 0]), (w.heap.size + 1 + 1 + 1, [.int .i64 0, .bool false, .int .i64 0, .int .u64 0, .slice none 0 0])] t c n 0 m l0 l1 (.slice none 0 0) [] G y) ⟨belA, by simp, by omega, ?vars, ?vlt, ?run, ⟨[], World.ownsRow_nil _ _ _ _, LogRaw.nil _ _⟩⟩ ?_
 case vars =>
  intro p hp
  simp only [List.mem_cons, List.not_mem_nil, or_false] at hp
  rcases hp with rfl | rfl | rfl
  ·exact VarAt.mk4 (by simp <;> omega)
  ·exact VarAt.of6 (by simp <;> omega) (by go_simp) (by go_simp) (by go_simp) (by go_simp) (by go_simp) (by go_simp) (by go_simp) (by go_simp) (by go_simp) (by go_simp) (by go_simp) (by go_simp)
  ·exact VarAt.mk5 (by simp <;> omega)
 case vlt =>
  intro p hp
  simp only [List.mem_cons, List.not_mem_nil, or_false] at hp
  rcases hp with rfl | rfl | rfl <;> simp only [] <;> omega
 case run =>
  have hb : Below w.heap.size w ((((w.alloc (.cells #[.int .i64 (t : Int), .int .i64 c, .slice A n ka, .int .u64 0, .slice R m ra, .slice S m sa] 33)).alloc (.cells #[.int .i64 k, .int .i64 u, .int .i64 v, .int .u64 (q : Int)] 42)).alloc (.cells #[.int .i64 0, .int .i64 0, .slice none 0 0, .int .u64 0, .slice none 0 0, .slice none 0 0] 33)).alloc (.cells #[.int .i64 0, .bool false, .int .i64 0, .int .u64 0, .slice none 0 0] 38)) := belA
  have nt : ∀ b, b < w.heap.size → Nt w.heap.size w.heap.size (.slice none 0 0) b := fun b hb => ⟨by omega, by omega, fun k hk => by cases hk⟩
  exact ⟨A, ka, R, ra, S, sa, ⟨VarAt.of6 (by simp <;> omega) (by go_simp) (by go_simp) (by go_simp) (by go_simp) (by go_simp) (by go_simp) (by go_simp) (by go_simp) (by go_simp) (by go_simp) (by go_simp) (by go_simp), HA.out.later hb, H0.out.later hb, H1.out.later hb⟩, HA.out.old.mono nt, (H0.out.old.mono nt).later H0.out hb, (H1.out.old.mono nt).later H1.out hb, fun P hF => ⟨hF.2.1, hF.2.2.1.later H0.out hb, hF.2.2.2.later H1.out hb⟩⟩
 rintro y hy
 have HZ := Lib.hid hy
 clear hy
 obtain ⟨Nw, hNw⟩ : ∃ N, w.heap.size = N := ⟨_, rfl⟩
 rw [hNw] at HZ ⊢
 have HNW := Lib.hid hNw
 clear hNw
 go_wp2_with fail
 go_loopw [11, 12] (fun u11 u12 wr => ∃ (j : Nat) (log : List Res) (G : Nat → Nat) (l0 : List Stm), u12 = .int .i64 (j : Int) ∧ log.length = j ∧ Prd.aloneD PP n me (fun _ => false) (most + 1 - j) log (G, l0) = some (N, WF) ∧ RunA w Nw (Nw + 1 + 1 + 1 + 1) (From w (Nw + 1 + 1 + 1 + 1) A n R S m) [(Nw + 1, [.int .i64 k, .int .i64 u, .int .i64 v, .int .u64 (q : Int)]), (Nw + 1 + 1, [.int .i64 0, .int .i64 0, .slice none 0 0, .int .u64 0, .slice none 0 0, .slice none 0 0]), (Nw + 1 + 1 + 1, [.int .i64 0, .bool false, .int .i64 0, .int .u64 0, .slice none 0 0])] t c n 0 m l0 l1 u11 log G wr) (fun _ i _ => most + 1 - (intOf i).toNat)
 case atStart => exact ⟨0, [], G, l0, rfl, rfl, HRUN.out, HZ.out⟩
 case round =>
  clear HZ HRUN
  have HOS : Hid (StmsAt w R m l0) := H0
  clear y
  obtain ⟨j, log, G, l0, rfl, hlen, hR, hrun⟩ := hrel
  have HR := Lib.hid hrun
  clear hrun
  have hjm : j ≤ most := by
   rcases Nat.lt_or_ge most j with h | h
   ·rw [show most + 1 - j = 0 by omega] at hR; cases hR
   ·exact h
  obtain ⟨f, hf⟩ : ∃ f, most + 1 - j = f + 1 := ⟨most - j, by omega⟩
  rw [hf] at hR
  have d1 : decide ((j : Int) ≤ (most : Int)) = true := by rw [decide_eq_true_iff]; omega
  have d1' : decide (j ≤ most) = true := by rw [decide_eq_true_iff]; omega
  obtain ⟨vs, hown, hraw⟩ := HR.out.log
  rw [hlen] at hown
  obtain ⟨la, cap, rfl, hcap, hlog, _⟩ := hraw.raw.at_ hown (by have := HM.out; omega)
  have HOWN := Lib.hid hown
  have HRAW := Lib.hid hraw
  have HLEN := Lib.hid hlen
  have HLOG := Lib.hid hlog
  have HF := Lib.hid hf
  have HV := Lib.hid HR.out.vars
  obtain ⟨A1, ka1, R1, ra1, S1, sa1, hW, o0, o1, o2, hP⟩ := HR.out.run
  have W1 := Lib.hid hW
  have O1 := Lib.hid (And.intro o0 (And.intro o1 (And.intro o2 hP)))
  have HBW := Lib.hid HR.out.below
  have HSZ := Lib.hid HR.out.size
  clear hlog hown hraw hW o0 o1 o2 hP hf HR
  obtain ⟨c0, c1, c2, c3, c4, c5⟩ := W1.out.cells
  have v1 := HV.out (Nw + 1, [.int .i64 k, .int .i64 u, .int .i64 v, .int .u64 (q : Int)]) (by simp)
  obtain ⟨b0, b1, b2, b3⟩ : wr.cell? ⟨Nw + 1, 0, none⟩ = some (.int .i64 k) ∧ wr.cell? ⟨Nw + 1, 1, none⟩ = some (.int .i64 u) ∧ wr.cell? ⟨Nw + 1, 2, none⟩ = some (.int .i64 v) ∧ wr.cell? ⟨Nw + 1, 3, none⟩ = some (.int .u64 (q : Int)) := ⟨v1.2.1 0 _ rfl, v1.2.1 1 _ rfl, v1.2.1 2 _ rfl, v1.2.1 3 _ rfl⟩
  clear v1
  unfold Prd.aloneD at hR
  have hz : log.length < 2000 := by have := HM.out; omega
  have htb := HTab.out.below HBW.out HTab.out.pos
  cases hN : PP.run tapeTellD log with
  | bad => rw [hN] at hR; cases hR
  | done r' s =>
   rw [hN] at hR
   cases hR
   have HDj := HD la j cap log wr hcap htb HLOG hz _ _ hN
   clear hN HD HL HDO hz hlen hcap htb
   go_wp2_with fail
   (with_reducible refine HDj.mono ?_)
   clear HDj
   rintro e w3 ⟨rfl, hb3⟩
   go_upto_region 7 with fail
   have hbx3 : Below w3.heap.size w3 ((w3.alloc (.cells #[.int .i64 0, .int .i64 0, .int .u64 0, .int .u64 0, .slice none 0 0, .slice none 0 0] 70)).alloc (.cells #[.int .i64 (lErr k N), .bool (lIs k N), .int .i64 (lN k N : Int), .int .u64 (lW k N : Int), .slice none 0 0] 38)) := below_pair _ _ _
   have V3 := VarAt.made1 w3 (.cells #[.int .i64 0, .int .i64 0, .int .u64 0, .int .u64 0, .slice none 0 0, .slice none 0 0] 70) #[.int .i64 (lErr k N), .bool (lIs k N), .int .i64 (lN k N : Int), .int .u64 (lW k N : Int), .slice none 0 0] 38
   have BX := hb3.trans (hbx3.mono hb3.size)
   generalize (w3.alloc (.cells #[.int .i64 0, .int .i64 0, .int .u64 0, .int .u64 0, .slice none 0 0, .slice none 0 0] 70)).alloc (.cells #[.int .i64 (lErr k N), .bool (lIs k N), .int .i64 (lN k N : Int), .int .u64 (lW k N : Int), .slice none 0 0] 38) = x3 at hbx3 V3 BX ⊢
   have W3 := Lib.hid (W1.out.later BX)
   have hV3 := HV.out.below BX
   have HBW3 := Lib.hid (HBW.out.trans (BX.mono HBW.out.size))
   have OP3 : Hid (∀ P, From w (Nw + 1 + 1 + 1 + 1) A n R S m P → OffW P A1 n ∧ OffS P x3 R1 m ∧ OffS P x3 S1 m) := Lib.hid (fun P hF => ⟨(O1.out.2.2.2 P hF).1, (O1.out.2.2.2 P hF).2.1.later W1.out.2.2.1 BX, (O1.out.2.2.2 P hF).2.2.later W1.out.2.2.2 BX⟩)
   have hs3 : Nw + 1 + 1 + 1 + 1 ≤ w3.heap.size := Nat.le_trans HSZ.out hb3.size
   have HS3 := Lib.hid hs3
   obtain ⟨_, ⟨e1, e2, e3, e4, e5⟩, _⟩ := V3.five
   obtain ⟨m8, ⟨p0, p1, p2, p3, p4, p5⟩, q0, q1, q2, q3, q4, q5⟩ := (hV3 (Nw + 1 + 1, [.int .i64 0, .int .i64 0, .slice none 0 0, .int .u64 0, .slice none 0 0, .slice none 0 0]) (by simp)).six
   obtain ⟨m9, ⟨s1, s2, s3, s4, s5⟩, z1, z2, z3, z4, z5⟩ := (hV3 (Nw + 1 + 1 + 1, [.int .i64 0, .bool false, .int .i64 0, .int .u64 0, .slice none 0 0]) (by simp)).five
   clear hb3 hbx3 V3 BX hV3 c0 c1 c2 c3 c4 c5 b0 b1 b2 b3
   obtain ⟨c0, c1, c2, c3, c4, c5⟩ := W3.out.cells
   generalize w3.heap.size = b14 at e1 e2 e3 e4 e5 hs3 HS3 ⊢
   have n1 : ¬ (b14 + 1 = Nw + 1 + 1) := by omega
   have n2 : ¬ (Nw + 1 + 1 = b14 + 1) := by omega
   have n3 : ¬ (b14 + 1 = Nw + 1 + 1 + 1) := by omega
   have n4 : ¬ (Nw + 1 + 1 + 1 = b14 + 1) := by omega
   go_region
   all_goals
    go_wp2_with fail
    have hnw := HNW.out
    have hbw := HBW3.out
    have hPP := OP3.out (fun b => b < Nw ∨ Nw + 1 + 1 + 1 + 1 ≤ b) ⟨fun b hb => .inr hb, HA.out.old.mono fun b hb => .inl (by omega), H0.out.old.mono fun b hb => .inl (by omega), H1.out.old.mono fun b hb => .inl (by omega)⟩
    exact bodyPost_ret (v := .tuple #[.agg #[.int .i64 (t : Int), .int .i64 c, .slice A1 n ka1, .int .u64 0, .slice R1 m ra1, .slice S1 m sa1], .agg #[.int .i64 (lErr k N), .bool (lIs k N), .int .i64 (lN k N : Int), .int .u64 (lW k N : Int), .slice none 0 0], .bool true]) (by simp [results, Tryz.results14, go_sem, p0, p1, p2, p3, p4, p5, s1, s2, s3, s4, s5]) rfl
     ⟨A1, ka1, R1, ra1, S1, sa1, rfl, W3.out.2.1.keep (Q := fun b => b < Nw ∨ Nw + 1 + 1 + 1 + 1 ≤ b) (by repeat (first | with_reducible exact Keep.refl _ _ | with_reducible refine Keep.drew ?_ | with_reducible refine Keep.alloc ?_ _ | (with_reducible refine Keep.set ?_ _ _ _ (by omega)))) hPP.1, W3.out.2.2.1.keep (Q := fun b => b < Nw ∨ Nw + 1 + 1 + 1 + 1 ≤ b) (by repeat (first | with_reducible exact Keep.refl _ _ | with_reducible refine Keep.drew ?_ | with_reducible refine Keep.alloc ?_ _ | (with_reducible refine Keep.set ?_ _ _ _ (by omega)))) hPP.2.1, W3.out.2.2.2.keep (Q := fun b => b < Nw ∨ Nw + 1 + 1 + 1 + 1 ≤ b) (by repeat (first | with_reducible exact Keep.refl _ _ | with_reducible refine Keep.drew ?_ | with_reducible refine Keep.alloc ?_ _ | (with_reducible refine Keep.set ?_ _ _ _ (by omega)))) hPP.2.2, (by repeat (first | with_reducible assumption | with_reducible refine Below.drew ?_ | with_reducible refine below_al ?_ | (with_reducible refine below_set1 (by omega) _ ?_))), fun P hF => ⟨(OP3.out P ⟨fun b hb => hF.1 b (by omega), hF.2⟩).1, (OP3.out P ⟨fun b hb => hF.1 b (by omega), hF.2⟩).2.1.keep W3.out.2.2.1 (Q := fun b => b < Nw ∨ Nw + 1 + 1 + 1 + 1 ≤ b) (by repeat (first | with_reducible exact Keep.refl _ _ | with_reducible refine Keep.drew ?_ | with_reducible refine Keep.alloc ?_ _ | (with_reducible refine Keep.set ?_ _ _ _ (by omega)))) hPP.2.1, (OP3.out P ⟨fun b hb => hF.1 b (by omega), hF.2⟩).2.2.keep W3.out.2.2.2 (Q := fun b => b < Nw ∨ Nw + 1 + 1 + 1 + 1 ≤ b) (by repeat (first | with_reducible exact Keep.refl _ _ | with_reducible refine Keep.drew ?_ | with_reducible refine Keep.alloc ?_ _ | (with_reducible refine Keep.set ?_ _ _ _ (by omega)))) hPP.2.2⟩⟩
  | left K i a b d =>
   rw [hN] at hR
   dsimp only at hR
   cases hst : stepS n me K i a b d false (G, l0) with
   | none => rw [hst] at hR; cases hR
   | some qq =>
   obtain ⟨N5, fl5, W5⟩ := qq
   rw [hst] at hR
   dsimp only at hR
   obtain ⟨G5, l5⟩ := W5
   have hj1 : j < most := by
    cases f with
    | zero => cases hR
    | succ f => have := HF.out; omega
   have HJ1 := Lib.hid hj1
   have HLj := HL la j cap log wr hcap htb HLOG hz _ _ _ _ _ hN
   have HDj := fun D dc E ec x hx h0 h1 h2 => HDO A1 ka1 G R1 ra1 S1 sa1 l0 K i a b d false N5 fl5 (G5, l5) hst D dc E ec x hx h0 h1 h2
   have HN5 := Lib.hid (stepS_lt hst W1.out.2.1.1)
   have HRN := Lib.hid hR
   clear hN HD HL HDO hz hlen hcap hst hR htb
   obtain ⟨nd, hnd⟩ : ∃ m, d.length = m := ⟨_, rfl⟩
   unfold NextS at HLj
   rw [hnd] at HLj HDj
   clear hnd
   go_wp2_with fail
   (with_reducible refine HLj.mono ?_)
   clear HLj
   rintro e w3 ⟨D3, dc3, E3, ec3, rfl, ha3, hb3⟩
   go_upto_region 8 with fail
   have hbx3 : Below w3.heap.size w3 ((w3.alloc (.cells #[.int .i64 K, .int .i64 i, .int .u64 (a : Int), .int .u64 (b : Int), .slice D3 nd dc3, .slice E3 0 ec3] 70)).alloc (.cells #[.int .i64 0, .bool false, .int .i64 0, .int .u64 0, .slice none 0 0] 38)) := below_pair _ _ _
   have V3 := (VarAt.made w3 #[.int .i64 K, .int .i64 i, .int .u64 (a : Int), .int .u64 (b : Int), .slice D3 nd dc3, .slice E3 0 ec3] 70).below (al_below _ (.cells #[.int .i64 0, .bool false, .int .i64 0, .int .u64 0, .slice none 0 0] 38))
   have BX := hb3.trans (hbx3.mono hb3.size)
   generalize (w3.alloc (.cells #[.int .i64 K, .int .i64 i, .int .u64 (a : Int), .int .u64 (b : Int), .slice D3 nd dc3, .slice E3 0 ec3] 70)).alloc (.cells #[.int .i64 0, .bool false, .int .i64 0, .int .u64 0, .slice none 0 0] 38) = x3 at hbx3 V3 BX ⊢
   generalize w3.heap.size = b14 at V3 ⊢
   have W3 := Lib.hid (W1.out.later BX)
   have HAP := ha3.later hbx3
   have HV3 := Lib.hid (HV.out.below BX)
   have HBW3 := Lib.hid (HBW.out.trans (BX.mono HBW.out.size))
   have O3 := Lib.hid (And.intro O1.out.1 (And.intro (O1.out.2.1.later W1.out.2.2.1 BX) (O1.out.2.2.1.later W1.out.2.2.2 BX)))
   have OP3 : Hid (∀ P, From w (Nw + 1 + 1 + 1 + 1) A n R S m P → OffW P A1 n ∧ OffS P x3 R1 m ∧ OffS P x3 S1 m) := Lib.hid (fun P hF => ⟨(O1.out.2.2.2 P hF).1, (O1.out.2.2.2 P hF).2.1.later W1.out.2.2.1 BX, (O1.out.2.2.2 P hF).2.2.later W1.out.2.2.2 BX⟩)
   have HOWN3 := Lib.hid (ownsRow_laterR HOWN.out BX)
   have HRAW3 := Lib.hid (HRAW.out.later BX)
   have HSZ3 := Lib.hid (Nat.le_trans HSZ.out BX.size)
   obtain ⟨_, ⟨a0, a1, a2, a3, a4, a5⟩, _⟩ := V3.six
   clear hb3 hbx3 V3 BX c0 c1 c2 c3 c4 c5 b0 b1 b2 b3 W1 HV HBW O1 HOWN HRAW HSZ HLOG
   obtain ⟨c0, c1, c2, c3, c4, c5⟩ := W3.out.cells
   go_wp2_with fail
   clear c0 c1 c2 c3 c4 c5 a0 a1 a2 a3 a4 a5
   (with_reducible refine (HDj _ _ _ _ _ HAP W3.out.gA W3.out.g0 W3.out.g1).mono ?_)
   clear HDj
   rintro e w5 ⟨A5, k5, R5, ra5, S5, sa5, X5, kx5, rfl, ha, hs0, hs1, hb, hP⟩
   go_upto_region 9 with fail
   have hbx5 : Below w5.heap.size w5 ((w5.alloc (.cells #[.int .i64 (t : Int), .int .i64 c, .slice A5 n k5, .int .u64 0, .slice R5 m ra5, .slice S5 m sa5] 33)).alloc (.cells #[.int .u64 (N5 : Int), .slice X5 0 kx5, .bool fl5] 81)) := below_pair _ _ _
   have W5 := Lib.hid (WdAt.made (t := (t : Int)) (c := c) (k := k5) (r := 0) (ra := ra5) (sa := sa5) w5 (.cells #[.int .u64 (N5 : Int), .slice X5 0 kx5, .bool fl5] 81) 33 ha hs0 hs1)
   have V5 := Lib.hid (VarAt.made1 w5 (.cells #[.int .i64 (t : Int), .int .i64 c, .slice A5 n k5, .int .u64 0, .slice R5 m ra5, .slice S5 m sa5] 33) #[.int .u64 (N5 : Int), .slice X5 0 kx5, .bool fl5] 81)
   have hbn5 := hb.trans (hbx5.mono hb.size)
   have OS5 := Lib.hid hs0
   have OT5 := Lib.hid hs1
   generalize (w5.alloc (.cells #[.int .i64 (t : Int), .int .i64 c, .slice A5 n k5, .int .u64 0, .slice R5 m ra5, .slice S5 m sa5] 33)).alloc (.cells #[.int .u64 (N5 : Int), .slice X5 0 kx5, .bool fl5] 81) = x5 at hbx5 W5 V5 hbn5 ⊢
   have hgx : Nw < x3.heap.size := W3.out.1.1
   have hvb : ∀ k, (Value.slice la j cap).ownBlock = some k → k < x3.heap.size := fun k hk => (HOWN3.out.lt k hk).2
   have O5 : Hid (OffW (Nt Nw Nw (.slice la j cap)) A5 n ∧ OffS (Nt Nw Nw (.slice la j cap)) x5 R5 m ∧ OffS (Nt Nw Nw (.slice la j cap)) x5 S5 m) := Lib.hid (by
    obtain ⟨q0, q1, q2⟩ := hP (Nt Nw Nw (.slice la j cap)) (fun b hb => ⟨by omega, by omega, fun k hk => by have := hvb k hk; omega⟩) O3.out.1 O3.out.2.1 O3.out.2.2
    exact ⟨q0, q1.later hs0 hbx5, q2.later hs1 hbx5⟩)
   have OP5 : Hid (∀ P, From w (Nw + 1 + 1 + 1 + 1) A n R S m P → OffW P A5 n ∧ OffS P x5 R5 m ∧ OffS P x5 S5 m) := Lib.hid (fun P hF => by
    obtain ⟨q0, q1, q2⟩ := OP3.out P hF
    obtain ⟨q3, q4, q5⟩ := hP P (fun b hb => hF.1 b (Nat.le_trans HSZ3.out hb)) q0 q1 q2
    exact ⟨q3, q4.later hs0 hbx5, q5.later hs1 hbx5⟩)
   have h5s : x3.heap.size ≤ w5.heap.size := hb.size
   have h5x : w5.heap.size + 1 < x5.heap.size := V5.out.1
   clear ha hs0 hs1 hb hP hbx5 OS5 OT5 hgx hvb OP3
   generalize w5.heap.size = b17 at W5 V5 h5s h5x ⊢
   have WX := Lib.hid (W3.out.1.below hbn5)
   have HOWNn := Lib.hid (ownsRow_laterR HOWN3.out hbn5); clear HOWN3; have HOWN := HOWNn; clear HOWNn
   have HRAWn := Lib.hid (HRAW3.out.later hbn5); clear HRAW3; have HRAW := HRAWn; clear HRAWn
   have HV5 := Lib.hid (HV3.out.below hbn5)
   have HBW5 := Lib.hid (HBW3.out.trans (hbn5.mono HBW3.out.size))
   have HSZ5 := Lib.hid (Nat.le_trans HSZ3.out hbn5.size)
   have hgx3 : Nw < x3.heap.size := W3.out.1.1
   clear hbn5 W3 HV3 HBW3 O3
   have n5 : ¬ (b17 = Nw) := by omega
   have n7 : ¬ (b17 + 1 = Nw) := by omega
   have n15 : ¬ (Nw = b17) := by omega
   have hs35 := HSZ3.out
   obtain ⟨_, ⟨c0, c1, c2, c3, c4, c5⟩, _⟩ := W5.out.1.six
   obtain ⟨_, g0, g1, g2, _⟩ := V5.out.three
   obtain ⟨zx, ⟨x0, x1, x2, x3', x4', x5'⟩, y0, y1, y2, y3, y4, y5⟩ := WX.out.six
   go_upto_region 10 with fail
   have hrow : ∀ k, (Value.slice la j cap).ownBlock = some k → Nw + 1 + 1 + 1 + 1 ≤ k := fun k hk => (HOWN.out.lt k hk).1
   have hbw5 := HBW5.out
   have hsz5 := HSZ5.out
   have hnw := HNW.out
   have hlen := HLEN.out
   refine gen_w (P := fun W => Code.wp _ _ _ _ W) (fun z => RunZA w Nw (Nw + 1 + 1 + 1 + 1) (From w (Nw + 1 + 1 + 1 + 1) A n R S m) [(Nw + 1, [.int .i64 k, .int .i64 u, .int .i64 v, .int .u64 (q : Int)]), (Nw + 1 + 1, [.int .i64 0, .int .i64 0, .slice none 0 0, .int .u64 0, .slice none 0 0, .slice none 0 0]), (Nw + 1 + 1 + 1, [.int .i64 0, .bool false, .int .i64 0, .int .u64 0, .slice none 0 0])] t c n 0 m l5 l1 (.slice la j cap) log vs X5 kx5 N5 G5 z ∧ VarAt z (b17 + 1) [.int .u64 (N5 : Int), .slice X5 0 kx5, .bool fl5]) ⟨⟨(by repeat (first | with_reducible exact hbw5 | with_reducible refine Below.drew ?_ | with_reducible refine below_al ?_ | (with_reducible refine below_set1 (by omega) _ ?_))), by simp; omega, by omega, (by have hv := HV5.out; repeat (first | with_reducible exact hv | (with_reducible refine Vars.apart ?_ _ _ (by intro p hp; simp only [List.mem_cons, List.not_mem_nil, or_false] at hp; rcases hp with rfl | rfl | rfl <;> simp only [] <;> omega)))), (by intro p hp; simp only [List.mem_cons, List.not_mem_nil, or_false] at hp; rcases hp with rfl | rfl | rfl <;> simp only [] <;> omega), ⟨A5, k5, R5, ra5, S5, sa5, ⟨VarAt.of6 (by simp; omega) (by go_simp) (by go_simp) (by go_simp) (by go_simp) (by go_simp) (by go_simp) (by go_simp) (by go_simp) (by go_simp) (by go_simp) (by go_simp) (by go_simp), W5.out.2.1.keep (by repeat (first | with_reducible exact Keep.refl _ _ | with_reducible refine Keep.drew ?_ | with_reducible refine Keep.alloc ?_ _ | (with_reducible refine Keep.set ?_ _ _ _ (by unfold Nt; omega)))) O5.out.1, W5.out.2.2.1.keep (by repeat (first | with_reducible exact Keep.refl _ _ | with_reducible refine Keep.drew ?_ | with_reducible refine Keep.alloc ?_ _ | (with_reducible refine Keep.set ?_ _ _ _ (by unfold Nt; omega)))) O5.out.2.1, W5.out.2.2.2.keep (by repeat (first | with_reducible exact Keep.refl _ _ | with_reducible refine Keep.drew ?_ | with_reducible refine Keep.alloc ?_ _ | (with_reducible refine Keep.set ?_ _ _ _ (by unfold Nt; omega)))) O5.out.2.2⟩, O5.out.1, O5.out.2.1.keep W5.out.2.2.1 (by repeat (first | with_reducible exact Keep.refl _ _ | with_reducible refine Keep.drew ?_ | with_reducible refine Keep.alloc ?_ _ | (with_reducible refine Keep.set ?_ _ _ _ (by unfold Nt; omega)))) O5.out.2.1, O5.out.2.2.keep W5.out.2.2.2 (by repeat (first | with_reducible exact Keep.refl _ _ | with_reducible refine Keep.drew ?_ | with_reducible refine Keep.alloc ?_ _ | (with_reducible refine Keep.set ?_ _ _ _ (by unfold Nt; omega)))) O5.out.2.2, fun P hF => ⟨(OP5.out P hF).1, (OP5.out P hF).2.1.keep W5.out.2.2.1 (by repeat (first | with_reducible exact Keep.refl _ _ | with_reducible refine Keep.drew ?_ | with_reducible refine Keep.alloc ?_ _ | (with_reducible refine Keep.set ?_ _ _ _ (by unfold Nt; omega)))) O5.out.2.1, (OP5.out P hF).2.2.keep W5.out.2.2.2 (by repeat (first | with_reducible exact Keep.refl _ _ | with_reducible refine Keep.drew ?_ | with_reducible refine Keep.alloc ?_ _ | (with_reducible refine Keep.set ?_ _ _ _ (by unfold Nt; omega)))) O5.out.2.2⟩⟩, by rw [hlen]; exact (by repeat (first | with_reducible exact HOWN.out | (with_reducible refine ownsRow_apart ?_ _ _ _ (by omega)))), HRAW.out.keep (by repeat (first | with_reducible exact Keep.refl _ _ | with_reducible refine Keep.drew ?_ | with_reducible refine Keep.alloc ?_ _ | (with_reducible refine Keep.set ?_ _ _ _ (by unfold Nt; omega)))), HN5.out⟩, (by repeat (first | with_reducible exact V5.out | (with_reducible refine VarAt.apart ?_ _ _ (by omega))))⟩ ?_
   rintro z ⟨k0, k1⟩
   obtain ⟨zz, g0, g1, g2, _⟩ := k1.three
   have KZ := Lib.hid k0
   have HOZ : Hid (∀ o, (z.alloc o).ownsRow (Nw + 1 + 1 + 1 + 1) 81 3 (.slice la j cap) j vs) := Lib.hid (fun o => by have h := (k0.later (al_below z o)).own; rw [hlen] at h; exact h)
   have hjk : j ≤ 1000 := by have := HM.out; omega
   have HJ : Hid (j ≤ 900000) := Lib.hid (by have := HM.out; omega)
   have HLQ : Hid (log.length = j) := HLEN
   clear k0 k1 c0 c1 c2 c3 c4 c5 zx x0 x1 x2 x3' x4' x5' y0 y1 y2 y3 y4 y5 hrow hbw5 hsz5 hnw h5s h5x hgx3 hs35
   clear WX W5 V5 HOWN HRAW HV5 HBW5 O5 OP5
   go_wp2_with (at_builtin; (refine wpList_appendR1 (by rfl) (.tmp 48) (.tmp 50) (by rfl) (Nw + 1 + 1 + 1 + 1) (.slice la j cap) j vs (by rfl) (HOZ.out _) z.heap.size 1 ⟨N5, [], fl5⟩ X5 kx5 (by rfl) (by go_simp) (by go_simp) (by go_simp) HJ.out (by have := KZ.out.size; simp; omega) ?_); (intro v9 w9 hown9 hg9 hv9; have HNX : Hid (RunA w Nw (Nw + 1 + 1 + 1 + 1) (From w (Nw + 1 + 1 + 1 + 1) A n R S m) [(Nw + 1, [.int .i64 k, .int .i64 u, .int .i64 v, .int .u64 (q : Int)]), (Nw + 1 + 1, [.int .i64 0, .int .i64 0, .slice none 0 0, .int .u64 0, .slice none 0 0, .slice none 0 0]), (Nw + 1 + 1 + 1, [.int .i64 0, .bool false, .int .i64 0, .int .u64 0, .slice none 0 0])] t c n 0 m l5 l1 v9 (log ++ [⟨N5, [], fl5⟩]) G5 w9) := Lib.hid ((KZ.out.later (al_below z _)).nextF (by rw [HLQ.out]; exact hown9) hg9 hv9); clear hown9 hg9 hv9))
   go_roundw
   case rel =>
    refine ⟨j + 1, log ++ [⟨N5, [], fl5⟩], G5, l5, by go_num, by rw [List.length_append, HLQ.out]; rfl, ?_, HNX.out⟩
    rw [show most + 1 - (j + 1) = f by have := HF.out; omega]
    exact HRN.out
   case measure => have := HJ1.out; simp [intOf]; omega
theorem lAloneN {m : Nat} (t : Nat) (ht : t ≤ 64) (me : Nat) (hme : me < m) (c k u v : Int) (q : Nat) (hq : q < 18446744073709551616) (hop : LOp k u v q) (most : Nat) (hm : most ≤ 1000) (n : Nat) (hn : n ≤ 1000000) (hm8 : m ≤ 8) (G : Nat → Nat) (l0 l1 : List Stm) (N : Nat) (WF : WS) (j : Nat)
  (hrun : (lPrg t k u v q 2000).run (Prd.wTell n me (fun _ => false)) ((G, l0), 0) = .done N (WF, j)) (hj : j ≤ most) (A : Option Addr) (ka : Nat) (R : Option Addr) (ra : Nat) (S : Option Addr) (sa : Nat) (w : World) (HTab : Hid (Tab w)) (HA : Hid (AtW w A n G)) (H0 : Hid (StmsAt w R m l0)) (H1 : Hid (StmsAt w S m l1)) :
  Calls Tryz.prog 14 #[.agg #[.int .i64 (t : Int), .int .i64 c, .slice A n ka, .int .u64 0, .slice R m ra, .slice S m sa], .int .i64 (me : Int), .agg #[.int .i64 k, .int .i64 u, .int .i64 v, .int .u64 (q : Int)], .int .i64 (most : Int)] w (AloneL w t c A n R S m WF.1 WF.2 l1 (lErr k N) (lIs k N) (lN k N) (lW k N)) :=
 lAlone_at t ht me hme c k u v q hq hop most hm A n ka R ra S sa hn hm8 G l0 l1 N WF (Prd.alone_ofW hrun (by omega)) w HTab HA H0 H1
end Go.Proofs.YtibpfkcackdbgaaGreatDoor
namespace Go.Proofs.YtibpfkcackdbgaaGreatDoor
open Go.ChangeShapes Go.WideShapes Go.ChangeAt Go.RowKit Go.BigFrame
set_option linter.unusedVariables false
set_option maxRecDepth 100000
def NewWdO (w : World) (t c sz : Nat) (nf : Nat → Nat) (e : Ending) (w' : World) : Prop :=
 ∃ g R ra S sa, e = .returned (.agg #[.int .i64 (t : Int), .int .i64 (c : Int), .slice (some ⟨g, 0, none⟩) sz sz, .int .u64 0, .slice R t ra, .slice S t sa]) ∧ RowW w' g sz nf ∧ StmsAt w' R t (zerosS t) ∧ StmsAt w' S t (zerosS t) ∧ OffS (fun b => b ≠ g ∧ w.heap.size ≤ b) w' R t ∧ OffS (fun b => b ≠ g ∧ w.heap.size ≤ b) w' S t ∧ Below w.heap.size w w' ∧ w.heap.size ≤ g
set_option maxHeartbeats 2000000 in
theorem newWdO_at (t c : Nat) (h1 : 1 ≤ t) (h2 : t ≤ 64) (h3 : c ≤ 65536) (w : World) : Calls Tryz.prog 13 #[.int .i64 (t : Int), .int .i64 (c : Int)] w (NewWdO w t c (sizeN t c) (newF t c)) := by
 have HN := fun w => refNew_yes t c h1 h2 h3 w
 have HD := fun w => refNewD_yes t h1 h2 w
 go_enter Tryz.func13, Tryz.ntmps13
 go_wp2_with fail
 refine (HN _).mono ?_
 rintro e w2 ⟨g, rfl, hg, hrow, hb⟩
 obtain ⟨x2, hx2⟩ : ∃ x, w2.alloc (.cells #[.int .i64 (t : Int), .int .i64 (c : Int), .slice (some ⟨g, 0, none⟩) (sizeN t c) (sizeN t c)] 26) = x := ⟨_, rfl⟩
 have R0 : Hid (Room (w.alloc (.cells #[.int .i64 0, .int .i64 0, .slice none 0 0, .int .u64 0, .slice none 0 0, .slice none 0 0] 33)) w.heap.size 6) := Lib.hid (Room.made w _ _ 6 (by simp))
 have hz0 : (w.alloc (.cells #[.int .i64 0, .int .i64 0, .slice none 0 0, .int .u64 0, .slice none 0 0, .slice none 0 0] 33)).heap.size = w.heap.size + 1 := by simp
 have R2 : Hid (Room x2 w.heap.size 6) := Lib.hid (by rw [← hx2]; exact (R0.out.below hb).below (al_below _ _))
 have V2 : Hid (VarAt x2 w2.heap.size [.int .i64 (t : Int), .int .i64 (c : Int), .slice (some ⟨g, 0, none⟩) (sizeN t c) (sizeN t c)]) := Lib.hid (by rw [← hx2]; exact VarAt.made w2 _ _)
 have W2 : Hid (RowW x2 g (sizeN t c) (newF t c)) := Lib.hid (by rw [← hx2]; exact hrow.later (al_below _ _))
 have HG : Hid (w.heap.size + 1 ≤ g) := Lib.hid (by omega)
 have HZ2 : Hid (w.heap.size + 1 ≤ w2.heap.size) := Lib.hid (by have := hb.size; omega)
 have HZ2' : Hid (w2.heap.size ≤ x2.heap.size) := Lib.hid (by rw [← hx2]; simp)
 have HB2 : Hid (Below w.heap.size w x2) := Lib.hid (by rw [← hx2]; exact below_al ((al_below w _).trans (hb.mono (by simp))))
 clear hb hrow hg R0 HN hz0
 generalize sizeN t c = sz at *
 generalize newF t c = nf at *
 go_wp2_with fail
 refine (HD _).mono ?_
 rintro e w3 ⟨R', ra, S', sa, rfl, hs0, hs1, hb, hP⟩
 obtain ⟨x3, hx3⟩ : ∃ x, w3.alloc (.cells #[.int .u64 0, .slice R' t ra, .slice S' t sa] 31) = x := ⟨_, rfl⟩
 have hb3 : Below x2.heap.size x2 x3 := by rw [← hx3]; exact below_al hb
 have R3 := Lib.hid (R2.out.below hb3)
 have V3 := Lib.hid (V2.out.below hb3)
 have W3 := Lib.hid (W2.out.later hb3)
 have U3 : Hid (VarAt x3 w3.heap.size [.int .u64 0, .slice R' t ra, .slice S' t sa]) := Lib.hid (by rw [← hx3]; exact VarAt.made w3 _ _)
 have S3 : Hid (StmsAt x3 R' t (zerosS t)) := Lib.hid (by rw [← hx3]; exact hs0.later (al_below _ _))
 have T3 : Hid (StmsAt x3 S' t (zerosS t)) := Lib.hid (by rw [← hx3]; exact hs1.later (al_below _ _))
 have HB3 := Lib.hid (HB2.out.trans (hb3.mono HB2.out.size))
 have HP3 : Hid (∀ P : Nat → Prop, (∀ b, x2.heap.size ≤ b → P b) → OffS P x3 R' t ∧ OffS P x3 S' t) := Lib.hid (fun P hF => by
  have h := hP P hF (OffS.nowhere _ _ _) (OffS.nowhere _ _ _)
  rw [← hx3]
  exact ⟨h.1.later hs0 (al_below _ _), h.2.later hs1 (al_below _ _)⟩)
 have HZ3 : Hid (x2.heap.size ≤ w3.heap.size) := Lib.hid hb.size
 clear hs0 hs1 hb hP hb3
 obtain ⟨_, m0, m1, m2, _⟩ := V3.out.three
 obtain ⟨_, d0, d1, d2, _⟩ := U3.out.three
 obtain ⟨_, hr⟩ := R3.out
 obtain ⟨p0, q0⟩ := hr 0 (by decide)
 obtain ⟨p1, q1⟩ := hr 1 (by decide)
 obtain ⟨p2, q2⟩ := hr 2 (by decide)
 obtain ⟨p3, q3⟩ := hr 3 (by decide)
 obtain ⟨p4, q4⟩ := hr 4 (by decide)
 obtain ⟨p5, q5⟩ := hr 5 (by decide)
 obtain ⟨b0, p0⟩ := Option.isSome_iff_exists.1 p0
 obtain ⟨b1, p1⟩ := Option.isSome_iff_exists.1 p1
 obtain ⟨b2, p2⟩ := Option.isSome_iff_exists.1 p2
 obtain ⟨b3, p3⟩ := Option.isSome_iff_exists.1 p3
 obtain ⟨b4, p4⟩ := Option.isSome_iff_exists.1 p4
 obtain ⟨b5, p5⟩ := Option.isSome_iff_exists.1 p5
 rw [Nat.zero_add] at p0 p1 p2 p3 p4 p5 q0 q1 q2 q3 q4 q5
 clear hr
 have HB := HB3.out
 go_wp2_with fail
 obtain ⟨o0, o1⟩ := HP3.out (Out w.heap.size 1) (fun b hb => .inr (by have := HZ2.out; have := HZ2'.out; omega))
 exact bodyPost_ret (v := .agg #[.int .i64 (t : Int), .int .i64 (c : Int), .slice (some ⟨g, 0, none⟩) sz sz, .int .u64 0, .slice R' t ra, .slice S' t sa]) (by simp [results, Tryz.results13, go_sem, p0, p1, p2, p3, p4, p5]) rfl
  ⟨g, R', ra, S', sa, rfl, (by repeat (first | with_reducible exact W3.out | (with_reducible refine RowW.apart ?_ _ _ _ (by have := HG.out; omega)))),
   S3.out.alike (N := w.heap.size) (k := 1) (by repeat (first | with_reducible exact Alike.refl _ _ _ | with_reducible refine Alike.drew ?_ | (with_reducible refine Alike.set ?_ _ _ _ (by omega) (by omega)))) o0,
   T3.out.alike (N := w.heap.size) (k := 1) (by repeat (first | with_reducible exact Alike.refl _ _ _ | with_reducible refine Alike.drew ?_ | (with_reducible refine Alike.set ?_ _ _ _ (by omega) (by omega)))) o1,
   ((HP3.out (fun b => b ≠ g ∧ w.heap.size ≤ b) (fun b hb => by have := W2.out.1; have := HZ2.out; have := HZ2'.out; omega)).1).alike (N := w.heap.size) (k := 1) (by repeat (first | with_reducible exact Alike.refl _ _ _ | with_reducible refine Alike.drew ?_ | (with_reducible refine Alike.set ?_ _ _ _ (by omega) (by omega)))) o0,
   ((HP3.out (fun b => b ≠ g ∧ w.heap.size ≤ b) (fun b hb => by have := W2.out.1; have := HZ2.out; have := HZ2'.out; omega)).2).alike (N := w.heap.size) (k := 1) (by repeat (first | with_reducible exact Alike.refl _ _ _ | with_reducible refine Alike.drew ?_ | (with_reducible refine Alike.set ?_ _ _ _ (by omega) (by omega)))) o1,
   (by repeat (first | with_reducible assumption | with_reducible refine Below.drew ?_ | (with_reducible refine below_set1 (by omega) _ ?_))), by have := HG.out; omega⟩
structure WdO (w : World) (b : Nat) (t c : Int) (g n : Nat) (R : Option Addr) (m ra : Nat) (S : Option Addr) (sa : Nat) (G : Nat → Nat) (l0 l1 : List Stm) : Prop where
 var : VarAt w b [.int .i64 t, .int .i64 c, .slice (some ⟨g, 0, none⟩) n n, .int .u64 0, .slice R m ra, .slice S m sa]
 row : RowW w g n G
 s0 : StmsAt w R m l0
 s1 : StmsAt w S m l1
 o0 : OffS (fun b => b ≠ g) w R m
 o1 : OffS (fun b => b ≠ g) w S m
 ne : g ≠ b
section
variable {w w' : World} {b : Nat} {t c : Int} {g n : Nat} {R : Option Addr} {m ra : Nat} {S : Option Addr} {sa : Nat} {G : Nat → Nat} {l0 l1 : List Stm}
theorem WdO.later (h : WdO w b t c g n R m ra S sa G l0 l1) (hb : Below w.heap.size w w') : WdO w' b t c g n R m ra S sa G l0 l1 :=
 ⟨h.var.below hb, h.row.later hb, h.s0.later hb, h.s1.later hb, h.o0.later h.s0 hb, h.o1.later h.s1 hb, h.ne⟩
theorem WdO.put (h : WdO w b t c g n R m ra S sa G l0 l1) (p v : Nat) (hp : p < n) (hv : v < 18446744073709551616) : WdO (w.setCell ⟨g, p, none⟩ (.int .u64 (v : Int))) b t c g n R m ra S sa (setW G p v) l0 l1 := by
 have hK : Keep (fun b => b ≠ g) w (w.setCell ⟨g, p, none⟩ (.int .u64 (v : Int))) := (Keep.refl _ _).set g p _ (by simp)
 exact ⟨h.var.apart p _ h.ne, h.row.stored p v hp (setW G p v) (setW_lt h.row.2.1 hv) (fun j _ => by unfold setW; rfl), h.s0.keep hK h.o0, h.s1.keep hK h.o1, h.o0.keep h.s0 hK h.o0, h.o1.keep h.s1 hK h.o1, h.ne⟩
theorem WdO.cells (h : WdO w b t c g n R m ra S sa G l0 l1) : w.cell? ⟨b, 0, none⟩ = some (.int .i64 t) ∧ w.cell? ⟨b, 1, none⟩ = some (.int .i64 c) ∧ w.cell? ⟨b, 2, none⟩ = some (.slice (some ⟨g, 0, none⟩) n n) ∧ w.cell? ⟨b, 3, none⟩ = some (.int .u64 0) ∧ w.cell? ⟨b, 4, none⟩ = some (.slice R m ra) ∧ w.cell? ⟨b, 5, none⟩ = some (.slice S m sa) :=
 ⟨h.var.2.1 0 _ rfl, h.var.2.1 1 _ rfl, h.var.2.1 2 _ rfl, h.var.2.1 3 _ rfl, h.var.2.1 4 _ rfl, h.var.2.1 5 _ rfl⟩
end
end Go.Proofs.YtibpfkcackdbgaaGreatDoor
namespace Go.Proofs.YtibpfkcackdbgaaGreatDoor
open Go.ChangeShapes Go.WideShapes Go.ChangeAt Go.RowKit Go.BigFrame
set_option linter.unusedVariables false
set_option maxRecDepth 100000
namespace Prd
section
variable {n me : Nat} {fail : Nat → Bool} {W : WS} {j : Nat}
theorem walk_nil {S : Type} {T : S → Int → Int → Nat → Nat → List Nat → Tell S} {t : Nat} {look : Nat → Nat → Prd} {f m p : Nat} {s : S} : (walk t look f (m + 1) p 0).run T s = .done (encS p 0 0) s := by
 unfold walk
 rw [if_pos rfl]
 rfl
theorem walk_look {t : Nat} {look : Nat → Nat → Prd} {f m p x : Nat} (hx : x ≠ 0) (hi : fieldN t x 0 < n) (hW : ∀ q, W.1 q < 18446744073709551616) (hm : markB (W.1 (fieldN t x 0)) = false) :
  (walk t look f (m + 1) p x).run (wTell n me fail) (W, j) = ((look x (W.1 (fieldN t x 0))).bind fun d => if d = 0 then walk t look f m x (refN (W.1 (fieldN t x 0))) else if d = 1 then walk t look f m p x else ret (encS p x d)).run (wTell n me fail) (W, j + 1) := by
 conv => lhs; unfold walk
 rw [if_neg hx, run_load hi hW, if_neg (by rw [hm]; decide)]
theorem start_go {t : Nat} {look : Nat → Nat → Prd} {f m : Nat} (hi : 0 < n) (hW : ∀ q, W.1 q < 18446744073709551616) :
  (start t look f m).run (wTell n me fail) (W, j) = (walk t look f m 0 (refN (W.1 0))).run (wTell n me fail) (W, j + 1) := by
 unfold start
 rw [show (ask 0 0 0 0 [] = ask 0 ((0 : Nat) : Int) 0 0 []) from rfl, run_load hi hW]
theorem lookS_run {t k x v : Nat} (hi : fieldN t x 1 < n) (hW : ∀ q, W.1 q < 18446744073709551616) :
  (lookS t k x v).run (wTell n me fail) (W, j) = .done (if W.1 (fieldN t x 1) = k then 3 else if k ≤ W.1 (fieldN t x 1) then 2 else 0) (W, j + 1) := by
 unfold lookS
 rw [run_load hi hW]
 rfl
theorem walkS_on {t k f m p x : Nat} (hx : x ≠ 0) (hi : fieldN t x 1 < n) (hW : ∀ q, W.1 q < 18446744073709551616) (hm : markB (W.1 (fieldN t x 0)) = false) (hk : W.1 (fieldN t x 1) < k) :
  (walk t (lookS t k) f (m + 1) p x).run (wTell n me fail) (W, j) = (walk t (lookS t k) f m x (refN (W.1 (fieldN t x 0)))).run (wTell n me fail) (W, j + 2) := by
 rw [walk_look hx (by unfold fieldN at *; omega) hW hm, run_bind, lookS_run hi hW, if_neg (by omega), if_neg (by omega)]
 rfl
theorem walkS_stop {t k f m p x : Nat} (hx : x ≠ 0) (hi : fieldN t x 1 < n) (hW : ∀ q, W.1 q < 18446744073709551616) (hm : markB (W.1 (fieldN t x 0)) = false) (hk : k ≤ W.1 (fieldN t x 1)) :
  (walk t (lookS t k) f (m + 1) p x).run (wTell n me fail) (W, j) = .done (encS p x (if W.1 (fieldN t x 1) = k then 3 else 2)) (W, j + 2) := by
 rw [walk_look hx (by unfold fieldN at *; omega) hW hm, run_bind, lookS_run hi hW]
 by_cases h : W.1 (fieldN t x 1) = k
 ·rw [if_pos h, if_pos h]; rfl
 ·rw [if_neg h, if_pos hk, if_neg h]; rfl
theorem seek_stop {t k m x : Nat} (hx : x ≠ 0) (hi : fieldN t x 1 < n) (hW : ∀ q, W.1 q < 18446744073709551616) (hk : k ≤ W.1 (fieldN t x 1)) :
  (seekL t k (m + 1) x).run (wTell n me fail) (W, j) = .done (2 * x + if W.1 (fieldN t x 1) = k then 1 else 0) (W, j + 1) := by
 conv => lhs; unfold seekL
 rw [if_neg hx, run_load hi hW, if_pos hk]
 rfl
theorem seek_go {t f k m : Nat} (hi : nextN t f < n) (hW : ∀ q, W.1 q < 18446744073709551616) :
  (seek t f k m).run (wTell n me fail) (W, j) = (seekL t k m (refN (W.1 (nextN t f)))).run (wTell n me fail) (W, j + 1) := by
 unfold seek
 rw [run_load hi hW]
theorem link_run {t p x r : Nat} (hp : nextN t p < n) (hr : nextN t r < n) (hne : nextN t p ≠ nextN t r) (hx : x < 1048576) (hW : ∀ q, W.1 q < 18446744073709551616) (h : W.1 (nextN t p) = linkN x false) :
  (link t p x r).run (wTell n me fail) (W, j) = .done 1 ((setW (setW W.1 (nextN t r) (linkN x false)) (nextN t p) (linkN r false), W.2), j + 2) := by
 have hl : linkN x false < 18446744073709551616 := linkN_lt' hx false
 have w1 := setW_lt hW (i := nextN t r) hl
 have e : setW W.1 (nextN t r) (linkN x false) (nextN t p) = linkN x false := by
  unfold setW
  rw [if_neg hne, h]
 unfold link turnP
 rw [run_store hr hW]
 have h2 := run_cas (me := me) (fail := fail) (j := j + 1) (W := (setW W.1 (nextN t r) (linkN x false), W.2)) hp w1 (linkN r false) fun d => ret d
 rw [show (setW W.1 (nextN t r) (linkN x false), W.2).1 (nextN t p) = linkN x false from e] at h2
 rw [h2]
 rfl
end
end Prd
def lsG1 : Nat → Nat := setW (newF 1 2) (fieldN 1 1 1) 5
def lsG2 : Nat → Nat := setW (setW lsG1 (nextN 1 1) (linkN 0 false)) (nextN 1 0) (linkN 1 false)
theorem lsG1_lt (q : Nat) : lsG1 q < 18446744073709551616 := setW_lt (newF_lt (by decide)) (by decide) q
theorem lsG2_lt (q : Nat) : lsG2 q < 18446744073709551616 := setW_lt (setW_lt lsG1_lt (by decide)) (by decide) q
theorem ls_run1 : (lPrg 1 24 0 0 1 2000).run (Prd.wTell (sizeN 1 2) 0 (fun _ => false)) ((lsG1, zerosS 1), 0) = .done 1 ((lsG2, zerosS 1), 2) := by
 have e : lPrg 1 24 0 0 1 2000 = Prd.link 1 0 0 1 := rfl
 rw [e, Prd.link_run (W := (lsG1, zerosS 1)) (by decide) (by decide) (by decide) (by decide) lsG1_lt (by decide)]
 rfl
theorem ls_k : lsG2 (fieldN 1 1 1) = 5 := by decide
theorem ls_n : lsG2 (fieldN 1 1 0) = 0 := by decide
theorem ls_h : lsG2 0 = 2 := by decide
theorem ls_start (k : Nat) : (lPrg 1 8 0 0 k 2000).run (Prd.wTell (sizeN 1 2) 0 (fun _ => false)) ((lsG2, zerosS 1), 0) = (Prd.walk 1 (Prd.lookS 1 k) 2000 (1999 + 1) 0 1).run (Prd.wTell (sizeN 1 2) 0 (fun _ => false)) ((lsG2, zerosS 1), 1) := by
 have e : lPrg 1 8 0 0 k 2000 = Prd.start 1 (Prd.lookS 1 k) 2000 2000 := rfl
 rw [e, Prd.start_go (W := (lsG2, zerosS 1)) (by decide) lsG2_lt]
 show (Prd.walk 1 (Prd.lookS 1 k) 2000 2000 0 (refN (lsG2 0))).run _ _ = _
 rw [ls_h]
 rfl
theorem ls_run2 : (lPrg 1 8 0 0 5 2000).run (Prd.wTell (sizeN 1 2) 0 (fun _ => false)) ((lsG2, zerosS 1), 0) = .done (encS 0 1 3) ((lsG2, zerosS 1), 3) := by
 rw [ls_start, Prd.walkS_stop (W := (lsG2, zerosS 1)) (by decide) (by decide) lsG2_lt (by dsimp only; rw [ls_n]; rfl) (by dsimp only; rw [ls_k]; decide)]
 show RanD.done (encS 0 1 (if lsG2 (fieldN 1 1 1) = 5 then 3 else 2)) _ = _
 rw [ls_k]
 rfl
theorem ls_run3 : (lPrg 1 8 0 0 4 2000).run (Prd.wTell (sizeN 1 2) 0 (fun _ => false)) ((lsG2, zerosS 1), 0) = .done (encS 0 1 2) ((lsG2, zerosS 1), 3) := by
 rw [ls_start, Prd.walkS_stop (W := (lsG2, zerosS 1)) (by decide) (by decide) lsG2_lt (by dsimp only; rw [ls_n]; rfl) (by dsimp only; rw [ls_k]; decide)]
 show RanD.done (encS 0 1 (if lsG2 (fieldN 1 1 1) = 4 then 3 else 2)) _ = _
 rw [ls_k]
 rfl
theorem ls_run4 : (lPrg 1 8 0 0 6 2000).run (Prd.wTell (sizeN 1 2) 0 (fun _ => false)) ((lsG2, zerosS 1), 0) = .done (encS 1 0 0) ((lsG2, zerosS 1), 3) := by
 rw [ls_start, Prd.walkS_on (W := (lsG2, zerosS 1)) (by decide) (by decide) lsG2_lt (by dsimp only; rw [ls_n]; rfl) (by dsimp only; rw [ls_k]; decide)]
 show (Prd.walk 1 (Prd.lookS 1 6) 2000 (1998 + 1) 1 (refN (lsG2 (fieldN 1 1 0)))).run _ _ = _
 rw [ls_n]
 exact Prd.walk_nil
theorem ls_run5 : (lPrg 1 25 0 0 5 2000).run (Prd.wTell (sizeN 1 2) 0 (fun _ => false)) ((lsG2, zerosS 1), 0) = .done 3 ((lsG2, zerosS 1), 2) := by
 have e : lPrg 1 25 0 0 5 2000 = Prd.seek 1 0 5 2000 := rfl
 rw [e, Prd.seek_go (W := (lsG2, zerosS 1)) (by decide) lsG2_lt]
 show (Prd.seekL 1 5 (1999 + 1) (refN (lsG2 0))).run _ _ = _
 rw [ls_h]
 rw [show refN 2 = 1 from rfl, Prd.seek_stop (W := (lsG2, zerosS 1)) (by decide) (by decide) lsG2_lt (by dsimp only; rw [ls_k]; decide)]
 show RanD.done (2 * 1 + if lsG2 (fieldN 1 1 1) = 5 then 1 else 0) _ = _
 rw [ls_k]
 rfl
end Go.Proofs.YtibpfkcackdbgaaGreatDoor
namespace Go.Proofs.YtibpfkcackdbgaaGreatDoor
open Go.ChangeShapes Go.WideShapes Go.ChangeAt Go.RowKit Go.BigFrame Go.Deep
set_option linter.unusedVariables false
set_option maxRecDepth 100000
set_option maxHeartbeats 8000000 in
set_option maxRecDepth 100000 in
theorem lstShown (w : World) (HTab : Hid (Tab w)) : Calls Tryz.prog 12 #[] w (Kept w (.bool true)) := by
 have HN : ∀ w, Calls Tryz.prog 13 #[.int .i64 1, .int .i64 2] w (NewWdO w 1 2 (sizeN 1 2) (newF 1 2)) := fun w => newWdO_at 1 2 (by decide) (by decide) (by decide) w
 have HF : ∀ w, Calls Tryz.prog 15 #[.int .i64 1, .int .i64 1, .int .i64 1] w fun e w' => e = .returned (.int .i64 (fieldN 1 1 1 : Nat)) ∧ w = w' := fun w => refField_any 1 1 1 (by decide) (by decide) (by decide) (by decide) w
 have hsz : sizeN 1 2 ≤ 1000000 := by decide
 have hfl : fieldN 1 1 1 < sizeN 1 2 := by decide
 have C1 : ∀ (A : Option Addr) (ka : Nat) (R : Option Addr) (ra : Nat) (S : Option Addr) (sa : Nat) (w : World), Hid (Tab w) → Hid (AtW w A (sizeN 1 2) lsG1) → Hid (StmsAt w R 1 (zerosS 1)) → Hid (StmsAt w S 1 (zerosS 1)) →
   Calls Tryz.prog 14 #[.agg #[.int .i64 1, .int .i64 2, .slice A (sizeN 1 2) ka, .int .u64 0, .slice R 1 ra, .slice S 1 sa], .int .i64 0, .agg #[.int .i64 24, .int .i64 0, .int .i64 0, .int .u64 1], .int .i64 9] w (AloneL w 1 2 A (sizeN 1 2) R S 1 lsG2 (zerosS 1) (zerosS 1) 0 true 0 0) := fun A ka R ra S sa w h0 h1 h2 h3 => lAloneN 1 (by decide) 0 (by decide) 2 24 0 0 1 (by decide) ⟨fun h => absurd h (by decide), fun _ => by decide, fun h => absurd h (by decide)⟩ 9 (by decide) (sizeN 1 2) hsz (by decide) lsG1 (zerosS 1) (zerosS 1) 1 (lsG2, zerosS 1) 2 ls_run1 (by decide) A ka R ra S sa w h0 h1 h2 h3
 have C2 : ∀ (A : Option Addr) (ka : Nat) (R : Option Addr) (ra : Nat) (S : Option Addr) (sa : Nat) (w : World), Hid (Tab w) → Hid (AtW w A (sizeN 1 2) lsG2) → Hid (StmsAt w R 1 (zerosS 1)) → Hid (StmsAt w S 1 (zerosS 1)) →
   Calls Tryz.prog 14 #[.agg #[.int .i64 1, .int .i64 2, .slice A (sizeN 1 2) ka, .int .u64 0, .slice R 1 ra, .slice S 1 sa], .int .i64 0, .agg #[.int .i64 8, .int .i64 0, .int .i64 0, .int .u64 5], .int .i64 9] w (AloneL w 1 2 A (sizeN 1 2) R S 1 lsG2 (zerosS 1) (zerosS 1) 0 true 1 0) := fun A ka R ra S sa w h0 h1 h2 h3 => lAloneN 1 (by decide) 0 (by decide) 2 8 0 0 5 (by decide) ⟨fun h => absurd h (by decide), fun h => absurd h (by decide), fun h => absurd h (by decide)⟩ 9 (by decide) (sizeN 1 2) hsz (by decide) lsG2 (zerosS 1) (zerosS 1) (encS 0 1 3) (lsG2, zerosS 1) 3 ls_run2 (by decide) A ka R ra S sa w h0 h1 h2 h3
 have C3 : ∀ (A : Option Addr) (ka : Nat) (R : Option Addr) (ra : Nat) (S : Option Addr) (sa : Nat) (w : World), Hid (Tab w) → Hid (AtW w A (sizeN 1 2) lsG2) → Hid (StmsAt w R 1 (zerosS 1)) → Hid (StmsAt w S 1 (zerosS 1)) →
   Calls Tryz.prog 14 #[.agg #[.int .i64 1, .int .i64 2, .slice A (sizeN 1 2) ka, .int .u64 0, .slice R 1 ra, .slice S 1 sa], .int .i64 0, .agg #[.int .i64 8, .int .i64 0, .int .i64 0, .int .u64 4], .int .i64 9] w (AloneL w 1 2 A (sizeN 1 2) R S 1 lsG2 (zerosS 1) (zerosS 1) 0 false 1 0) := fun A ka R ra S sa w h0 h1 h2 h3 => lAloneN 1 (by decide) 0 (by decide) 2 8 0 0 4 (by decide) ⟨fun h => absurd h (by decide), fun h => absurd h (by decide), fun h => absurd h (by decide)⟩ 9 (by decide) (sizeN 1 2) hsz (by decide) lsG2 (zerosS 1) (zerosS 1) (encS 0 1 2) (lsG2, zerosS 1) 3 ls_run3 (by decide) A ka R ra S sa w h0 h1 h2 h3
 have C4 : ∀ (A : Option Addr) (ka : Nat) (R : Option Addr) (ra : Nat) (S : Option Addr) (sa : Nat) (w : World), Hid (Tab w) → Hid (AtW w A (sizeN 1 2) lsG2) → Hid (StmsAt w R 1 (zerosS 1)) → Hid (StmsAt w S 1 (zerosS 1)) →
   Calls Tryz.prog 14 #[.agg #[.int .i64 1, .int .i64 2, .slice A (sizeN 1 2) ka, .int .u64 0, .slice R 1 ra, .slice S 1 sa], .int .i64 0, .agg #[.int .i64 8, .int .i64 0, .int .i64 0, .int .u64 6], .int .i64 9] w (AloneL w 1 2 A (sizeN 1 2) R S 1 lsG2 (zerosS 1) (zerosS 1) 0 false 0 1) := fun A ka R ra S sa w h0 h1 h2 h3 => lAloneN 1 (by decide) 0 (by decide) 2 8 0 0 6 (by decide) ⟨fun h => absurd h (by decide), fun h => absurd h (by decide), fun h => absurd h (by decide)⟩ 9 (by decide) (sizeN 1 2) hsz (by decide) lsG2 (zerosS 1) (zerosS 1) (encS 1 0 0) (lsG2, zerosS 1) 3 ls_run4 (by decide) A ka R ra S sa w h0 h1 h2 h3
 have C5 : ∀ (A : Option Addr) (ka : Nat) (R : Option Addr) (ra : Nat) (S : Option Addr) (sa : Nat) (w : World), Hid (Tab w) → Hid (AtW w A (sizeN 1 2) lsG2) → Hid (StmsAt w R 1 (zerosS 1)) → Hid (StmsAt w S 1 (zerosS 1)) →
   Calls Tryz.prog 14 #[.agg #[.int .i64 1, .int .i64 2, .slice A (sizeN 1 2) ka, .int .u64 0, .slice R 1 ra, .slice S 1 sa], .int .i64 0, .agg #[.int .i64 25, .int .i64 0, .int .i64 0, .int .u64 5], .int .i64 9] w (AloneL w 1 2 A (sizeN 1 2) R S 1 lsG2 (zerosS 1) (zerosS 1) 0 true 1 0) := fun A ka R ra S sa w h0 h1 h2 h3 => lAloneN 1 (by decide) 0 (by decide) 2 25 0 0 5 (by decide) ⟨fun h => absurd h (by decide), fun h => absurd h (by decide), fun _ => by decide⟩ 9 (by decide) (sizeN 1 2) hsz (by decide) lsG2 (zerosS 1) (zerosS 1) 3 (lsG2, zerosS 1) 2 ls_run5 (by decide) A ka R ra S sa w h0 h1 h2 h3
 have HG1 : setW (newF 1 2) (fieldN 1 1 1) 5 = lsG1 := rfl
 have hz : (zerosS 1).length = 1 := rfl
 clear hsz
 generalize newF 1 2 = G0 at *
 generalize lsG1 = G1 at *
 generalize lsG2 = G2 at *
 generalize sizeN 1 2 = n at *
 generalize fieldN 1 1 1 = p at *
 clear hz
 have HFL := Lib.hid hfl
 have HGE := Lib.hid HG1
 clear hfl HG1
 have HT := HTab
 go_enter Tryz.func12, Tryz.ntmps12
 go_wp2_with fail
 (with_reducible refine (HN _).mono ?_)
 clear HN
 rintro e w0 ⟨g0, R0, ra0, S0, sa0, rfl, hrow, hs0, hs1, ho0, ho1, hb, hg0⟩
 go_upto_region 2 with fail
 have hbx := al_below w0 (.cells #[.int .i64 1, .int .i64 2, .slice (some ⟨g0, 0, none⟩) n n, .int .u64 0, .slice R0 1 ra0, .slice S0 1 sa0] 33)
 have W0 : Hid (WdO (w0.alloc (.cells #[.int .i64 1, .int .i64 2, .slice (some ⟨g0, 0, none⟩) n n, .int .u64 0, .slice R0 1 ra0, .slice S0 1 sa0] 33)) w0.heap.size 1 2 g0 n R0 1 ra0 S0 sa0 G0 (zerosS 1) (zerosS 1)) := Lib.hid
  ⟨VarAt.made w0 _ _, hrow.later hbx, hs0.later hbx, hs1.later hbx, (ho0.mono fun b hb => hb.1).later hs0 hbx, (ho1.mono fun b hb => hb.1).later hs1 hbx, by have := hrow.1; omega⟩
 have BB := Lib.hid (hb.trans (hbx.mono hb.size))
 have HG0 := Lib.hid hg0
 clear hrow hs0 hs1 ho0 ho1 hb hg0
 generalize w0.alloc (.cells #[.int .i64 1, .int .i64 2, .slice (some ⟨g0, 0, none⟩) n n, .int .u64 0, .slice R0 1 ra0, .slice S0 1 sa0] 33) = x0 at W0 BB hbx ⊢
 clear hbx
 generalize w0.heap.size = b0 at W0 ⊢
 go_cut [] from 18 to 22 (fun wx => WdO wx b0 1 2 g0 n R0 1 ra0 S0 sa0 G1 (zerosS 1) (zerosS 1) ∧ Below w.heap.size w wx)
 case first =>
  obtain ⟨c0, c1, c2, c3, c4, c5⟩ := W0.out.cells
  have i1 : (0 : Int) ≤ (p : Int) := by omega
  have i2 : (p : Int) < (n : Int) := by have := HFL.out; omega
  have i3 := W0.out.row.2.2.1 p HFL.out
  have i4 := W0.out.row.2.2.2 p
  clear C1 C2 C3 C4 C5
  go_region_with (go_at_call 15; (with_reducible refine (HF _).mono ?_); rintro e w' ⟨rfl, rfl⟩)
  all_goals
   go_wp2_with fail
   go_meet
   have hput := W0.out.put p 5 HFL.out (by decide)
   rw [HGE.out] at hput
   have hz := hput.later (Below.drew (Below.refl _ _))
   have hg := HG0.out
   have hbb := BB.out
   exact ⟨by first | exact hput | exact hz, by repeat (first | with_reducible assumption | with_reducible refine Below.drew ?_ | (with_reducible refine below_set1 (by omega) _ ?_))⟩
 case rest =>
  obtain ⟨hw0, hb0⟩ := hcut
  clear BB W0 x0
  have W0 := Lib.hid hw0
  have BB := Lib.hid hb0
  clear hw0 hb0 HF HFL HGE HG0
  have HT0 := Tab.later HT BB.out
  obtain ⟨c0, c1, c2, c3, c4, c5⟩ := W0.out.cells
  go_wp2_with fail
  (with_reducible refine (C1 (some ⟨g0, 0, none⟩) n R0 ra0 S0 sa0 _ HT0 (Lib.hid W0.out.row.at_) (Lib.hid W0.out.s0) (Lib.hid W0.out.s1)).mono ?_)
  clear c0 c1 c2 c3 c4 c5 C1
  rintro e w1 ⟨A1, ka1, R1, ra1, S1, sa1, rfl, ha, hs0, hs1, hb, hP⟩
  go_upto_region 4 with fail
  have hbx : Below w1.heap.size w1 ((w1.alloc (.cells #[.int .i64 1, .int .i64 2, .slice A1 n ka1, .int .u64 0, .slice R1 1 ra1, .slice S1 1 sa1] 33)).alloc (.cells #[.int .i64 0, .bool true, .int .i64 0, .int .u64 0, .slice none 0 0] 38)) := below_pair _ _ _
  have W1 := Lib.hid (WdAt.made (t := 1) (c := 2) (k := ka1) (r := 0) (ra := ra1) (sa := sa1) w1 (.cells #[.int .i64 0, .bool true, .int .i64 0, .int .u64 0, .slice none 0 0] 38) 33 ha hs0 hs1)
  have O1 := Lib.hid (VarAt.made1 w1 (.cells #[.int .i64 1, .int .i64 2, .slice A1 n ka1, .int .u64 0, .slice R1 1 ra1, .slice S1 1 sa1] 33) #[.int .i64 0, .bool true, .int .i64 0, .int .u64 0, .slice none 0 0] 38)
  have HBN := Lib.hid (hb.trans (hbx.mono hb.size))
  generalize (w1.alloc (.cells #[.int .i64 1, .int .i64 2, .slice A1 n ka1, .int .u64 0, .slice R1 1 ra1, .slice S1 1 sa1] 33)).alloc (.cells #[.int .i64 0, .bool true, .int .i64 0, .int .u64 0, .slice none 0 0] 38) = x1 at hbx HBN W1 O1 ⊢
  clear ha hs0 hs1 hb hP hbx
  obtain ⟨b1, hb1⟩ : ∃ b, w1.heap.size = b := ⟨_, rfl⟩
  rw [hb1] at W1 O1 ⊢
  clear hb1
  have HT1 := Tab.later HT0 HBN.out
  have BBn := Lib.hid (BB.out.trans (HBN.out.mono BB.out.size)); clear BB; have BB := BBn; clear BBn
  clear HBN
  clear W0
  obtain ⟨c0, c1, c2, c3, c4, c5⟩ := W1.out.cells
  go_wp2_with fail
  (with_reducible refine (C2 A1 ka1 R1 ra1 S1 sa1 _ HT1 W1.out.gA W1.out.g0 W1.out.g1).mono ?_)
  clear c0 c1 c2 c3 c4 c5 C2
  rintro e w2 ⟨A2, ka2, R2, ra2, S2, sa2, rfl, ha, hs0, hs1, hb, hP⟩
  go_upto_region 5 with fail
  have hbx : Below w2.heap.size w2 ((w2.alloc (.cells #[.int .i64 1, .int .i64 2, .slice A2 n ka2, .int .u64 0, .slice R2 1 ra2, .slice S2 1 sa2] 33)).alloc (.cells #[.int .i64 0, .bool true, .int .i64 1, .int .u64 0, .slice none 0 0] 38)) := below_pair _ _ _
  have W2 := Lib.hid (WdAt.made (t := 1) (c := 2) (k := ka2) (r := 0) (ra := ra2) (sa := sa2) w2 (.cells #[.int .i64 0, .bool true, .int .i64 1, .int .u64 0, .slice none 0 0] 38) 33 ha hs0 hs1)
  have O2 := Lib.hid (VarAt.made1 w2 (.cells #[.int .i64 1, .int .i64 2, .slice A2 n ka2, .int .u64 0, .slice R2 1 ra2, .slice S2 1 sa2] 33) #[.int .i64 0, .bool true, .int .i64 1, .int .u64 0, .slice none 0 0] 38)
  have HBN := Lib.hid (hb.trans (hbx.mono hb.size))
  generalize (w2.alloc (.cells #[.int .i64 1, .int .i64 2, .slice A2 n ka2, .int .u64 0, .slice R2 1 ra2, .slice S2 1 sa2] 33)).alloc (.cells #[.int .i64 0, .bool true, .int .i64 1, .int .u64 0, .slice none 0 0] 38) = x2 at hbx HBN W2 O2 ⊢
  clear ha hs0 hs1 hb hP hbx
  obtain ⟨b2, hb2⟩ : ∃ b, w2.heap.size = b := ⟨_, rfl⟩
  rw [hb2] at W2 O2 ⊢
  clear hb2
  have HT2 := Tab.later HT1 HBN.out
  have BBn := Lib.hid (BB.out.trans (HBN.out.mono BB.out.size)); clear BB; have BB := BBn; clear BBn
  have W1n := Lib.hid (W1.out.later HBN.out); clear W1; have W1 := W1n; clear W1n
  have O1n := Lib.hid (O1.out.below HBN.out); clear O1; have O1 := O1n; clear O1n
  clear HBN
  clear W2
  obtain ⟨c0, c1, c2, c3, c4, c5⟩ := W1.out.cells
  go_wp2_with fail
  (with_reducible refine (C3 A1 ka1 R1 ra1 S1 sa1 _ HT2 W1.out.gA W1.out.g0 W1.out.g1).mono ?_)
  clear c0 c1 c2 c3 c4 c5 C3
  rintro e w3 ⟨A3, ka3, R3, ra3, S3, sa3, rfl, ha, hs0, hs1, hb, hP⟩
  go_upto_region 6 with fail
  have hbx : Below w3.heap.size w3 ((w3.alloc (.cells #[.int .i64 1, .int .i64 2, .slice A3 n ka3, .int .u64 0, .slice R3 1 ra3, .slice S3 1 sa3] 33)).alloc (.cells #[.int .i64 0, .bool false, .int .i64 1, .int .u64 0, .slice none 0 0] 38)) := below_pair _ _ _
  have W3 := Lib.hid (WdAt.made (t := 1) (c := 2) (k := ka3) (r := 0) (ra := ra3) (sa := sa3) w3 (.cells #[.int .i64 0, .bool false, .int .i64 1, .int .u64 0, .slice none 0 0] 38) 33 ha hs0 hs1)
  have O3 := Lib.hid (VarAt.made1 w3 (.cells #[.int .i64 1, .int .i64 2, .slice A3 n ka3, .int .u64 0, .slice R3 1 ra3, .slice S3 1 sa3] 33) #[.int .i64 0, .bool false, .int .i64 1, .int .u64 0, .slice none 0 0] 38)
  have HBN := Lib.hid (hb.trans (hbx.mono hb.size))
  generalize (w3.alloc (.cells #[.int .i64 1, .int .i64 2, .slice A3 n ka3, .int .u64 0, .slice R3 1 ra3, .slice S3 1 sa3] 33)).alloc (.cells #[.int .i64 0, .bool false, .int .i64 1, .int .u64 0, .slice none 0 0] 38) = x3 at hbx HBN W3 O3 ⊢
  clear ha hs0 hs1 hb hP hbx
  obtain ⟨b3, hb3⟩ : ∃ b, w3.heap.size = b := ⟨_, rfl⟩
  rw [hb3] at W3 O3 ⊢
  clear hb3
  have HT3 := Tab.later HT2 HBN.out
  have BBn := Lib.hid (BB.out.trans (HBN.out.mono BB.out.size)); clear BB; have BB := BBn; clear BBn
  have W1n := Lib.hid (W1.out.later HBN.out); clear W1; have W1 := W1n; clear W1n
  have O1n := Lib.hid (O1.out.below HBN.out); clear O1; have O1 := O1n; clear O1n
  have O2n := Lib.hid (O2.out.below HBN.out); clear O2; have O2 := O2n; clear O2n
  clear HBN
  clear W3
  obtain ⟨c0, c1, c2, c3, c4, c5⟩ := W1.out.cells
  go_wp2_with fail
  (with_reducible refine (C4 A1 ka1 R1 ra1 S1 sa1 _ HT3 W1.out.gA W1.out.g0 W1.out.g1).mono ?_)
  clear c0 c1 c2 c3 c4 c5 C4
  rintro e w4 ⟨A4, ka4, R4, ra4, S4, sa4, rfl, ha, hs0, hs1, hb, hP⟩
  go_upto_region 7 with fail
  have hbx : Below w4.heap.size w4 ((w4.alloc (.cells #[.int .i64 1, .int .i64 2, .slice A4 n ka4, .int .u64 0, .slice R4 1 ra4, .slice S4 1 sa4] 33)).alloc (.cells #[.int .i64 0, .bool false, .int .i64 0, .int .u64 1, .slice none 0 0] 38)) := below_pair _ _ _
  have W4 := Lib.hid (WdAt.made (t := 1) (c := 2) (k := ka4) (r := 0) (ra := ra4) (sa := sa4) w4 (.cells #[.int .i64 0, .bool false, .int .i64 0, .int .u64 1, .slice none 0 0] 38) 33 ha hs0 hs1)
  have O4 := Lib.hid (VarAt.made1 w4 (.cells #[.int .i64 1, .int .i64 2, .slice A4 n ka4, .int .u64 0, .slice R4 1 ra4, .slice S4 1 sa4] 33) #[.int .i64 0, .bool false, .int .i64 0, .int .u64 1, .slice none 0 0] 38)
  have HBN := Lib.hid (hb.trans (hbx.mono hb.size))
  generalize (w4.alloc (.cells #[.int .i64 1, .int .i64 2, .slice A4 n ka4, .int .u64 0, .slice R4 1 ra4, .slice S4 1 sa4] 33)).alloc (.cells #[.int .i64 0, .bool false, .int .i64 0, .int .u64 1, .slice none 0 0] 38) = x4 at hbx HBN W4 O4 ⊢
  clear ha hs0 hs1 hb hP hbx
  obtain ⟨b4, hb4⟩ : ∃ b, w4.heap.size = b := ⟨_, rfl⟩
  rw [hb4] at W4 O4 ⊢
  clear hb4
  have HT4 := Tab.later HT3 HBN.out
  have BBn := Lib.hid (BB.out.trans (HBN.out.mono BB.out.size)); clear BB; have BB := BBn; clear BBn
  have W1n := Lib.hid (W1.out.later HBN.out); clear W1; have W1 := W1n; clear W1n
  have O1n := Lib.hid (O1.out.below HBN.out); clear O1; have O1 := O1n; clear O1n
  have O2n := Lib.hid (O2.out.below HBN.out); clear O2; have O2 := O2n; clear O2n
  have O3n := Lib.hid (O3.out.below HBN.out); clear O3; have O3 := O3n; clear O3n
  clear HBN
  clear W4
  obtain ⟨c0, c1, c2, c3, c4, c5⟩ := W1.out.cells
  go_wp2_with fail
  (with_reducible refine (C5 A1 ka1 R1 ra1 S1 sa1 _ HT4 W1.out.gA W1.out.g0 W1.out.g1).mono ?_)
  clear c0 c1 c2 c3 c4 c5 C5
  rintro e w5 ⟨A5, ka5, R5, ra5, S5, sa5, rfl, ha, hs0, hs1, hb, hP⟩
  go_upto_region 8 with fail
  have hbx : Below w5.heap.size w5 ((w5.alloc (.cells #[.int .i64 1, .int .i64 2, .slice A5 n ka5, .int .u64 0, .slice R5 1 ra5, .slice S5 1 sa5] 33)).alloc (.cells #[.int .i64 0, .bool true, .int .i64 1, .int .u64 0, .slice none 0 0] 38)) := below_pair _ _ _
  have W5 := Lib.hid (WdAt.made (t := 1) (c := 2) (k := ka5) (r := 0) (ra := ra5) (sa := sa5) w5 (.cells #[.int .i64 0, .bool true, .int .i64 1, .int .u64 0, .slice none 0 0] 38) 33 ha hs0 hs1)
  have O5 := Lib.hid (VarAt.made1 w5 (.cells #[.int .i64 1, .int .i64 2, .slice A5 n ka5, .int .u64 0, .slice R5 1 ra5, .slice S5 1 sa5] 33) #[.int .i64 0, .bool true, .int .i64 1, .int .u64 0, .slice none 0 0] 38)
  have HBN := Lib.hid (hb.trans (hbx.mono hb.size))
  generalize (w5.alloc (.cells #[.int .i64 1, .int .i64 2, .slice A5 n ka5, .int .u64 0, .slice R5 1 ra5, .slice S5 1 sa5] 33)).alloc (.cells #[.int .i64 0, .bool true, .int .i64 1, .int .u64 0, .slice none 0 0] 38) = x5 at hbx HBN W5 O5 ⊢
  clear ha hs0 hs1 hb hP hbx
  obtain ⟨b5, hb5⟩ : ∃ b, w5.heap.size = b := ⟨_, rfl⟩
  rw [hb5] at W5 O5 ⊢
  clear hb5
  have HT5 := Tab.later HT4 HBN.out
  have BBn := Lib.hid (BB.out.trans (HBN.out.mono BB.out.size)); clear BB; have BB := BBn; clear BBn
  have W1n := Lib.hid (W1.out.later HBN.out); clear W1; have W1 := W1n; clear W1n
  have O1n := Lib.hid (O1.out.below HBN.out); clear O1; have O1 := O1n; clear O1n
  have O2n := Lib.hid (O2.out.below HBN.out); clear O2; have O2 := O2n; clear O2n
  have O3n := Lib.hid (O3.out.below HBN.out); clear O3; have O3 := O3n; clear O3n
  have O4n := Lib.hid (O4.out.below HBN.out); clear O4; have O4 := O4n; clear O4n
  clear HBN
  clear W5 W1
  obtain ⟨_, ⟨o10, o11, o12, o13, o14⟩, _⟩ := O1.out.five
  obtain ⟨_, ⟨o20, o21, o22, o23, o24⟩, _⟩ := O2.out.five
  obtain ⟨_, ⟨o30, o31, o32, o33, o34⟩, _⟩ := O3.out.five
  obtain ⟨_, ⟨o40, o41, o42, o43, o44⟩, _⟩ := O4.out.five
  obtain ⟨_, ⟨o50, o51, o52, o53, o54⟩, _⟩ := O5.out.five
  go_wp2_with fail
  go_ret
  exact ⟨rfl, BB.out⟩
end Go.Proofs.YtibpfkcackdbgaaGreatDoor
