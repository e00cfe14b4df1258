/- EpcA -/
import Derived.Test.YtibpfkcackdbgaaGreatDoorPolB
namespace Go.Proofs.YtibpfkcackdbgaaGreatDoor
open Go.ChangeShapes Go.WideShapes Go.ChangeAt Go.RowKit Go.BigFrame
set_option linter.unusedVariables false
set_option maxRecDepth 100000
inductive Prg where
 | ret (d : Nat)
 | ask (k i : Int) (a b : Nat) (f : Nat → Prg)
 | bad
namespace Prg
def bind : Prg → (Nat → Prg) → Prg
 | ret d, q => q d
 | ask k i a b f, q => ask k i a b fun n => (f n).bind q
 | bad, _ => bad
def load (i : Nat) (f : Nat → Prg) : Prg := ask 0 ((i : Nat) : Int) 0 0 f
def store (i a : Nat) (f : Prg) : Prg := ask 1 ((i : Nat) : Int) a 0 fun _ => f
def cas (i a b : Nat) (f : Nat → Prg) : Prg := ask 2 ((i : Nat) : Int) a b f
def swap (i a : Nat) (f : Nat → Prg) : Prg := ask 4 ((i : Nat) : Int) a 0 f
section
variable {S : Type} (T : S → Int → Int → Nat → Nat → Tell S)
def run : Prg → S → Ran S
 | ret d, s => .done d s
 | ask k i a b f, s =>
  match T s k i a b with
  | .bad => .bad
  | .left => .left k i a b
  | .told n s' => (f n).run s'
 | bad, _ => .bad
def _root_.Go.Proofs.YtibpfkcackdbgaaGreatDoor.Ran.next (R : Ran S) (q : Nat → S → Ran S) : Ran S :=
 match R with
 | .done d s => q d s
 | .left k i a b => .left k i a b
 | .bad => .bad
theorem run_bind (p : Prg) (q : Nat → Prg) (s : S) : (p.bind q).run T s = (p.run T s).next fun d s' => (q d).run T s' := by
 induction p generalizing s with
 | ret d => rfl
 | bad => rfl
 | ask k i a b f ih =>
  simp only [bind, run]
  cases T s k i a b with
  | bad => rfl
  | left => rfl
  | told n s' => exact ih n s'
end
def pop (t : Nat) : Nat → Prg
 | 0 => bad
 | n + 1 => ask 0 1 0 0 fun w => if firstN w = 0 then ret 0 else ask 0 ((fieldN t (firstN w) 7 : Nat) : Int) 0 0 fun x => ask 2 1 w (topN (firstN x) (tagN w + 1)) fun d => if d = 1 then ret (firstN w) else pop t n
def push (t r : Nat) : Nat → Prg
 | 0 => bad
 | n + 1 => ask 0 1 0 0 fun w => ask 1 ((fieldN t r 7 : Nat) : Int) (firstN w) 0 fun _ => ask 2 1 w (topN r (tagN w + 1)) fun d => if d = 1 then ret 0 else push t r n
section
variable {S : Type} (T : S → Int → Int → Nat → Nat → Tell S)
theorem pop_run (t n : Nat) (s : S) : (pop t n).run T s = popRun T t n s := by
 induction n generalizing s with
 | zero => rfl
 | succ n ih =>
  unfold popRun
  simp only [pop, run]
  cases T s 0 1 0 0 with
  | bad => rfl
  | left => rfl
  | told w s1 =>
   dsimp only
   by_cases hf : firstN w = 0
   ·rw [if_pos hf, if_pos hf]; rfl
   ·rw [if_neg hf, if_neg hf]
    simp only [run]
    cases T s1 0 ((fieldN t (firstN w) 7 : Nat) : Int) 0 0 with
    | bad => rfl
    | left => rfl
    | told x s2 =>
     dsimp only
     cases T s2 2 1 w (topN (firstN x) (tagN w + 1)) with
     | bad => rfl
     | left => rfl
     | told d s3 =>
      dsimp only
      by_cases hd : d = 1
      ·rw [if_pos hd, if_pos hd]; rfl
      ·rw [if_neg hd, if_neg hd]; exact ih s3
theorem push_run (t r n : Nat) (s : S) : (push t r n).run T s = pushRun T t r n s := by
 induction n generalizing s with
 | zero => rfl
 | succ n ih =>
  unfold pushRun
  simp only [push, run]
  cases T s 0 1 0 0 with
  | bad => rfl
  | left => rfl
  | told w s1 =>
   dsimp only
   cases T s1 1 ((fieldN t r 7 : Nat) : Int) (firstN w) 0 with
   | bad => rfl
   | left => rfl
   | told x s2 =>
    dsimp only
    cases T s2 2 1 w (topN r (tagN w + 1)) with
    | bad => rfl
    | left => rfl
    | told d s3 =>
     dsimp only
     by_cases hd : d = 1
     ·rw [if_pos hd, if_pos hd]; rfl
     ·rw [if_neg hd, if_neg hd]; exact ih s3
end
inductive After : Prg → List Res → Prg → Prop
 | nil (p : Prg) : After p [] p
 | cons {k i : Int} {a b : Nat} {f : Nat → Prg} {r : Res} {log : List Res} {p' : Prg} (h : After (f (r.n % 18446744073709551616)) log p') : After (ask k i a b f) (r :: log) p'
theorem After.snoc {p : Prg} {log : List Res} {k i : Int} {a b : Nat} {f : Nat → Prg} (h : After p log (ask k i a b f)) (r : Res) : After p (log ++ [r]) (f (r.n % 18446744073709551616)) := by
 generalize hq : ask k i a b f = q at h
 induction h with
 | nil p => subst hq; exact .cons (.nil _)
 | cons h ih => exact .cons (ih hq)
theorem After.run {p p' : Prg} {log : List Res} (h : After p log p') (l : List Res) : p.run tapeTell (log ++ l) = p'.run tapeTell l := by
 induction h with
 | nil p => rfl
 | cons h ih =>
  simp only [List.cons_append, Prg.run, tapeTell]
  exact ih
def alone (p : Prg) (n : Nat) : Nat → List Res → (Nat → Nat) → Option (Nat × (Nat → Nat))
 | 0, _, _ => none
 | f + 1, log, G =>
  match p.run tapeTell log with
  | .bad => none
  | .done r _ => some (r, G)
  | .left K i a b => if 0 ≤ K ∧ K < 5 ∧ 0 ≤ i ∧ i < n then alone p n f (log ++ [⟨toldN K.toNat a b (G i.toNat), [], false⟩]) (setW G i.toNat (isN K.toNat a b (G i.toNat))) else none
def steps (n : Nat) : Prg → (Nat → Nat) → Nat
 | ret _, _ => 0
 | bad, _ => 0
 | ask k i a b f, G => 1 + (f (toldN k.toNat a b (G i.toNat) % 18446744073709551616)).steps n (setW G i.toNat (isN k.toNat a b (G i.toNat)))
end Prg
def RefEnd (g : Nat) (A : Option Addr) (n cap : Nat) (log : List Res) (w0 wb : World) (ret : Nat → Value) (R : Ran (List Res)) (e : Ending) (w' : World) : Prop :=
 match R with
 | .done d s => e = .returned (ret d) ∧ CurI g A n cap log w0 wb (.at s) w'
 | .left k i a b => ∃ d, e = .returned (ret d) ∧ CurI g A n cap log w0 wb (.stop k i a b) w'
 | .bad => True
theorem RefEnd.of {g : Nat} {A : Option Addr} {n cap : Nat} {log : List Res} {w0 wb : World} {ret : Nat → Value} {R : Ran (List Res)} {e : Ending} {w' : World} (h : e = .returned (ret (csEnd R).1) ∧ CurI g A n cap log w0 wb (csEnd R).2 w') : RefEnd g A n cap log w0 wb ret R e w' := by
 cases R with
 | done d s => exact h
 | left k i a b => exact ⟨_, h.1, h.2⟩
 | bad => trivial
section
variable {g : Nat} {A : Option Addr} {n cap : Nat} {log : List Res} {w0 wb : World}
end
section
variable {dv : Value} {S : Type} (V : Srv dv S)
end
end Go.Proofs.YtibpfkcackdbgaaGreatDoor
namespace Go.Proofs.YtibpfkcackdbgaaGreatDoor
open Go.ChangeShapes Go.WideShapes Go.ChangeAt Go.RowKit Go.BigFrame
set_option linter.unusedVariables false
set_option maxRecDepth 100000
def upN (e k : Nat) : Nat := (e + k) % 18446744073709551616
def limboN (e : Nat) : Nat := 4 + e % 3
namespace Prg
def pin (me : Nat) : Prg := load 3 fun e => store (pinN me) (upN e 1) (ret 0)
def retireL (t r l : Nat) : Nat → Prg
 | 0 => bad
 | n + 1 => load l fun h => store (fieldN t r 7) h (cas l h r fun d => if d = 1 then ret 0 else retireL t r l n)
def retire (t r n : Nat) : Prg := load 3 fun e => retireL t r (limboN e) n
def pins (e : Nat) (q : Prg) : Nat → Nat → Prg
 | _, 0 => q
 | i, k + 1 => load (pinN i) fun p => if p = 0 ∨ p = upN e 1 then pins e q (i + 1) k else ret 0
def chain (t m : Nat) : Nat → Nat → Prg
 | 0, _ => bad
 | f + 1, r => if r = 0 then ret 1 else load (fieldN t r 7) fun x => (push t r m).bind fun _ => chain t m f (firstN x)
def advance (t m f : Nat) : Prg := load 3 fun e => pins e (cas 3 e (upN e 1) fun d => if d = 1 then swap (limboN (upN e 2)) 0 fun h => chain t m f (firstN h) else ret 0) 0 t
def allocL (t me m f : Nat) : Nat → Nat → Prg
 | 0, r => ret r
 | k + 1, r => if r ≠ 0 then ret r else (pin me).bind fun _ => (advance t m f).bind fun _ => (pop t m).bind fun r => allocL t me m f k r
def alloc (t me m f : Nat) : Prg := (pop t m).bind fun r => allocL t me m f 3 r
def ok : Prg → Nat → Prop
 | ret _, _ => True
 | bad, _ => False
 | ask _ _ _ _ f, n => match n with | 0 => True | n + 1 => ∀ x, (f x).ok n
theorem ok_run : ∀ (p : Prg) (log : List Res), p.ok log.length → p.run tapeTell log ≠ .bad
 | ret _, _, _ => by simp [run]
 | bad, _, h => h.elim
 | ask k i a b f, [], _ => by simp [run, tapeTell]
 | ask k i a b f, r :: log, h => by
  simp only [run, tapeTell]
  exact ok_run (f _) log (h _)
theorem ok_bind : ∀ (p : Prg) (q : Nat → Prg) (n : Nat), p.ok n → (∀ d m, m ≤ n → (q d).ok m) → (p.bind q).ok n
 | ret d, q, n, _, hq => hq d n (Nat.le_refl _)
 | bad, _, _, h, _ => h.elim
 | ask k i a b f, q, n, h, hq => by
  cases n with
  | zero => trivial
  | succ n => exact fun x => ok_bind (f x) q n (h x) fun d m hm => hq d m (by omega)
theorem ok_ask {k i : Int} {a b n : Nat} {f : Nat → Prg} (h : ∀ x m, m < n → (f x).ok m) : (ask k i a b f).ok n := by
 cases n with
 | zero => trivial
 | succ n => exact fun x => h x n (Nat.lt_succ_self _)
theorem ok_retireL (t r l : Nat) : ∀ (f n : Nat), n < f → (retireL t r l f).ok n
 | 0, n, h => absurd h (Nat.not_lt_zero _)
 | f + 1, n, h => by
  unfold retireL
  refine ok_ask fun w m hm => ok_ask fun x m2 hm2 => ok_ask fun d m3 hm3 => ?_
  split
  ·trivial
  ·exact ok_retireL t r l f m3 (by omega)
theorem ok_retire (t r f n : Nat) (h : n < f) : (retire t r f).ok n := ok_ask fun e m hm => ok_retireL t r _ f m (by omega)
section
variable {n : Nat} {G : Nat → Nat} (hG : ∀ j, G j < 18446744073709551616)
theorem mem_load {i : Nat} (hi : i < n) (h : G i < 18446744073709551616) (f : Nat → Prg) : (load i f).run (memTell n) G = (f (G i)).run (memTell n) G := by
 simp [load, run, memTell, toldN, isN, hi, mod64 h, setW_same]
theorem mem_store {i a : Nat} (hi : i < n) (p : Prg) : (store i a p).run (memTell n) G = p.run (memTell n) (setW G i a) := by
 have h1 : ((1 : Int)).toNat = 1 := rfl
 simp [store, run, memTell, toldN, isN, hi, h1]
theorem mem_cas {i b : Nat} (hi : i < n) (f : Nat → Prg) : (cas i (G i) b f).run (memTell n) G = (f 1).run (memTell n) (setW G i b) := by
 have h1 : ((2 : Int)).toNat = 2 := rfl
 simp [cas, run, memTell, toldN, isN, hi, h1]
theorem mem_swap {i a : Nat} (hi : i < n) (h : G i < 18446744073709551616) (f : Nat → Prg) : (swap i a f).run (memTell n) G = (f (G i)).run (memTell n) (setW G i a) := by
 have h1 : ((4 : Int)).toNat = 4 := rfl
 simp [swap, run, memTell, toldN, isN, hi, h1, mod64 h]
include hG
theorem mem_pin {me : Nat} (h3 : 3 < n) (hp : pinN me < n) : (pin me).run (memTell n) G = .done 0 (setW G (pinN me) (upN (G 3) 1)) := by
 unfold pin
 rw [mem_load h3 (hG 3), mem_store hp]
 rfl
end
end Prg
def pushAll (t : Nat) : List Nat → (Nat → Nat) → Nat → Nat
 | [], G => G
 | a :: l, G => pushAll t l (pushG t a G)
theorem pushG_off {t a j : Nat} {G : Nat → Nat} (h1 : j ≠ 1) (h2 : j ≠ fieldN t a 7) : pushG t a G j = G j := by
 unfold pushG setW
 rw [if_neg h1, if_neg h2]
theorem pushAll_off {t : Nat} : ∀ (l : List Nat) (G : Nat → Nat) (j : Nat), j ≠ 1 → (∀ a ∈ l, j ≠ fieldN t a 7) → pushAll t l G j = G j
 | [], G, j, _, _ => rfl
 | a :: l, G, j, h1, h2 => by
  unfold pushAll
  rw [pushAll_off l _ j h1 (fun b hb => h2 b (List.mem_cons_of_mem _ hb)), pushG_off h1 (h2 a (List.mem_cons_self ..))]
theorem pushAll_lt {t c : Nat} (hc : c < 1048576) : ∀ (l : List Nat) (G : Nat → Nat), (∀ a ∈ l, a ≤ c) → (∀ j, G j < 18446744073709551616) → ∀ j, pushAll t l G j < 18446744073709551616
 | [], G, _, h, j => h j
 | a :: l, G, hl, h, j => pushAll_lt hc l _ (fun b hb => hl b (List.mem_cons_of_mem _ hb)) (pushG_lt (by have := hl a (List.mem_cons_self ..); omega) h) j
theorem pushAll_free {t c : Nat} (hc : c < 1048576) : ∀ (l free : List Nat) (G : Nat → Nat), FreeIs t G free → (∀ a ∈ l, 1 ≤ a ∧ a ≤ c) → (l ++ free).Nodup → FreeIs t (pushAll t l G) (l.reverse ++ free)
 | [], free, G, h, _, _ => h
 | a :: l, free, G, h, hl, hn => by
  rw [List.cons_append, List.nodup_cons] at hn
  have ha := hl a (List.mem_cons_self ..)
  rw [List.reverse_cons, List.append_assoc]
  exact pushAll_free hc l (a :: free) _ (h.push ha.1 (by omega) fun hx => hn.1 (List.mem_append_right _ hx)) (fun b hb => hl b (List.mem_cons_of_mem _ hb)) (List.perm_middle.nodup_iff.2 (by rw [List.nodup_cons]; exact hn))
namespace Prg
theorem mem_chain {t c m : Nat} (hc : c < 1048576) : ∀ (l : List Nat) (r f : Nat) (G : Nat → Nat), (∀ j, G j < 18446744073709551616) → Chain t G l r → l.Nodup → (∀ a ∈ l, a ≤ c) → l.length < f → (chain t (m + 1) f r).run (memTell (sizeN t c)) G = .done 1 (pushAll t l G)
 | _, _, 0, _, _, _, _, _, hf => absurd hf (Nat.not_lt_zero _)
 | [], r, f + 1, G, hG, hch, _, _, _ => by
  have hr : r = 0 := hch
  unfold chain
  rw [if_pos hr]
  rfl
 | a :: l, r, f + 1, G, hG, hch, hn, hl, hf => by
  obtain ⟨hra, h1, h2⟩ := hch
  have hac := hl a (List.mem_cons_self ..)
  rw [List.nodup_cons] at hn
  unfold chain
  rw [if_neg (by omega), hra, mem_load (field_size h1 hac) (hG _), run_bind, push_run, mem_push hG m a h1 hac]
  refine mem_chain hc l _ f _ (pushG_lt (by omega) hG) ?_ hn.2 (fun b hb => hl b (List.mem_cons_of_mem _ hb)) (by simp at hf; omega)
  refine Chain.other (fun b hb hb1 => ?_) h2
  exact pushG_off (by have := @field_ge t b; omega) fun he => hn.1 (field_inj hb1 h1 he ▸ hb)
theorem mem_popP {t c m a : Nat} {G : Nat → Nat} (hG : ∀ j, G j < 18446744073709551616) {l : List Nat} (hF : FreeIs t G (a :: l)) (ha : a ≤ c) : (pop t (m + 1)).run (memTell (sizeN t c)) G = .done a (popG t G) := by rw [pop_run]; exact mem_pop hG m hF ha
theorem mem_noneP {t c m : Nat} {G : Nat → Nat} (hG : ∀ j, G j < 18446744073709551616) (hF : FreeIs t G []) : (pop t (m + 1)).run (memTell (sizeN t c)) G = .done 0 G := by rw [pop_run]; exact mem_none hG size_pos m hF
theorem mem_pins {t n e : Nat} {q : Prg} {G : Nat → Nat} (hG : ∀ j, G j < 18446744073709551616) : ∀ (k i : Nat), i + k ≤ t → 8 + t ≤ n → (∀ j, i ≤ j → j < i + k → G (pinN j) = 0 ∨ G (pinN j) = upN e 1) → (pins e q i k).run (memTell n) G = q.run (memTell n) G
 | 0, i, _, _, _ => rfl
 | k + 1, i, hi, hn, h => by
  unfold pins
  rw [mem_load (by unfold pinN; omega) (hG _), if_pos (h i (Nat.le_refl _) (by omega))]
  exact mem_pins hG k (i + 1) (by omega) hn fun j h1 h2 => h j (by omega) (by omega)
end Prg
end Go.Proofs.YtibpfkcackdbgaaGreatDoor
namespace Go.Proofs.YtibpfkcackdbgaaGreatDoor
open Go.ChangeShapes Go.WideShapes Go.ChangeAt Go.RowKit Go.BigFrame
set_option linter.unusedVariables false
set_option maxRecDepth 100000
theorem upN_lt (e k : Nat) : upN e k < 18446744073709551616 := Nat.mod_lt _ (by decide)
theorem setW_at (G : Nat → Nat) (i v : Nat) : setW G i v i = v := by unfold setW; rw [if_pos rfl]
theorem setW_off (G : Nat → Nat) {i j : Nat} (v : Nat) (h : j ≠ i) : setW G i v j = G j := by unfold setW; rw [if_neg h]
def allOf (free : List Nat) (lim : Nat → List Nat) : List Nat := free ++ (lim 0 ++ (lim 1 ++ lim 2))
structure EpcM (t c : Nat) (G : Nat → Nat) (free : List Nat) (lim : Nat → List Nat) (hs : List Nat) : Prop where
 lt : ∀ j, G j < 18446744073709551616
 isFree : FreeIs t G free
 isLim : ∀ i, i < 3 → Chain t G (lim i) (firstN (G (4 + i)))
 nodup : (allOf free lim ++ hs).Nodup
 le : ∀ a ∈ allOf free lim ++ hs, 1 ≤ a ∧ a ≤ c
 len : (allOf free lim ++ hs).length = c
theorem EpcM.in_ {t c : Nat} {G : Nat → Nat} {free hs : List Nat} {lim : Nat → List Nat} (h : EpcM t c G free lim hs) {i a : Nat} (hi : i < 3) (ha : a ∈ lim i) : a ∈ allOf free lim ++ hs := by
 refine List.mem_append_left _ ?_
 unfold allOf
 rcases (show i = 0 ∨ i = 1 ∨ i = 2 by omega) with rfl | rfl | rfl
 ·exact List.mem_append_right _ (List.mem_append_left _ ha)
 ·exact List.mem_append_right _ (List.mem_append_right _ (List.mem_append_left _ ha))
 ·exact List.mem_append_right _ (List.mem_append_right _ (List.mem_append_right _ ha))
theorem EpcM.sub {t c : Nat} {G : Nat → Nat} {free hs : List Nat} {lim : Nat → List Nat} (h : EpcM t c G free lim hs) {i : Nat} (hi : i < 3) : (lim i ++ free).Nodup ∧ (lim i).length ≤ c := by
 have h1 := h.nodup
 have h2 := h.len
 have hs : ∃ l, (allOf free lim ++ hs).Perm ((lim i ++ free) ++ l) := by
  rcases (show i = 0 ∨ i = 1 ∨ i = 2 by omega) with rfl | rfl | rfl
  ·exact ⟨lim 1 ++ lim 2 ++ hs, List.perm_iff_count.2 fun a => by simp only [allOf, List.count_append]; omega⟩
  ·exact ⟨lim 0 ++ lim 2 ++ hs, List.perm_iff_count.2 fun a => by simp only [allOf, List.count_append]; omega⟩
  ·exact ⟨lim 0 ++ lim 1 ++ hs, List.perm_iff_count.2 fun a => by simp only [allOf, List.count_append]; omega⟩
 obtain ⟨l, hp⟩ := hs
 have h3 := hp.nodup_iff.1 h1
 rw [hp.length_eq] at h2
 simp only [List.length_append] at h2
 exact ⟨(List.nodup_append.1 h3).1, by omega⟩
theorem EpcM.of {t c : Nat} {G G' : Nat → Nat} {free free' hs hs' : List Nat} {lim lim' : Nat → List Nat} (h : EpcM t c G free lim hs) (hp : (allOf free' lim' ++ hs').Perm (allOf free lim ++ hs)) (lt : ∀ j, G' j < 18446744073709551616) (hf : FreeIs t G' free') (hl : ∀ i, i < 3 → Chain t G' (lim' i) (firstN (G' (4 + i)))) : EpcM t c G' free' lim' hs' :=
 ⟨lt, hf, hl, hp.nodup_iff.2 h.nodup, fun a ha => h.le a (hp.mem_iff.1 ha), by rw [hp.length_eq]; exact h.len⟩
def advG (t : Nat) (l : List Nat) (G : Nat → Nat) : Nat → Nat := pushAll t l (setW (setW G 3 (upN (G 3) 1)) (limboN (upN (G 3) 2)) 0)
def emptied (lim : Nat → List Nat) (k : Nat) : Nat → List Nat := fun i => if i = k then [] else lim i
theorem advG_off {t : Nat} {l : List Nat} {G : Nat → Nat} {j : Nat} (h1 : j ≠ 1) (h3 : j ≠ 3) (hl : j ≠ limboN (upN (G 3) 2)) (h : ∀ a ∈ l, j ≠ fieldN t a 7) : advG t l G j = G j := by
 unfold advG
 rw [pushAll_off l _ j h1 h, setW_off _ _ hl, setW_off _ _ h3]
theorem advG_epoch (t : Nat) (l : List Nat) (G : Nat → Nat) : advG t l G 3 = upN (G 3) 1 := by
 unfold advG
 rw [pushAll_off l _ 3 (by decide) (fun a _ => by have := @field_ge t a; omega), setW_off _ _ (by unfold limboN; omega), setW_at]
theorem EpcM.advance {t c : Nat} {G : Nat → Nat} {free hs : List Nat} {lim : Nat → List Nat} (h : EpcM t c G free lim hs) (hc : c < 1048576) {m f : Nat} (hf : c < f) (hp : ∀ j, j < t → G (pinN j) = 0 ∨ G (pinN j) = upN (G 3) 1) :
  (Prg.advance t (m + 1) f).run (memTell (sizeN t c)) G = .done 1 (advG t (lim (upN (G 3) 2 % 3)) G) ∧ EpcM t c (advG t (lim (upN (G 3) 2 % 3)) G) ((lim (upN (G 3) 2 % 3)).reverse ++ free) (emptied lim (upN (G 3) 2 % 3)) hs := by
 have hk : upN (G 3) 2 % 3 < 3 := Nat.mod_lt _ (by decide)
 have hl4 : limboN (upN (G 3) 2) = 4 + upN (G 3) 2 % 3 := rfl
 generalize hkk : upN (G 3) 2 % 3 = k at *
 obtain ⟨hnd, hlen⟩ := h.sub hk
 have hle : ∀ a ∈ lim k, 1 ≤ a ∧ a ≤ c := fun a ha => h.le a (h.in_ hk ha)
 have h8 : 8 + t ≤ sizeN t c := by unfold sizeN; omega
 have hw1 : ∀ j, setW G 3 (upN (G 3) 1) j < 18446744073709551616 := setW_lt h.lt (upN_lt _ _)
 have hw2 : ∀ j, setW (setW G 3 (upN (G 3) 1)) (4 + k) 0 j < 18446744073709551616 := setW_lt hw1 (by decide)
 have hoth : ∀ (l : List Nat) (r : Nat), Chain t G l r → Chain t (setW (setW G 3 (upN (G 3) 1)) (4 + k) 0) l r := fun l r hch => Chain.other (fun b _ _ => by rw [setW_off _ _ (by have := @field_ge t b; omega), setW_off _ _ (by have := @field_ge t b; omega)]) hch
 have hfr : FreeIs t (setW (setW G 3 (upN (G 3) 1)) (4 + k) 0) free := by
  have := hoth _ _ h.isFree
  unfold FreeIs
  rw [setW_off _ _ (by omega), setW_off _ _ (by decide)]
  exact this
 have hadv : advG t (lim k) G = pushAll t (lim k) (setW (setW G 3 (upN (G 3) 1)) (4 + k) 0) := by unfold advG; rw [hl4]
 refine ⟨?_, ?_⟩
 ·unfold Prg.advance
  rw [Prg.mem_load (by omega) (h.lt 3), Prg.mem_pins h.lt t 0 (by omega) h8 (fun j _ hj => hp j (by omega)), Prg.mem_cas (by omega), if_pos rfl, hl4, Prg.mem_swap (by omega) (hw1 _), setW_off _ _ (by omega), hadv]
  exact Prg.mem_chain hc (lim k) _ f _ hw2 (hoth _ _ (h.isLim k hk)) (List.nodup_append.1 hnd).1 (fun a ha => (hle a ha).2) (by omega)
 ·refine h.of ?_ ?_ ?_ ?_
  ·refine List.perm_iff_count.2 fun a => ?_
   rcases (show k = 0 ∨ k = 1 ∨ k = 2 by omega) with rfl | rfl | rfl <;> (simp [allOf, emptied, List.count_append, List.count_reverse]; omega)
  ·rw [hadv]
   exact pushAll_lt hc _ _ (fun a ha => (hle a ha).2) hw2
  ·rw [hadv]
   exact pushAll_free hc _ _ _ hfr hle hnd
  ·intro i hi
   unfold emptied
   by_cases hik : i = k
   ·subst hik
    rw [if_pos rfl, hadv, pushAll_off _ _ _ (by omega) (fun a _ => by have := @field_ge t a; omega), setW_at]
    rfl
   ·rw [if_neg hik]
    have h1 : advG t (lim k) G (4 + i) = G (4 + i) := by rw [hadv, pushAll_off _ _ _ (by omega) (fun a _ => by have := @field_ge t a; omega), setW_off _ _ (by omega), setW_off _ _ (by omega)]
    rw [h1]
    refine Chain.other (fun b hb hb1 => ?_) (h.isLim i hi)
    rw [hadv, pushAll_off _ _ _ (by have := @field_ge t b; omega) (fun a ha he => ?_), setW_off _ _ (by have := @field_ge t b; omega), setW_off _ _ (by have := @field_ge t b; omega)]
    have hab := field_inj hb1 (hle a ha).1 he
    subst hab
    have hn := h.nodup
    have hca : (allOf free lim ++ hs).count b ≤ 1 := List.nodup_iff_count.1 hn b
    have c1 : 0 < (lim i).count b := List.count_pos_iff.2 hb
    have c2 : 0 < (lim k).count b := List.count_pos_iff.2 ha
    rcases (show i = 0 ∨ i = 1 ∨ i = 2 by omega) with rfl | rfl | rfl <;> rcases (show k = 0 ∨ k = 1 ∨ k = 2 by omega) with rfl | rfl | rfl <;> simp only [allOf, List.count_append] at hca <;> omega
theorem EpcM.other {t c : Nat} {G G' : Nat → Nat} {free hs : List Nat} {lim : Nat → List Nat} (h : EpcM t c G free lim hs) (lt : ∀ j, G' j < 18446744073709551616) (h1 : G' 1 = G 1) (h4 : ∀ i, i < 3 → G' (4 + i) = G (4 + i)) (hf : ∀ b, 1 ≤ b → G' (fieldN t b 7) = G (fieldN t b 7)) : EpcM t c G' free lim hs := by
 refine h.of (List.Perm.refl _) lt ?_ fun i hi => ?_
 ·unfold FreeIs
  rw [h1]
  exact Chain.other (fun b _ hb => hf b hb) h.isFree
 ·rw [h4 i hi]
  exact Chain.other (fun b _ hb => hf b hb) (h.isLim i hi)
theorem EpcM.pin {t c me v : Nat} {G : Nat → Nat} {free hs : List Nat} {lim : Nat → List Nat} (h : EpcM t c G free lim hs) (hme : me < t) (hv : v < 18446744073709551616) : EpcM t c (setW G (pinN me) v) free lim hs :=
 h.other (setW_lt h.lt hv) (setW_off _ _ (by unfold pinN; omega)) (fun i hi => setW_off _ _ (by unfold pinN; omega)) fun b hb => setW_off _ _ (by unfold fieldN pinN; omega)
theorem EpcM.pop {t c a : Nat} {G : Nat → Nat} {free hs : List Nat} {lim : Nat → List Nat} (h : EpcM t c G (a :: free) lim hs) : EpcM t c (popG t G) free lim (hs ++ [a]) := by
 refine h.of ?_ (popG_lt h.lt) h.isFree.pop fun i hi => ?_
 ·exact List.perm_iff_count.2 fun x => by simp only [allOf, List.cons_append, List.count_append, List.count_cons, List.count_nil]; omega
 ·have e : popG t G (4 + i) = G (4 + i) := by unfold popG; exact setW_off _ _ (by omega)
  rw [e]
  exact Chain.other (fun b _ _ => by unfold popG; exact setW_off _ _ (by have := @field_ge t b; omega)) (h.isLim i hi)
def retG (t r : Nat) (G : Nat → Nat) : Nat → Nat := setW (setW G (fieldN t r 7) (G (limboN (G 3)))) (limboN (G 3)) r
def onto (lim : Nat → List Nat) (k r : Nat) : Nat → List Nat := fun i => if i = k then r :: lim i else lim i
theorem EpcM.retire {t c q : Nat} {G : Nat → Nat} {free hs hs' : List Nat} {lim : Nat → List Nat} (h : EpcM t c G free lim hs) (hp : hs.Perm (q :: hs')) (hc : c < 1048576) : EpcM t c (retG t q G) free (onto lim (G 3 % 3) q) hs' := by
 have hk : G 3 % 3 < 3 := Nat.mod_lt _ (by decide)
 have hl4 : limboN (G 3) = 4 + G 3 % 3 := rfl
 have hG4 : G (4 + G 3 % 3) < 18446744073709551616 := h.lt _
 generalize hkk : G 3 % 3 = k at *
 have hq := h.le q (List.mem_append_right _ (hp.mem_iff.2 (List.mem_cons_self ..)))
 have hnd := h.nodup
 have hcq : 0 < hs.count q := List.count_pos_iff.2 (hp.mem_iff.2 (List.mem_cons_self ..))
 have hone : (allOf free lim ++ hs).count q ≤ 1 := List.nodup_iff_count.1 hnd q
 simp only [allOf, List.count_append] at hone
 have hno : ∀ l : List Nat, l.count q = 0 → ∀ b ∈ l, b ≠ q := fun l hl b hb he => by subst he; have := List.count_pos_iff.2 hb; omega
 have hret : retG t q G = setW (setW G (fieldN t q 7) (G (4 + k))) (4 + k) q := by unfold retG; rw [hl4]
 have hch : ∀ (l : List Nat) (r : Nat), l.count q = 0 → Chain t G l r → Chain t (retG t q G) l r := fun l r hl hcl => Chain.other (fun b hb hb1 => by
  rw [hret, setW_off _ _ (by have := @field_ge t b; omega), setW_off _ _ (fun he => hno l hl b hb (field_inj hb1 hq.1 he))]) hcl
 refine h.of ?_ ?_ ?_ ?_
 ·refine List.perm_iff_count.2 fun x => ?_
  have hx : hs.count x = (q :: hs').count x := hp.count_eq x
  rcases (show k = 0 ∨ k = 1 ∨ k = 2 by omega) with rfl | rfl | rfl <;> (simp [allOf, onto, List.count_append, List.count_cons] at hx ⊢; omega)
 ·rw [hret]
  exact setW_lt (setW_lt h.lt hG4) (by omega)
 ·have h1 := hch free _ (by omega) h.isFree
  unfold FreeIs
  rw [hret, setW_off _ _ (by omega), setW_off _ _ (by have := @field_ge t q; omega), ← hret]
  exact h1
 ·intro i hi
  have hz : (lim i).count q = 0 := by rcases (show i = 0 ∨ i = 1 ∨ i = 2 by omega) with rfl | rfl | rfl <;> omega
  unfold onto
  by_cases hik : i = k
  ·subst hik
   rw [if_pos rfl]
   have e1 : retG t q G (4 + i) = q := by rw [hret, setW_at]
   have e2 : retG t q G (fieldN t q 7) = G (4 + i) := by rw [hret, setW_off _ _ (by have := @field_ge t q; omega), setW_at]
   rw [e1]
   refine ⟨by unfold firstN; omega, hq.1, ?_⟩
   rw [e2]
   exact hch _ _ hz (h.isLim i hi)
  ·rw [if_neg hik]
   have e1 : retG t q G (4 + i) = G (4 + i) := by rw [hret, setW_off _ _ (by omega), setW_off _ _ (by have := @field_ge t q; omega)]
   rw [e1]
   exact hch _ _ hz (h.isLim i hi)
theorem EpcM.start {t c : Nat} (hc : c < 1048576) (lt : ∀ j, newF t c j < 18446744073709551616) (h4 : ∀ i, i < 3 → newF t c (4 + i) = 0) : EpcM t c (newF t c) (List.range' 1 c) (fun _ => []) [] := by
 refine ⟨lt, new_free hc, fun i hi => ?_, ?_, ?_, ?_⟩
 ·show firstN (newF t c (4 + i)) = 0
  rw [h4 i hi]
  rfl
 ·simp only [allOf, List.append_nil]
  exact List.nodup_range'
 ·intro a ha
  simp only [allOf, List.append_nil] at ha
  rw [List.mem_range'_1] at ha
  omega
 ·simp only [allOf, List.append_nil, List.length_range']
theorem newF_low {t c : Nat} {j : Nat} (h1 : 2 ≤ j) (h2 : j < 8 + t) : newF t c j = 0 := by
 unfold newF
 rw [if_neg (by omega), if_pos h2]
theorem EpcM.new {t c : Nat} (hc : c ≤ 65536) : EpcM t c (newF t c) (List.range' 1 c) (fun _ => []) [] := EpcM.start (by omega) (newF_lt hc) fun i hi => newF_low (by omega) (by omega)
theorem EpcM.round {t c me : Nat} {G : Nat → Nat} {free hs : List Nat} {lim : Nat → List Nat} (h : EpcM t c G free lim hs) (hc : c < 1048576) {m f : Nat} (hf : c < f) (hme : me < t) (hp : ∀ j, j < t → j ≠ me → G (pinN j) = 0) :
  ∃ G', (∀ q : Nat → Prg, ((Prg.pin me).bind fun _ => (Prg.advance t (m + 1) f).bind q).run (memTell (sizeN t c)) G = (q 1).run (memTell (sizeN t c)) G') ∧ EpcM t c G' ((lim (upN (G 3) 2 % 3)).reverse ++ free) (emptied lim (upN (G 3) 2 % 3)) hs ∧ G' 3 = upN (G 3) 1 ∧ ∀ j, j < t → j ≠ me → G' (pinN j) = 0 := by
 have h8 : pinN me < sizeN t c := by unfold pinN sizeN; omega
 have h3 : setW G (pinN me) (upN (G 3) 1) 3 = G 3 := setW_off _ _ (by unfold pinN; omega)
 have hA := (h.pin (v := upN (G 3) 1) hme (upN_lt _ _)).advance hc (m := m) hf (by
  intro j hj
  rw [h3]
  by_cases hjm : j = me
  ·subst hjm
   exact .inr (setW_at _ _ _)
  ·exact .inl ((setW_off _ _ (by unfold pinN; omega)).trans (hp j hj hjm)))
 rw [h3] at hA
 refine ⟨_, fun q => ?_, hA.2, ?_, fun j hj hjm => ?_⟩
 ·rw [Prg.run_bind, Prg.mem_pin h.lt (by unfold sizeN; omega) h8]
  show ((Prg.advance t (m + 1) f).bind q).run _ _ = _
  rw [Prg.run_bind, hA.1]
  rfl
 ·rw [advG_epoch, h3]
 ·have hle : ∀ a ∈ lim (upN (G 3) 2 % 3), 1 ≤ a := fun a ha => (h.le a (h.in_ (Nat.mod_lt _ (by decide)) ha)).1
  rw [advG_off (by unfold pinN; omega) (by unfold pinN; omega) (by unfold pinN limboN; omega) (fun a ha => by have := hle a ha; unfold pinN fieldN; omega), setW_off _ _ (by unfold pinN; omega)]
  exact hp j hj hjm
theorem popG_off {t j : Nat} {G : Nat → Nat} (h : j ≠ 1) : popG t G j = G j := by unfold popG; exact setW_off _ _ h
def AllocEnd (t c me : Nat) (hs : List Nat) (e : Nat) (R : Ran (Nat → Nat)) : Prop :=
 ∃ a G' free' lim', R = .done a G' ∧ ((a = 0 ∧ hs.length = c ∧ EpcM t c G' free' lim' hs) ∨ (1 ≤ a ∧ a ≤ c ∧ EpcM t c G' free' lim' (hs ++ [a]))) ∧ (∀ j, j < t → j ≠ me → G' (pinN j) = 0) ∧ G' 3 ≤ e
theorem AllocEnd.mono {t c me e e' : Nat} {hs : List Nat} {R : Ran (Nat → Nat)} (h : AllocEnd t c me hs e R) (he : e ≤ e') : AllocEnd t c me hs e' R := by
 obtain ⟨a, G', free', lim', h1, h2, h3, h4⟩ := h
 exact ⟨a, G', free', lim', h1, h2, h3, Nat.le_trans h4 he⟩
theorem EpcM.got {t c me m f k a : Nat} {G : Nat → Nat} {free hs : List Nat} {lim : Nat → List Nat} (h : EpcM t c G (a :: free) lim hs) (hp : ∀ j, j < t → j ≠ me → G (pinN j) = 0) :
  AllocEnd t c me hs (G 3) (((Prg.pop t (m + 1)).bind fun r => Prg.allocL t me (m + 1) f k r).run (memTell (sizeN t c)) G) := by
 have ha := h.le a (by simp [allOf])
 refine ⟨a, popG t G, free, lim, ?_, .inr ⟨ha.1, ha.2, h.pop⟩, fun j h1 h2 => ?_, ?_⟩
 ·rw [Prg.run_bind, Prg.mem_popP h.lt h.isFree ha.2]
  show (Prg.allocL t me (m + 1) f k a).run _ _ = _
  cases k with
  | zero => rfl
  | succ k => unfold Prg.allocL; rw [if_pos (by omega)]; rfl
 ·rw [popG_off (by unfold pinN; omega)]
  exact hp j h1 h2
 ·rw [popG_off (by decide)]
  exact Nat.le_refl _
theorem EpcM.allocL {t c me : Nat} (hc : c < 1048576) {m f : Nat} (hf : c < f) (hme : me < t) {hs : List Nat} : ∀ (k : Nat) (G : Nat → Nat) (lim : Nat → List Nat), EpcM t c G [] lim hs → G 3 + k + 3 < 18446744073709551616 → (∀ j, j < t → j ≠ me → G (pinN j) = 0) → (∀ i, i < 3 → (∀ j, j < k → (G 3 + 2 + j) % 3 ≠ i) → lim i = []) →
  AllocEnd t c me hs (G 3 + k) ((Prg.allocL t me (m + 1) f k 0).run (memTell (sizeN t c)) G)
 | 0, G, lim, h, he, hp, hl => by
  refine ⟨0, G, [], lim, rfl, .inl ⟨rfl, ?_, h⟩, hp, by omega⟩
  have h1 := h.len
  rw [show allOf [] lim = [] by unfold allOf; rw [hl 0 (by decide) (fun j hj => absurd hj (Nat.not_lt_zero _)), hl 1 (by decide) (fun j hj => absurd hj (Nat.not_lt_zero _)), hl 2 (by decide) (fun j hj => absurd hj (Nat.not_lt_zero _))]; rfl] at h1
  exact h1
 | k + 1, G, lim, h, he, hp, hl => by
  obtain ⟨G1, hrun, hM, h3, hp1⟩ := h.round hc (m := m) hf hme hp
  have e3 : upN (G 3) 1 = G 3 + 1 := by unfold upN; omega
  have e2 : upN (G 3) 2 % 3 = (G 3 + 2) % 3 := by unfold upN; omega
  rw [e3] at h3
  rw [e2, List.append_nil] at hM
  unfold Prg.allocL
  rw [if_neg (by simp)]
  rw [hrun]
  cases hq : (lim ((G 3 + 2) % 3)).reverse with
  | nil =>
   rw [hq] at hM
   rw [Prg.run_bind, Prg.mem_noneP hM.lt hM.isFree]
   refine (EpcM.allocL hc hf hme k G1 _ hM (by omega) hp1 fun i hi hj => ?_).mono (by omega)
   unfold emptied
   split
   ·rfl
   ·rename_i hne
    refine hl i hi fun j hjk => ?_
    cases j with
    | zero => exact fun he => hne (by simpa using he.symm)
    | succ j =>
     have := hj j (by omega)
     rw [h3] at this
     exact fun he => this (by rw [← he]; congr 1; omega)
  | cons a l =>
   rw [hq] at hM
   exact (hM.got hp1).mono (by omega)
theorem EpcM.alloc {t c me : Nat} {G : Nat → Nat} {free hs : List Nat} {lim : Nat → List Nat} (h : EpcM t c G free lim hs) (hc : c < 1048576) {m f : Nat} (hf : c < f) (hme : me < t) (he : G 3 + 6 < 18446744073709551616) (hp : ∀ j, j < t → j ≠ me → G (pinN j) = 0) :
  AllocEnd t c me hs (G 3 + 3) ((Prg.alloc t me (m + 1) f).run (memTell (sizeN t c)) G) := by
 unfold Prg.alloc
 cases free with
 | nil =>
  rw [Prg.run_bind, Prg.mem_noneP h.lt h.isFree]
  exact EpcM.allocL hc hf hme 3 G lim h (by omega) hp fun i hi hj => by
   have h0 := hj 0 (by decide)
   have h1 := hj 1 (by decide)
   have h2 := hj 2 (by decide)
   omega
 | cons a free => exact (h.got hp).mono (by omega)
end Go.Proofs.YtibpfkcackdbgaaGreatDoor
