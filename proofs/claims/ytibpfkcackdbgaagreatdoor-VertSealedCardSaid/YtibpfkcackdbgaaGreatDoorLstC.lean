/- LstC -/
import Derived.Test.YtibpfkcackdbgaaGreatDoorLstNext
import Derived.Test.YtibpfkcackdbgaaGreatDoorAccC
import Derived.Test.YtibpfkcackdbgaaGreatDoorPolB
import Derived.Test.YtibpfkcackdbgaaGreatDoorSmal
import Derived.Deep.Cut
namespace Go.Proofs.YtibpfkcackdbgaaGreatDoor
open Go.ChangeShapes Go.WideShapes Go.ChangeAt Go.RowKit Go.BigFrame
set_option linter.unusedVariables false
set_option maxRecDepth 100000
abbrev WS := (Nat → Nat) × List Stm
def stmAt (W : WS) (me : Nat) : Stm := W.2.getD me ⟨[], 0⟩
def stepS (n me : Nat) (K i : Int) (a b : Nat) (d : List Nat) (fa : Bool) (W : WS) : Option (Nat × Bool × WS) :=
 if 0 ≤ K ∧ K < 5 ∧ 0 ≤ i ∧ i < n then some (toldN K.toNat a b (W.1 i.toNat), false, (setW W.1 i.toNat (isN K.toNat a b (W.1 i.toNat)), W.2))
 else if (K = 5 ∨ K = 6) ∧ i = 0 ∧ a = 0 ∧ b = 0 ∧ me < W.2.length ∧ (stmAt W me).bytes.length + d.length ≤ 100000 then
  some (0, fa, if fa = true then W else (W.1, W.2.set me (if K = 5 then (stmAt W me).app d else (stmAt W me).syn)))
 else none
namespace Prd
def aloneD (p : Prd) (n me : Nat) (fail : Nat → Bool) : Nat → List Res → WS → Option (Nat × WS)
 | 0, _, _ => none
 | f + 1, log, W =>
  match p.run tapeTellD log with
  | .bad => none
  | .done r _ => some (r, W)
  | .left K i a b d =>
   match stepS n me K i a b d (fail log.length) W with
   | none => none
   | some (N, fl, W') => aloneD p n me fail f (log ++ [⟨N, [], fl⟩]) W'
def wTell (n me : Nat) (fail : Nat → Bool) (s : WS × Nat) (k i : Int) (a b : Nat) (d : List Nat) : Tell (WS × Nat) :=
 match stepS n me k i a b d (fail s.2) s.1 with
 | none => .bad
 | some (N, fl, W') => .told (toldR k ⟨N, [], fl⟩) (W', s.2 + 1)
inductive AfterD : Prd → List Res → Prd → Prop
 | nil (p : Prd) : AfterD p [] p
 | cons {k i : Int} {a b : Nat} {d : List Nat} {f : Nat → Prd} {r : Res} {log : List Res} {p' : Prd} (h : AfterD (f (toldR k r)) log p') : AfterD (ask k i a b d f) (r :: log) p'
theorem AfterD.snoc {p : Prd} {log : List Res} {k i : Int} {a b : Nat} {d : List Nat} {f : Nat → Prd} (h : AfterD p log (ask k i a b d f)) (r : Res) : AfterD p (log ++ [r]) (f (toldR k r)) := by
 generalize hq : ask k i a b d f = q at h
 induction h with
 | nil p => subst hq; exact .cons (.nil _)
 | cons h ih => exact .cons (ih hq)
theorem AfterD.run {p p' : Prd} {log : List Res} (h : AfterD p log p') (l : List Res) : p.run tapeTellD (log ++ l) = p'.run tapeTellD l := by
 induction h with
 | nil p => rfl
 | cons h ih =>
  simp only [List.cons_append, Prd.run, tapeTellD]
  exact ih
theorem alone_world (p : Prd) (n me : Nat) (fail : Nat → Bool) : ∀ (p' : Prd) (log : List Res) (W W' : WS) (d j f : Nat), AfterD p log p' → p'.run (wTell n me fail) (W, log.length) = .done d (W', j) → j < log.length + f → aloneD p n me fail f log W = some (d, W')
 | ret d', log, W, W', d, j, f, ha, hr, hf => by
  cases hr
  cases f with
  | zero => omega
  | succ f =>
   have h := ha.run []
   rw [List.append_nil] at h
   unfold aloneD
   rw [h]
   rfl
 | bad, log, W, W', d, j, f, ha, hr, hf => by cases hr
 | ask k i a b dd g, log, W, W', d, j, f, ha, hr, hf => by
  simp only [run] at hr
  unfold wTell at hr
  simp only [] at hr
  cases hs : stepS n me k i a b dd (fail log.length) W with
  | none => rw [hs] at hr; cases hr
  | some q =>
   obtain ⟨N, fl, W2⟩ := q
   rw [hs] at hr
   have hmore : ∀ (p : Prd) (W : WS) (i0 : Nat), p.run (wTell n me fail) (W, i0) = .done d (W', j) → i0 ≤ j := by
    intro p
    induction p with
    | ret d => intro W i0 h; cases h; exact Nat.le_refl _
    | bad => intro W i0 h; cases h
    | ask k i a b dd g ih =>
     intro W i0 h
     simp only [run] at h
     unfold wTell at h
     simp only [] at h
     cases hs : stepS n me k i a b dd (fail i0) W with
     | none => rw [hs] at h; cases h
     | some q =>
      rw [hs] at h
      have := ih _ _ _ h
      omega
   have hj := hmore _ _ _ hr
   cases f with
   | zero => omega
   | succ f =>
    have h := ha.run []
    rw [List.append_nil] at h
    unfold aloneD
    rw [h]
    simp only [run, tapeTellD, hs]
    refine alone_world p n me fail _ (log ++ [⟨N, [], fl⟩]) W2 W' d j f (ha.snoc ⟨N, [], fl⟩) ?_ (by rw [List.length_append]; simp; omega)
    rw [List.length_append]
    exact hr
theorem alone_ofW {p : Prd} {n me : Nat} {fail : Nat → Bool} {W W' : WS} {d j f : Nat} (h : p.run (wTell n me fail) (W, 0) = .done d (W', j)) (hf : j < f) : aloneD p n me fail f [] W = some (d, W') :=
 alone_world p n me fail p [] W W' d j f (.nil p) h (by simpa using hf)
inductive ExtD : Prd → Prd → Prop
 | bad (q : Prd) : ExtD .bad q
 | ret (d : Nat) : ExtD (.ret d) (.ret d)
 | ask (k i : Int) (a b : Nat) (d : List Nat) (f g : Nat → Prd) (h : ∀ x, ExtD (f x) (g x)) : ExtD (.ask k i a b d f) (.ask k i a b d g)
theorem ExtD.refl : ∀ p : Prd, ExtD p p
 | .bad => .bad _
 | .ret d => .ret d
 | .ask k i a b d f => .ask k i a b d f f fun x => ExtD.refl (f x)
theorem ExtD.bind {p p' : Prd} {q q' : Nat → Prd} (h : ExtD p p') (hq : ∀ d, ExtD (q d) (q' d)) : ExtD (p.bind q) (p'.bind q') := by
 induction h with
 | bad p => exact .bad _
 | ret d => exact hq d
 | ask k i a b d f g h ih => exact .ask _ _ _ _ _ _ _ ih
theorem ExtD.run {S : Type} {T : S → Int → Int → Nat → Nat → List Nat → Tell S} {p p' : Prd} (h : ExtD p p') (s : S) (hb : p.run T s ≠ .bad) : p.run T s = p'.run T s := by
 induction h generalizing s with
 | bad p => exact absurd rfl hb
 | ret d => rfl
 | ask k i a b d f g h ih =>
  simp only [Prd.run] at hb ⊢
  cases hT : T s k i a b d with
  | bad => rfl
  | left => rfl
  | told n s' =>
   rw [hT] at hb
   exact ih _ _ hb
theorem ext_raise (F b : Nat) (ov : Nat → Bool) : ∀ {n m : Nat}, n ≤ m → ExtD (raise F b ov n) (raise F b ov m)
 | 0, m, _ => .bad _
 | n + 1, 0, h => by omega
 | n + 1, m + 1, h => by
  unfold raise
  refine .ask _ _ _ _ _ _ _ fun g => ?_
  split
  ·exact ExtD.refl _
  ·refine .ask _ _ _ _ _ _ _ fun d => ?_
   split
   ·exact ExtD.refl _
   ·exact ext_raise F b ov (by omega)
theorem ext_saved (t r b s : Nat) (d : List Nat) {n m : Nat} (h : n ≤ m) : ExtD (saved t r b s n d) (saved t r b s m d) := (ExtD.refl _).bind fun x => by
 split
 ·exact (ext_raise _ _ _ h).bind fun _ => ExtD.refl _
 ·exact ExtD.refl _
theorem ext_rest (t r b f : Nat) {n m : Nat} (h : n ≤ m) : ExtD (rest t r b f n) (rest t r b f m) := by
 unfold rest
 split
 ·exact ExtD.refl _
 ·split
  ·exact ext_saved _ _ _ _ _ h
  ·exact .ask _ _ _ _ _ _ _ fun y => .ask _ _ _ _ _ _ _ fun u => .ask _ _ _ _ _ _ _ fun v => .ask _ _ _ _ _ _ _ fun x => ext_saved _ _ _ _ _ h
end Prd
theorem up_retireL (t r l : Nat) : ∀ {n m : Nat}, n ≤ m → Prd.ExtD (Prg.retireL t r l n).up (Prg.retireL t r l m).up
 | 0, m, _ => .bad _
 | n + 1, 0, h => by omega
 | n + 1, m + 1, h => by
  refine .ask _ _ _ _ _ _ _ fun w => .ask _ _ _ _ _ _ _ fun _ => .ask _ _ _ _ _ _ _ fun d => ?_
  show Prd.ExtD (if d = 1 then Prg.ret 0 else Prg.retireL t r l n).up (if d = 1 then Prg.ret 0 else Prg.retireL t r l m).up
  by_cases hd : d = 1
  ·rw [if_pos hd, if_pos hd]; exact Prd.ExtD.refl _
  ·rw [if_neg hd, if_neg hd]; exact up_retireL t r l (by omega)
theorem up_retire (t r : Nat) {n m : Nat} (h : n ≤ m) : Prd.ExtD (Prg.retire t r n).up (Prg.retire t r m).up := .ask _ _ _ _ _ _ _ fun _ => up_retireL t r _ h
namespace Prd
theorem ext_save (t r b : Nat) {n m : Nat} (h : n ≤ m) : ExtD (save t r b n) (save t r b m) := .ask _ _ _ _ _ _ _ fun f => ext_rest _ _ _ _ h
theorem ext_takeOut (t p x w : Nat) {n m : Nat} (h : n ≤ m) : ExtD (takeOut t p x w n) (takeOut t p x w m) := (ext_save t x 2 h).bind fun s => by
 split
 ·refine .ask _ _ _ _ _ _ _ fun d => ?_
  split
  ·exact (up_retire t x h).bind fun _ => ExtD.refl _
  ·exact ExtD.refl _
 ·exact ExtD.refl _
theorem ext_walk (t : Nat) (l1 l2 : Nat → Nat → Prd) (hl : ∀ x w, ExtD (l1 x w) (l2 x w)) {n m : Nat} (h : n ≤ m) : ∀ {f g : Nat} (p x : Nat), f ≤ g → ExtD (walk t l1 n f p x) (walk t l2 m g p x)
 | 0, _, _, _, _ => .bad _
 | f + 1, 0, _, _, h => by omega
 | f + 1, g + 1, p, x, hf => by
  unfold walk
  split
  ·exact ExtD.refl _
  ·refine .ask _ _ _ _ _ _ _ fun w => ?_
   split
   ·refine (ext_takeOut t p x w h).bind fun d => ?_
    split
    ·exact ExtD.refl _
    ·split
     ·exact ext_walk t l1 l2 hl h _ _ (by omega)
     ·exact .ask _ _ _ _ _ _ _ fun y => ext_walk t l1 l2 hl h _ _ (by omega)
   ·refine (hl x w).bind fun d => ?_
    split
    ·exact ext_walk t l1 l2 hl h _ _ (by omega)
    ·split
     ·exact ext_walk t l1 l2 hl h _ _ (by omega)
     ·exact ExtD.refl _
theorem ext_start (t : Nat) (l1 l2 : Nat → Nat → Prd) (hl : ∀ x w, ExtD (l1 x w) (l2 x w)) {n m : Nat} (h : n ≤ m) : ExtD (start t l1 n n) (start t l2 m m) := .ask _ _ _ _ _ _ _ fun _ => ext_walk t l1 l2 hl h _ _ h
theorem ext_lookW (t st x w : Nat) {n m : Nat} (h : n ≤ m) : ExtD (lookW t st n x w) (lookW t st m x w) := (ExtD.refl _).bind fun e => by
 split
 ·refine (ExtD.refl _).bind fun d => ?_
  split
  ·exact (ext_raise _ _ _ h).bind fun _ => ExtD.refl _
  ·exact ExtD.refl _
 ·exact ExtD.refl _
theorem ext_seekL (t k : Nat) : ∀ {f g : Nat} (x : Nat), f ≤ g → ExtD (seekL t k f x) (seekL t k g x)
 | 0, _, _, _ => .bad _
 | f + 1, 0, _, h => by omega
 | f + 1, g + 1, x, h => by
  unfold seekL
  split
  ·exact ExtD.refl _
  ·refine .ask _ _ _ _ _ _ _ fun a => ?_
   split
   ·exact ExtD.refl _
   ·exact .ask _ _ _ _ _ _ _ fun w => ext_seekL t k _ (by omega)
end Prd
namespace Prd
section
variable {n me : Nat} {fail : Nat → Bool} {W : WS} {j : Nat}
end
end Prd
end Go.Proofs.YtibpfkcackdbgaaGreatDoor
namespace Go.Proofs.YtibpfkcackdbgaaGreatDoor
open Go.ChangeShapes Go.WideShapes Go.ChangeAt Go.RowKit Go.BigFrame Go.Deep
set_option linter.unusedVariables false
set_option maxRecDepth 100000
def NextS (K i : Int) (a b : Nat) (d : List Nat) (w : World) (e : Ending) (w' : World) : Prop :=
 ∃ D dc E ec, e = .returned (.tuple #[.agg #[.int .i64 K, .int .i64 i, .int .u64 (a : Int), .int .u64 (b : Int), .slice D d.length dc, .slice E 0 ec], .agg #[.int .i64 0, .bool false, .int .i64 0, .int .u64 0, .slice none 0 0], .bool false]) ∧ AccP w' (accD K i a b d) D dc E ec ∧ Below w.heap.size w w'
def DoS (w : World) (t c : Int) (A : Option Addr) (n : Nat) (R S : Option Addr) (m : Nat) (G : Nat → Nat) (l0 l1 : List Stm) (N : Nat) (fl : Bool) (e : Ending) (w' : World) : Prop :=
 ∃ A' ka R' ra S' sa X kx, e = .returned (.tuple #[.agg #[.int .i64 t, .int .i64 c, .slice A' n ka, .int .u64 0, .slice R' m ra, .slice S' m sa], .agg #[.int .u64 (N : Int), .slice X 0 kx, .bool fl]]) ∧ AtW w' A' n G ∧ StmsAt w' R' m l0 ∧ StmsAt w' S' m l1 ∧ Below w.heap.size w w' ∧
  ∀ P : Nat → Prop, (∀ b, w.heap.size ≤ b → P b) → OffW P A n → OffS P w R m → OffS P w S m → OffW P A' n ∧ OffS P w' R' m ∧ OffS P w' S' m
theorem DoS.of {w : World} {t c : Int} {A : Option Addr} {n : Nat} {R S : Option Addr} {m : Nat} {G : Nat → Nat} {l0 l1 : List Stm} {N : Nat} {fl : Bool} {e : Ending} {w' : World} (h : DoW w t c A n 0 R S m G l0 l1 N [] fl e w') : DoS w t c A n R S m G l0 l1 N fl e w' := by
 obtain ⟨A', ka', R', ra', S', sa', X, kx, rfl, h1, h2, h3, h4, h5, h6, h7⟩ := h
 exact ⟨A', ka', R', ra', S', sa', X, kx, rfl, h1, h2, h3, h6, fun P p0 p1 p2 p3 => ⟨(h7 P p0 p1 p2 p3).1, (h7 P p0 p1 p2 p3).2.1, (h7 P p0 p1 p2 p3).2.2.1⟩⟩
theorem stepS_lt {n me : Nat} {K i : Int} {a b : Nat} {d : List Nat} {fa : Bool} {W : WS} {N : Nat} {fl : Bool} {W' : WS} (h : stepS n me K i a b d fa W = some (N, fl, W')) (hW : ∀ q, W.1 q < 18446744073709551616) : N < 18446744073709551616 := by
 unfold stepS at h
 split at h
 ·cases h; exact toldN_lt (b := b) (hW _)
 ·split at h
  ·cases h; decide
  ·cases h
theorem doS (t c : Int) (A : Option Addr) (n ka : Nat) (G : Nat → Nat) (R S : Option Addr) (m ra sa : Nat) (l0 l1 : List Stm) (me : Nat) (hme : me < m) (hm8 : m ≤ 8) (K i : Int) (a b : Nat) (d : List Nat) (fa : Bool) (N : Nat) (fl : Bool) (W' : WS) (hn : n ≤ 1000000) (hs : stepS n me K i a b d fa (G, l0) = some (N, fl, W')) (D : Option Addr) (dc : Nat) (E : Option Addr) (ec : Nat) (x : World) (hx : AccP x (accD K i a b d) D dc E ec) (h0 : Hid (AtW x A n G)) (h1 : Hid (StmsAt x R m l0)) (h2 : Hid (StmsAt x S m l1)) :
  Calls Tryz.prog 34 #[.agg #[.int .i64 t, .int .i64 c, .slice A n ka, .int .u64 0, .slice R m ra, .slice S m sa], .int .i64 (me : Int), .agg #[.int .i64 K, .int .i64 i, .int .u64 (a : Int), .int .u64 (b : Int), .slice D d.length dc, .slice E 0 ec], .bool fa] x (DoS x t c A n R S m W'.1 W'.2 l1 N fl) := by
 unfold stepS at hs
 split at hs
 case isTrue hc =>
  cases hs
  obtain ⟨hk0, hk5, hi0, hin⟩ := hc
  obtain ⟨Kn, rfl⟩ : ∃ Kn : Nat, K = (Kn : Int) := ⟨K.toNat, by omega⟩
  obtain ⟨ix, rfl⟩ : ∃ ix : Nat, i = (ix : Int) := ⟨i.toNat, by omega⟩
  rw [Int.toNat_natCast, Int.toNat_natCast]
  exact (doWord t c A n ka G 0 R S m ra sa l0 l1 (me : Int) a b D d.length dc E 0 ec Kn ix (by omega) (by omega) hn h0.out.1 hx.a hx.b fa x h0 h1 h2).mono fun e w' h => DoS.of h
 case isFalse =>
  split at hs
  case isFalse => cases hs
  case isTrue hc =>
   cases hs
   obtain ⟨hk, rfl, rfl, rfl, hml, hd⟩ := hc
   have hlen : l0.length = m := h1.out.1
   have hat : l0[me]? = some (stmAt (G, l0) me) := by
    unfold stmAt
    rw [List.getD_eq_getElem?_getD, List.getElem?_eq_getElem (by omega)]
    rfl
   cases fa with
   | true =>
    rw [if_pos rfl]
    exact (do_fails t c A n ka G 0 R S m ra sa l0 l1 (me : Int) K 0 0 0 D d.length dc E 0 ec (by rcases hk with rfl | rfl <;> rfl) x h0 h1 h2).mono fun e w' h => DoS.of h
   | false =>
    rw [if_neg (by decide)]
    have hD := Lib.hid hx.d
    rcases hk with rfl | rfl
    ·rw [if_pos rfl]
     refine (do_disk t c A n ka G 0 R S m ra sa l0 l1 (me : Int) 5 0 0 0 D d.length dc E 0 ec (by decide) false rfl d 0 0 (l0.set me ((stmAt (G, l0) me).app d)) l1 [] (fun w g0 g1 g2 => ofDisk_append 0 (by decide) R S m ra sa l0 l1 0 1 rfl (by decide) (me : Int) 0 0 0 D d.length dc E 0 ec _ _ 0 d (fun w g0 g1 g2 => dskAppend0_at 0 R m ra S m sa l0 l1 me hme (by omega) (stmAt (G, l0) me) hat D dc d.length d (by omega) w g0 g1 g2) w g0 g1 g2) x h0 h1 h2 hD).mono fun e w' h => DoS.of h
    ·rw [if_neg (by decide)]
     refine (do_disk t c A n ka G 0 R S m ra sa l0 l1 (me : Int) 6 0 0 0 D d.length dc E 0 ec (by decide) false rfl d 0 0 (l0.set me (stmAt (G, l0) me).syn) l1 [] (fun w g0 g1 _ => ofDisk_sync 0 (by decide) R S m ra sa l0 l1 0 1 rfl (by decide) (me : Int) 0 0 0 D d.length dc E 0 ec _ _ 0 [] (fun w g0 g1 => dskSync0_at 0 R m ra S m sa l0 l1 me hme (by omega) (stmAt (G, l0) me) hat w g0 g1) w g0 g1) x h0 h1 h2 hD).mono fun e w' h => DoS.of h
def AloneL (w : World) (t c : Int) (A : Option Addr) (n : Nat) (R S : Option Addr) (m : Nat) (G : Nat → Nat) (l0 l1 : List Stm) (er : Int) (oi : Bool) (M N : Nat) (e : Ending) (w' : World) : Prop :=
 ∃ A' ka R' ra S' sa, e = .returned (.tuple #[.agg #[.int .i64 t, .int .i64 c, .slice A' n ka, .int .u64 0, .slice R' m ra, .slice S' m sa], .agg #[.int .i64 er, .bool oi, .int .i64 (M : Int), .int .u64 (N : Int), .slice none 0 0], .bool true]) ∧ AtW w' A' n G ∧ StmsAt w' R' m l0 ∧ StmsAt w' S' m l1 ∧ Below w.heap.size w w' ∧
  ∀ P, From w w.heap.size A n R S m P → OffW P A' n ∧ OffS P w' R' m ∧ OffS P w' S' m
theorem RunZA.nextF {y0 : World} {gx B0 : Nat} {F : (Nat → Prop) → Prop} {L : List (Nat × List Value)} {t c : Int} {n r m : Nat} {l0 l1 : List Stm} {v : Value} {log : List Res} {vs : List Value} {X : Option Addr} {kx N : Nat} {fl : Bool} {G : Nat → Nat} {x : World} {v' : Value} {w' : World} (h : RunZA y0 gx B0 F L t c n r m l0 l1 v log vs X kx N G x)
  (hown : w'.ownsRow B0 81 3 v' (log.length + 1) (vs ++ resA ⟨N, [], fl⟩ X kx)) (hg : x.grownBy w' v.ownBlock) (hv : v'.ownBlock = v.ownBlock ∨ v'.ownBlock = some x.heap.size) :
  RunA y0 gx B0 F L t c n r m l0 l1 v' (log ++ [⟨N, [], fl⟩]) G w' := by
 have hrow : ∀ k, v.ownBlock = some k → B0 ≤ k := fun k hk => (h.own.lt k hk).1
 have hK : Keep (fun b => Nt gx gx v b ∧ Nt gx gx v' b) x w' := Keep.grown hg (fun b hb k hk => hb.1.2.2 k hk)
 have sub : ∀ b, b < x.heap.size → Nt gx gx v b → Nt gx gx v b ∧ Nt gx gx v' b := fun b hb hn => ⟨hn, hn.both hv hb⟩
 have hlt := h.lt
 have hvx : ∀ us, VarAt x gx us → VarAt w' gx us := fun us hu => hu.grown hg (fun k hk e => by have := hrow k hk; omega)
 have hb : Below y0.heap.size y0 w' := h.below.grown hg h.below.size (fun k hk => by have := hrow k hk; omega)
 have k1 := (h.run.sub sub).keep hK hvx
 have k3 := ((h.raw.sub sub).keep hK)
 have hres : ResP w' ⟨N, [], fl⟩ X kx := ⟨h.num, ⟨Nat.zero_le _, Nat.zero_le _⟩, AtB.nil _ _⟩
 refine ⟨hb, Nat.le_trans h.size hg.size, hlt, fun p hp => (h.vars p hp).grown hg (fun k hk e => by have := hrow k hk; have := (h.vlt p hp).2.1; omega), h.vlt, k1.sub fun b _ h => h.2, _, ?_, (k3.add hres (OffW.nil _ _)).sub fun b _ h => h.2⟩
 rw [List.length_append]
 exact hown
variable {m : Nat}
end Go.Proofs.YtibpfkcackdbgaaGreatDoor
namespace Go.Proofs.YtibpfkcackdbgaaGreatDoor
open Go.ChangeShapes Go.WideShapes Go.ChangeAt Go.RowKit Go.BigFrame
set_option linter.unusedVariables false
set_option maxRecDepth 100000
def NewWdO (w : World) (t c sz : Nat) (nf : Nat → Nat) (e : Ending) (w' : World) : Prop :=
 ∃ g R ra S sa, e = .returned (.agg #[.int .i64 (t : Int), .int .i64 (c : Int), .slice (some ⟨g, 0, none⟩) sz sz, .int .u64 0, .slice R t ra, .slice S t sa]) ∧ RowW w' g sz nf ∧ StmsAt w' R t (zerosS t) ∧ StmsAt w' S t (zerosS t) ∧ OffS (fun b => b ≠ g ∧ w.heap.size ≤ b) w' R t ∧ OffS (fun b => b ≠ g ∧ w.heap.size ≤ b) w' S t ∧ Below w.heap.size w w' ∧ w.heap.size ≤ g
set_option maxHeartbeats 2000000 in
theorem newWdO_at (t c : Nat) (h1 : 1 ≤ t) (h2 : t ≤ 64) (h3 : c ≤ 65536) (w : World) : Calls Tryz.prog 13 #[.int .i64 (t : Int), .int .i64 (c : Int)] w (NewWdO w t c (sizeN t c) (newF t c)) := by
 have HN := fun w => refNew_yes t c h1 h2 h3 w
 have HD := fun w => refNewD_yes t h1 h2 w
 go_enter Tryz.func13, Tryz.ntmps13
 go_wp2_with fail
 refine (HN _).mono ?_
 rintro e w2 ⟨g, rfl, hg, hrow, hb⟩
 obtain ⟨x2, hx2⟩ : ∃ x, w2.alloc (.cells #[.int .i64 (t : Int), .int .i64 (c : Int), .slice (some ⟨g, 0, none⟩) (sizeN t c) (sizeN t c)] 26) = x := ⟨_, rfl⟩
 have R0 : Hid (Room (w.alloc (.cells #[.int .i64 0, .int .i64 0, .slice none 0 0, .int .u64 0, .slice none 0 0, .slice none 0 0] 33)) w.heap.size 6) := Lib.hid (Room.made w _ _ 6 (by simp))
 have hz0 : (w.alloc (.cells #[.int .i64 0, .int .i64 0, .slice none 0 0, .int .u64 0, .slice none 0 0, .slice none 0 0] 33)).heap.size = w.heap.size + 1 := by simp
 have R2 : Hid (Room x2 w.heap.size 6) := Lib.hid (by rw [← hx2]; exact (R0.out.below hb).below (al_below _ _))
 have V2 : Hid (VarAt x2 w2.heap.size [.int .i64 (t : Int), .int .i64 (c : Int), .slice (some ⟨g, 0, none⟩) (sizeN t c) (sizeN t c)]) := Lib.hid (by rw [← hx2]; exact VarAt.made w2 _ _)
 have W2 : Hid (RowW x2 g (sizeN t c) (newF t c)) := Lib.hid (by rw [← hx2]; exact hrow.later (al_below _ _))
 have HG : Hid (w.heap.size + 1 ≤ g) := Lib.hid (by omega)
 have HZ2 : Hid (w.heap.size + 1 ≤ w2.heap.size) := Lib.hid (by have := hb.size; omega)
 have HZ2' : Hid (w2.heap.size ≤ x2.heap.size) := Lib.hid (by rw [← hx2]; simp)
 have HB2 : Hid (Below w.heap.size w x2) := Lib.hid (by rw [← hx2]; exact below_al ((al_below w _).trans (hb.mono (by simp))))
 clear hb hrow hg R0 HN hz0
 generalize sizeN t c = sz at *
 generalize newF t c = nf at *
 go_wp2_with fail
 refine (HD _).mono ?_
 rintro e w3 ⟨R', ra, S', sa, rfl, hs0, hs1, hb, hP⟩
 obtain ⟨x3, hx3⟩ : ∃ x, w3.alloc (.cells #[.int .u64 0, .slice R' t ra, .slice S' t sa] 31) = x := ⟨_, rfl⟩
 have hb3 : Below x2.heap.size x2 x3 := by rw [← hx3]; exact below_al hb
 have R3 := Lib.hid (R2.out.below hb3)
 have V3 := Lib.hid (V2.out.below hb3)
 have W3 := Lib.hid (W2.out.later hb3)
 have U3 : Hid (VarAt x3 w3.heap.size [.int .u64 0, .slice R' t ra, .slice S' t sa]) := Lib.hid (by rw [← hx3]; exact VarAt.made w3 _ _)
 have S3 : Hid (StmsAt x3 R' t (zerosS t)) := Lib.hid (by rw [← hx3]; exact hs0.later (al_below _ _))
 have T3 : Hid (StmsAt x3 S' t (zerosS t)) := Lib.hid (by rw [← hx3]; exact hs1.later (al_below _ _))
 have HB3 := Lib.hid (HB2.out.trans (hb3.mono HB2.out.size))
 have HP3 : Hid (∀ P : Nat → Prop, (∀ b, x2.heap.size ≤ b → P b) → OffS P x3 R' t ∧ OffS P x3 S' t) := Lib.hid (fun P hF => by
  have h := hP P hF (OffS.nowhere _ _ _) (OffS.nowhere _ _ _)
  rw [← hx3]
  exact ⟨h.1.later hs0 (al_below _ _), h.2.later hs1 (al_below _ _)⟩)
 have HZ3 : Hid (x2.heap.size ≤ w3.heap.size) := Lib.hid hb.size
 clear hs0 hs1 hb hP hb3
 obtain ⟨_, m0, m1, m2, _⟩ := V3.out.three
 obtain ⟨_, d0, d1, d2, _⟩ := U3.out.three
 obtain ⟨_, hr⟩ := R3.out
 obtain ⟨p0, q0⟩ := hr 0 (by decide)
 obtain ⟨p1, q1⟩ := hr 1 (by decide)
 obtain ⟨p2, q2⟩ := hr 2 (by decide)
 obtain ⟨p3, q3⟩ := hr 3 (by decide)
 obtain ⟨p4, q4⟩ := hr 4 (by decide)
 obtain ⟨p5, q5⟩ := hr 5 (by decide)
 obtain ⟨b0, p0⟩ := Option.isSome_iff_exists.1 p0
 obtain ⟨b1, p1⟩ := Option.isSome_iff_exists.1 p1
 obtain ⟨b2, p2⟩ := Option.isSome_iff_exists.1 p2
 obtain ⟨b3, p3⟩ := Option.isSome_iff_exists.1 p3
 obtain ⟨b4, p4⟩ := Option.isSome_iff_exists.1 p4
 obtain ⟨b5, p5⟩ := Option.isSome_iff_exists.1 p5
 rw [Nat.zero_add] at p0 p1 p2 p3 p4 p5 q0 q1 q2 q3 q4 q5
 clear hr
 have HB := HB3.out
 go_wp2_with fail
 obtain ⟨o0, o1⟩ := HP3.out (Out w.heap.size 1) (fun b hb => .inr (by have := HZ2.out; have := HZ2'.out; omega))
 exact bodyPost_ret (v := .agg #[.int .i64 (t : Int), .int .i64 (c : Int), .slice (some ⟨g, 0, none⟩) sz sz, .int .u64 0, .slice R' t ra, .slice S' t sa]) (by simp [results, Tryz.results13, go_sem, p0, p1, p2, p3, p4, p5]) rfl
  ⟨g, R', ra, S', sa, rfl, (by repeat (first | with_reducible exact W3.out | (with_reducible refine RowW.apart ?_ _ _ _ (by have := HG.out; omega)))),
   S3.out.alike (N := w.heap.size) (k := 1) (by repeat (first | with_reducible exact Alike.refl _ _ _ | with_reducible refine Alike.drew ?_ | (with_reducible refine Alike.set ?_ _ _ _ (by omega) (by omega)))) o0,
   T3.out.alike (N := w.heap.size) (k := 1) (by repeat (first | with_reducible exact Alike.refl _ _ _ | with_reducible refine Alike.drew ?_ | (with_reducible refine Alike.set ?_ _ _ _ (by omega) (by omega)))) o1,
   ((HP3.out (fun b => b ≠ g ∧ w.heap.size ≤ b) (fun b hb => by have := W2.out.1; have := HZ2.out; have := HZ2'.out; omega)).1).alike (N := w.heap.size) (k := 1) (by repeat (first | with_reducible exact Alike.refl _ _ _ | with_reducible refine Alike.drew ?_ | (with_reducible refine Alike.set ?_ _ _ _ (by omega) (by omega)))) o0,
   ((HP3.out (fun b => b ≠ g ∧ w.heap.size ≤ b) (fun b hb => by have := W2.out.1; have := HZ2.out; have := HZ2'.out; omega)).2).alike (N := w.heap.size) (k := 1) (by repeat (first | with_reducible exact Alike.refl _ _ _ | with_reducible refine Alike.drew ?_ | (with_reducible refine Alike.set ?_ _ _ _ (by omega) (by omega)))) o1,
   (by repeat (first | with_reducible assumption | with_reducible refine Below.drew ?_ | (with_reducible refine below_set1 (by omega) _ ?_))), by have := HG.out; omega⟩
structure WdO (w : World) (b : Nat) (t c : Int) (g n : Nat) (R : Option Addr) (m ra : Nat) (S : Option Addr) (sa : Nat) (G : Nat → Nat) (l0 l1 : List Stm) : Prop where
 var : VarAt w b [.int .i64 t, .int .i64 c, .slice (some ⟨g, 0, none⟩) n n, .int .u64 0, .slice R m ra, .slice S m sa]
 row : RowW w g n G
 s0 : StmsAt w R m l0
 s1 : StmsAt w S m l1
 o0 : OffS (fun b => b ≠ g) w R m
 o1 : OffS (fun b => b ≠ g) w S m
 ne : g ≠ b
section
variable {w w' : World} {b : Nat} {t c : Int} {g n : Nat} {R : Option Addr} {m ra : Nat} {S : Option Addr} {sa : Nat} {G : Nat → Nat} {l0 l1 : List Stm}
theorem WdO.later (h : WdO w b t c g n R m ra S sa G l0 l1) (hb : Below w.heap.size w w') : WdO w' b t c g n R m ra S sa G l0 l1 :=
 ⟨h.var.below hb, h.row.later hb, h.s0.later hb, h.s1.later hb, h.o0.later h.s0 hb, h.o1.later h.s1 hb, h.ne⟩
theorem WdO.put (h : WdO w b t c g n R m ra S sa G l0 l1) (p v : Nat) (hp : p < n) (hv : v < 18446744073709551616) : WdO (w.setCell ⟨g, p, none⟩ (.int .u64 (v : Int))) b t c g n R m ra S sa (setW G p v) l0 l1 := by
 have hK : Keep (fun b => b ≠ g) w (w.setCell ⟨g, p, none⟩ (.int .u64 (v : Int))) := (Keep.refl _ _).set g p _ (by simp)
 exact ⟨h.var.apart p _ h.ne, h.row.stored p v hp (setW G p v) (setW_lt h.row.2.1 hv) (fun j _ => by unfold setW; rfl), h.s0.keep hK h.o0, h.s1.keep hK h.o1, h.o0.keep h.s0 hK h.o0, h.o1.keep h.s1 hK h.o1, h.ne⟩
theorem WdO.cells (h : WdO w b t c g n R m ra S sa G l0 l1) : w.cell? ⟨b, 0, none⟩ = some (.int .i64 t) ∧ w.cell? ⟨b, 1, none⟩ = some (.int .i64 c) ∧ w.cell? ⟨b, 2, none⟩ = some (.slice (some ⟨g, 0, none⟩) n n) ∧ w.cell? ⟨b, 3, none⟩ = some (.int .u64 0) ∧ w.cell? ⟨b, 4, none⟩ = some (.slice R m ra) ∧ w.cell? ⟨b, 5, none⟩ = some (.slice S m sa) :=
 ⟨h.var.2.1 0 _ rfl, h.var.2.1 1 _ rfl, h.var.2.1 2 _ rfl, h.var.2.1 3 _ rfl, h.var.2.1 4 _ rfl, h.var.2.1 5 _ rfl⟩
end
end Go.Proofs.YtibpfkcackdbgaaGreatDoor
namespace Go.Proofs.YtibpfkcackdbgaaGreatDoor
open Go.ChangeShapes Go.WideShapes Go.ChangeAt Go.RowKit Go.BigFrame
set_option linter.unusedVariables false
set_option maxRecDepth 100000
namespace Prd
section
variable {n me : Nat} {fail : Nat → Bool} {W : WS} {j : Nat}
end
end Prd
end Go.Proofs.YtibpfkcackdbgaaGreatDoor
namespace Go.Proofs.YtibpfkcackdbgaaGreatDoor
open Go.ChangeShapes Go.WideShapes Go.ChangeAt Go.RowKit Go.BigFrame Go.Deep
set_option linter.unusedVariables false
set_option maxRecDepth 100000
end Go.Proofs.YtibpfkcackdbgaaGreatDoor
