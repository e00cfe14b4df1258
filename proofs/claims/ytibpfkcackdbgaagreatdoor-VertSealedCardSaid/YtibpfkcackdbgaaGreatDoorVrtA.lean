/- VrtPrg, VrtCalls, VrtLink, VrtAdd, VrtRem, VrtHas, VrtRun, VrtAns, VrtNext -/
import Derived.Test.YtibpfkcackdbgaaGreatDoorLstA
import Derived.Test.YtibpfkcackdbgaaGreatDoorEpcB
import Derived.Test.YtibpfkcackdbgaaGreatDoorSavMake
import Derived.Test.YtibpfkcackdbgaaGreatDoorPolB
import Derived.Test.YtibpfkcackdbgaaGreatDoorLstNext
import Derived.Test.YtibpfkcackdbgaaGreatDoorSavA
namespace Go.Proofs.YtibpfkcackdbgaaGreatDoor
open Go.ChangeShapes Go.WideShapes Go.ChangeAt Go.RowKit Go.BigFrame
set_option linter.unusedVariables false
set_option maxRecDepth 100000
namespace Prg
theorem mem_bind : ∀ (p : Prg) (q : Nat → Prg), p.mem → (∀ d, (q d).mem) → (p.bind q).mem
 | ret d, q, _, hq => hq d
 | bad, _, _, _ => trivial
 | ask _ _ _ _ f, q, h, hq => ⟨h.1, fun n => mem_bind (f n) q (h.2 n) hq⟩
theorem mem_pin' (me : Nat) : (pin me).mem := ⟨by decide, fun _ => ⟨by decide, fun _ => trivial⟩⟩
theorem mem_unpin' (me : Nat) : (unpin me).mem := ⟨by decide, fun _ => trivial⟩
theorem mem_pop' (t : Nat) : ∀ n, (pop t n).mem
 | 0 => trivial
 | n + 1 => by
  unfold pop
  refine ⟨by decide, fun w => ?_⟩
  show (if firstN w = 0 then Prg.ret 0 else _).mem
  by_cases h : firstN w = 0
  ·rw [if_pos h]; trivial
  ·rw [if_neg h]
   refine ⟨by decide, fun x => ⟨by decide, fun d => ?_⟩⟩
   dsimp only
   split
   ·trivial
   ·exact mem_pop' t n
theorem mem_push' (t r : Nat) : ∀ n, (push t r n).mem
 | 0 => trivial
 | n + 1 => by
  unfold push
  refine ⟨by decide, fun w => ⟨by decide, fun x => ⟨by decide, fun d => ?_⟩⟩⟩
  dsimp only
  split
  ·trivial
  ·exact mem_push' t r n
theorem mem_chain' (t m : Nat) : ∀ f r, (chain t m f r).mem
 | 0, _ => trivial
 | f + 1, r => by
  unfold chain
  split
  ·trivial
  ·exact ⟨by decide, fun x => mem_bind _ _ (mem_push' t r m) fun _ => mem_chain' t m f _⟩
theorem mem_pins' (e : Nat) (q : Prg) (hq : q.mem) : ∀ k i, (pins e q i k).mem
 | 0, _ => hq
 | k + 1, i => by
  unfold pins
  refine ⟨by decide, fun p => ?_⟩
  dsimp only
  split
  ·exact mem_pins' e q hq k (i + 1)
  ·trivial
theorem mem_advance' (t m f : Nat) : (advance t m f).mem := ⟨by decide, fun e => mem_pins' e (cas 3 e (upN e 1) fun d => if d = 1 then swap (limboN (upN e 2)) 0 fun h => chain t m f (firstN h) else ret 0) ⟨by decide, fun d => by
 dsimp only
 split
 ·exact ⟨by decide, fun h => mem_chain' t m f _⟩
 ·trivial⟩ t 0⟩
theorem mem_allocL' (t me m f : Nat) : ∀ k r, (allocL t me m f k r).mem
 | 0, _ => trivial
 | k + 1, r => by
  unfold allocL
  split
  ·trivial
  ·exact mem_bind _ _ (mem_pin' me) fun _ => mem_bind _ _ (mem_advance' t m f) fun _ => mem_bind _ _ (mem_pop' t m) fun r => mem_allocL' t me m f k r
theorem mem_alloc' (t me m f : Nat) : (alloc t me m f).mem := mem_bind _ _ (mem_pop' t m) fun r => mem_allocL' t me m f 3 r
theorem up_bind : ∀ (p : Prg) (q : Nat → Prg), (p.bind q).up = p.up.bind fun d => (q d).up
 | ret d, q => rfl
 | bad, _ => rfl
 | ask k i a b f, q => by
  simp only [bind, up, Prd.bind]
  congr 1
  funext n
  exact up_bind (f n) q
end Prg
namespace Prd
def All (P : Nat → Prop) : Prd → Prop
 | ret d => P d
 | bad => True
 | ask _ _ _ _ _ f => ∀ n, (f n).All P
theorem all_run {P : Nat → Prop} {S : Type} (T : S → Int → Int → Nat → Nat → List Nat → Tell S) : ∀ (p : Prd) {s s' : S} {d : Nat}, p.All P → p.run T s = .done d s' → P d
 | ret d, s, s', d', h, hr => by
  simp only [run] at hr
  cases hr
  exact h
 | bad, s, s', d', h, hr => by simp [run] at hr
 | ask k i a b dd f, s, s', d', h, hr => by
  simp only [run] at hr
  cases ht : T s k i a b dd with
  | bad => rw [ht] at hr; cases hr
  | left => rw [ht] at hr; cases hr
  | told n s2 => rw [ht] at hr; exact all_run T (f n) (h n) hr
theorem all_triv : ∀ p : Prd, p.All fun _ => True
 | ret _ => trivial
 | bad => trivial
 | ask _ _ _ _ _ f => fun n => all_triv (f n)
theorem all_bind {P Q : Nat → Prop} : ∀ (p : Prd) (q : Nat → Prd), p.All P → (∀ d, P d → (q d).All Q) → (p.bind q).All Q
 | ret d, q, h, hq => hq d h
 | bad, _, _, _ => trivial
 | ask _ _ _ _ _ f, q, h, hq => fun n => all_bind (f n) q (h n) hq
theorem all_walk (t k n : Nat) : ∀ (f p x : Nat), x < 1048576 → (walk t (lookS t k) n f p x).All fun d => codS d = 3 → 1 ≤ curS d
 | 0, _, _, _ => trivial
 | f + 1, p, x, hx => by
  unfold walk
  split
  ·intro h
   rw [codS_enc (by decide)] at h
   omega
  ·rename_i h0
   intro w
   dsimp only
   split
   ·refine all_bind _ _ (all_triv _) fun d _ => ?_
    split
    ·intro h
     exact absurd h (by decide)
    ·split
     ·exact all_walk t k n f _ _ (refN_lt w)
     ·exact fun y => all_walk t k n f _ _ (refN_lt y)
   ·refine all_bind (P := fun d => d < 4) _ _ (fun a => by show (if a = k then 3 else if k ≤ a then 2 else 0) < 4; split; decide; split <;> decide) fun d hd => ?_
    split
    ·exact all_walk t k n f _ _ (refN_lt w)
    ·split
     ·exact all_walk t k n f _ _ hx
     ·intro h
      rw [curS_enc hx hd]
      omega
theorem all_search (t k n : Nat) : (search t k n).All fun d => codS d = 3 → 1 ≤ curS d := fun y => all_walk t k n n _ _ (refN_lt y)
theorem all_seekL (t k : Nat) : ∀ (f x : Nat), x < 1048576 → (seekL t k f x).All fun d => d < 2097152 ∧ (d % 2 = 1 → 1 ≤ d / 2)
 | 0, _, _ => trivial
 | f + 1, x, hx => by
  unfold seekL
  split
  ·exact ⟨by decide, by decide⟩
  ·rename_i h0
   intro a
   dsimp only
   split
   ·show _ < _ ∧ _
    split <;> exact ⟨by omega, fun _ => by omega⟩
   ·exact fun w => all_seekL t k f _ (refN_lt w)
theorem all_seek (t f k n : Nat) : (seek t f k n).All fun d => d < 2097152 ∧ (d % 2 = 1 → 1 ≤ d / 2) := fun w => all_seekL t k n _ (refN_lt w)
theorem all_pop (t : Nat) : ∀ n, (Prg.pop t n).up.All fun d => d < 1048576
 | 0 => trivial
 | n + 1 => by
  unfold Prg.pop
  intro w
  show (Prg.up (if firstN w = 0 then Prg.ret 0 else _)).All _
  by_cases h : firstN w = 0
  ·rw [if_pos h]; exact (by decide : 0 < 1048576)
  ·rw [if_neg h]
   intro x d
   show (Prg.up (if d = 1 then Prg.ret (firstN w) else Prg.pop t n)).All _
   by_cases hd : d = 1
   ·rw [if_pos hd]; exact first_lt w
   ·rw [if_neg hd]; exact all_pop t n
theorem all_allocL (t me m f : Nat) : ∀ k r, r < 1048576 → (Prg.allocL t me m f k r).up.All fun d => d < 1048576
 | 0, _, h => h
 | k + 1, r, h => by
  unfold Prg.allocL
  split
  ·exact h
  ·rw [Prg.up_bind]
   refine all_bind _ _ (all_triv _) fun _ _ => ?_
   rw [Prg.up_bind]
   refine all_bind _ _ (all_triv _) fun _ _ => ?_
   rw [Prg.up_bind]
   exact all_bind _ _ (all_pop t m) fun r hr => all_allocL t me m f k r hr
theorem all_alloc (t me m f : Nat) : (Prg.alloc t me m f).up.All fun d => d < 1048576 := by
 unfold Prg.alloc
 rw [Prg.up_bind]
 exact all_bind _ _ (all_pop t m) fun r hr => all_allocL t me m f 3 r hr
def inP (me : Nat) (ok : Nat → Bool) (b : Prd) : Prd := ask 0 7 0 0 [] fun s => if s = 0 then (Prg.pin me).up.bind fun _ => b.bind fun d => if ok d = true then (Prg.unpin me).up.bind fun _ => ret (d + 2) else ask 1 7 1 0 [] fun _ => (Prg.unpin me).up.bind fun _ => ret 0 else ret 1
def vThere (t x n : Nat) : Prd := (save t x 1 n).bind fun s => ret (if s = 1 then 1 else 0)
def vLink (t r k n : Nat) : Nat → Prd
 | 0 => bad
 | m + 1 => (search t k n).bind fun d => if d = 0 then (Prg.push t r n).up.bind fun _ => ret 0 else if codS d = 3 then (Prg.push t r n).up.bind fun _ => vThere t (curS d) n else (link t (predS d) (curS d) r).bind fun e => if e = 1 then (save t r 1 n).bind fun s => ret (if s = 1 then 2 else 4) else vLink t r k n m
def vAdd (t me k n : Nat) : Prd := (search t k n).bind fun d => if d = 0 then ret 0 else if codS d = 3 then vThere t (curS d) n else (Prg.alloc t me n n).up.bind fun r => if r = 0 then ret 3 else (make t r k 0 0 0 0).bind fun _ => vLink t r k n n
def vRem (t k n : Nat) : Nat → Prd
 | 0 => bad
 | m + 1 => (search t k n).bind fun d => if d = 0 then ret 0 else if codS d = 3 then (mark t (curS d)).bind fun e => if e = 1 then ask 0 ((fieldN t (curS d) 2 : Nat) : Int) 0 0 [] fun f => (save t (curS d) 2 n).bind fun s => if s = 1 then (sweep t (stampN f) n).bind fun z => ret (if z = 0 then 4 else 2) else ret 5 else vRem t k n m else ret 1
def vHas (t k n : Nat) : Prd := (seek t 0 k n).bind fun d => if d % 2 = 1 then ask 0 ((nextN t (d / 2) : Nat) : Int) 0 0 [] fun w => if markB w = true then (save t (d / 2) 2 n).bind fun s => ret (if s = 1 then 1 else 0) else (save t (d / 2) 1 n).bind fun s => ret (if s = 1 then 2 else 4) else ret 1
def vOk (d : Nat) : Bool := decide (d = 1 ∨ d = 2 ∨ d = 3)
theorem ok_inP (me : Nat) (ok : Nat → Bool) (b : Prd) (m : Nat) (h : ∀ j, j ≤ m → b.ok j) : (inP me ok b).ok m := ok_ask fun m1 s h1 => by
 split
 ·refine ok_bind _ _ _ (Prg.ok_up _ _ (Prg.ok_pin me m1)) fun _ m2 h2 => ok_bind _ _ _ (h m2 (by omega)) fun d m3 h3 => ?_
  split
  ·exact ok_bind _ _ _ (Prg.ok_up _ _ (Prg.ok_unpin me m3)) fun _ _ _ => trivial
  ·exact ok_ask fun m4 _ h4 => ok_bind _ _ _ (Prg.ok_up _ _ (Prg.ok_unpin me m4)) fun _ _ _ => trivial
 ·trivial
theorem ok_there (t x n m : Nat) (h : m < n) : (vThere t x n).ok m := ok_bind _ _ _ (ok_save t x 1 n m h) fun _ _ _ => trivial
theorem ok_searchB (t k n : Nat) (q : Nat → Prd) (m : Nat) (hn : m < n) (h : ∀ d j, j < m → (q d).ok j) : ((search t k n).bind q).ok m := by
 show (ask 0 0 0 0 [] fun y => (walk t (lookS t k) n n 0 (refN y)).bind q).ok m
 exact ok_ask fun m1 y h1 => ok_bind _ _ _ (ok_walk t _ n (fun x w j _ => ok_lookS t k x w j) n _ _ m1 (by omega) (by omega)) fun d j hj => h d j (by omega)
theorem ok_vLink (t r k n : Nat) : ∀ (f m : Nat), m < f → m < n → (vLink t r k n f).ok m
 | 0, m, h, _ => absurd h (Nat.not_lt_zero _)
 | f + 1, m, h, hn => by
  unfold vLink
  refine ok_searchB t k n _ m hn fun d j hj => ?_
  split
  ·exact ok_bind _ _ _ (Prg.ok_up _ _ (Prg.ok_push t r n j (by omega))) fun _ _ _ => trivial
  ·split
   ·exact ok_bind _ _ _ (Prg.ok_up _ _ (Prg.ok_push t r n j (by omega))) fun _ i hi => ok_there t _ n i (by omega)
   ·refine ok_bind _ _ _ (ok_link t _ _ r j) fun e i hi => ?_
    split
    ·exact ok_bind _ _ _ (ok_save t r 1 n i (by omega)) fun _ _ _ => trivial
    ·exact ok_vLink t r k n f i (by omega) (by omega)
theorem ok_vAdd (t me k n m : Nat) (hn : m < n) : (vAdd t me k n).ok m := by
 unfold vAdd
 refine ok_searchB t k n _ m hn fun d j hj => ?_
 split
 ·trivial
 ·split
  ·exact ok_there t _ n j (by omega)
  ·refine ok_bind _ _ _ (Prg.ok_up _ _ (Prg.ok_alloc t me n n j (by omega) (by omega))) fun r i hi => ?_
   split
   ·trivial
   ·exact ok_bind _ _ _ (ok_make t r k 0 0 0 0 i) fun _ l hl => ok_vLink t r k n n l (by omega) (by omega)
theorem ok_vRem (t k n : Nat) : ∀ (f m : Nat), m < f → m < n → (vRem t k n f).ok m
 | 0, m, h, _ => absurd h (Nat.not_lt_zero _)
 | f + 1, m, h, hn => by
  unfold vRem
  refine ok_searchB t k n _ m hn fun d j hj => ?_
  split
  ·trivial
  ·split
   ·refine ok_bind _ _ _ (ok_mark t _ j) fun e i hi => ?_
    split
    ·refine ok_ask fun i2 fl hi2 => ok_bind _ _ _ (ok_save t _ 2 n i2 (by omega)) fun s i3 hi3 => ?_
     split
     ·exact ok_bind _ _ _ (ok_sweep t _ n i3 (by omega)) fun _ _ _ => trivial
     ·trivial
    ·exact ok_vRem t k n f i (by omega) (by omega)
   ·trivial
theorem ok_vHas (t k n m : Nat) (hn : m < n) : (vHas t k n).ok m := by
 unfold vHas
 refine ok_bind _ _ _ (ok_seek t 0 k n m hn) fun d j hj => ?_
 split
 ·refine ok_ask fun i w hi => ?_
  split
  ·exact ok_bind _ _ _ (ok_save t _ 2 n i (by omega)) fun _ _ _ => trivial
  ·exact ok_bind _ _ _ (ok_save t _ 1 n i (by omega)) fun _ _ _ => trivial
 ·trivial
end Prd
end Go.Proofs.YtibpfkcackdbgaaGreatDoor
namespace Go.Proofs.YtibpfkcackdbgaaGreatDoor
open Go.ChangeShapes Go.WideShapes Go.ChangeAt Go.RowKit Go.BigFrame
set_option linter.unusedVariables false
set_option maxRecDepth 100000
def bEr (d : Nat) : Int := if d = 3 then 3 else if d = 98 then 4 else if d = 99 then 1 else 0
def bIs (d : Nat) : Bool := decide (d = 2 ∨ d = 4 ∨ d = 5)
def bodyV (d : Nat) : Value := .tuple #[.agg #[.int .i64 (bEr d), .bool (bIs d), .int .i64 0, .int .u64 0, .slice none 0 0], .bool (Prd.vOk d)]
section
variable {dv : Value} {S : Type} (V : SrvD dv S)
theorem partA {R : RanD S} (hb : R ≠ .bad) {P : Nat → Prop} {p : Prd} (hA : p.All P) {q : Nat → Prd} {s : S} {F : FuncId} {args : Array Value} {ret : Nat → Value} (hR : (p.bind q).run V.tell s = R) (w : World)
  (h : p.run V.tell s ≠ .bad → Calls Tryz.prog F args w (RunD14 V w ret (p.run V.tell s))) : Calls Tryz.prog F args w (fun e w' => (∃ n s', e = .returned (ret n) ∧ V.M.I s' w' ∧ But V.M.g w w' ∧ (q n).run V.tell s' = R ∧ P n) ∨ QuitD V R e w') := by
 rw [Prd.run_bind] at hR
 cases hp : p.run V.tell s with
 | bad => rw [hp] at hR; exact absurd hR.symm hb
 | left k i a b d =>
  rw [hp] at hR h
  exact (h (by simp)).mono fun e w' hq => .inr ⟨_, _, _, _, _, hR.symm, hq⟩
 | done d s' =>
  have hP := Prd.all_run V.tell p hA hp
  rw [hp] at hR h
  refine (h (by simp)).mono ?_
  rintro e w' ⟨rfl, h1, h2⟩
  exact .inl ⟨d, s', rfl, h1, h2, hR, hP⟩
structure AtO (w : World) (s : S) (z : World) : Prop where
 i : V.M.I s z
 but : But V.M.g w z
 var : VarAt z w.heap.size [.int .i64 0, .bool false, .int .i64 0, .int .u64 0, .slice none 0 0]
theorem AtO.start {w y : World} {s : S} (hI : V.M.I s w) (hb : Below w.heap.size w y) (hv : VarAt y w.heap.size [.int .i64 0, .bool false, .int .i64 0, .int .u64 0, .slice none 0 0]) : AtO V w s y :=
 ⟨V.M.later hI hb, But.of hb (Nat.le_of_lt (V.lt hI)), hv⟩
theorem AtO.go {w z z' : World} {s s' : S} (hg : V.M.g < w.heap.size) (h : AtO V w s z) (hI : V.M.I s' z') (hb : But V.M.g z z') : AtO V w s' z' :=
 ⟨hI, h.but.trans hb, h.var.but hb (by omega)⟩
theorem AtO.hbw {w z : World} {s : S} (h : AtO V w s z) (hBw : ∀ y, V.M.B y ≤ w.heap.size) : ∀ y, V.M.B y ≤ z.heap.size := fun y => Nat.le_trans (hBw y) h.but.size
theorem thereNo_at (t x : Int) (s : S) (R : RanD S) (hR : (Prd.ret 0).run V.tell s = R) (w : World) (hI : V.M.I s w) (hBw : ∀ y, V.M.B y ≤ w.heap.size) :
  Calls Tryz.prog 144 #[dv, .int .i64 t, .int .i64 x, .bool false] w (RunD14 V w bodyV R) := by
 have hgw := V.lt hI
 have HG := Lib.hid hgw
 have HBW := Lib.hid hBw
 have HI := Lib.hid hI
 have HR := Lib.hid hR
 clear hI hBw hgw hR
 go_enter Tryz.func144, Tryz.ntmps144
 go_wp2_with fail
 have hg := HG.out
 have hbw : But V.M.g w w := But.refl _ _
 exact bodyPost_ret (v := .tuple #[.agg #[.int .i64 0, .bool false, .int .i64 0, .int .u64 0, .slice none 0 0], .bool false]) (by simp [results, Tryz.results144, go_sem]) rfl (RunD14.fin V (d := 0) (ret := bodyV) HR.out (V.M.stay HI.out (Below.mono (B := w.heap.size) (by repeat (first | with_reducible exact Below.refl _ _ | with_reducible refine Below.drew ?_ | with_reducible refine below_al ?_ | (refine Below.setCell ?_ (show w.heap.size ≤ _ by (try simp only []); omega) _))) (HBW.out _))) butA)
theorem there_prg (t x n : Nat) (ht : t ≤ 64) (h1 : 1 ≤ x) (hx : x < 1048576) (s : S) (hb : (Prd.vThere t x n).run V.tell s ≠ .bad) (w : World) (hI : V.M.I s w) (hBw : ∀ y, V.M.B y ≤ w.heap.size) :
  Calls Tryz.prog 144 #[dv, .int .i64 (t : Int), .int .i64 (x : Int), .bool true] w (RunD14 V w bodyV ((Prd.vThere t x n).run V.tell s)) := by
 have hgw := V.lt hI
 generalize hR : (Prd.vThere t x n).run V.tell s = R at hb ⊢
 unfold Prd.vThere at hR
 have HS : ∀ y, w.heap.size ≤ y.heap.size → V.M.I s y → Calls Tryz.prog 134 #[dv, .int .i64 (t : Int), .int .i64 (x : Int), .int .i64 1] y _ := fun y hyw hy => partD V hb hR y (fun hb' => save_prg V t x 1 n ht h1 hx (.inl rfl) s hb' y hy (fun z => Nat.le_trans (hBw z) hyw))
 have HB := Lib.hid hb
 have HG := Lib.hid hgw
 have HBW := Lib.hid hBw
 have HI := Lib.hid hI
 clear hI hBw hR ht h1 hx hb hgw
 go_enter Tryz.func144, Tryz.ntmps144
 go_wp2_with fail
 refine gen_w (P := fun W => Calls _ _ _ W _) (fun y => Below w.heap.size w y ∧ VarAt y w.heap.size [.int .i64 0, .bool false, .int .i64 0, .int .u64 0, .slice none 0 0]) ⟨belA, VarAt.mk5 (by simp)⟩ ?_
 rintro y ⟨k0, k1⟩
 have HO := Lib.hid (AtO.start V HI.out k0 k1)
 clear k0 k1 HI
 (with_reducible refine (HS y HO.out.but.size HO.out.i).mono ?_)
 rintro e w2 (⟨d, s2, rfl, hi, hbt, hr⟩ | ⟨k, j, a, b, d, hr, rfl, hl⟩)
 case inr => exact ⟨rfl, RunD14.quit V ⟨k, j, a, b, d, hr, rfl, hl⟩⟩
 try dsimp only at hr
 have HOn := Lib.hid (AtO.go V HG.out HO.out hi hbt)
 clear HO hi hbt
 have HO := HOn
 clear HOn
 clear HS
 obtain ⟨m0, ⟨a1, a2, a3, a4, a5⟩, b1, b2, b3, b4, b5⟩ := HO.out.var.five
 by_cases hd : d = 1
 ·have dd := eq1 hd
  rw [if_pos hd] at hr
  have HR := Lib.hid hr
  clear hr hd
  go_wp2_with fail
  have hg := HG.out
  have hbw := HO.out.but
  exact bodyPost_ret (v := .tuple #[.agg #[.int .i64 0, .bool false, .int .i64 0, .int .u64 0, .slice none 0 0], .bool true]) (by simp [results, Tryz.results144, go_sem, a1, a2, a3, a4, a5]) rfl (RunD14.fin V (d := 1) (ret := bodyV) HR.out (V.M.stay HO.out.i (Below.mono (B := w.heap.size) (by repeat (first | with_reducible exact Below.refl _ _ | with_reducible refine Below.drew ?_ | with_reducible refine below_al ?_ | (refine Below.setCell ?_ (show w.heap.size ≤ _ by (try simp only []); omega) _))) (HBW.out _))) butA)
 ·have dd := ne1 hd
  rw [if_neg hd] at hr
  have HR := Lib.hid hr
  clear hr hd
  go_wp2_with fail
  have hg := HG.out
  have hbw := HO.out.but
  exact bodyPost_ret (v := .tuple #[.agg #[.int .i64 0, .bool false, .int .i64 0, .int .u64 0, .slice none 0 0], .bool false]) (by simp [results, Tryz.results144, go_sem, a1, a2, a3, a4, a5]) rfl (RunD14.fin V (d := 0) (ret := bodyV) HR.out (V.M.stay HO.out.i (Below.mono (B := w.heap.size) (by repeat (first | with_reducible exact Below.refl _ _ | with_reducible refine Below.drew ?_ | with_reducible refine below_al ?_ | (refine Below.setCell ?_ (show w.heap.size ≤ _ by (try simp only []); omega) _))) (HBW.out _))) butA)
end
end Go.Proofs.YtibpfkcackdbgaaGreatDoor
namespace Go.Proofs.YtibpfkcackdbgaaGreatDoor
open Go.ChangeShapes Go.WideShapes Go.ChangeAt Go.RowKit Go.BigFrame
set_option linter.unusedVariables false
set_option maxRecDepth 100000
section
variable {dv : Value} {S : Type} (V : SrvD dv S)
set_option maxHeartbeats 8000000 in
set_option maxRecDepth 100000 in
theorem vLink_prg (t r kk n M0 : Nat) (ht : t ≤ 64) (h1 : 1 ≤ r) (hrr : r < 1048576) (s : S) (hb : (Prd.vLink t r kk n M0).run V.tell s ≠ .bad) (w : World) (hI : V.M.I s w) (hBw : ∀ y, V.M.B y ≤ w.heap.size) :
  Calls Tryz.prog 147 #[dv, .int .i64 (t : Int), .int .i64 (r : Int), .int .u64 (kk : Int)] w (RunD14 V w bodyV ((Prd.vLink t r kk n M0).run V.tell s)) := by
 have hgw := V.lt hI
 generalize hR : (Prd.vLink t r kk n M0).run V.tell s = R at hb ⊢
 have HB := Lib.hid hb
 have HG := Lib.hid hgw
 have HBW := Lib.hid hBw
 have HI := Lib.hid hI
 have HR := Lib.hid hR
 have HT := Lib.hid ht
 have HRR := Lib.hid (And.intro h1 hrr)
 clear hI hBw hR ht h1 hrr hb hgw
 go_enter Tryz.func147, Tryz.ntmps147
 go_wp2_with fail
 refine gen_w (P := fun W => Code.wp _ _ _ _ W) (fun y => Below w.heap.size w y ∧ VarAt y w.heap.size [.int .i64 0, .bool false, .int .i64 0, .int .u64 0, .slice none 0 0]) ⟨belA, VarAt.mk5 (by simp)⟩ ?_
 rintro y ⟨k0, k1⟩
 have HO0 := Lib.hid (AtO.start V HI.out k0 k1)
 clear k0 k1 HI
 refine wp_scope_again 0 (fun m a' w' => ∃ (s : S) (u10 u11 u12 u13 u14 u15 u16 u17 u18 u19 u20 u21 u22 u23 u24 u25 u26 u27 u28 u29 u30 u31 u32 u33 u34 u35 u36 u37 u38 u39 u40 u41 u42 u43 u44 u45 u46 u47 u48 u49 u50 : Value), a' = { tmps := #[dv, .int .i64 (t : Int), .int .i64 (r : Int), .int .u64 (kk : Int), undef, undef, undef, undef, .pointer (some ⟨w.heap.size, 0, none⟩), .bool false, u10, u11, u12, u13, u14, u15, u16, u17, u18, u19, u20, u21, u22, u23, u24, u25, u26, u27, u28, u29, u30, u31, u32, u33, u34, u35, u36, u37, u38, u39, u40, u41, u42, u43, u44, u45, u46, u47, u48, u49, u50], defers := [] } ∧ AtO V w s w' ∧ (Prd.vLink t r kk n m).run V.tell s = R) rfl ?_ ?_
 case refine_2 =>
  intro key
  go_wp2_with fail
  refine wp_label ?_
  simp only [Exit.then]
  rename_i hk
  exact hk _ _ (key M0 _ _ ⟨s, _, _, _, _, _, _, _, _, _, _, _, _, _, _, _, _, _, _, _, _, _, _, _, _, _, _, _, _, _, _, _, _, _, _, _, _, _, _, _, _, _, rfl, HO0.out, HR.out⟩)
 case refine_1 =>
  clear HO0 HR y
  clear s M0
  rintro M a' z ⟨s, u10, u11, u12, u13, u14, u15, u16, u17, u18, u19, u20, u21, u22, u23, u24, u25, u26, u27, u28, u29, u30, u31, u32, u33, u34, u35, u36, u37, u38, u39, u40, u41, u42, u43, u44, u45, u46, u47, u48, u49, u50, rfl, ho, hR⟩
  have HO := Lib.hid ho
  clear ho
  cases M with
  | zero => exact absurd hR.symm HB.out
  | succ m =>
  have hr1 : ((Prd.search t kk n).bind fun d => if d = 0 then (Prg.push t r n).up.bind fun _ => Prd.ret 0 else if codS d = 3 then (Prg.push t r n).up.bind fun _ => Prd.vThere t (curS d) n else (Prd.link t (predS d) (curS d) r).bind fun e => if e = 1 then (Prd.save t r 1 n).bind fun s => Prd.ret (if s = 1 then 2 else 4) else Prd.vLink t r kk n m).run V.tell s = R := hR
  have HS := partA V HB.out (Prd.all_search t kk n) hr1 z (fun hb' => search_prg V t kk n HT.out s hb' z HO.out.i (HO.out.hbw V HBW.out))
  clear hR hr1
  go_wp2_with fail
  (with_reducible refine (HS).mono ?_)
  rintro e w2 (⟨d, s2, rfl, hi, hbt, hr, hP⟩ | ⟨k, j, a, b, d, hr, rfl, hl⟩)
  case inr => exact ⟨rfl, RunD14.quit V ⟨k, j, a, b, d, hr, rfl, hl⟩⟩
  try dsimp only at hr
  have HOn := Lib.hid (AtO.go V HG.out HO.out hi hbt)
  clear HO hi hbt
  have HO := HOn
  clear HOn
  clear HS
  have hpl : predS d < 1048576 := Nat.mod_lt _ (by decide)
  have hcl : curS d < 1048576 := Nat.mod_lt _ (by decide)
  unfold searchV
  by_cases hd0 : d = 0
  ·have dd : ((d : Int) != 0) = false := by rw [bne_eq_false_iff_eq]; omega
   rw [if_pos hd0] at hr
   have HP := partD V HB.out (F := 185) (args := #[dv, .int .i64 (t : Int), .int .i64 (r : Int)]) (ret := fun _ => .tuple #[]) hr w2 (upD V (Prg.mem_push' t r n) w2 (fun hb' => push_prg V.M t HT.out r HRR.out.1 HRR.out.2 n s2 hb' w2 HO.out.i))
   clear hr hd0 hP hpl hcl
   generalize predS d = pd
   generalize curS d = cd
   generalize ((codS d : Int) == 3) = fd
   go_wp2_with fail
   (with_reducible refine (HP).mono ?_)
   rintro e w3 (⟨d3, s3, rfl, hi, hbt, hr⟩ | ⟨k, j, a, b, d, hr, rfl, hl⟩)
   case inr => exact ⟨rfl, RunD14.quit V ⟨k, j, a, b, d, hr, rfl, hl⟩⟩
   try dsimp only at hr
   have HOn := Lib.hid (AtO.go V HG.out HO.out hi hbt)
   clear HO hi hbt
   have HO := HOn
   clear HOn
   clear HP
   have HTN := thereNo_at V (t : Int) (cd : Int) s3 R hr w3 HO.out.i (HO.out.hbw V HBW.out)
   clear hr
   go_wp2_with fail
   refine (HTN).mono ?_
   cases R with
   | bad => exact absurd rfl HB.out
   | left k i a b d =>
    rintro e w4 ⟨rfl, hl⟩
    exact ⟨rfl, rfl, hl⟩
   | done r s9 =>
    rintro e w4 ⟨rfl, hi, hbt⟩
    have HOn := Lib.hid (AtO.go V HG.out HO.out hi hbt)
    clear HO hi hbt
    have HO := HOn
    clear HOn
    obtain ⟨m0, ⟨a1, a2, a3, a4, a5⟩, b1, b2, b3, b4, b5⟩ := HO.out.var.five
    have HBV := Lib.hid (show bodyV r = .tuple #[.agg #[.int .i64 (bEr r), .bool (bIs r), .int .i64 0, .int .u64 0, .slice none 0 0], .bool (Prd.vOk r)] from rfl)
    conv in bodyV r => unfold bodyV
    generalize bEr r = er at *
    generalize bIs r = oi at *
    generalize Prd.vOk r = ok at *
    go_wp2_with fail
    have hg := HG.out
    have hbw := HO.out.but
    simp only [Exit.jump]
    exact bodyPost_ret (v := .tuple #[.agg #[.int .i64 er, .bool oi, .int .i64 0, .int .u64 0, .slice none 0 0], .bool ok]) (by simp [results, Tryz.results147, go_sem, a1, a2, a3, a4, a5]) rfl ⟨congrArg Ending.returned HBV.out.symm, V.M.stay HO.out.i (Below.mono (B := w.heap.size) (by repeat (first | with_reducible exact Below.refl _ _ | with_reducible refine Below.drew ?_ | with_reducible refine below_al ?_ | (refine Below.setCell ?_ (show w.heap.size ≤ _ by (try simp only []); omega) _))) (HBW.out _)), butA⟩
  have dd : ((d : Int) != 0) = true := by rw [bne_iff_ne]; omega
  rw [if_neg hd0] at hr
  by_cases hd3 : codS d = 3
  ·have df : ((codS d : Int) == 3) = true := by rw [beq_iff_eq]; omega
   rw [if_pos hd3] at hr
   have HP := partD V HB.out (F := 185) (args := #[dv, .int .i64 (t : Int), .int .i64 (r : Int)]) (ret := fun _ => .tuple #[]) hr w2 (upD V (Prg.mem_push' t r n) w2 (fun hb' => push_prg V.M t HT.out r HRR.out.1 HRR.out.2 n s2 hb' w2 HO.out.i))
   have HC := Lib.hid (And.intro (hP hd3) hcl)
   clear hr hd0 hP hpl hcl hd3
   generalize predS d = pd
   generalize curS d = cd at *
   go_wp2_with fail
   (with_reducible refine (HP).mono ?_)
   rintro e w3 (⟨d3, s3, rfl, hi, hbt, hr⟩ | ⟨k, j, a, b, d, hr, rfl, hl⟩)
   case inr => exact ⟨rfl, RunD14.quit V ⟨k, j, a, b, d, hr, rfl, hl⟩⟩
   try dsimp only at hr
   have HOn := Lib.hid (AtO.go V HG.out HO.out hi hbt)
   clear HO hi hbt
   have HO := HOn
   clear HOn
   clear HP
   have HTN : Calls Tryz.prog 144 #[dv, .int .i64 (t : Int), .int .i64 (cd : Int), .bool true] w3 (RunD14 V w3 bodyV R) := by
    have hbb := HB.out
    rw [← hr] at hbb ⊢
    exact there_prg V t cd n HT.out HC.out.1 HC.out.2 s3 hbb w3 HO.out.i (HO.out.hbw V HBW.out)
   clear hr
   go_wp2_with fail
   refine (HTN).mono ?_
   cases R with
   | bad => exact absurd rfl HB.out
   | left k i a b d =>
    rintro e w4 ⟨rfl, hl⟩
    exact ⟨rfl, rfl, hl⟩
   | done r s9 =>
    rintro e w4 ⟨rfl, hi, hbt⟩
    have HOn := Lib.hid (AtO.go V HG.out HO.out hi hbt)
    clear HO hi hbt
    have HO := HOn
    clear HOn
    obtain ⟨m0, ⟨a1, a2, a3, a4, a5⟩, b1, b2, b3, b4, b5⟩ := HO.out.var.five
    have HBV := Lib.hid (show bodyV r = .tuple #[.agg #[.int .i64 (bEr r), .bool (bIs r), .int .i64 0, .int .u64 0, .slice none 0 0], .bool (Prd.vOk r)] from rfl)
    conv in bodyV r => unfold bodyV
    generalize bEr r = er at *
    generalize bIs r = oi at *
    generalize Prd.vOk r = ok at *
    go_wp2_with fail
    have hg := HG.out
    have hbw := HO.out.but
    simp only [Exit.jump]
    exact bodyPost_ret (v := .tuple #[.agg #[.int .i64 er, .bool oi, .int .i64 0, .int .u64 0, .slice none 0 0], .bool ok]) (by simp [results, Tryz.results147, go_sem, a1, a2, a3, a4, a5]) rfl ⟨congrArg Ending.returned HBV.out.symm, V.M.stay HO.out.i (Below.mono (B := w.heap.size) (by repeat (first | with_reducible exact Below.refl _ _ | with_reducible refine Below.drew ?_ | with_reducible refine below_al ?_ | (refine Below.setCell ?_ (show w.heap.size ≤ _ by (try simp only []); omega) _))) (HBW.out _)), butA⟩
  have df : ((codS d : Int) == 3) = false := by rw [beq_eq_false_iff_ne]; omega
  rw [if_neg hd3] at hr
  have HL := partD V HB.out hr w2 (fun hb' => link_prg V t (predS d) (curS d) r HT.out hpl hcl HRR.out.2 s2 hb' w2 HO.out.i)
  clear hr hd0 hP hpl hcl hd3
  generalize predS d = pd at *
  generalize curS d = cd at *
  go_wp2_with fail
  (with_reducible refine (HL).mono ?_)
  rintro e w3 (⟨d3, s3, rfl, hi, hbt, hr⟩ | ⟨k, j, a, b, d, hr, rfl, hl⟩)
  case inr => exact ⟨rfl, RunD14.quit V ⟨k, j, a, b, d, hr, rfl, hl⟩⟩
  try dsimp only at hr
  have HOn := Lib.hid (AtO.go V HG.out HO.out hi hbt)
  clear HO hi hbt
  have HO := HOn
  clear HOn
  clear HL
  by_cases he : d3 = 1
  ·have de := eq1 he
   rw [if_pos he] at hr
   have HS : Calls Tryz.prog 134 #[dv, .int .i64 (t : Int), .int .i64 (r : Int), .int .i64 1] w3 _ := partD V HB.out hr w3 (fun hb' => save_prg V t r 1 n HT.out HRR.out.1 HRR.out.2 (.inl rfl) s3 hb' w3 HO.out.i (HO.out.hbw V HBW.out))
   clear hr he
   go_wp2_with fail
   (with_reducible refine (HS).mono ?_)
   rintro e w4 (⟨d4, s4, rfl, hi, hbt, hr⟩ | ⟨k, j, a, b, d, hr, rfl, hl⟩)
   case inr => exact ⟨rfl, RunD14.quit V ⟨k, j, a, b, d, hr, rfl, hl⟩⟩
   try dsimp only at hr
   have HOn := Lib.hid (AtO.go V HG.out HO.out hi hbt)
   clear HO hi hbt
   have HO := HOn
   clear HOn
   clear HS
   obtain ⟨m0, ⟨a1, a2, a3, a4, a5⟩, b1, b2, b3, b4, b5⟩ := HO.out.var.five
   by_cases hs : d4 = 1
   ·have dd4 := eq1 hs
    rw [if_pos hs] at hr
    have HR := Lib.hid hr
    clear hr hs
    go_wp2_with fail
    have hg := HG.out
    have hbw := HO.out.but
    try simp only [Exit.jump]
    exact bodyPost_ret (v := .tuple #[.agg #[.int .i64 0, .bool true, .int .i64 0, .int .u64 0, .slice none 0 0], .bool true]) (by simp [results, Tryz.results147, go_sem, a1, a2, a3, a4, a5]) rfl (RunD14.fin V (d := 2) (ret := bodyV) HR.out (V.M.stay HO.out.i (Below.mono (B := w.heap.size) (by repeat (first | with_reducible exact Below.refl _ _ | with_reducible refine Below.drew ?_ | with_reducible refine below_al ?_ | (refine Below.setCell ?_ (show w.heap.size ≤ _ by (try simp only []); omega) _))) (HBW.out _))) butA)
   ·have dd4 := ne1 hs
    rw [if_neg hs] at hr
    have HR := Lib.hid hr
    clear hr hs
    go_wp2_with fail
    have hg := HG.out
    have hbw := HO.out.but
    try simp only [Exit.jump]
    exact bodyPost_ret (v := .tuple #[.agg #[.int .i64 0, .bool true, .int .i64 0, .int .u64 0, .slice none 0 0], .bool false]) (by simp [results, Tryz.results147, go_sem, a1, a2, a3, a4, a5]) rfl (RunD14.fin V (d := 4) (ret := bodyV) HR.out (V.M.stay HO.out.i (Below.mono (B := w.heap.size) (by repeat (first | with_reducible exact Below.refl _ _ | with_reducible refine Below.drew ?_ | with_reducible refine below_al ?_ | (refine Below.setCell ?_ (show w.heap.size ≤ _ by (try simp only []); omega) _))) (HBW.out _))) butA)
  ·have de := ne1 he
   rw [if_neg he] at hr
   have HR := Lib.hid hr
   clear hr he
   go_wp2_with fail
   go_step3
   exact ⟨rfl, m, Nat.lt_succ_self m, s3, _, _, _, _, _, _, _, _, _, _, _, _, _, _, _, _, _, _, _, _, _, _, _, _, _, _, _, _, _, _, _, _, _, _, _, _, _, _, _, _, _, rfl, HO.out, HR.out⟩
end
end Go.Proofs.YtibpfkcackdbgaaGreatDoor
namespace Go.Proofs.YtibpfkcackdbgaaGreatDoor
open Go.ChangeShapes Go.WideShapes Go.ChangeAt Go.RowKit Go.BigFrame
set_option linter.unusedVariables false
set_option maxRecDepth 100000
section
variable {dv : Value} {S : Type} (V : SrvD dv S)
theorem advanceD (lo : Nat) (hA : V.M.Aside lo) (t : Nat) (ht : t ≤ 64) (m n : Nat) (s : S) (hb : (Prg.advance t m n).run V.M.tell s ≠ .bad) (w : World) (hI : V.M.I s w) :
  Calls Tryz.prog 183 #[dv, .int .i64 (t : Int)] w (RunEnd V.M w (fun d => .bool ((d : Int) == 1)) ((Prg.advance t m n).run V.M.tell s)) := by
 obtain ⟨df, d1, d2, rfl⟩ := V.M.isFn
 exact advance_prg V.M lo hA t ht m n s hb w hI
set_option maxHeartbeats 8000000 in
set_option maxRecDepth 100000 in
theorem vAdd_prg (lo : Nat) (hA : V.M.Aside lo) (t me kk n : Nat) (ht : t ≤ 64) (hme : me < 1000000) (hk : kk < 18446744073709551616) (s : S) (hb : (Prd.vAdd t me kk n).run V.tell s ≠ .bad) (w : World) (hI : V.M.I s w) (hBw : ∀ y, V.M.B y ≤ w.heap.size) :
  Calls Tryz.prog 100 #[dv, .int .i64 (t : Int), .int .i64 (me : Int), .int .u64 (kk : Int)] w (RunD14 V w bodyV ((Prd.vAdd t me kk n).run V.tell s)) := by
 have hgw := V.lt hI
 generalize hR : (Prd.vAdd t me kk n).run V.tell s = R at hb ⊢
 unfold Prd.vAdd at hR
 have HS : ∀ y, w.heap.size ≤ y.heap.size → V.M.I s y → Calls Tryz.prog 21 #[dv, .int .i64 (t : Int), .int .u64 (kk : Int)] y _ := fun y hyw hy => partA V hb (Prd.all_search t kk n) hR y (fun hb' => search_prg V t kk n ht s hb' y hy (fun z => Nat.le_trans (hBw z) hyw))
 have HB := Lib.hid hb
 have HG := Lib.hid hgw
 have HBW := Lib.hid hBw
 have HI := Lib.hid hI
 have HT := Lib.hid (And.intro ht (And.intro hme hk))
 clear hI hBw hR ht hme hk hb hgw
 go_enter Tryz.func100, Tryz.ntmps100
 go_wp2_with fail
 refine gen_w (P := fun W => Calls _ _ _ W _) (fun y => Below w.heap.size w y ∧ VarAt y w.heap.size [.int .i64 0, .bool false, .int .i64 0, .int .u64 0, .slice none 0 0]) ⟨belA, VarAt.mk5 (by simp)⟩ ?_
 rintro y ⟨k0, k1⟩
 have HO := Lib.hid (AtO.start V HI.out k0 k1)
 clear k0 k1 HI
 (with_reducible refine (HS y HO.out.but.size HO.out.i).mono ?_)
 rintro e w2 (⟨d, s2, rfl, hi, hbt, hr, hP⟩ | ⟨k, j, a, b, d, hr, rfl, hl⟩)
 case inr => exact ⟨rfl, RunD14.quit V ⟨k, j, a, b, d, hr, rfl, hl⟩⟩
 try dsimp only at hr
 have HOn := Lib.hid (AtO.go V HG.out HO.out hi hbt)
 clear HO hi hbt
 have HO := HOn
 clear HOn
 clear HS
 have hpl : predS d < 1048576 := Nat.mod_lt _ (by decide)
 have hcl : curS d < 1048576 := Nat.mod_lt _ (by decide)
 unfold searchV
 by_cases hd0 : d = 0
 ·have dd : ((d : Int) != 0) = false := by rw [bne_eq_false_iff_eq]; omega
  rw [if_pos hd0] at hr
  have HTN := thereNo_at V (t : Int) ((curS d : Nat) : Int) s2 R hr w2 HO.out.i (HO.out.hbw V HBW.out)
  clear hr hd0 hP hpl hcl
  generalize predS d = pd
  generalize curS d = cd at *
  generalize ((codS d : Int) == 3) = fd
  go_wp2_with fail
  refine (HTN).mono ?_
  cases R with
  | bad => exact absurd rfl HB.out
  | left k i a b d =>
   rintro e w4 ⟨rfl, hl⟩
   exact ⟨rfl, rfl, hl⟩
  | done r s9 =>
   rintro e w4 ⟨rfl, hi, hbt⟩
   have HOn := Lib.hid (AtO.go V HG.out HO.out hi hbt)
   clear HO hi hbt
   have HO := HOn
   clear HOn
   obtain ⟨m0, ⟨a1, a2, a3, a4, a5⟩, b1, b2, b3, b4, b5⟩ := HO.out.var.five
   have HBV := Lib.hid (show bodyV r = .tuple #[.agg #[.int .i64 (bEr r), .bool (bIs r), .int .i64 0, .int .u64 0, .slice none 0 0], .bool (Prd.vOk r)] from rfl)
   conv in bodyV r => unfold bodyV
   generalize bEr r = er at *
   generalize bIs r = oi at *
   generalize Prd.vOk r = ok at *
   go_wp2_with fail
   have hg := HG.out
   have hbw := HO.out.but
   skip
   exact bodyPost_ret (v := .tuple #[.agg #[.int .i64 er, .bool oi, .int .i64 0, .int .u64 0, .slice none 0 0], .bool ok]) (by simp [results, Tryz.results100, go_sem, a1, a2, a3, a4, a5]) rfl ⟨congrArg Ending.returned HBV.out.symm, V.M.stay HO.out.i (Below.mono (B := w.heap.size) (by repeat (first | with_reducible exact Below.refl _ _ | with_reducible refine Below.drew ?_ | with_reducible refine below_al ?_ | (refine Below.setCell ?_ (show w.heap.size ≤ _ by (try simp only []); omega) _))) (HBW.out _)), butA⟩
 have dd : ((d : Int) != 0) = true := by rw [bne_iff_ne]; omega
 rw [if_neg hd0] at hr
 by_cases hd3 : codS d = 3
 ·have df : ((codS d : Int) == 3) = true := by rw [beq_iff_eq]; omega
  rw [if_pos hd3] at hr
  have HTN : Calls Tryz.prog 144 #[dv, .int .i64 (t : Int), .int .i64 ((curS d : Nat) : Int), .bool true] w2 (RunD14 V w2 bodyV R) := by
   have hbb := HB.out
   rw [← hr] at hbb ⊢
   exact there_prg V t (curS d) n HT.out.1 (hP hd3) hcl s2 hbb w2 HO.out.i (HO.out.hbw V HBW.out)
  clear hr hd0 hP hpl hcl hd3
  generalize predS d = pd
  generalize curS d = cd at *
  go_wp2_with fail
  refine (HTN).mono ?_
  cases R with
  | bad => exact absurd rfl HB.out
  | left k i a b d =>
   rintro e w4 ⟨rfl, hl⟩
   exact ⟨rfl, rfl, hl⟩
  | done r s9 =>
   rintro e w4 ⟨rfl, hi, hbt⟩
   have HOn := Lib.hid (AtO.go V HG.out HO.out hi hbt)
   clear HO hi hbt
   have HO := HOn
   clear HOn
   obtain ⟨m0, ⟨a1, a2, a3, a4, a5⟩, b1, b2, b3, b4, b5⟩ := HO.out.var.five
   have HBV := Lib.hid (show bodyV r = .tuple #[.agg #[.int .i64 (bEr r), .bool (bIs r), .int .i64 0, .int .u64 0, .slice none 0 0], .bool (Prd.vOk r)] from rfl)
   conv in bodyV r => unfold bodyV
   generalize bEr r = er at *
   generalize bIs r = oi at *
   generalize Prd.vOk r = ok at *
   go_wp2_with fail
   have hg := HG.out
   have hbw := HO.out.but
   skip
   exact bodyPost_ret (v := .tuple #[.agg #[.int .i64 er, .bool oi, .int .i64 0, .int .u64 0, .slice none 0 0], .bool ok]) (by simp [results, Tryz.results100, go_sem, a1, a2, a3, a4, a5]) rfl ⟨congrArg Ending.returned HBV.out.symm, V.M.stay HO.out.i (Below.mono (B := w.heap.size) (by repeat (first | with_reducible exact Below.refl _ _ | with_reducible refine Below.drew ?_ | with_reducible refine below_al ?_ | (refine Below.setCell ?_ (show w.heap.size ≤ _ by (try simp only []); omega) _))) (HBW.out _)), butA⟩
 have df : ((codS d : Int) == 3) = false := by rw [beq_eq_false_iff_ne]; omega
 rw [if_neg hd3] at hr
 have HAL : Calls Tryz.prog 145 #[dv, .int .i64 (t : Int), .int .i64 (me : Int)] w2 _ := partA V HB.out (Prd.all_alloc t me n n) hr w2 (upD V (Prg.mem_alloc' t me n n) w2 (fun hb' => alloc_prg V.M t HT.out.1 me HT.out.2.1 n n (fun s hb w hI => advanceD V lo hA t HT.out.1 n n s hb w hI) s2 hb' w2 HO.out.i))
 clear hr hd0 hP hpl hcl hd3
 generalize predS d = pd
 generalize curS d = cd
 go_wp2_with fail
 (with_reducible refine (HAL).mono ?_)
 rintro e w3 (⟨r, s3, rfl, hi, hbt, hr, hrl⟩ | ⟨k, j, a, b, d, hr, rfl, hl⟩)
 case inr => exact ⟨rfl, RunD14.quit V ⟨k, j, a, b, d, hr, rfl, hl⟩⟩
 try dsimp only at hr
 have HOn := Lib.hid (AtO.go V HG.out HO.out hi hbt)
 clear HO hi hbt
 have HO := HOn
 clear HOn
 clear HAL
 by_cases hr0 : r = 0
 ·have de := eq0 hr0
  rw [if_pos hr0] at hr
  have HR := Lib.hid hr
  clear hr hr0 hrl
  obtain ⟨m0, ⟨a1, a2, a3, a4, a5⟩, b1, b2, b3, b4, b5⟩ := HO.out.var.five
  go_wp2_with fail
  have hg := HG.out
  have hbw := HO.out.but
  exact bodyPost_ret (v := .tuple #[.agg #[.int .i64 3, .bool false, .int .i64 0, .int .u64 0, .slice none 0 0], .bool true]) (by simp [results, Tryz.results100, go_sem, a1, a2, a3, a4, a5]) rfl (RunD14.fin V (d := 3) (ret := bodyV) HR.out (V.M.stay HO.out.i (Below.mono (B := w.heap.size) (by repeat (first | with_reducible exact Below.refl _ _ | with_reducible refine Below.drew ?_ | with_reducible refine below_al ?_ | (refine Below.setCell ?_ (show w.heap.size ≤ _ by (try simp only []); omega) _))) (HBW.out _))) butA)
 have de := ne0 hr0
 rw [if_neg hr0] at hr
 have HRL := Lib.hid (And.intro (Nat.pos_of_ne_zero hr0) hrl)
 have HMK : Calls Tryz.prog 146 #[dv, .int .i64 (t : Int), .int .i64 (r : Int), .agg #[.int .i64 0, .int .u64 0, .int .u64 (kk : Int), .int .u64 0, .int .u64 0, .int .u64 0], .int .u64 0] w3 _ := partD V HB.out hr w3 (fun hb' => make_prg V t r 0 0 kk 0 0 0 0 HT.out.1 HRL.out.1 HRL.out.2 HT.out.2.2 (by decide) (by decide) (by decide) (by decide) s3 hb' w3 HO.out.i)
 clear hr hr0 hrl
 go_wp2_with fail
 (with_reducible refine (HMK).mono ?_)
 rintro e w4 (⟨d4, s4, rfl, hi, hbt, hr⟩ | ⟨k, j, a, b, d, hr, rfl, hl⟩)
 case inr => exact ⟨rfl, RunD14.quit V ⟨k, j, a, b, d, hr, rfl, hl⟩⟩
 try dsimp only at hr
 have HOn := Lib.hid (AtO.go V HG.out HO.out hi hbt)
 clear HO hi hbt
 have HO := HOn
 clear HOn
 clear HMK
 have HLK : Calls Tryz.prog 147 #[dv, .int .i64 (t : Int), .int .i64 (r : Int), .int .u64 (kk : Int)] w4 (RunD14 V w4 bodyV R) := by
  have hbb := HB.out
  rw [← hr] at hbb ⊢
  exact vLink_prg V t r kk n n HT.out.1 HRL.out.1 HRL.out.2 s4 hbb w4 HO.out.i (HO.out.hbw V HBW.out)
 clear hr
 go_wp2_with fail
 refine (HLK).mono ?_
 cases R with
 | bad => exact absurd rfl HB.out
 | left k i a b d =>
  rintro e w5 ⟨rfl, hl⟩
  exact ⟨rfl, rfl, hl⟩
 | done r s9 =>
  rintro e w5 ⟨rfl, hi, hbt⟩
  have HOn := Lib.hid (AtO.go V HG.out HO.out hi hbt)
  clear HO hi hbt
  have HO := HOn
  clear HOn
  obtain ⟨m0, ⟨a1, a2, a3, a4, a5⟩, b1, b2, b3, b4, b5⟩ := HO.out.var.five
  have HBV := Lib.hid (show bodyV r = .tuple #[.agg #[.int .i64 (bEr r), .bool (bIs r), .int .i64 0, .int .u64 0, .slice none 0 0], .bool (Prd.vOk r)] from rfl)
  conv in bodyV r => unfold bodyV
  generalize bEr r = er at *
  generalize bIs r = oi at *
  generalize Prd.vOk r = ok at *
  go_wp2_with fail
  have hg := HG.out
  have hbw := HO.out.but
  skip
  exact bodyPost_ret (v := .tuple #[.agg #[.int .i64 er, .bool oi, .int .i64 0, .int .u64 0, .slice none 0 0], .bool ok]) (by simp [results, Tryz.results100, go_sem, a1, a2, a3, a4, a5]) rfl ⟨congrArg Ending.returned HBV.out.symm, V.M.stay HO.out.i (Below.mono (B := w.heap.size) (by repeat (first | with_reducible exact Below.refl _ _ | with_reducible refine Below.drew ?_ | with_reducible refine below_al ?_ | (refine Below.setCell ?_ (show w.heap.size ≤ _ by (try simp only []); omega) _))) (HBW.out _)), butA⟩
end
end Go.Proofs.YtibpfkcackdbgaaGreatDoor
namespace Go.Proofs.YtibpfkcackdbgaaGreatDoor
open Go.ChangeShapes Go.WideShapes Go.ChangeAt Go.RowKit Go.BigFrame
set_option linter.unusedVariables false
set_option maxRecDepth 100000
section
variable {dv : Value} {S : Type} (V : SrvD dv S)
set_option maxHeartbeats 8000000 in
set_option maxRecDepth 100000 in
theorem vRem_prg (t kk n M0 : Nat) (ht : t ≤ 64) (s : S) (hb : (Prd.vRem t kk n M0).run V.tell s ≠ .bad) (w : World) (hI : V.M.I s w) (hBw : ∀ y, V.M.B y ≤ w.heap.size) :
  Calls Tryz.prog 102 #[dv, .int .i64 (t : Int), .int .u64 (kk : Int)] w (RunD14 V w bodyV ((Prd.vRem t kk n M0).run V.tell s)) := by
 have hgw := V.lt hI
 generalize hR : (Prd.vRem t kk n M0).run V.tell s = R at hb ⊢
 have HB := Lib.hid hb
 have HG := Lib.hid hgw
 have HBW := Lib.hid hBw
 have HI := Lib.hid hI
 have HR := Lib.hid hR
 have HT := Lib.hid ht
 clear hI hBw hR ht hb hgw
 go_enter Tryz.func102, Tryz.ntmps102
 go_wp2_with fail
 refine gen_w (P := fun W => Code.wp _ _ _ _ W) (fun y => Below w.heap.size w y ∧ VarAt y w.heap.size [.int .i64 0, .bool false, .int .i64 0, .int .u64 0, .slice none 0 0]) ⟨belA, VarAt.mk5 (by simp)⟩ ?_
 rintro y ⟨k0, k1⟩
 have HO0 := Lib.hid (AtO.start V HI.out k0 k1)
 clear k0 k1 HI
 refine wp_scope_again 0 (fun m a' w' => ∃ (s : S) (u8 u9 u10 u11 u12 u13 u14 u15 u16 u17 u18 u19 u20 u21 u22 u23 u24 u25 u26 u27 u28 u29 u30 u31 u32 u33 u34 u35 u36 u37 u38 u39 u40 u41 u42 u43 u44 u45 u46 u47 u48 u49 u50 u51 u52 : Value), a' = { tmps := #[dv, .int .i64 (t : Int), .int .u64 (kk : Int), undef, undef, undef, .pointer (some ⟨w.heap.size, 0, none⟩), .bool false, u8, u9, u10, u11, u12, u13, u14, u15, u16, u17, u18, u19, u20, u21, u22, u23, u24, u25, u26, u27, u28, u29, u30, u31, u32, u33, u34, u35, u36, u37, u38, u39, u40, u41, u42, u43, u44, u45, u46, u47, u48, u49, u50, u51, u52], defers := [] } ∧ AtO V w s w' ∧ (Prd.vRem t kk n m).run V.tell s = R) rfl ?_ ?_
 case refine_2 =>
  intro key
  go_wp2_with fail
  refine wp_label ?_
  simp only [Exit.then]
  rename_i hk
  exact hk _ _ (key M0 _ _ ⟨s, _, _, _, _, _, _, _, _, _, _, _, _, _, _, _, _, _, _, _, _, _, _, _, _, _, _, _, _, _, _, _, _, _, _, _, _, _, _, _, _, _, _, _, _, _, rfl, HO0.out, HR.out⟩)
 case refine_1 =>
  clear HO0 HR y
  clear s M0
  rintro M a' z ⟨s, u8, u9, u10, u11, u12, u13, u14, u15, u16, u17, u18, u19, u20, u21, u22, u23, u24, u25, u26, u27, u28, u29, u30, u31, u32, u33, u34, u35, u36, u37, u38, u39, u40, u41, u42, u43, u44, u45, u46, u47, u48, u49, u50, u51, u52, rfl, ho, hR⟩
  have HO := Lib.hid ho
  clear ho
  cases M with
  | zero => exact absurd hR.symm HB.out
  | succ m =>
  have hr1 : ((Prd.search t kk n).bind fun d => if d = 0 then Prd.ret 0 else if codS d = 3 then (Prd.mark t (curS d)).bind fun e => if e = 1 then Prd.ask 0 ((fieldN t (curS d) 2 : Nat) : Int) 0 0 [] fun f => (Prd.save t (curS d) 2 n).bind fun s => if s = 1 then (Prd.sweep t (stampN f) n).bind fun z => Prd.ret (if z = 0 then 4 else 2) else Prd.ret 5 else Prd.vRem t kk n m else Prd.ret 1).run V.tell s = R := hR
  have HS := partA V HB.out (Prd.all_search t kk n) hr1 z (fun hb' => search_prg V t kk n HT.out s hb' z HO.out.i (HO.out.hbw V HBW.out))
  clear hR hr1
  go_wp2_with fail
  (with_reducible refine (HS).mono ?_)
  rintro e w2 (⟨d, s2, rfl, hi, hbt, hr, hP⟩ | ⟨k, j, a, b, d, hr, rfl, hl⟩)
  case inr => exact ⟨rfl, RunD14.quit V ⟨k, j, a, b, d, hr, rfl, hl⟩⟩
  try dsimp only at hr
  have HOn := Lib.hid (AtO.go V HG.out HO.out hi hbt)
  clear HO hi hbt
  have HO := HOn
  clear HOn
  clear HS
  have hpl : predS d < 1048576 := Nat.mod_lt _ (by decide)
  have hcl : curS d < 1048576 := Nat.mod_lt _ (by decide)
  unfold searchV
  by_cases hd0 : d = 0
  ·have dd : ((d : Int) != 0) = false := by rw [bne_eq_false_iff_eq]; omega
   rw [if_pos hd0] at hr
   have HR := Lib.hid hr
   clear hr hd0 hP hpl hcl
   generalize predS d = pd
   generalize curS d = cd
   generalize ((codS d : Int) == 3) = fd
   obtain ⟨m0, ⟨a1, a2, a3, a4, a5⟩, b1, b2, b3, b4, b5⟩ := HO.out.var.five
   go_wp2_with fail
   have hg := HG.out
   have hbw := HO.out.but
   try simp only [Exit.jump]
   exact bodyPost_ret (v := .tuple #[.agg #[.int .i64 0, .bool false, .int .i64 0, .int .u64 0, .slice none 0 0], .bool false]) (by simp [results, Tryz.results102, go_sem, a1, a2, a3, a4, a5]) rfl (RunD14.fin V (d := 0) (ret := bodyV) HR.out (V.M.stay HO.out.i (Below.mono (B := w.heap.size) (by repeat (first | with_reducible exact Below.refl _ _ | with_reducible refine Below.drew ?_ | with_reducible refine below_al ?_ | (refine Below.setCell ?_ (show w.heap.size ≤ _ by (try simp only []); omega) _))) (HBW.out _))) butA)
  have dd : ((d : Int) != 0) = true := by rw [bne_iff_ne]; omega
  rw [if_neg hd0] at hr
  by_cases hd3 : codS d = 3
  case neg =>
   have df : ((codS d : Int) == 3) = false := by rw [beq_eq_false_iff_ne]; omega
   rw [if_neg hd3] at hr
   have HR := Lib.hid hr
   clear hr hd0 hP hpl hcl hd3
   generalize predS d = pd
   generalize curS d = cd
   obtain ⟨m0, ⟨a1, a2, a3, a4, a5⟩, b1, b2, b3, b4, b5⟩ := HO.out.var.five
   go_wp2_with fail
   have hg := HG.out
   have hbw := HO.out.but
   try simp only [Exit.jump]
   exact bodyPost_ret (v := .tuple #[.agg #[.int .i64 0, .bool false, .int .i64 0, .int .u64 0, .slice none 0 0], .bool true]) (by simp [results, Tryz.results102, go_sem, a1, a2, a3, a4, a5]) rfl (RunD14.fin V (d := 1) (ret := bodyV) HR.out (V.M.stay HO.out.i (Below.mono (B := w.heap.size) (by repeat (first | with_reducible exact Below.refl _ _ | with_reducible refine Below.drew ?_ | with_reducible refine below_al ?_ | (refine Below.setCell ?_ (show w.heap.size ≤ _ by (try simp only []); omega) _))) (HBW.out _))) butA)
  have df : ((codS d : Int) == 3) = true := by rw [beq_iff_eq]; omega
  rw [if_pos hd3] at hr
  have HC := Lib.hid (And.intro (hP hd3) hcl)
  have HL := partD V HB.out hr w2 (fun hb' => mark_prg V t (curS d) HT.out hcl s2 hb' w2 HO.out.i)
  clear hr hd0 hP hpl hcl hd3
  generalize predS d = pd at *
  generalize curS d = cd at *
  go_wp2_with fail
  (with_reducible refine (HL).mono ?_)
  rintro e w3 (⟨d3, s3, rfl, hi, hbt, hr⟩ | ⟨k, j, a, b, d, hr, rfl, hl⟩)
  case inr => exact ⟨rfl, RunD14.quit V ⟨k, j, a, b, d, hr, rfl, hl⟩⟩
  try dsimp only at hr
  have HOn := Lib.hid (AtO.go V HG.out HO.out hi hbt)
  clear HO hi hbt
  have HO := HOn
  clear HOn
  clear HL
  by_cases he : d3 = 1
  ·have de := eq1 he
   rw [if_pos he] at hr
   have HF : ∀ w, Calls Tryz.prog 87 #[.int .i64 (t : Int), .int .i64 (cd : Int), .int .i64 2] w fun e w' => e = .returned (.int .i64 (fieldN t cd 2 : Nat)) ∧ w = w' := fun w => field_any t cd 2 (by have := HT.out; omega) HC.out.1 (by have := HC.out.2; omega) (by omega) w
   have HLD := loadD V HB.out (fieldI HT.out HC.out.2 (f := 2) (by omega)) hr w3 HO.out.i
   clear hr he
   generalize fieldN t cd 2 = fl at *
   go_wp2_with (go_at_call 87; (with_reducible refine (HF _).mono ?_); rintro e w' ⟨rfl, rfl⟩)
   (with_reducible refine (HLD).mono ?_)
   rintro e w4 (⟨f, s4, rfl, hfl, hi, hbt, hr⟩ | ⟨k, j, a, b, d, hr, rfl, hl⟩)
   case inr => exact ⟨rfl, RunD14.quit V ⟨k, j, a, b, d, hr, rfl, hl⟩⟩
   try dsimp only at hr
   have HOn := Lib.hid (AtO.go V HG.out HO.out hi hbt)
   clear HO hi hbt
   have HO := HOn
   clear HOn
   clear HLD hfl
   have HST := fun w => stamp_any f w
   have HS : Calls Tryz.prog 134 #[dv, .int .i64 (t : Int), .int .i64 (cd : Int), .int .i64 2] w4 _ := partD V HB.out hr w4 (fun hb' => save_prg V t cd 2 n HT.out HC.out.1 HC.out.2 (.inr rfl) s4 hb' w4 HO.out.i (HO.out.hbw V HBW.out))
   clear hr
   generalize stampN f = sf at *
   go_wp2_with (go_at_call 148; (with_reducible refine (HST _).mono ?_); rintro e w' ⟨rfl, rfl⟩)
   (with_reducible refine (HS).mono ?_)
   rintro e w5 (⟨d5, s5, rfl, hi, hbt, hr⟩ | ⟨k, j, a, b, d, hr, rfl, hl⟩)
   case inr => exact ⟨rfl, RunD14.quit V ⟨k, j, a, b, d, hr, rfl, hl⟩⟩
   try dsimp only at hr
   have HOn := Lib.hid (AtO.go V HG.out HO.out hi hbt)
   clear HO hi hbt
   have HO := HOn
   clear HOn
   clear HS
   by_cases hs : d5 = 1
   ·have ds := eq1 hs
    rw [if_pos hs] at hr
    have HSW := partD V HB.out hr w5 (fun hb' => sweep_prg V t sf n HT.out s5 hb' w5 HO.out.i (HO.out.hbw V HBW.out))
    clear hr hs
    go_wp2_with fail
    (with_reducible refine (HSW).mono ?_)
    rintro e w6 (⟨d6, s6, rfl, hi, hbt, hr⟩ | ⟨k, j, a, b, d, hr, rfl, hl⟩)
    case inr => exact ⟨rfl, RunD14.quit V ⟨k, j, a, b, d, hr, rfl, hl⟩⟩
    try dsimp only at hr
    have HOn := Lib.hid (AtO.go V HG.out HO.out hi hbt)
    clear HO hi hbt
    have HO := HOn
    clear HOn
    clear HSW
    obtain ⟨m0, ⟨a1, a2, a3, a4, a5⟩, b1, b2, b3, b4, b5⟩ := HO.out.var.five
    by_cases hz : d6 = 0
    ·have dz : ((d6 : Int) != 0) = false := by rw [bne_eq_false_iff_eq]; omega
     rw [if_pos hz] at hr
     have HR := Lib.hid hr
     clear hr hz
     go_wp2_with fail
     have hg := HG.out
     have hbw := HO.out.but
     try simp only [Exit.jump]
     exact bodyPost_ret (v := .tuple #[.agg #[.int .i64 0, .bool true, .int .i64 0, .int .u64 0, .slice none 0 0], .bool false]) (by simp [results, Tryz.results102, go_sem, a1, a2, a3, a4, a5]) rfl (RunD14.fin V (d := 4) (ret := bodyV) HR.out (V.M.stay HO.out.i (Below.mono (B := w.heap.size) (by repeat (first | with_reducible exact Below.refl _ _ | with_reducible refine Below.drew ?_ | with_reducible refine below_al ?_ | (refine Below.setCell ?_ (show w.heap.size ≤ _ by (try simp only []); omega) _))) (HBW.out _))) butA)
    ·have dz : ((d6 : Int) != 0) = true := by rw [bne_iff_ne]; omega
     rw [if_neg hz] at hr
     have HR := Lib.hid hr
     clear hr hz
     go_wp2_with fail
     have hg := HG.out
     have hbw := HO.out.but
     try simp only [Exit.jump]
     exact bodyPost_ret (v := .tuple #[.agg #[.int .i64 0, .bool true, .int .i64 0, .int .u64 0, .slice none 0 0], .bool true]) (by simp [results, Tryz.results102, go_sem, a1, a2, a3, a4, a5]) rfl (RunD14.fin V (d := 2) (ret := bodyV) HR.out (V.M.stay HO.out.i (Below.mono (B := w.heap.size) (by repeat (first | with_reducible exact Below.refl _ _ | with_reducible refine Below.drew ?_ | with_reducible refine below_al ?_ | (refine Below.setCell ?_ (show w.heap.size ≤ _ by (try simp only []); omega) _))) (HBW.out _))) butA)
   ·have ds := ne1 hs
    rw [if_neg hs] at hr
    have HR := Lib.hid hr
    clear hr hs
    obtain ⟨m0, ⟨a1, a2, a3, a4, a5⟩, b1, b2, b3, b4, b5⟩ := HO.out.var.five
    go_wp2_with fail
    have hg := HG.out
    have hbw := HO.out.but
    try simp only [Exit.jump]
    exact bodyPost_ret (v := .tuple #[.agg #[.int .i64 0, .bool true, .int .i64 0, .int .u64 0, .slice none 0 0], .bool false]) (by simp [results, Tryz.results102, go_sem, a1, a2, a3, a4, a5]) rfl (RunD14.fin V (d := 5) (ret := bodyV) HR.out (V.M.stay HO.out.i (Below.mono (B := w.heap.size) (by repeat (first | with_reducible exact Below.refl _ _ | with_reducible refine Below.drew ?_ | with_reducible refine below_al ?_ | (refine Below.setCell ?_ (show w.heap.size ≤ _ by (try simp only []); omega) _))) (HBW.out _))) butA)
  ·have de := ne1 he
   rw [if_neg he] at hr
   have HR := Lib.hid hr
   clear hr he
   go_wp2_with fail
   go_step3
   exact ⟨rfl, m, Nat.lt_succ_self m, s3, _, _, _, _, _, _, _, _, _, _, _, _, _, _, _, _, _, _, _, _, _, _, _, _, _, _, _, _, _, _, _, _, _, _, _, _, _, _, _, _, _, _, _, _, _, rfl, HO.out, HR.out⟩
end
end Go.Proofs.YtibpfkcackdbgaaGreatDoor
namespace Go.Proofs.YtibpfkcackdbgaaGreatDoor
open Go.ChangeShapes Go.WideShapes Go.ChangeAt Go.RowKit Go.BigFrame
set_option linter.unusedVariables false
set_option maxRecDepth 100000
section
variable {dv : Value} {S : Type} (V : SrvD dv S)
set_option maxHeartbeats 8000000 in
set_option maxRecDepth 100000 in
theorem vHas_prg (t kk n : Nat) (ht : t ≤ 64) (s : S) (hb : (Prd.vHas t kk n).run V.tell s ≠ .bad) (w : World) (hI : V.M.I s w) (hBw : ∀ y, V.M.B y ≤ w.heap.size) :
  Calls Tryz.prog 104 #[dv, .int .i64 (t : Int), .int .u64 (kk : Int)] w (RunD14 V w bodyV ((Prd.vHas t kk n).run V.tell s)) := by
 have hgw := V.lt hI
 generalize hR : (Prd.vHas t kk n).run V.tell s = R at hb ⊢
 unfold Prd.vHas at hR
 have HS : ∀ y, V.M.I s y → Calls Tryz.prog 25 #[dv, .int .i64 (t : Int), .int .i64 0, .int .u64 (kk : Int)] y _ := fun y hy => partA V hb (Prd.all_seek t 0 kk n) hR y (fun hb' => seek_prg V t 0 kk n ht (by decide) s hb' y hy)
 have HB := Lib.hid hb
 have HG := Lib.hid hgw
 have HBW := Lib.hid hBw
 have HI := Lib.hid hI
 have HT := Lib.hid ht
 clear hI hBw hR ht hb hgw
 go_enter Tryz.func104, Tryz.ntmps104
 go_wp2_with fail
 refine gen_w (P := fun W => Calls _ _ _ W _) (fun y => Below w.heap.size w y ∧ VarAt y w.heap.size [.int .i64 0, .bool false, .int .i64 0, .int .u64 0, .slice none 0 0]) ⟨belA, VarAt.mk5 (by simp)⟩ ?_
 rintro y ⟨k0, k1⟩
 have HO := Lib.hid (AtO.start V HI.out k0 k1)
 clear k0 k1 HI
 (with_reducible refine (HS y HO.out.i).mono ?_)
 rintro e w2 (⟨d, s2, rfl, hi, hbt, hr, hP⟩ | ⟨k, j, a, b, d, hr, rfl, hl⟩)
 case inr => exact ⟨rfl, RunD14.quit V ⟨k, j, a, b, d, hr, rfl, hl⟩⟩
 try dsimp only at hr
 have HOn := Lib.hid (AtO.go V HG.out HO.out hi hbt)
 clear HO hi hbt
 have HO := HOn
 clear HOn
 clear HS
 unfold seekV
 by_cases hd : d % 2 = 1
 case neg =>
  have df : decide (d % 2 = 1) = false := by rw [decide_eq_false_iff_not]; exact hd
  rw [if_neg hd] at hr
  rw [df]
  have HR := Lib.hid hr
  clear hr hd hP df
  generalize d / 2 = x
  obtain ⟨m0, ⟨a1, a2, a3, a4, a5⟩, b1, b2, b3, b4, b5⟩ := HO.out.var.five
  go_wp2_with fail
  have hg := HG.out
  have hbw := HO.out.but
  exact bodyPost_ret (v := .tuple #[.agg #[.int .i64 0, .bool false, .int .i64 0, .int .u64 0, .slice none 0 0], .bool true]) (by simp [results, Tryz.results104, go_sem, a1, a2, a3, a4, a5]) rfl (RunD14.fin V (d := 1) (ret := bodyV) HR.out (V.M.stay HO.out.i (Below.mono (B := w.heap.size) (by repeat (first | with_reducible exact Below.refl _ _ | with_reducible refine Below.drew ?_ | with_reducible refine below_al ?_ | (refine Below.setCell ?_ (show w.heap.size ≤ _ by (try simp only []); omega) _))) (HBW.out _))) butA)
 have df : decide (d % 2 = 1) = true := by rw [decide_eq_true_iff]; exact hd
 rw [if_pos hd] at hr
 rw [df]
 have HC := Lib.hid (show 1 ≤ d / 2 ∧ d / 2 < 1048576 by have := hP.2 hd; omega)
 clear hd hP df
 generalize d / 2 = x at *
 have HF := fun w => next_any t x (by have := HT.out; omega) (by have := HC.out.2; omega) w
 have HL := loadD V HB.out (nextI HT.out HC.out.2) hr w2 HO.out.i
 clear hr
 generalize nextN t x = nx at *
 go_wp2_with (go_at_call 50; (with_reducible refine (HF _).mono ?_); rintro e w' ⟨rfl, rfl⟩)
 (with_reducible refine (HL).mono ?_)
 rintro e w3 (⟨v, s3, rfl, hvl, hi, hbt, hr⟩ | ⟨k, j, a, b, d, hr, rfl, hl⟩)
 case inr => exact ⟨rfl, RunD14.quit V ⟨k, j, a, b, d, hr, rfl, hl⟩⟩
 try dsimp only at hr
 have HOn := Lib.hid (AtO.go V HG.out HO.out hi hbt)
 clear HO hi hbt
 have HO := HOn
 clear HOn
 clear HL
 have HM := fun w => mark_any v hvl w
 clear hvl
 cases hm : markB v with
 | true =>
  rw [hm] at HM
  rw [if_pos hm] at hr
  clear hm
  have HS : Calls Tryz.prog 134 #[dv, .int .i64 (t : Int), .int .i64 (x : Int), .int .i64 2] w3 _ := partD V HB.out hr w3 (fun hb' => save_prg V t x 2 n HT.out HC.out.1 HC.out.2 (.inr rfl) s3 hb' w3 HO.out.i (HO.out.hbw V HBW.out))
  clear hr
  go_wp2_with (go_at_call 54; (with_reducible refine (HM _).mono ?_); rintro e w' ⟨rfl, rfl⟩)
  (with_reducible refine (HS).mono ?_)
  rintro e w4 (⟨d4, s4, rfl, hi, hbt, hr⟩ | ⟨k, j, a, b, d, hr, rfl, hl⟩)
  case inr => exact ⟨rfl, RunD14.quit V ⟨k, j, a, b, d, hr, rfl, hl⟩⟩
  try dsimp only at hr
  have HOn := Lib.hid (AtO.go V HG.out HO.out hi hbt)
  clear HO hi hbt
  have HO := HOn
  clear HOn
  clear HS
  obtain ⟨m0, ⟨a1, a2, a3, a4, a5⟩, b1, b2, b3, b4, b5⟩ := HO.out.var.five
  by_cases hs : d4 = 1
  ·have ds := eq1 hs
   rw [if_pos hs] at hr
   have HR := Lib.hid hr
   clear hr hs
   go_wp2_with fail
   have hg := HG.out
   have hbw := HO.out.but
   exact bodyPost_ret (v := .tuple #[.agg #[.int .i64 0, .bool false, .int .i64 0, .int .u64 0, .slice none 0 0], .bool true]) (by simp [results, Tryz.results104, go_sem, a1, a2, a3, a4, a5]) rfl (RunD14.fin V (d := 1) (ret := bodyV) HR.out (V.M.stay HO.out.i (Below.mono (B := w.heap.size) (by repeat (first | with_reducible exact Below.refl _ _ | with_reducible refine Below.drew ?_ | with_reducible refine below_al ?_ | (refine Below.setCell ?_ (show w.heap.size ≤ _ by (try simp only []); omega) _))) (HBW.out _))) butA)
  ·have ds := ne1 hs
   rw [if_neg hs] at hr
   have HR := Lib.hid hr
   clear hr hs
   go_wp2_with fail
   have hg := HG.out
   have hbw := HO.out.but
   exact bodyPost_ret (v := .tuple #[.agg #[.int .i64 0, .bool false, .int .i64 0, .int .u64 0, .slice none 0 0], .bool false]) (by simp [results, Tryz.results104, go_sem, a1, a2, a3, a4, a5]) rfl (RunD14.fin V (d := 0) (ret := bodyV) HR.out (V.M.stay HO.out.i (Below.mono (B := w.heap.size) (by repeat (first | with_reducible exact Below.refl _ _ | with_reducible refine Below.drew ?_ | with_reducible refine below_al ?_ | (refine Below.setCell ?_ (show w.heap.size ≤ _ by (try simp only []); omega) _))) (HBW.out _))) butA)
 | false =>
  rw [hm] at HM
  rw [if_neg (by rw [hm]; decide)] at hr
  clear hm
  have HS : Calls Tryz.prog 134 #[dv, .int .i64 (t : Int), .int .i64 (x : Int), .int .i64 1] w3 _ := partD V HB.out hr w3 (fun hb' => save_prg V t x 1 n HT.out HC.out.1 HC.out.2 (.inl rfl) s3 hb' w3 HO.out.i (HO.out.hbw V HBW.out))
  clear hr
  go_wp2_with (go_at_call 54; (with_reducible refine (HM _).mono ?_); rintro e w' ⟨rfl, rfl⟩)
  (with_reducible refine (HS).mono ?_)
  rintro e w4 (⟨d4, s4, rfl, hi, hbt, hr⟩ | ⟨k, j, a, b, d, hr, rfl, hl⟩)
  case inr => exact ⟨rfl, RunD14.quit V ⟨k, j, a, b, d, hr, rfl, hl⟩⟩
  try dsimp only at hr
  have HOn := Lib.hid (AtO.go V HG.out HO.out hi hbt)
  clear HO hi hbt
  have HO := HOn
  clear HOn
  clear HS
  obtain ⟨m0, ⟨a1, a2, a3, a4, a5⟩, b1, b2, b3, b4, b5⟩ := HO.out.var.five
  by_cases hs : d4 = 1
  ·have ds := eq1 hs
   rw [if_pos hs] at hr
   have HR := Lib.hid hr
   clear hr hs
   go_wp2_with fail
   have hg := HG.out
   have hbw := HO.out.but
   exact bodyPost_ret (v := .tuple #[.agg #[.int .i64 0, .bool true, .int .i64 0, .int .u64 0, .slice none 0 0], .bool true]) (by simp [results, Tryz.results104, go_sem, a1, a2, a3, a4, a5]) rfl (RunD14.fin V (d := 2) (ret := bodyV) HR.out (V.M.stay HO.out.i (Below.mono (B := w.heap.size) (by repeat (first | with_reducible exact Below.refl _ _ | with_reducible refine Below.drew ?_ | with_reducible refine below_al ?_ | (refine Below.setCell ?_ (show w.heap.size ≤ _ by (try simp only []); omega) _))) (HBW.out _))) butA)
  ·have ds := ne1 hs
   rw [if_neg hs] at hr
   have HR := Lib.hid hr
   clear hr hs
   go_wp2_with fail
   have hg := HG.out
   have hbw := HO.out.but
   exact bodyPost_ret (v := .tuple #[.agg #[.int .i64 0, .bool true, .int .i64 0, .int .u64 0, .slice none 0 0], .bool false]) (by simp [results, Tryz.results104, go_sem, a1, a2, a3, a4, a5]) rfl (RunD14.fin V (d := 4) (ret := bodyV) HR.out (V.M.stay HO.out.i (Below.mono (B := w.heap.size) (by repeat (first | with_reducible exact Below.refl _ _ | with_reducible refine Below.drew ?_ | with_reducible refine below_al ?_ | (refine Below.setCell ?_ (show w.heap.size ≤ _ by (try simp only []); omega) _))) (HBW.out _))) butA)
end
end Go.Proofs.YtibpfkcackdbgaaGreatDoor
namespace Go.Proofs.YtibpfkcackdbgaaGreatDoor
open Go.ChangeShapes Go.WideShapes Go.ChangeAt Go.RowKit Go.BigFrame
set_option linter.unusedVariables false
set_option maxRecDepth 100000
def bodyG (oe : Nat → Int) (oi : Nat → Bool) (on : Nat → Int) (ow : Nat → Nat) (ok : Nat → Bool) (d : Nat) : Value := .tuple #[.agg #[.int .i64 (oe d), .bool (oi d), .int .i64 (on d), .int .u64 (ow d : Int), .slice none 0 0], .bool (ok d)]
def inV (oe : Nat → Int) (oi : Nat → Bool) (on : Nat → Int) (ow : Nat → Nat) (r : Nat) : Value :=
 if r = 0 then .agg #[.int .i64 7, .bool false, .int .i64 0, .int .u64 0, .slice none 0 0] else if r = 1 then .agg #[.int .i64 6, .bool false, .int .i64 0, .int .u64 0, .slice none 0 0] else .agg #[.int .i64 (oe (r - 2)), .bool (oi (r - 2)), .int .i64 (on (r - 2)), .int .u64 (ow (r - 2) : Int), .slice none 0 0]
theorem inV_2 (oe : Nat → Int) (oi : Nat → Bool) (on : Nat → Int) (ow : Nat → Nat) (d : Nat) : inV oe oi on ow (d + 2) = .agg #[.int .i64 (oe d), .bool (oi d), .int .i64 (on d), .int .u64 (ow d : Int), .slice none 0 0] := by
 unfold inV
 rw [if_neg (by omega), if_neg (by omega), show d + 2 - 2 = d by omega]
section
variable {dv : Value} {S : Type} (V : SrvD dv S)
theorem eql_body (f : Nat) (first cap : Array Value) (w : World) : (binOp .eql 164 (.func (.func f) first cap) .nilFunc).run Tryz.prog w = .ok (.bool false) w := by kernel_rfl
theorem outL_of {R : RanD S} {w : World} {ret : Nat → Value} {d : Nat} {s : S} {v : Value} (hr : (Prd.ret d).run V.tell s = R) (hv : ret d = v) {w' : World} (hI : V.M.I s w') (hb : But V.M.g w w') : RunD14 V w ret R (.returned v) w' := by
 subst hv
 exact RunD14.fin V hr hI hb
set_option maxHeartbeats 8000000 in
set_option maxRecDepth 100000 in
theorem in_prg (oe : Nat → Int) (oi : Nat → Bool) (on : Nat → Int) (ow : Nat → Nat) (ok : Nat → Bool) (b : Prd) (me : Nat) (hme : me < 1000000) (fo : FuncId) (caps : Array Value) (hcall : ∀ (args : Array Value) (W : World), (callFunc fo args).run Tryz.prog W = .ok (.enter fo args) W)
  (s : S) (hb : (Prd.inP me ok b).run V.tell s ≠ .bad) (w : World) (hI : V.M.I s w) (hBw : ∀ y, V.M.B y ≤ w.heap.size)
  (hbody : ∀ s z, V.M.I s z → But V.M.g w z → b.run V.tell s ≠ .bad → Calls Tryz.prog fo caps z (RunD14 V z (bodyG oe oi on ow ok) (b.run V.tell s))) :
  Calls Tryz.prog 105 #[dv, .int .i64 (me : Int), .func (.func fo) #[] caps] w (RunD14 V w (inV oe oi on ow) ((Prd.inP me ok b).run V.tell s)) := by
 have hgw := V.lt hI
 generalize hR : (Prd.inP me ok b).run V.tell s = R at hb ⊢
 unfold Prd.inP at hR
 have HL : ∀ y, V.M.I s y → Calls Tryz.prog 86 #[dv, .int .i64 7] y _ := fun y hy => loadD V hb (i := 7) (by decide) hR y hy
 have HB := Lib.hid hb
 have HG := Lib.hid hgw
 have HBW := Lib.hid hBw
 have HI := Lib.hid hI
 have HM := Lib.hid hme
 have HBD := Lib.hid hbody
 obtain ⟨df, d1, d2, rfl⟩ := V.M.isFn
 have heq := eql_body fo #[] caps
 clear hI hBw hR hme hb hgw hbody
 go_enter Tryz.func105, Tryz.ntmps105
 go_wp2_with fail
 refine gen_w (P := fun W => Calls _ _ _ W _) (fun y => Below w.heap.size w y ∧ VarAt y w.heap.size [.int .i64 0, .bool false, .int .i64 0, .int .u64 0, .slice none 0 0]) ⟨belA, VarAt.mk5 (by simp)⟩ ?_
 rintro y ⟨k0, k1⟩
 have HO := Lib.hid (AtO.start V HI.out k0 k1)
 clear k0 k1 HI
 (with_reducible refine (HL y HO.out.i).mono ?_)
 rintro e w2 (⟨n, s2, rfl, hnl, hi, hbt, hr⟩ | ⟨k, j, a, b, d, hr, rfl, hl⟩)
 case inr => exact ⟨rfl, RunD14.quit V ⟨k, j, a, b, d, hr, rfl, hl⟩⟩
 try dsimp only at hr
 have HOn := Lib.hid (AtO.go V HG.out HO.out hi hbt)
 clear HO hi hbt
 have HO := HOn
 clear HOn
 clear HL hnl
 by_cases hn : n = 0
 case neg =>
  have dn : ((n : Int) != 0) = true := by rw [bne_iff_ne]; omega
  rw [if_neg hn] at hr
  have HR := Lib.hid hr
  clear hr hn
  obtain ⟨m0, ⟨a1, a2, a3, a4, a5⟩, b1, b2, b3, b4, b5⟩ := HO.out.var.five
  go_wp2_with fail
  have hg := HG.out
  have hbw := HO.out.but
  exact bodyPost_ret (v := .agg #[.int .i64 6, .bool false, .int .i64 0, .int .u64 0, .slice none 0 0]) (by simp [results, Tryz.results105, go_sem, a1, a2, a3, a4, a5]) rfl (outL_of V HR.out rfl (V.M.stay HO.out.i (Below.mono (B := w.heap.size) (by repeat (first | with_reducible exact Below.refl _ _ | with_reducible refine Below.drew ?_ | with_reducible refine below_al ?_ | (refine Below.setCell ?_ (show w.heap.size ≤ _ by (try simp only []); omega) _))) (HBW.out _))) butA)
 have dn : ((n : Int) != 0) = false := by rw [bne_eq_false_iff_eq]; omega
 rw [if_pos hn] at hr
 have HP := partD V HB.out (F := 149) (args := #[.func (.func df) d1 d2, .int .i64 (me : Int)]) (ret := fun _ => .tuple #[]) hr w2 (upD V (Prg.mem_pin' me) w2 (fun hb' => pin_prg V.M me HM.out s2 hb' w2 HO.out.i))
 clear hr hn
 go_wp2_with fail
 (with_reducible refine (HP).mono ?_)
 rintro e w3 (⟨d3, s3, rfl, hi, hbt, hr⟩ | ⟨k, j, a, b, d, hr, rfl, hl⟩)
 case inr => exact ⟨rfl, RunD14.quit V ⟨k, j, a, b, d, hr, rfl, hl⟩⟩
 try dsimp only at hr
 have HOn := Lib.hid (AtO.go V HG.out HO.out hi hbt)
 clear HO hi hbt
 have HO := HOn
 clear HOn
 clear HP
 have HC := partD V HB.out hr w3 (fun hb' => HBD.out s3 w3 HO.out.i HO.out.but hb')
 clear hr
 go_wp2_with fail
 (with_reducible refine (HC).mono ?_)
 rintro e w4 (⟨r, s4, rfl, hi, hbt, hr⟩ | ⟨k, j, a, b, d, hr, rfl, hl⟩)
 case inr => exact ⟨rfl, RunD14.quit V ⟨k, j, a, b, d, hr, rfl, hl⟩⟩
 try dsimp only at hr
 have HOn := Lib.hid (AtO.go V HG.out HO.out hi hbt)
 clear HO hi hbt
 have HO := HOn
 clear HOn
 clear HC
 unfold bodyG
 have HE := Lib.hid (inV_2 oe oi on ow r)
 obtain ⟨er, her⟩ : ∃ x, oe r = x := ⟨_, rfl⟩
 obtain ⟨is, his⟩ : ∃ x, oi r = x := ⟨_, rfl⟩
 obtain ⟨m, hm⟩ : ∃ x, on r = x := ⟨_, rfl⟩
 obtain ⟨q, hq⟩ : ∃ x, ow r = x := ⟨_, rfl⟩
 rw [her, his, hm, hq] at HE ⊢
 clear her his hm hq
 obtain ⟨okd, hok⟩ : ∃ x, ok r = x := ⟨_, rfl⟩
 rw [hok] at hr ⊢
 have HR := Lib.hid hr
 clear hr hok
 go_upto_region 7 with fail
 have n1 : ¬ (w.heap.size = w4.heap.size) := by have := HO.out.var.1; omega
 refine gen_w (P := fun W => Code.wp _ _ _ _ W) (fun z => AtO V w s4 z ∧ VarAt z w4.heap.size [.int .i64 er, .bool is, .int .i64 m, .int .u64 (q : Int), .slice none 0 0] ∧ w.heap.size < w4.heap.size ∧ z.heap.size = w4.heap.size + 1) (by
  have hbl := al_below w4 (.cells #[.int .i64 er, .bool is, .int .i64 m, .int .u64 (q : Int), .slice none 0 0] 38)
  have ho := HO.out
  have hlt := ho.var.1
  have hg := HG.out
  exact ⟨⟨V.M.later ho.i hbl, ho.but.trans (But.of hbl (by omega)), ho.var.below hbl⟩, VarAt.mk5 (by simp), hlt, by simp⟩) ?_
 rintro z ⟨ho, hv, hlt, hzs⟩
 clear HO n1
 have HO := Lib.hid ho
 have HV := Lib.hid hv
 have HLT := Lib.hid (And.intro hlt hzs)
 clear ho hv hlt hzs
 generalize w4.heap.size = bo4 at *
 cases okd with
 | true =>
  have hr : ((Prg.unpin me).up.bind fun _ => Prd.ret (r + 2)).run V.tell s4 = R := HR.out
  have HU := partD V HB.out (F := 150) (args := #[.func (.func df) d1 d2, .int .i64 (me : Int)]) (ret := fun _ => .tuple #[]) hr z (upD V (Prg.mem_unpin' me) z (fun hb' => unpin_prg V.M me HM.out s4 hb' z HO.out.i))
  clear hr HR
  obtain ⟨mm, ⟨e1, e2, e3, e4, e5⟩, _⟩ := HV.out.five
  go_wp2_with fail
  clear e1 e2 e3 e4 e5 mm
  (with_reducible refine HU.mono ?_)
  rintro e w5 (⟨d5, s5, rfl, hi, hbt, hr⟩ | ⟨k, j, a, b, d, hr, rfl, hl⟩)
  case inr => exact ⟨rfl, RunD14.quit V ⟨k, j, a, b, d, hr, rfl, hl⟩⟩
  try dsimp only at hr
  have HVn := Lib.hid (HV.out.but hbt (by have := HLT.out; have := HG.out; omega))
  have HOn := Lib.hid (AtO.go V HG.out HO.out hi hbt)
  clear HO hi hbt HV HU
  have HO := HOn
  have HV := HVn
  clear HOn HVn
  have HR := Lib.hid hr
  clear hr
  obtain ⟨m0, ⟨a1, a2, a3, a4, a5⟩, b1, b2, b3, b4, b5⟩ := HO.out.var.five
  obtain ⟨mm, ⟨e1, e2, e3, e4, e5⟩, _⟩ := HV.out.five
  have n1 : ¬ (bo4 = w.heap.size) := by have := HLT.out; omega
  go_wp2_with fail
  have hg := HG.out
  have hbw := HO.out.but
  exact bodyPost_ret (v := .agg #[.int .i64 er, .bool is, .int .i64 m, .int .u64 (q : Int), .slice none 0 0]) (by simp [results, Tryz.results105, go_sem, a1, a2, a3, a4, a5]) rfl (outL_of V HR.out HE.out (V.M.stay HO.out.i (Below.mono (B := w.heap.size) (by repeat (first | with_reducible exact Below.refl _ _ | with_reducible refine Below.drew ?_ | with_reducible refine below_al ?_ | (refine Below.setCell ?_ (show w.heap.size ≤ _ by (try simp only []); omega) _))) (HBW.out _))) butA)
 | false =>
  have hr : (Prd.ask 1 7 1 0 [] fun _ => (Prg.unpin me).up.bind fun _ => Prd.ret 0).run V.tell s4 = R := HR.out
  have HST : Calls Tryz.prog 49 #[.func (.func df) d1 d2, .int .i64 7, .int .u64 1] z _ := storeD V HB.out (i := 7) (by decide) (a := 1) (by decide) hr z HO.out.i
  clear hr HR
  go_wp2_with fail
  (with_reducible refine HST.mono ?_)
  rintro e w5 (⟨d5, s5, rfl, -, hi, hbt, hr⟩ | ⟨k, j, a, b, d, hr, rfl, hl⟩)
  case inr => exact ⟨rfl, RunD14.quit V ⟨k, j, a, b, d, hr, rfl, hl⟩⟩
  try dsimp only at hr
  have HVn := Lib.hid (HV.out.but hbt (by have := HLT.out; have := HG.out; omega))
  have HOn := Lib.hid (AtO.go V HG.out HO.out hi hbt)
  have HL5 := Lib.hid (show bo4 < w5.heap.size by have := hbt.size; have := HLT.out; omega)
  clear HO hi hbt HV HST
  have HO := HOn
  have HV := HVn
  clear HOn HVn
  have HR := Lib.hid hr
  clear hr
  obtain ⟨mm, ⟨e1, e2, e3, e4, e5⟩, f1, f2, f3, f4, f5⟩ := HV.out.five
  have n1 : ¬ (bo4 = w.heap.size) := by have := HLT.out; omega
  have n2 : ¬ (w.heap.size = bo4) := by have := HLT.out; omega
  go_upto_region 10 with fail
  refine gen_w (P := fun W => Code.wp _ _ _ _ W) (fun z => AtO V w s5 z ∧ VarAt z bo4 [.int .i64 7, .bool false, .int .i64 0, .int .u64 0, .slice none 0 0]) (by
   have ho := HO.out
   have hg := HG.out
   have hbw := ho.but
   have hl := HLT.out
   exact ⟨⟨V.M.stay ho.i (Below.mono (B := w.heap.size) (by repeat (first | with_reducible exact Below.refl _ _ | with_reducible refine Below.drew ?_ | with_reducible refine below_al ?_ | (refine Below.setCell ?_ (show w.heap.size ≤ _ by (try simp only []); omega) _))) (HBW.out _)), butA, ((((ho.var.apart 0 _ n1).apart 1 _ n1).apart 2 _ n1).apart 3 _ n1).apart 4 _ n1⟩, ((((HV.out.setAt 0 _ (by simp)).setAt 1 _ (by simp)).setAt 2 _ (by simp)).setAt 3 _ (by simp)).setAt 4 _ (by simp)⟩) ?_
  rintro z2 ⟨ho, hv⟩
  clear HO HV e1 e2 e3 e4 e5 mm f1 f2 f3 f4 f5
  have HO := Lib.hid ho
  have HV := Lib.hid hv
  clear ho hv
  have HU := partD V HB.out (F := 150) (args := #[.func (.func df) d1 d2, .int .i64 (me : Int)]) (ret := fun _ => .tuple #[]) HR.out z2 (upD V (Prg.mem_unpin' me) z2 (fun hb' => unpin_prg V.M me HM.out s5 hb' z2 HO.out.i))
  clear HR
  go_wp2_with fail
  (with_reducible refine HU.mono ?_)
  rintro e w6 (⟨d6, s6, rfl, hi, hbt, hr⟩ | ⟨k, j, a, b, d, hr, rfl, hl⟩)
  case inr => exact ⟨rfl, RunD14.quit V ⟨k, j, a, b, d, hr, rfl, hl⟩⟩
  try dsimp only at hr
  have HVn := Lib.hid (HV.out.but hbt (by have := HLT.out; have := HG.out; omega))
  have HOn := Lib.hid (AtO.go V HG.out HO.out hi hbt)
  clear HO hi hbt HV HU
  have HO := HOn
  have HV := HVn
  clear HOn HVn
  have HR := Lib.hid hr
  clear hr
  obtain ⟨m0, ⟨a1, a2, a3, a4, a5⟩, b1, b2, b3, b4, b5⟩ := HO.out.var.five
  obtain ⟨mm, ⟨e1, e2, e3, e4, e5⟩, _⟩ := HV.out.five
  go_wp2_with fail
  have hg := HG.out
  have hbw := HO.out.but
  exact bodyPost_ret (v := .agg #[.int .i64 7, .bool false, .int .i64 0, .int .u64 0, .slice none 0 0]) (by simp [results, Tryz.results105, go_sem, a1, a2, a3, a4, a5]) rfl (outL_of V HR.out rfl (V.M.stay HO.out.i (Below.mono (B := w.heap.size) (by repeat (first | with_reducible exact Below.refl _ _ | with_reducible refine Below.drew ?_ | with_reducible refine below_al ?_ | (refine Below.setCell ?_ (show w.heap.size ≤ _ by (try simp only []); omega) _))) (HBW.out _))) butA)
end
end Go.Proofs.YtibpfkcackdbgaaGreatDoor
namespace Go.Proofs.YtibpfkcackdbgaaGreatDoor
open Go.ChangeShapes Go.WideShapes Go.ChangeAt Go.RowKit Go.BigFrame
set_option linter.unusedVariables false
set_option maxRecDepth 100000
def keyIsV (u : Int) : Prop := 0 ≤ u ∧ u < 1073741824
instance (u : Int) : Decidable (keyIsV u) := inferInstanceAs (Decidable (0 ≤ u ∧ u < 1073741824))
theorem keyIsV_yes (u : Int) (w : World) (h : keyIsV u) :
  Calls Tryz.prog 143 #[.int .i64 u] w fun e w' => e = .returned (.bool true) ∧ w = w' := by
 obtain ⟨h0, h1⟩ := h
 have e0 : decide (u ≥ 0) = true := by simpa using h0
 have e1 : decide (u < 1073741824) = true := by simpa using h1
 go_enter Tryz.func143, Tryz.ntmps143
 go_wp2
 go_ret
 exact ⟨rfl, rfl⟩
theorem keyIsV_no (u : Int) (w : World) (h : ¬ keyIsV u) :
  Calls Tryz.prog 143 #[.int .i64 u] w fun e w' => e = .returned (.bool false) ∧ w = w' := by
 unfold keyIsV at h
 by_cases h0 : u < 0
 ·clear h
  go_enter Tryz.func143, Tryz.ntmps143
  go_wp2
  go_ret
  exact ⟨rfl, rfl⟩
 ·have h2 : 0 ≤ u := by omega
  have h1 : 1073741824 ≤ u := by omega
  have e1 : decide (u < 1073741824) = false := by simpa using h1
  clear h h0
  go_enter Tryz.func143, Tryz.ntmps143
  go_wp2
  go_ret
  exact ⟨rfl, rfl⟩
theorem keyVertex_yes (u : Nat) (w : World) (h : u < 1073741824) :
  Calls Tryz.prog 98 #[.int .i64 (u : Int)] w fun e w' => e = .returned (.tuple #[.int .u64 ((u * 2147483648 : Nat) : Int), .int .i64 0]) ∧ w = w' := by
 have h' : keyIsV (u : Int) := ⟨by omega, by omega⟩
 obtain ⟨h0, h1⟩ := h'
 have hc : ((u * 2147483648 : Nat) : Int) = (u : Int) * 2147483648 := by omega
 rw [hc]
 clear hc
 generalize (u : Int) = u' at *
 go_enter Tryz.func98, Tryz.ntmps98
 go_wp2_with (go_at_call 143; refine (keyIsV_yes _ _ ⟨h0, h1⟩).mono ?_; rintro e w' ⟨rfl, rfl⟩)
 go_ret2
 exact ⟨rfl, rfl⟩
theorem keyVertex_no (u : Int) (w : World) (h : ¬ keyIsV u) :
  Calls Tryz.prog 98 #[.int .i64 u] w fun e w' => e = .returned (.tuple #[.int .u64 0, .int .i64 4]) ∧ w = w' := by
 have H := Lib.hid h
 clear h
 go_enter Tryz.func98, Tryz.ntmps98
 go_wp2_with (go_at_call 143; refine (keyIsV_no _ _ H.out).mono ?_; rintro e w' ⟨rfl, rfl⟩)
 go_ret2
 exact ⟨rfl, rfl⟩
def vBody (t me : Nat) (k : Int) (kk n : Nat) : Prd := if k = 11 then Prd.vAdd t me kk n else if k = 12 then Prd.vRem t kk n n else Prd.vHas t kk n
def vPrg (t me : Nat) (k u : Int) (n : Nat) : Prd :=
 if k = 11 ∨ k = 12 ∨ k = 13 then (if keyIsV u then Prd.inP me Prd.vOk (vBody t me k (u.toNat * 2147483648) n) else .ret 100) else .ret 101
def vErr (r : Nat) : Int := if r = 0 then 7 else if r = 1 then 6 else bEr (r - 2)
def vIs (r : Nat) : Bool := if r = 0 ∨ r = 1 then false else bIs (r - 2)
def vOut (r : Nat) : Value := .agg #[.int .i64 (vErr r), .bool (vIs r), .int .i64 0, .int .u64 0, .slice none 0 0]
theorem ok_vBody (t me : Nat) (k : Int) (kk n m : Nat) (h : m < n) : (vBody t me k kk n).ok m := by
 unfold vBody
 split
 ·exact Prd.ok_vAdd t me kk n m h
 ·split
  ·exact Prd.ok_vRem t kk n n m h h
  ·exact Prd.ok_vHas t kk n m h
theorem vPrg_ok (t me : Nat) (k u : Int) (n m : Nat) (h : m < n) : (vPrg t me k u n).ok m := by
 unfold vPrg
 split
 ·split
  ·exact Prd.ok_inP me _ _ m fun j hj => ok_vBody t me k _ n j (by omega)
  ·trivial
 ·trivial
theorem inV_out (r : Nat) : inV bEr bIs (fun _ => 0) (fun _ => 0) r = vOut r := by
 unfold inV vOut vErr vIs
 by_cases h0 : r = 0
 ·subst h0; rfl
 ·by_cases h1 : r = 1
  ·subst h1; rfl
  ·rw [if_neg h0, if_neg h1, if_neg h0, if_neg h1, if_neg (by omega)]; rfl
section
variable {dv : Value} {S : Type} (V : SrvD dv S)
set_option maxHeartbeats 4000000 in
set_option maxRecDepth 100000 in
theorem closure1_at (t me kk p0 p1 p2 p3 : Nat) (R : RanD S) (hb : R ≠ .bad) (w : World) (hI : ∃ s, V.M.I s w) (hBw : ∀ y, V.M.B y ≤ w.heap.size) (h0 : VarAt w p0 [dv]) (h1 : VarAt w p1 [.int .i64 (t : Int)]) (h2 : VarAt w p2 [.int .i64 (me : Int)]) (h3 : VarAt w p3 [.int .u64 (kk : Int)])
  (HC : ∀ y, Below w.heap.size w y → Calls Tryz.prog 100 #[dv, .int .i64 (t : Int), .int .i64 (me : Int), .int .u64 (kk : Int)] y (RunD14 V y bodyV R)) :
  Calls Tryz.prog 99 #[.pointer (some ⟨p0, 0, none⟩), .pointer (some ⟨p1, 0, none⟩), .pointer (some ⟨p2, 0, none⟩), .pointer (some ⟨p3, 0, none⟩)] w (RunD14 V w bodyV R) := by
 obtain ⟨s, hI⟩ := hI
 have hgw := V.lt hI
 have HB := Lib.hid hb
 have HG := Lib.hid hgw
 have HBW := Lib.hid hBw
 have HI := Lib.hid hI
 obtain ⟨m0, c0⟩ : p0 < w.heap.size ∧ w.cell? ⟨p0, 0, none⟩ = some dv := ⟨h0.1, h0.2.1 0 _ rfl⟩
 obtain ⟨m1, c1⟩ : p1 < w.heap.size ∧ w.cell? ⟨p1, 0, none⟩ = some (.int .i64 (t : Int)) := ⟨h1.1, h1.2.1 0 _ rfl⟩
 obtain ⟨m2, c2⟩ : p2 < w.heap.size ∧ w.cell? ⟨p2, 0, none⟩ = some (.int .i64 (me : Int)) := ⟨h2.1, h2.2.1 0 _ rfl⟩
 obtain ⟨m3, c3⟩ : p3 < w.heap.size ∧ w.cell? ⟨p3, 0, none⟩ = some (.int .u64 (kk : Int)) := ⟨h3.1, h3.2.1 0 _ rfl⟩
 clear hI hBw hb hgw h0 h1 h3 h2
 go_enter Tryz.func99, Tryz.ntmps99
 go_wp2_with fail
 refine gen_w (P := fun W => Calls _ _ _ W _) (fun y => Below w.heap.size w y ∧ VarAt y w.heap.size [.int .i64 0, .bool false, .int .i64 0, .int .u64 0, .slice none 0 0]) ⟨belA, VarAt.mk5 (by simp)⟩ ?_
 rintro y ⟨k0, k1⟩
 have HO := Lib.hid (AtO.start V HI.out k0 k1)
 have HCC := HC y k0
 clear k0 k1 HI HC m0 m1 m3 c0 c1 c3 m2 c2
 refine (HCC).mono ?_
 cases R with
 | bad => exact absurd rfl HB.out
 | left k i a b d =>
  rintro e w4 ⟨rfl, hl⟩
  exact ⟨rfl, rfl, hl⟩
 | done r s9 =>
  rintro e w4 ⟨rfl, hi, hbt⟩
  have HOn := Lib.hid (AtO.go V HG.out HO.out hi hbt)
  clear HO hi hbt
  have HO := HOn
  clear HOn
  obtain ⟨m0, ⟨a1, a2, a3, a4, a5⟩, b1, b2, b3, b4, b5⟩ := HO.out.var.five
  have HBV := Lib.hid (show bodyV r = .tuple #[.agg #[.int .i64 (bEr r), .bool (bIs r), .int .i64 0, .int .u64 0, .slice none 0 0], .bool (Prd.vOk r)] from rfl)
  conv in bodyV r => unfold bodyV
  generalize bEr r = er at *
  generalize bIs r = oi at *
  generalize Prd.vOk r = ok at *
  go_wp2_with fail
  have hg := HG.out
  have hbw := HO.out.but
  skip
  exact bodyPost_ret (v := .tuple #[.agg #[.int .i64 er, .bool oi, .int .i64 0, .int .u64 0, .slice none 0 0], .bool ok]) (by simp [results, Tryz.results99, go_sem, a1, a2, a3, a4, a5]) rfl ⟨congrArg Ending.returned HBV.out.symm, V.M.stay HO.out.i (Below.mono (B := w.heap.size) (by repeat (first | with_reducible exact Below.refl _ _ | with_reducible refine Below.drew ?_ | with_reducible refine below_al ?_ | (refine Below.setCell ?_ (show w.heap.size ≤ _ by (try simp only []); omega) _))) (HBW.out _)), butA⟩
set_option maxHeartbeats 4000000 in
set_option maxRecDepth 100000 in
theorem closure2_at (t me kk p0 p1 p2 p3 : Nat) (R : RanD S) (hb : R ≠ .bad) (w : World) (hI : ∃ s, V.M.I s w) (hBw : ∀ y, V.M.B y ≤ w.heap.size) (h0 : VarAt w p0 [dv]) (h1 : VarAt w p1 [.int .i64 (t : Int)]) (h3 : VarAt w p3 [.int .u64 (kk : Int)])
  (HC : ∀ y, Below w.heap.size w y → Calls Tryz.prog 102 #[dv, .int .i64 (t : Int), .int .u64 (kk : Int)] y (RunD14 V y bodyV R)) :
  Calls Tryz.prog 101 #[.pointer (some ⟨p0, 0, none⟩), .pointer (some ⟨p1, 0, none⟩), .pointer (some ⟨p3, 0, none⟩)] w (RunD14 V w bodyV R) := by
 obtain ⟨s, hI⟩ := hI
 have hgw := V.lt hI
 have HB := Lib.hid hb
 have HG := Lib.hid hgw
 have HBW := Lib.hid hBw
 have HI := Lib.hid hI
 obtain ⟨m0, c0⟩ : p0 < w.heap.size ∧ w.cell? ⟨p0, 0, none⟩ = some dv := ⟨h0.1, h0.2.1 0 _ rfl⟩
 obtain ⟨m1, c1⟩ : p1 < w.heap.size ∧ w.cell? ⟨p1, 0, none⟩ = some (.int .i64 (t : Int)) := ⟨h1.1, h1.2.1 0 _ rfl⟩
 obtain ⟨m3, c3⟩ : p3 < w.heap.size ∧ w.cell? ⟨p3, 0, none⟩ = some (.int .u64 (kk : Int)) := ⟨h3.1, h3.2.1 0 _ rfl⟩
 clear hI hBw hb hgw h0 h1 h3
 go_enter Tryz.func101, Tryz.ntmps101
 go_wp2_with fail
 refine gen_w (P := fun W => Calls _ _ _ W _) (fun y => Below w.heap.size w y ∧ VarAt y w.heap.size [.int .i64 0, .bool false, .int .i64 0, .int .u64 0, .slice none 0 0]) ⟨belA, VarAt.mk5 (by simp)⟩ ?_
 rintro y ⟨k0, k1⟩
 have HO := Lib.hid (AtO.start V HI.out k0 k1)
 have HCC := HC y k0
 clear k0 k1 HI HC m0 m1 m3 c0 c1 c3
 refine (HCC).mono ?_
 cases R with
 | bad => exact absurd rfl HB.out
 | left k i a b d =>
  rintro e w4 ⟨rfl, hl⟩
  exact ⟨rfl, rfl, hl⟩
 | done r s9 =>
  rintro e w4 ⟨rfl, hi, hbt⟩
  have HOn := Lib.hid (AtO.go V HG.out HO.out hi hbt)
  clear HO hi hbt
  have HO := HOn
  clear HOn
  obtain ⟨m0, ⟨a1, a2, a3, a4, a5⟩, b1, b2, b3, b4, b5⟩ := HO.out.var.five
  have HBV := Lib.hid (show bodyV r = .tuple #[.agg #[.int .i64 (bEr r), .bool (bIs r), .int .i64 0, .int .u64 0, .slice none 0 0], .bool (Prd.vOk r)] from rfl)
  conv in bodyV r => unfold bodyV
  generalize bEr r = er at *
  generalize bIs r = oi at *
  generalize Prd.vOk r = ok at *
  go_wp2_with fail
  have hg := HG.out
  have hbw := HO.out.but
  skip
  exact bodyPost_ret (v := .tuple #[.agg #[.int .i64 er, .bool oi, .int .i64 0, .int .u64 0, .slice none 0 0], .bool ok]) (by simp [results, Tryz.results101, go_sem, a1, a2, a3, a4, a5]) rfl ⟨congrArg Ending.returned HBV.out.symm, V.M.stay HO.out.i (Below.mono (B := w.heap.size) (by repeat (first | with_reducible exact Below.refl _ _ | with_reducible refine Below.drew ?_ | with_reducible refine below_al ?_ | (refine Below.setCell ?_ (show w.heap.size ≤ _ by (try simp only []); omega) _))) (HBW.out _)), butA⟩
set_option maxHeartbeats 4000000 in
set_option maxRecDepth 100000 in
theorem closure3_at (t me kk p0 p1 p2 p3 : Nat) (R : RanD S) (hb : R ≠ .bad) (w : World) (hI : ∃ s, V.M.I s w) (hBw : ∀ y, V.M.B y ≤ w.heap.size) (h0 : VarAt w p0 [dv]) (h1 : VarAt w p1 [.int .i64 (t : Int)]) (h3 : VarAt w p3 [.int .u64 (kk : Int)])
  (HC : ∀ y, Below w.heap.size w y → Calls Tryz.prog 104 #[dv, .int .i64 (t : Int), .int .u64 (kk : Int)] y (RunD14 V y bodyV R)) :
  Calls Tryz.prog 103 #[.pointer (some ⟨p0, 0, none⟩), .pointer (some ⟨p1, 0, none⟩), .pointer (some ⟨p3, 0, none⟩)] w (RunD14 V w bodyV R) := by
 obtain ⟨s, hI⟩ := hI
 have hgw := V.lt hI
 have HB := Lib.hid hb
 have HG := Lib.hid hgw
 have HBW := Lib.hid hBw
 have HI := Lib.hid hI
 obtain ⟨m0, c0⟩ : p0 < w.heap.size ∧ w.cell? ⟨p0, 0, none⟩ = some dv := ⟨h0.1, h0.2.1 0 _ rfl⟩
 obtain ⟨m1, c1⟩ : p1 < w.heap.size ∧ w.cell? ⟨p1, 0, none⟩ = some (.int .i64 (t : Int)) := ⟨h1.1, h1.2.1 0 _ rfl⟩
 obtain ⟨m3, c3⟩ : p3 < w.heap.size ∧ w.cell? ⟨p3, 0, none⟩ = some (.int .u64 (kk : Int)) := ⟨h3.1, h3.2.1 0 _ rfl⟩
 clear hI hBw hb hgw h0 h1 h3
 go_enter Tryz.func103, Tryz.ntmps103
 go_wp2_with fail
 refine gen_w (P := fun W => Calls _ _ _ W _) (fun y => Below w.heap.size w y ∧ VarAt y w.heap.size [.int .i64 0, .bool false, .int .i64 0, .int .u64 0, .slice none 0 0]) ⟨belA, VarAt.mk5 (by simp)⟩ ?_
 rintro y ⟨k0, k1⟩
 have HO := Lib.hid (AtO.start V HI.out k0 k1)
 have HCC := HC y k0
 clear k0 k1 HI HC m0 m1 m3 c0 c1 c3
 refine (HCC).mono ?_
 cases R with
 | bad => exact absurd rfl HB.out
 | left k i a b d =>
  rintro e w4 ⟨rfl, hl⟩
  exact ⟨rfl, rfl, hl⟩
 | done r s9 =>
  rintro e w4 ⟨rfl, hi, hbt⟩
  have HOn := Lib.hid (AtO.go V HG.out HO.out hi hbt)
  clear HO hi hbt
  have HO := HOn
  clear HOn
  obtain ⟨m0, ⟨a1, a2, a3, a4, a5⟩, b1, b2, b3, b4, b5⟩ := HO.out.var.five
  have HBV := Lib.hid (show bodyV r = .tuple #[.agg #[.int .i64 (bEr r), .bool (bIs r), .int .i64 0, .int .u64 0, .slice none 0 0], .bool (Prd.vOk r)] from rfl)
  conv in bodyV r => unfold bodyV
  generalize bEr r = er at *
  generalize bIs r = oi at *
  generalize Prd.vOk r = ok at *
  go_wp2_with fail
  have hg := HG.out
  have hbw := HO.out.but
  skip
  exact bodyPost_ret (v := .tuple #[.agg #[.int .i64 er, .bool oi, .int .i64 0, .int .u64 0, .slice none 0 0], .bool ok]) (by simp [results, Tryz.results103, go_sem, a1, a2, a3, a4, a5]) rfl ⟨congrArg Ending.returned HBV.out.symm, V.M.stay HO.out.i (Below.mono (B := w.heap.size) (by repeat (first | with_reducible exact Below.refl _ _ | with_reducible refine Below.drew ?_ | with_reducible refine below_al ?_ | (refine Below.setCell ?_ (show w.heap.size ≤ _ by (try simp only []); omega) _))) (HBW.out _)), butA⟩
set_option maxHeartbeats 8000000 in
set_option maxRecDepth 100000 in
theorem vAnswer_at (lo : Nat) (hA : V.M.Aside lo) (t : Nat) (ht : t ≤ 64) (me : Nat) (hme : me < 1000000) (k u v : Int) (x : Nat) (n : Nat) (s : S) (R : RanD S) (hR : (vPrg t me k u n).run V.tell s = R) (hb : R ≠ .bad) (w : World) (hI : V.M.I s w) (hgw : V.M.g < w.heap.size) (hBw : ∀ y, V.M.B y ≤ w.heap.size) :
  Calls Tryz.prog 64 #[dv, .int .i64 (t : Int), .int .i64 (me : Int), .agg #[.int .i64 k, .int .i64 u, .int .i64 v, .int .u64 (x : Int)]] w (RunD14 V w vOut R) := by
 obtain ⟨df, d1, d2, rfl⟩ := V.M.isFn
 by_cases hu : keyIsV u
 case neg =>
  have hkey := fun w => keyVertex_no u w hu
  by_cases hk : k = 11 ∨ k = 12 ∨ k = 13
  ·have hp : vPrg t me k u n = .ret 100 := by unfold vPrg; rw [if_pos hk, if_neg hu]
   rw [hp] at hR
   have HI := Lib.hid hI
   have HBW := Lib.hid hBw
   have HG := Lib.hid hgw
   have HR := Lib.hid hR
   clear hI hBw hR hu
   rcases hk with rfl | rfl | rfl
   ·clear hp
    have e4 : ((4 : Int) != 0) = true := by decide
    have e0 : ((0 : Int) != 0) = false := by decide
    have e11 : ((11 : Int) == 11) = true := by decide
    have e12 : ((11 : Int) == 12) = false := by decide
    have e13 : ((11 : Int) == 13) = false := by decide
    go_enter Tryz.func64, Tryz.ntmps64
    go_wp2_with (go_at_call 98; (with_reducible refine (hkey _).mono ?_); rintro e w' ⟨rfl, rfl⟩)
    have hg := HG.out
    have hbw : But V.M.g w w := But.refl _ _
    exact bodyPost_ret (v := .agg #[.int .i64 4, .bool false, .int .i64 0, .int .u64 0, .slice none 0 0]) (by simp [results, Tryz.results64, go_sem]) rfl (outL_of V (d := 100) HR.out rfl (V.M.stay HI.out (Below.mono (B := w.heap.size) (by repeat (first | with_reducible exact Below.refl _ _ | with_reducible refine Below.drew ?_ | with_reducible refine below_al ?_ | (refine Below.setCell ?_ (show w.heap.size ≤ _ by (try simp only []); omega) _))) (HBW.out _))) butA)
   ·clear hp
    have e4 : ((4 : Int) != 0) = true := by decide
    have e0 : ((0 : Int) != 0) = false := by decide
    have e11 : ((12 : Int) == 11) = false := by decide
    have e12 : ((12 : Int) == 12) = true := by decide
    have e13 : ((12 : Int) == 13) = false := by decide
    go_enter Tryz.func64, Tryz.ntmps64
    go_wp2_with (go_at_call 98; (with_reducible refine (hkey _).mono ?_); rintro e w' ⟨rfl, rfl⟩)
    have hg := HG.out
    have hbw : But V.M.g w w := But.refl _ _
    exact bodyPost_ret (v := .agg #[.int .i64 4, .bool false, .int .i64 0, .int .u64 0, .slice none 0 0]) (by simp [results, Tryz.results64, go_sem]) rfl (outL_of V (d := 100) HR.out rfl (V.M.stay HI.out (Below.mono (B := w.heap.size) (by repeat (first | with_reducible exact Below.refl _ _ | with_reducible refine Below.drew ?_ | with_reducible refine below_al ?_ | (refine Below.setCell ?_ (show w.heap.size ≤ _ by (try simp only []); omega) _))) (HBW.out _))) butA)
   ·clear hp
    have e4 : ((4 : Int) != 0) = true := by decide
    have e0 : ((0 : Int) != 0) = false := by decide
    have e11 : ((13 : Int) == 11) = false := by decide
    have e12 : ((13 : Int) == 12) = false := by decide
    have e13 : ((13 : Int) == 13) = true := by decide
    go_enter Tryz.func64, Tryz.ntmps64
    go_wp2_with (go_at_call 98; (with_reducible refine (hkey _).mono ?_); rintro e w' ⟨rfl, rfl⟩)
    have hg := HG.out
    have hbw : But V.M.g w w := But.refl _ _
    exact bodyPost_ret (v := .agg #[.int .i64 4, .bool false, .int .i64 0, .int .u64 0, .slice none 0 0]) (by simp [results, Tryz.results64, go_sem]) rfl (outL_of V (d := 100) HR.out rfl (V.M.stay HI.out (Below.mono (B := w.heap.size) (by repeat (first | with_reducible exact Below.refl _ _ | with_reducible refine Below.drew ?_ | with_reducible refine below_al ?_ | (refine Below.setCell ?_ (show w.heap.size ≤ _ by (try simp only []); omega) _))) (HBW.out _))) butA)
  ·have hp : vPrg t me k u n = .ret 101 := by unfold vPrg; rw [if_neg hk]
   rw [hp] at hR
   have HI := Lib.hid hI
   have HBW := Lib.hid hBw
   have HG := Lib.hid hgw
   have HR := Lib.hid hR
   have e4 : ((4 : Int) != 0) = true := by decide
   have e11 : (k == 11) = false := by rw [beq_eq_false_iff_ne]; omega
   have e12 : (k == 12) = false := by rw [beq_eq_false_iff_ne]; omega
   have e13 : (k == 13) = false := by rw [beq_eq_false_iff_ne]; omega
   clear hI hBw hR hu hp hk
   go_enter Tryz.func64, Tryz.ntmps64
   go_wp2_with (go_at_call 98; (with_reducible refine (hkey _).mono ?_); rintro e w' ⟨rfl, rfl⟩)
   have hg := HG.out
   have hbw : But V.M.g w w := But.refl _ _
   exact bodyPost_ret (v := .agg #[.int .i64 1, .bool false, .int .i64 0, .int .u64 0, .slice none 0 0]) (by simp [results, Tryz.results64, go_sem]) rfl (outL_of V (d := 101) HR.out rfl (V.M.stay HI.out (Below.mono (B := w.heap.size) (by repeat (first | with_reducible exact Below.refl _ _ | with_reducible refine Below.drew ?_ | with_reducible refine below_al ?_ | (refine Below.setCell ?_ (show w.heap.size ≤ _ by (try simp only []); omega) _))) (HBW.out _))) butA)
 obtain ⟨ur, rfl⟩ : ∃ ur : Nat, u = (ur : Int) := ⟨u.toNat, by have := hu.1; omega⟩
 have hur : ur < 1073741824 := by have := hu.2; omega
 by_cases h11 : k = 11
 ·subst h11
  have hp : vPrg t me 11 (ur : Int) n = Prd.inP me Prd.vOk (Prd.vAdd t me (ur * 2147483648) n) := by unfold vPrg; rw [if_pos (by decide), if_pos hu]; simp only [Int.toNat_natCast]; rfl
  rw [hp] at hR
  have HIN : ∀ y, w.heap.size ≤ y.heap.size → V.M.I s y → VarAt y w.heap.size [.func (.func df) d1 d2] → VarAt y (w.heap.size + 1) [.int .i64 (t : Int)] → VarAt y (w.heap.size + 1 + 1) [.int .i64 (me : Int)] → VarAt y (w.heap.size + 1 + 1 + 1 + 1 + 1) [.int .u64 ((ur * 2147483648 : Nat) : Int)] → Calls Tryz.prog 105 #[.func (.func df) d1 d2, .int .i64 (me : Int), .func (.func 99) #[] #[.pointer (some ⟨w.heap.size, 0, none⟩), .pointer (some ⟨w.heap.size + 1, 0, none⟩), .pointer (some ⟨w.heap.size + 1 + 1, 0, none⟩), .pointer (some ⟨w.heap.size + 1 + 1 + 1 + 1 + 1, 0, none⟩)]] y (RunD14 V y vOut R) := by
   intro y hyw hiy H0 H1 H2 H3
   rw [← hR] at hb ⊢
   have h := in_prg V bEr bIs (fun _ => 0) (fun _ => 0) Prd.vOk (Prd.vAdd t me (ur * 2147483648) n) me hme 99 #[.pointer (some ⟨w.heap.size, 0, none⟩), .pointer (some ⟨w.heap.size + 1, 0, none⟩), .pointer (some ⟨w.heap.size + 1 + 1, 0, none⟩), .pointer (some ⟨w.heap.size + 1 + 1 + 1 + 1 + 1, 0, none⟩)] (fun args W => by kernel_rfl) s hb y hiy (fun a => Nat.le_trans (hBw a) hyw) (fun s2 z hiz hbz hbb => by
    have hz := hbz.size
    have hgz : V.M.g < w.heap.size := hgw
    exact closure1_at V t me (ur * 2147483648) w.heap.size (w.heap.size + 1) (w.heap.size + 1 + 1) (w.heap.size + 1 + 1 + 1 + 1 + 1) _ hbb z ⟨s2, hiz⟩ (fun a => Nat.le_trans (hBw a) (Nat.le_trans hyw hz)) (H0.but hbz (by omega)) (H1.but hbz (by omega)) (H2.but hbz (by omega)) (H3.but hbz (by omega)) (fun q hzq => by
     have hqz : y.heap.size ≤ q.heap.size := Nat.le_trans hz hzq.size
     have hiq : V.M.I s2 q := V.M.later hiz hzq
     exact vAdd_prg V lo hA t me (ur * 2147483648) n ht hme (by omega) s2 hbb q hiq (fun a => Nat.le_trans (hBw a) (Nat.le_trans hyw hqz))))
   rw [show inV bEr bIs (fun _ => 0) (fun _ => 0) = vOut from funext inV_out] at h
   exact h
  have hkey := fun w => keyVertex_yes ur w hur
  generalize ur * 2147483648 = kk at *
  have HI := Lib.hid hI
  have HBW := Lib.hid hBw
  have HG := Lib.hid hgw
  clear hI hBw hR ht hme hp hu hur hA
  have e4 : ((4 : Int) != 0) = true := by decide
  have e0 : ((0 : Int) != 0) = false := by decide
  have e11 : ((11 : Int) == 11) = true := by decide
  have e12 : ((11 : Int) == 12) = false := by decide
  have e13 : ((11 : Int) == 13) = false := by decide
  go_enter Tryz.func64, Tryz.ntmps64
  go_wp2_with (go_at_call 98; (with_reducible refine (hkey _).mono ?_); rintro e w' ⟨rfl, rfl⟩)
  refine gen_w (P := fun W => Calls _ _ _ W _) (fun y => Below w.heap.size w y ∧ VarAt y w.heap.size [.func (.func df) d1 d2] ∧ VarAt y (w.heap.size + 1) [.int .i64 (t : Int)] ∧ VarAt y (w.heap.size + 1 + 1) [.int .i64 (me : Int)] ∧ VarAt y (w.heap.size + 1 + 1 + 1 + 1) [.int .i64 0, .bool false, .int .i64 0, .int .u64 0, .slice none 0 0] ∧ VarAt y (w.heap.size + 1 + 1 + 1 + 1 + 1) [.int .u64 (kk : Int)]) ⟨belA, VarAt.mk1 (by simp <;> omega), VarAt.mk1 (by simp <;> omega), VarAt.mk1 (by simp <;> omega), VarAt.mk5 (by simp <;> omega), VarAt.mk1 (by simp <;> omega)⟩ ?_
  rintro y ⟨k0, k1, k2, k3, k4, k5⟩
  have K0 := Lib.hid k0
  have K4 := Lib.hid k4
  refine (HIN y k0.size (V.M.later HI.out k0) k1 k2 k3 k5).mono ?_
  clear HIN k0 k1 k2 k3 k4 k5
  cases R with
  | bad => exact absurd rfl hb
  | left k i a b d =>
   rintro e w2 ⟨rfl, hl⟩
   exact ⟨rfl, rfl, hl⟩
  | done r s2 =>
   rintro e w2 ⟨rfl, hi, hbt⟩
   have hg := HG.out
   obtain ⟨_, ⟨a1, a2, a3, a4, a5⟩, b1, b2, b3, b4, b5⟩ := (K4.out.but hbt (by omega)).five
   have HW := Lib.hid ((But.of K0.out (by omega)).trans hbt)
   have HI2 := Lib.hid hi
   have HV := Lib.hid (show vOut r = .agg #[.int .i64 (vErr r), .bool (vIs r), .int .i64 0, .int .u64 0, .slice none 0 0] from rfl)
   have HSZ := Lib.hid hbt.size
   clear hi hbt
   conv in vOut r => unfold vOut
   generalize vErr r = er at *
   generalize vIs r = oi at *
   go_wp2_with fail
   have hg := HG.out
   have hbw := HW.out
   exact bodyPost_ret (v := .agg #[.int .i64 er, .bool oi, .int .i64 0, .int .u64 0, .slice none 0 0]) (by simp [results, Tryz.results64, go_sem, a1, a2, a3, a4, a5]) rfl ⟨congrArg Ending.returned HV.out.symm, V.M.stay HI2.out (Below.mono (B := w.heap.size) (by repeat (first | with_reducible exact Below.refl _ _ | with_reducible refine Below.drew ?_ | with_reducible refine below_al ?_ | (refine Below.setCell ?_ (show w.heap.size ≤ _ by (try simp only []); omega) _))) (HBW.out _)), butA⟩
 by_cases h12 : k = 12
 ·subst h12
  have hp : vPrg t me 12 (ur : Int) n = Prd.inP me Prd.vOk (Prd.vRem t (ur * 2147483648) n n) := by unfold vPrg; rw [if_pos (by decide), if_pos hu]; simp only [Int.toNat_natCast]; rfl
  rw [hp] at hR
  have HIN : ∀ y, w.heap.size ≤ y.heap.size → V.M.I s y → VarAt y w.heap.size [.func (.func df) d1 d2] → VarAt y (w.heap.size + 1) [.int .i64 (t : Int)] → VarAt y (w.heap.size + 1 + 1) [.int .i64 (me : Int)] → VarAt y (w.heap.size + 1 + 1 + 1 + 1 + 1) [.int .u64 ((ur * 2147483648 : Nat) : Int)] → Calls Tryz.prog 105 #[.func (.func df) d1 d2, .int .i64 (me : Int), .func (.func 101) #[] #[.pointer (some ⟨w.heap.size, 0, none⟩), .pointer (some ⟨w.heap.size + 1, 0, none⟩), .pointer (some ⟨w.heap.size + 1 + 1 + 1 + 1 + 1, 0, none⟩)]] y (RunD14 V y vOut R) := by
   intro y hyw hiy H0 H1 H2 H3
   rw [← hR] at hb ⊢
   have h := in_prg V bEr bIs (fun _ => 0) (fun _ => 0) Prd.vOk (Prd.vRem t (ur * 2147483648) n n) me hme 101 #[.pointer (some ⟨w.heap.size, 0, none⟩), .pointer (some ⟨w.heap.size + 1, 0, none⟩), .pointer (some ⟨w.heap.size + 1 + 1 + 1 + 1 + 1, 0, none⟩)] (fun args W => by kernel_rfl) s hb y hiy (fun a => Nat.le_trans (hBw a) hyw) (fun s2 z hiz hbz hbb => by
    have hz := hbz.size
    have hgz : V.M.g < w.heap.size := hgw
    exact closure2_at V t me (ur * 2147483648) w.heap.size (w.heap.size + 1) (w.heap.size + 1 + 1) (w.heap.size + 1 + 1 + 1 + 1 + 1) _ hbb z ⟨s2, hiz⟩ (fun a => Nat.le_trans (hBw a) (Nat.le_trans hyw hz)) (H0.but hbz (by omega)) (H1.but hbz (by omega)) (H3.but hbz (by omega)) (fun q hzq => by
     have hqz : y.heap.size ≤ q.heap.size := Nat.le_trans hz hzq.size
     have hiq : V.M.I s2 q := V.M.later hiz hzq
     exact vRem_prg V t (ur * 2147483648) n n ht s2 hbb q hiq (fun a => Nat.le_trans (hBw a) (Nat.le_trans hyw hqz))))
   rw [show inV bEr bIs (fun _ => 0) (fun _ => 0) = vOut from funext inV_out] at h
   exact h
  have hkey := fun w => keyVertex_yes ur w hur
  generalize ur * 2147483648 = kk at *
  have HI := Lib.hid hI
  have HBW := Lib.hid hBw
  have HG := Lib.hid hgw
  clear hI hBw hR ht hme hp hu hur hA
  have e4 : ((4 : Int) != 0) = true := by decide
  have e0 : ((0 : Int) != 0) = false := by decide
  have e11 : ((12 : Int) == 11) = false := by decide
  have e12 : ((12 : Int) == 12) = true := by decide
  have e13 : ((12 : Int) == 13) = false := by decide
  go_enter Tryz.func64, Tryz.ntmps64
  go_wp2_with (go_at_call 98; (with_reducible refine (hkey _).mono ?_); rintro e w' ⟨rfl, rfl⟩)
  refine gen_w (P := fun W => Calls _ _ _ W _) (fun y => Below w.heap.size w y ∧ VarAt y w.heap.size [.func (.func df) d1 d2] ∧ VarAt y (w.heap.size + 1) [.int .i64 (t : Int)] ∧ VarAt y (w.heap.size + 1 + 1) [.int .i64 (me : Int)] ∧ VarAt y (w.heap.size + 1 + 1 + 1 + 1) [.int .i64 0, .bool false, .int .i64 0, .int .u64 0, .slice none 0 0] ∧ VarAt y (w.heap.size + 1 + 1 + 1 + 1 + 1) [.int .u64 (kk : Int)]) ⟨belA, VarAt.mk1 (by simp <;> omega), VarAt.mk1 (by simp <;> omega), VarAt.mk1 (by simp <;> omega), VarAt.mk5 (by simp <;> omega), VarAt.mk1 (by simp <;> omega)⟩ ?_
  rintro y ⟨k0, k1, k2, k3, k4, k5⟩
  have K0 := Lib.hid k0
  have K4 := Lib.hid k4
  refine (HIN y k0.size (V.M.later HI.out k0) k1 k2 k3 k5).mono ?_
  clear HIN k0 k1 k2 k3 k4 k5
  cases R with
  | bad => exact absurd rfl hb
  | left k i a b d =>
   rintro e w2 ⟨rfl, hl⟩
   exact ⟨rfl, rfl, hl⟩
  | done r s2 =>
   rintro e w2 ⟨rfl, hi, hbt⟩
   have hg := HG.out
   obtain ⟨_, ⟨a1, a2, a3, a4, a5⟩, b1, b2, b3, b4, b5⟩ := (K4.out.but hbt (by omega)).five
   have HW := Lib.hid ((But.of K0.out (by omega)).trans hbt)
   have HI2 := Lib.hid hi
   have HV := Lib.hid (show vOut r = .agg #[.int .i64 (vErr r), .bool (vIs r), .int .i64 0, .int .u64 0, .slice none 0 0] from rfl)
   have HSZ := Lib.hid hbt.size
   clear hi hbt
   conv in vOut r => unfold vOut
   generalize vErr r = er at *
   generalize vIs r = oi at *
   go_wp2_with fail
   have hg := HG.out
   have hbw := HW.out
   exact bodyPost_ret (v := .agg #[.int .i64 er, .bool oi, .int .i64 0, .int .u64 0, .slice none 0 0]) (by simp [results, Tryz.results64, go_sem, a1, a2, a3, a4, a5]) rfl ⟨congrArg Ending.returned HV.out.symm, V.M.stay HI2.out (Below.mono (B := w.heap.size) (by repeat (first | with_reducible exact Below.refl _ _ | with_reducible refine Below.drew ?_ | with_reducible refine below_al ?_ | (refine Below.setCell ?_ (show w.heap.size ≤ _ by (try simp only []); omega) _))) (HBW.out _)), butA⟩
 by_cases h13 : k = 13
 ·subst h13
  have hp : vPrg t me 13 (ur : Int) n = Prd.inP me Prd.vOk (Prd.vHas t (ur * 2147483648) n) := by unfold vPrg; rw [if_pos (by decide), if_pos hu]; simp only [Int.toNat_natCast]; rfl
  rw [hp] at hR
  have HIN : ∀ y, w.heap.size ≤ y.heap.size → V.M.I s y → VarAt y w.heap.size [.func (.func df) d1 d2] → VarAt y (w.heap.size + 1) [.int .i64 (t : Int)] → VarAt y (w.heap.size + 1 + 1) [.int .i64 (me : Int)] → VarAt y (w.heap.size + 1 + 1 + 1 + 1 + 1) [.int .u64 ((ur * 2147483648 : Nat) : Int)] → Calls Tryz.prog 105 #[.func (.func df) d1 d2, .int .i64 (me : Int), .func (.func 103) #[] #[.pointer (some ⟨w.heap.size, 0, none⟩), .pointer (some ⟨w.heap.size + 1, 0, none⟩), .pointer (some ⟨w.heap.size + 1 + 1 + 1 + 1 + 1, 0, none⟩)]] y (RunD14 V y vOut R) := by
   intro y hyw hiy H0 H1 H2 H3
   rw [← hR] at hb ⊢
   have h := in_prg V bEr bIs (fun _ => 0) (fun _ => 0) Prd.vOk (Prd.vHas t (ur * 2147483648) n) me hme 103 #[.pointer (some ⟨w.heap.size, 0, none⟩), .pointer (some ⟨w.heap.size + 1, 0, none⟩), .pointer (some ⟨w.heap.size + 1 + 1 + 1 + 1 + 1, 0, none⟩)] (fun args W => by kernel_rfl) s hb y hiy (fun a => Nat.le_trans (hBw a) hyw) (fun s2 z hiz hbz hbb => by
    have hz := hbz.size
    have hgz : V.M.g < w.heap.size := hgw
    exact closure3_at V t me (ur * 2147483648) w.heap.size (w.heap.size + 1) (w.heap.size + 1 + 1) (w.heap.size + 1 + 1 + 1 + 1 + 1) _ hbb z ⟨s2, hiz⟩ (fun a => Nat.le_trans (hBw a) (Nat.le_trans hyw hz)) (H0.but hbz (by omega)) (H1.but hbz (by omega)) (H3.but hbz (by omega)) (fun q hzq => by
     have hqz : y.heap.size ≤ q.heap.size := Nat.le_trans hz hzq.size
     have hiq : V.M.I s2 q := V.M.later hiz hzq
     exact vHas_prg V t (ur * 2147483648) n ht s2 hbb q hiq (fun a => Nat.le_trans (hBw a) (Nat.le_trans hyw hqz))))
   rw [show inV bEr bIs (fun _ => 0) (fun _ => 0) = vOut from funext inV_out] at h
   exact h
  have hkey := fun w => keyVertex_yes ur w hur
  generalize ur * 2147483648 = kk at *
  have HI := Lib.hid hI
  have HBW := Lib.hid hBw
  have HG := Lib.hid hgw
  clear hI hBw hR ht hme hp hu hur hA
  have e4 : ((4 : Int) != 0) = true := by decide
  have e0 : ((0 : Int) != 0) = false := by decide
  have e11 : ((13 : Int) == 11) = false := by decide
  have e12 : ((13 : Int) == 12) = false := by decide
  have e13 : ((13 : Int) == 13) = true := by decide
  go_enter Tryz.func64, Tryz.ntmps64
  go_wp2_with (go_at_call 98; (with_reducible refine (hkey _).mono ?_); rintro e w' ⟨rfl, rfl⟩)
  refine gen_w (P := fun W => Calls _ _ _ W _) (fun y => Below w.heap.size w y ∧ VarAt y w.heap.size [.func (.func df) d1 d2] ∧ VarAt y (w.heap.size + 1) [.int .i64 (t : Int)] ∧ VarAt y (w.heap.size + 1 + 1) [.int .i64 (me : Int)] ∧ VarAt y (w.heap.size + 1 + 1 + 1 + 1) [.int .i64 0, .bool false, .int .i64 0, .int .u64 0, .slice none 0 0] ∧ VarAt y (w.heap.size + 1 + 1 + 1 + 1 + 1) [.int .u64 (kk : Int)]) ⟨belA, VarAt.mk1 (by simp <;> omega), VarAt.mk1 (by simp <;> omega), VarAt.mk1 (by simp <;> omega), VarAt.mk5 (by simp <;> omega), VarAt.mk1 (by simp <;> omega)⟩ ?_
  rintro y ⟨k0, k1, k2, k3, k4, k5⟩
  have K0 := Lib.hid k0
  have K4 := Lib.hid k4
  refine (HIN y k0.size (V.M.later HI.out k0) k1 k2 k3 k5).mono ?_
  clear HIN k0 k1 k2 k3 k4 k5
  cases R with
  | bad => exact absurd rfl hb
  | left k i a b d =>
   rintro e w2 ⟨rfl, hl⟩
   exact ⟨rfl, rfl, hl⟩
  | done r s2 =>
   rintro e w2 ⟨rfl, hi, hbt⟩
   have hg := HG.out
   obtain ⟨_, ⟨a1, a2, a3, a4, a5⟩, b1, b2, b3, b4, b5⟩ := (K4.out.but hbt (by omega)).five
   have HW := Lib.hid ((But.of K0.out (by omega)).trans hbt)
   have HI2 := Lib.hid hi
   have HV := Lib.hid (show vOut r = .agg #[.int .i64 (vErr r), .bool (vIs r), .int .i64 0, .int .u64 0, .slice none 0 0] from rfl)
   have HSZ := Lib.hid hbt.size
   clear hi hbt
   conv in vOut r => unfold vOut
   generalize vErr r = er at *
   generalize vIs r = oi at *
   go_wp2_with fail
   have hg := HG.out
   have hbw := HW.out
   exact bodyPost_ret (v := .agg #[.int .i64 er, .bool oi, .int .i64 0, .int .u64 0, .slice none 0 0]) (by simp [results, Tryz.results64, go_sem, a1, a2, a3, a4, a5]) rfl ⟨congrArg Ending.returned HV.out.symm, V.M.stay HI2.out (Below.mono (B := w.heap.size) (by repeat (first | with_reducible exact Below.refl _ _ | with_reducible refine Below.drew ?_ | with_reducible refine below_al ?_ | (refine Below.setCell ?_ (show w.heap.size ≤ _ by (try simp only []); omega) _))) (HBW.out _)), butA⟩
 have hp : vPrg t me k (ur : Int) n = .ret 101 := by unfold vPrg; rw [if_neg (by omega)]
 rw [hp] at hR
 have hkey := fun w => keyVertex_yes ur w hur
 have HI := Lib.hid hI
 have HBW := Lib.hid hBw
 have HG := Lib.hid hgw
 have HR := Lib.hid hR
 have e11 : (k == 11) = false := by rw [beq_eq_false_iff_ne]; omega
 have e12 : (k == 12) = false := by rw [beq_eq_false_iff_ne]; omega
 have e13 : (k == 13) = false := by rw [beq_eq_false_iff_ne]; omega
 clear hI hBw hR hu hp h11 h12 h13 hur
 generalize ur * 2147483648 = kk at *
 go_enter Tryz.func64, Tryz.ntmps64
 go_wp2_with (go_at_call 98; (with_reducible refine (hkey _).mono ?_); rintro e w' ⟨rfl, rfl⟩)
 have hg := HG.out
 have hbw : But V.M.g w w := But.refl _ _
 exact bodyPost_ret (v := .agg #[.int .i64 1, .bool false, .int .i64 0, .int .u64 0, .slice none 0 0]) (by simp [results, Tryz.results64, go_sem]) rfl (outL_of V (d := 101) HR.out rfl (V.M.stay HI.out (Below.mono (B := w.heap.size) (by repeat (first | with_reducible exact Below.refl _ _ | with_reducible refine Below.drew ?_ | with_reducible refine below_al ?_ | (refine Below.setCell ?_ (show w.heap.size ≤ _ by (try simp only []); omega) _))) (HBW.out _))) butA)
end
end Go.Proofs.YtibpfkcackdbgaaGreatDoor
namespace Go.Proofs.YtibpfkcackdbgaaGreatDoor
open Go.ChangeShapes Go.WideShapes Go.ChangeAt Go.RowKit Go.BigFrame
set_option linter.unusedVariables false
set_option maxRecDepth 100000
set_option maxHeartbeats 1000000 in
theorem playVt_yes (g : Nat) (A : Option Addr) (n cap : Nat) (p o : Bool) (q0 q1 q2 q3 q4 q5 : Value) (p0 p1 p2 : Nat) (er : Int) (is : Bool) (N S : Int) (z0 z1 z2 z3 z4 z5 : Value) (w : World)
  (hT : VarAt w g (tapeV A n cap p o q0 q1 q2 q3 q4 q5))
  (hP : ∀ w1, But g w w1 → VarAt w1 g (tapeV A n cap true o q0 q1 q2 q3 q4 q5) → Calls Tryz.prog 63 #[.func (.func 142) #[.pointer (some ⟨g, 0, none⟩)] #[], .pointer (some ⟨p0, 0, none⟩), .pointer (some ⟨p1, 0, none⟩), .pointer (some ⟨p2, 0, none⟩)] w1 (ProgE g er is N S o z0 z1 z2 z3 z4 z5 w1)) :
  Calls Tryz.prog 96 #[.pointer (some ⟨g, 0, none⟩), .func (.func 63) #[] #[.pointer (some ⟨p0, 0, none⟩), .pointer (some ⟨p1, 0, none⟩), .pointer (some ⟨p2, 0, none⟩)]] w (PlayE g er is N S o z0 z1 z2 z3 z4 z5 w) := by
 obtain ⟨hgz, ⟨c0, c1, c2, c3, c4, c5, c6, c7, c8⟩, f0, f1, f2, f3, f4, f5, f6, f7, f8⟩ := hT.nine
 have g1 : g < w.heap.size + 1 := by omega
 have g2 : g < w.heap.size + 1 + 1 := by omega
 have g3 : ¬ (g = w.heap.size) := by omega
 have g4 : ¬ (g = w.heap.size + 1) := by omega
 have hmf : ∀ (fn : Fn) (first cap : Array Value) (w : World), (Instr.makeFunc fn first cap).run Tryz.prog w = .ok (.func fn first cap) w := fun _ _ _ _ => rfl
 go_enter_defers Tryz.func96, Tryz.ntmps96
 go_wp2_with fail
 refine gen_w (P := fun W => Calls _ _ _ W _) (fun y => But g w y ∧ y.heap.size = w.heap.size + 1 + 1 ∧ VarAt y g (tapeV A n cap true o q0 q1 q2 q3 q4 q5) ∧ VarAt y w.heap.size [.pointer (some ⟨g, 0, none⟩)] ∧ VarAt y (w.heap.size + 1) [.int .i64 0, .bool false, .int .i64 0, .int .u64 0, .slice none 0 0]) ⟨butA, by simp, VarAt.mk9 (by simp; omega), VarAt.mk1 (by simp; omega), VarAt.mk5 (by simp)⟩ ?_
 rintro y ⟨k0, k1, k2, k3, k4⟩
 have K0 := Lib.hid k0
 have K1 := Lib.hid k1
 have K3 := Lib.hid k3
 have K4 := Lib.hid k4
 have HP := hP y k0 k2
 clear hP hT c0 c1 c2 c3 c4 c5 c6 c7 c8 f0 f1 f2 f3 f4 f5 f6 f7 f8 k0 k1 k2 k3 k4
 refine HP.mono ?_
 rintro e w2 ⟨rfl, ⟨A', n', cap', hT2⟩, hb2⟩
 obtain ⟨hgz2, ⟨c0, c1, c2, c3, c4, c5, c6, c7, c8⟩, f0, f1, f2, f3, f4, f5, f6, f7, f8⟩ := hT2.nine
 obtain ⟨r0, ⟨r1, r2, r3, r4, r5⟩, s1, s2, s3, s4, s5⟩ := (K4.out.but hb2 (by omega)).five
 have hpb := ((K3.out.but hb2 (by omega)).2.1 0 _ rfl)
 have n1 : ¬ (w.heap.size = g) := by omega
 have n2 : ¬ (w.heap.size + 1 = g) := by omega
 go_wp2_with fail
 refine leaves_cons (f := 141) (args := #[.pointer (some ⟨w.heap.size, 0, none⟩)]) (by simp) (by simp [go_sem]) ?_
 refine (catch_idle w.heap.size g true _ (by go_simp) (by go_simp) (by go_simp)).mono ?_
 rintro e u' w3 ⟨rfl, rfl, rfl⟩
 have hby : But g w w2 := K0.out.trans hb2
 refine ⟨.tuple #[.agg #[.int .i64 er, .bool is, .int .i64 N, .int .u64 S, .slice none 0 0], .bool true], by simp [results, Tryz.results96, go_sem, r1, r2, r3, r4, r5], rfl, ⟨A', n', cap', VarAt.mk9 (by simp; omega)⟩, butA⟩
set_option maxHeartbeats 1000000 in
theorem playVt_left (g : Nat) (A : Option Addr) (n cap : Nat) (p o : Bool) (q0 q1 q2 q3 q4 q5 : Value) (p0 p1 p2 : Nat) (x : Acc) (w : World)
  (hT : VarAt w g (tapeV A n cap p o q0 q1 q2 q3 q4 q5))
  (hP : ∀ w1, But g w w1 → VarAt w1 g (tapeV A n cap true o q0 q1 q2 q3 q4 q5) → Calls Tryz.prog 63 #[.func (.func 142) #[.pointer (some ⟨g, 0, none⟩)] #[], .pointer (some ⟨p0, 0, none⟩), .pointer (some ⟨p1, 0, none⟩), .pointer (some ⟨p2, 0, none⟩)] w1 (LeftPost w1 g x true)) :
  Calls Tryz.prog 96 #[.pointer (some ⟨g, 0, none⟩), .func (.func 63) #[] #[.pointer (some ⟨p0, 0, none⟩), .pointer (some ⟨p1, 0, none⟩), .pointer (some ⟨p2, 0, none⟩)]] w (PlayLeft g x w) := by
 obtain ⟨hgz, ⟨c0, c1, c2, c3, c4, c5, c6, c7, c8⟩, f0, f1, f2, f3, f4, f5, f6, f7, f8⟩ := hT.nine
 have g1 : g < w.heap.size + 1 := by omega
 have g2 : g < w.heap.size + 1 + 1 := by omega
 have g3 : ¬ (g = w.heap.size) := by omega
 have g4 : ¬ (g = w.heap.size + 1) := by omega
 have hmf : ∀ (fn : Fn) (first cap : Array Value) (w : World), (Instr.makeFunc fn first cap).run Tryz.prog w = .ok (.func fn first cap) w := fun _ _ _ _ => rfl
 go_enter_defers Tryz.func96, Tryz.ntmps96
 go_wp2_with fail
 refine gen_w (P := fun W => Calls _ _ _ W _) (fun y => But g w y ∧ y.heap.size = w.heap.size + 1 + 1 ∧ VarAt y g (tapeV A n cap true o q0 q1 q2 q3 q4 q5) ∧ VarAt y w.heap.size [.pointer (some ⟨g, 0, none⟩)] ∧ VarAt y (w.heap.size + 1) [.int .i64 0, .bool false, .int .i64 0, .int .u64 0, .slice none 0 0]) ⟨butA, by simp, VarAt.mk9 (by simp; omega), VarAt.mk1 (by simp; omega), VarAt.mk5 (by simp)⟩ ?_
 rintro y ⟨k0, k1, k2, k3, k4⟩
 have K0 := Lib.hid k0
 have K1 := Lib.hid k1
 have K3 := Lib.hid k3
 have K4 := Lib.hid k4
 have HP := hP y k0 k2
 clear hP hT c0 c1 c2 c3 c4 c5 c6 c7 c8 f0 f1 f2 f3 f4 f5 f6 f7 f8 k0 k1 k2 k3 k4
 refine HP.mono ?_
 rintro e w2 ⟨D, dc, E, ec, A', cap', rfl, hT2, hX, hb2, hD, hE⟩
 have HX := Lib.hid hX
 have HD := Lib.hid hD
 have HE := Lib.hid hE
 clear hX hD hE
 obtain ⟨hgz2, ⟨c0, c1, c2, c3, c4, c5, c6, c7, c8⟩, f0, f1, f2, f3, f4, f5, f6, f7, f8⟩ := hT2.nine
 obtain ⟨r0, ⟨r1, r2, r3, r4, r5⟩, s1, s2, s3, s4, s5⟩ := (K4.out.but hb2 (by omega)).five
 have hpb := ((K3.out.but hb2 (by omega)).2.1 0 _ rfl)
 have n1 : ¬ (w.heap.size = g) := by omega
 have n2 : ¬ (w.heap.size + 1 = g) := by omega
 go_wp2_with fail
 refine leaves_cons (f := 141) (args := #[.pointer (some ⟨w.heap.size, 0, none⟩)]) (by simp) (by simp [go_sem]) ?_
 refine (catch_left w.heap.size g true _ _ (by go_simp) (by go_simp) (by go_simp)).mono ?_
 rintro e u' w3 ⟨rfl, rfl, rfl⟩
 have hby : But g w w2 := K0.out.trans hb2
 have hx := HX.out
 have hz := K1.out
 have hsv : Svd (fun b => y.heap.size ≤ b) w2 (w2.setCell ⟨g, 1, none⟩ (.bool false)) := (Svd.refl _ _).set _ _ _ (by omega)
 refine ⟨.tuple #[.agg #[.int .i64 0, .bool false, .int .i64 0, .int .u64 0, .slice none 0 0], .bool false], by simp [results, Tryz.results96, go_sem, r1, r2, r3, r4, r5], D, dc, E, ec, A', cap', rfl, VarAt.mk9 (by simp; omega), ⟨hx.k, hx.c, hx.a, hx.b, hx.dl, hx.ml, hx.d.svd hsv HD.out, hx.f.svd hsv HE.out⟩, butA, HD.out.mono fun b h => by omega, HE.out.mono fun b h => by omega⟩
set_option maxHeartbeats 1000000 in
theorem runVt_yes (A : Option Addr) (n cap : Nat) (p0 p1 p2 : Nat) (er : Int) (is : Bool) (N S : Int) (w : World)
  (hP : ∀ g w1, w.heap.size ≤ g → Below w.heap.size w w1 → VarAt w1 g (tapeV A n cap true false (.int .i64 0) (.int .i64 0) (.int .u64 0) (.int .u64 0) (.slice none 0 0) (.slice none 0 0)) → Calls Tryz.prog 63 #[.func (.func 142) #[.pointer (some ⟨g, 0, none⟩)] #[], .pointer (some ⟨p0, 0, none⟩), .pointer (some ⟨p1, 0, none⟩), .pointer (some ⟨p2, 0, none⟩)] w1 (ProgE g er is N S false (.int .i64 0) (.int .i64 0) (.int .u64 0) (.int .u64 0) (.slice none 0 0) (.slice none 0 0) w1)) :
  Calls Tryz.prog 62 #[.func (.func 63) #[] #[.pointer (some ⟨p0, 0, none⟩), .pointer (some ⟨p1, 0, none⟩), .pointer (some ⟨p2, 0, none⟩)], .slice A n cap] w (RunE er is N S w) := by
 have hmf : ∀ (fn : Fn) (first cap : Array Value) (w : World), (Instr.makeFunc fn first cap).run Tryz.prog w = .ok (.func fn first cap) w := fun _ _ _ _ => rfl
 go_enter Tryz.func62, Tryz.ntmps62
 go_wp2_with fail
 refine gen_w (P := fun W => Calls _ _ _ W _) (fun y => Below w.heap.size w y ∧ y.heap.size = w.heap.size + 1 + 1 + 1 ∧ VarAt y (w.heap.size + 1 + 1) (tapeV A n cap false false (.int .i64 0) (.int .i64 0) (.int .u64 0) (.int .u64 0) (.slice none 0 0) (.slice none 0 0)) ∧ VarAt y w.heap.size [.int .i64 0, .int .i64 0, .int .u64 0, .int .u64 0, .slice none 0 0, .slice none 0 0] ∧ VarAt y (w.heap.size + 1) [.int .i64 0, .bool false, .int .i64 0, .int .u64 0, .slice none 0 0]) ⟨belA, by simp, VarAt.mk9 (by simp), VarAt.mk6 (by simp; omega), VarAt.mk5 (by simp)⟩ ?_
 rintro y ⟨k0, k1, k2, k3, k4⟩
 obtain ⟨g, hg⟩ : ∃ g, w.heap.size + 1 + 1 = g := ⟨_, rfl⟩
 rw [hg] at k1 k2 ⊢
 have K0 := Lib.hid k0
 have K1 := Lib.hid k1
 have K3 := Lib.hid k3
 have K4 := Lib.hid k4
 have HG := Lib.hid hg
 clear hg
 have hpr := fun w1 (hb : But g y w1) => hP g w1 (by have := HG.out; omega) (K0.out.trans (hb.below.mono (by have := HG.out; omega)))
 refine (playVt_yes g A n cap false false (.int .i64 0) (.int .i64 0) (.int .u64 0) (.int .u64 0) (.slice none 0 0) (.slice none 0 0) p0 p1 p2 er is N S (.int .i64 0) (.int .i64 0) (.int .u64 0) (.int .u64 0) (.slice none 0 0) (.slice none 0 0) y k2 hpr).mono ?_
 clear hpr hP
 rintro e w2 ⟨rfl, ⟨A', n', cap', hT2⟩, hb2⟩
 have hgg := HG.out
 have hyz := K1.out
 obtain ⟨_, ⟨a0, a1, a2, a3, a4, a5⟩, b0, b1, b2, b3, b4, b5⟩ := (K3.out.but hb2 (by omega)).six
 obtain ⟨_, ⟨r1, r2, r3, r4, r5⟩, s1, s2, s3, s4, s5⟩ := (K4.out.but hb2 (by omega)).five
 obtain ⟨_, ⟨c0, c1, c2, c3, c4, c5, c6, c7, c8⟩, f0, f1, f2, f3, f4, f5, f6, f7, f8⟩ := hT2.nine
 have hsz := hb2.size
 have m1 : w.heap.size < w2.heap.size := by omega
 have m2 : w.heap.size + 1 < w2.heap.size := by omega
 have m3 : g < w2.heap.size := by omega
 have HBW : Hid (Below w.heap.size w w2) := Lib.hid (K0.out.trans (hb2.below.mono (by omega)))
 have HSZ := Lib.hid hsz
 clear k0 k1 k2 k3 k4 hgg hyz hsz
 clear hT2 hb2
 go_wp2_with (go_at_call 97; (with_reducible refine (cloneI_nil _).mono ?_); rintro e w3 ⟨rfl, rfl⟩)
 go_region
 all_goals (go_wp2_with fail)
 have hbw := HBW.out
 have hsz := HSZ.out
 have hyz := K1.out
 refine bodyPost_ret (v := .tuple #[.agg #[.int .i64 0, .int .i64 0, .int .u64 0, .int .u64 0, .slice none 0 0, .slice none 0 0], .agg #[.int .i64 er, .bool is, .int .i64 N, .int .u64 S, .slice none 0 0], .bool true]) (by simp [results, Tryz.results62, go_sem, a0, a1, a2, a3, a4, a5, r1, r2, r3, r4, r5, m1, m2]) rfl ⟨rfl, belA⟩
set_option maxHeartbeats 1000000 in
theorem runVt_left (A : Option Addr) (n cap : Nat) (p0 p1 p2 : Nat) (x : Acc) (w : World)
  (hP : ∀ g w1, w.heap.size ≤ g → Below w.heap.size w w1 → VarAt w1 g (tapeV A n cap true false (.int .i64 0) (.int .i64 0) (.int .u64 0) (.int .u64 0) (.slice none 0 0) (.slice none 0 0)) → Calls Tryz.prog 63 #[.func (.func 142) #[.pointer (some ⟨g, 0, none⟩)] #[], .pointer (some ⟨p0, 0, none⟩), .pointer (some ⟨p1, 0, none⟩), .pointer (some ⟨p2, 0, none⟩)] w1 (LeftPost w1 g x true)) :
  Calls Tryz.prog 62 #[.func (.func 63) #[] #[.pointer (some ⟨p0, 0, none⟩), .pointer (some ⟨p1, 0, none⟩), .pointer (some ⟨p2, 0, none⟩)], .slice A n cap] w (RunLeft x w) := by
 have hmf : ∀ (fn : Fn) (first cap : Array Value) (w : World), (Instr.makeFunc fn first cap).run Tryz.prog w = .ok (.func fn first cap) w := fun _ _ _ _ => rfl
 go_enter Tryz.func62, Tryz.ntmps62
 go_wp2_with fail
 refine gen_w (P := fun W => Calls _ _ _ W _) (fun y => Below w.heap.size w y ∧ y.heap.size = w.heap.size + 1 + 1 + 1 ∧ VarAt y (w.heap.size + 1 + 1) (tapeV A n cap false false (.int .i64 0) (.int .i64 0) (.int .u64 0) (.int .u64 0) (.slice none 0 0) (.slice none 0 0)) ∧ VarAt y w.heap.size [.int .i64 0, .int .i64 0, .int .u64 0, .int .u64 0, .slice none 0 0, .slice none 0 0] ∧ VarAt y (w.heap.size + 1) [.int .i64 0, .bool false, .int .i64 0, .int .u64 0, .slice none 0 0]) ⟨belA, by simp, VarAt.mk9 (by simp), VarAt.mk6 (by simp; omega), VarAt.mk5 (by simp)⟩ ?_
 rintro y ⟨k0, k1, k2, k3, k4⟩
 obtain ⟨g, hg⟩ : ∃ g, w.heap.size + 1 + 1 = g := ⟨_, rfl⟩
 rw [hg] at k1 k2 ⊢
 have K0 := Lib.hid k0
 have K1 := Lib.hid k1
 have K3 := Lib.hid k3
 have K4 := Lib.hid k4
 have HG := Lib.hid hg
 clear hg
 have hpr := fun w1 (hb : But g y w1) => hP g w1 (by have := HG.out; omega) (K0.out.trans (hb.below.mono (by have := HG.out; omega)))
 refine (playVt_left g A n cap false false (.int .i64 0) (.int .i64 0) (.int .u64 0) (.int .u64 0) (.slice none 0 0) (.slice none 0 0) p0 p1 p2 x y k2 hpr).mono ?_
 clear hpr hP
 rintro e w2 ⟨D, dc, E, ec, A', cap', rfl, hT2, hX, hb2, hD, hE⟩
 have HX := Lib.hid hX
 have HD := Lib.hid hD
 have HE := Lib.hid hE
 have hgg := HG.out
 have hyz := K1.out
 obtain ⟨_, ⟨a0, a1, a2, a3, a4, a5⟩, b0, b1, b2, b3, b4, b5⟩ := (K3.out.but hb2 (by omega)).six
 obtain ⟨_, ⟨r1, r2, r3, r4, r5⟩, s1, s2, s3, s4, s5⟩ := (K4.out.but hb2 (by omega)).five
 obtain ⟨_, ⟨c0, c1, c2, c3, c4, c5, c6, c7, c8⟩, f0, f1, f2, f3, f4, f5, f6, f7, f8⟩ := hT2.nine
 have hsz := hb2.size
 have m1 : w.heap.size < w2.heap.size := by omega
 have m2 : w.heap.size + 1 < w2.heap.size := by omega
 have m3 : g < w2.heap.size := by omega
 have HBW : Hid (Below w.heap.size w w2) := Lib.hid (K0.out.trans (hb2.below.mono (by omega)))
 have HSZ := Lib.hid hsz
 clear k0 k1 k2 k3 k4 hgg hyz hsz
 clear hT2 hb2 hX hD hE
 go_wp2_with fail
 have hbw := HBW.out
 have hsz := HSZ.out
 have hyz := K1.out
 have hgg := HG.out
 have hx := HX.out
 refine bodyPost_ret (v := .tuple #[.agg #[.int .i64 x.k, .int .i64 x.c, .int .u64 (x.a : Int), .int .u64 (x.b : Int), .slice D x.d.length dc, .slice E x.m ec], .agg #[.int .i64 0, .bool false, .int .i64 0, .int .u64 0, .slice none 0 0], .bool false]) (by simp [results, Tryz.results62, go_sem, a0, a1, a2, a3, a4, a5, r1, r2, r3, r4, r5, m1, m2]) rfl ⟨D, dc, E, ec, rfl, ⟨hx.k, hx.c, hx.a, hx.b, hx.dl, hx.ml, hx.d.svd (Q := fun b => y.heap.size ≤ b) (by repeat (first | with_reducible exact Svd.refl _ _ | with_reducible refine Svd.drew ?_ | with_reducible refine Svd.alloc ?_ _ | (with_reducible refine Svd.set ?_ _ _ _ (by omega)))) HD.out, hx.f.svd (Q := fun b => y.heap.size ≤ b) (by repeat (first | with_reducible exact Svd.refl _ _ | with_reducible refine Svd.drew ?_ | with_reducible refine Svd.alloc ?_ _ | (with_reducible refine Svd.set ?_ _ _ _ (by omega)))) HE.out⟩, belA, HD.out.mono fun b h => by omega, HE.out.mono fun b h => by omega⟩
def vNextR (t me : Nat) (k u : Int) (log : List Res) : RanD (List Res) := (vPrg t me k u (log.length + 1)).run tapeTellD log
theorem vNextR_ok (t me : Nat) (k u : Int) (log : List Res) : vNextR t me k u log ≠ .bad := Prd.ok_run _ _ (vPrg_ok t me k u _ _ (Nat.lt_succ_self _))
theorem vAnswerT_at (g : Nat) (w0 wb : World) (hg : w0.heap.size ≤ g) (hgw : g < wb.heap.size) (hb0 : Below w0.heap.size w0 wb) (hT : Tab w0) (t : Nat) (ht : t ≤ 64) (me : Nat) (hme : me < 1000000) (k u v : Int) (x : Nat) (n : Nat) (s : List Res) (R : RanD (List Res)) (hR : (vPrg t me k u n).run tapeTellD s = R) (hb : R ≠ .bad) (w : World) (hI : TapeI g w0 wb s w) :
  Calls Tryz.prog 64 #[doV g, .int .i64 (t : Int), .int .i64 (me : Int), .agg #[.int .i64 k, .int .i64 u, .int .i64 v, .int .u64 (x : Int)]] w (TapeEndD g w0 wb w (vOut) R) := by
 have hsz := hI.2.size
 refine (vAnswer_at (tapeD g w0 wb hg hgw hb0 hT) wb.heap.size (tape_aside g w0 wb hg hgw hb0) t ht me hme k u v x n s R hR hb w hI (show g < w.heap.size by omega) (fun _ => show wb.heap.size ≤ w.heap.size from hsz)).mono ?_
 intro e w' h
 cases R with
 | bad => trivial
 | left k' i a b d =>
  obtain ⟨rfl, e', D, dc, E, ec, A', cap', rfl, q⟩ := h
  exact ⟨D, dc, E, ec, A', cap', rfl, q⟩
 | done r s2 => exact h
def vProgEnd (g : Nat) (w1 : World) : RanD (List Res) → Ending → World → Prop
 | .done r _, e, w' => ProgE g (vErr r) (vIs r) 0 0 false (.int .i64 0) (.int .i64 0) (.int .u64 0) (.int .u64 0) (.slice none 0 0) (.slice none 0 0) w1 e w'
 | .left k' i a b d, e, w' => LeftPost w1 g (accD k' i a b d) true e w'
 | .bad, _, _ => False
set_option maxHeartbeats 2000000 in
set_option maxRecDepth 100000 in
theorem vProg_at (g p0 p1 p2 : Nat) (A : Option Addr) (n cap : Nat) (log : List Res) (t : Nat) (ht : t ≤ 64) (me : Nat) (hme : me < 1000000) (k u v : Int) (x : Nat) (w0 w1 : World) (hg : w0.heap.size ≤ g) (hc : n ≤ cap)
  (hTab : Tab w0) (hl : LogAt w0 A n log) (hb : Below w0.heap.size w0 w1) (hT : VarAt w1 g (tapeV A n cap true false (.int .i64 0) (.int .i64 0) (.int .u64 0) (.int .u64 0) (.slice none 0 0) (.slice none 0 0))) (h0 : VarAt w1 p0 [.int .i64 (t : Int)]) (hm1 : VarAt w1 p1 [.int .i64 (me : Int)]) (h1 : VarAt w1 p2 [.int .i64 k, .int .i64 u, .int .i64 v, .int .u64 (x : Int)]) (R : RanD (List Res)) (hR : vNextR t me k u log = R) :
  Calls Tryz.prog 63 #[doV g, .pointer (some ⟨p0, 0, none⟩), .pointer (some ⟨p1, 0, none⟩), .pointer (some ⟨p2, 0, none⟩)] w1 (vProgEnd g w1 R) := by
 have hnl := hl.1
 subst hnl
 have hb' : R ≠ .bad := hR ▸ vNextR_ok t me k u log
 have hI : TapeI g w0 w1 log w1 := ⟨⟨A, cap, hT, hl, hc⟩, But.refl _ _⟩
 have hgw := hT.1
 have HC := fun y hI => vAnswerT_at g w0 w1 hg hgw hb hTab t ht me hme k u v x (log.length + 1) log R hR hb' y hI
 obtain ⟨m0, c0, z0⟩ : p0 < w1.heap.size ∧ w1.cell? ⟨p0, 0, none⟩ = some (.int .i64 (t : Int)) ∧ True := ⟨h0.1, h0.2.1 0 _ rfl, trivial⟩
 obtain ⟨m3, c3, z3⟩ : p1 < w1.heap.size ∧ w1.cell? ⟨p1, 0, none⟩ = some (.int .i64 (me : Int)) ∧ True := ⟨hm1.1, hm1.2.1 0 _ rfl, trivial⟩
 obtain ⟨m1, d0, d1, d2, d3⟩ : p2 < w1.heap.size ∧ w1.cell? ⟨p2, 0, none⟩ = some (.int .i64 k) ∧ w1.cell? ⟨p2, 1, none⟩ = some (.int .i64 u) ∧ w1.cell? ⟨p2, 2, none⟩ = some (.int .i64 v) ∧ w1.cell? ⟨p2, 3, none⟩ = some (.int .u64 (x : Int)) := ⟨h1.1, h1.2.1 0 _ rfl, h1.2.1 1 _ rfl, h1.2.1 2 _ rfl, h1.2.1 3 _ rfl⟩
 have HI := Lib.hid hI
 have HG := Lib.hid hg
 have HGW := Lib.hid hgw
 have HB := Lib.hid hb'
 clear hI hgw hb' hR ht hme hTab hT h0 h1 hm1 hl hb hc z0 z3 hg
 go_enter Tryz.func63, Tryz.ntmps63
 go_wp2_with fail
 have hal := al_below w1 (.cells #[.int .i64 0, .bool false, .int .i64 0, .int .u64 0, .slice none 0 0] 38)
 have hv := VarAt.made w1 #[.int .i64 0, .bool false, .int .i64 0, .int .u64 0, .slice none 0 0] 38
 have hsz : (w1.alloc (.cells #[.int .i64 0, .bool false, .int .i64 0, .int .u64 0, .slice none 0 0] 38)).heap.size = w1.heap.size + 1 := by simp
 have hbt : But g w1 (w1.alloc (.cells #[.int .i64 0, .bool false, .int .i64 0, .int .u64 0, .slice none 0 0] 38)) := (But.refl g w1).alloc _ (Nat.le_of_lt HGW.out)
 generalize w1.alloc (.cells #[.int .i64 0, .bool false, .int .i64 0, .int .u64 0, .slice none 0 0] 38) = y at hal hv hsz hbt ⊢
 have hIy : TapeI g w0 w1 log y := ⟨by obtain ⟨A', c', q1, q2, q3⟩ := HI.out.1; exact ⟨A', c', q1.below hal, q2, q3⟩, hbt⟩
 have HV := Lib.hid hv
 have HBT := Lib.hid hbt
 refine (HC y hIy).mono ?_
 clear HC hal hv hbt hIy c0 c3 d0 d1 d2 d3
 cases R with
 | bad => exact absurd rfl HB.out
 | left k' i a b d =>
  rintro e w2 ⟨D, dc, E, ec, A', cap', rfl, q⟩
  exact ⟨rfl, D, dc, E, ec, A', cap', rfl, q⟩
 | done r s2 =>
  rintro e w2 ⟨rfl, ⟨⟨A', cap', q1, q2, q3⟩, q4⟩, q5⟩
  have hg := HGW.out
  have q5' : But g y w2 := q5
  obtain ⟨m2, ⟨a1, a2, a3, a4, a5⟩, b1, b2, b3, b4, b5⟩ := (HV.out.but q5' (by omega)).five
  have HQ1 := Lib.hid q1
  have HQ4 := Lib.hid q4
  clear q1 q2 q3 q4 q5 q5' hg
  have hoe : vOut r = .agg #[.int .i64 (vErr r), .bool (vIs r), .int .i64 0, .int .u64 0, .slice none 0 0] := rfl
  rw [hoe]
  clear hoe
  go_wp2_with fail
  have hg := HGW.out
  have hbw := HQ4.out
  exact bodyPost_ret (v := .agg #[.int .i64 (vErr r), .bool (vIs r), .int .i64 0, .int .u64 0, .slice none 0 0]) (by simp [results, Tryz.results63, go_sem, a1, a2, a3, a4, a5]) rfl ⟨rfl, ⟨A', _, cap', ((((HQ1.out.apart _ _ (by omega)).apart _ _ (by omega)).apart _ _ (by omega)).apart _ _ (by omega)).apart _ _ (by omega)⟩, butA⟩
set_option maxHeartbeats 4000000 in
set_option maxRecDepth 100000 in
theorem vNext_left (t : Nat) (ht : t ≤ 64) (c : Int) (me : Nat) (hme : me < 1000000) (k u v : Int) (x : Nat) (A : Option Addr) (n cap : Nat) (log : List Res) (hc : n ≤ cap) (w : World) (hTab : Tab w) (hl : Hid (LogAt w A n log)) (k' i : Int) (a b : Nat) (d : List Nat) (hR : vNextR t me k u log = .left k' i a b d) :
  Calls Tryz.prog 30 #[.int .i64 (t : Int), .int .i64 c, .int .i64 (me : Int), .agg #[.int .i64 k, .int .i64 u, .int .i64 v, .int .u64 (x : Int)], .slice A n cap] w (RunLeft (accD k' i a b d) w) := by
 have HP := fun g w1 hg hb hT h0 hm1 h1 => vProg_at g w.heap.size (w.heap.size + 1) (w.heap.size + 1 + 1) A n cap log t ht me hme k u v x w w1 hg hc hTab hl.out hb hT h0 hm1 h1 _ hR
 have hmf : ∀ (fn : Fn) (first cap : Array Value) (w : World), (Instr.makeFunc fn first cap).run Tryz.prog w = .ok (.func fn first cap) w := fun _ _ _ _ => rfl
 clear ht hme hTab hc hR
 replace HP : ∀ g w1, w.heap.size ≤ g → Below w.heap.size w w1 → VarAt w1 g (tapeV A n cap true false (.int .i64 0) (.int .i64 0) (.int .u64 0) (.int .u64 0) (.slice none 0 0) (.slice none 0 0)) → VarAt w1 w.heap.size [.int .i64 (t : Int)] → VarAt w1 (w.heap.size + 1) [.int .i64 (me : Int)] → VarAt w1 (w.heap.size + 1 + 1) [.int .i64 k, .int .i64 u, .int .i64 v, .int .u64 (x : Int)] → Calls Tryz.prog 63 #[doV g, .pointer (some ⟨w.heap.size, 0, none⟩), .pointer (some ⟨w.heap.size + 1, 0, none⟩), .pointer (some ⟨w.heap.size + 1 + 1, 0, none⟩)] w1 (LeftPost w1 g (accD k' i a b d) true) := HP
 generalize accD k' i a b d = xx at *
 go_enter Tryz.func30, Tryz.ntmps30
 go_wp2_with fail
 refine gen_w (P := fun W => Calls _ _ _ W _) (fun y => Below w.heap.size w y ∧ y.heap.size = w.heap.size + 1 + 1 + 1 + 1 + 1 ∧ VarAt y w.heap.size [.int .i64 (t : Int)] ∧ VarAt y (w.heap.size + 1) [.int .i64 (me : Int)] ∧ VarAt y (w.heap.size + 1 + 1) [.int .i64 k, .int .i64 u, .int .i64 v, .int .u64 (x : Int)] ∧ VarAt y (w.heap.size + 1 + 1 + 1) [.int .i64 0, .int .i64 0, .int .u64 0, .int .u64 0, .slice none 0 0, .slice none 0 0] ∧ VarAt y (w.heap.size + 1 + 1 + 1 + 1) [.int .i64 0, .bool false, .int .i64 0, .int .u64 0, .slice none 0 0]) ⟨belA, by simp, VarAt.mk1 (by simp <;> omega), VarAt.mk1 (by simp <;> omega), VarAt.mk4 (by simp <;> omega), VarAt.mk6 (by simp <;> omega), VarAt.mk5 (by simp <;> omega)⟩ ?_
 rintro y ⟨k0, k1, k2, km, k3, k4, k5⟩
 have K0 := Lib.hid k0
 have K1 := Lib.hid k1
 have K4 := Lib.hid k4
 have K5 := Lib.hid k5
 have HQ : ∀ g w1, y.heap.size ≤ g → Below y.heap.size y w1 → VarAt w1 g (tapeV A n cap true false (.int .i64 0) (.int .i64 0) (.int .u64 0) (.int .u64 0) (.slice none 0 0) (.slice none 0 0)) → Calls Tryz.prog 63 #[doV g, .pointer (some ⟨w.heap.size, 0, none⟩), .pointer (some ⟨w.heap.size + 1, 0, none⟩), .pointer (some ⟨w.heap.size + 1 + 1, 0, none⟩)] w1 (LeftPost w1 g xx true) :=
  fun g w1 hg hb hT => HP g w1 (by omega) (k0.trans (hb.mono (by omega))) hT (k2.below hb) (km.below hb) (k3.below hb)
 clear HP k0 k1 k2 km k3 k4 k5
 refine (runVt_left A n cap w.heap.size (w.heap.size + 1) (w.heap.size + 1 + 1) xx y HQ).mono ?_
 clear HQ
 rintro e w2 ⟨D, dc, E, ec, rfl, hX, hb2, hD, hE⟩
 have HX := Lib.hid hX
 have HD := Lib.hid hD
 have HE := Lib.hid hE
 obtain ⟨m1, ⟨a0, a1, a2, a3, a4, a5⟩, b0, b1, b2, b3, b4, b5⟩ := (K4.out.below hb2).six
 obtain ⟨m2, ⟨r1, r2, r3, r4, r5⟩, s1, s2, s3, s4, s5⟩ := (K5.out.below hb2).five
 have HB2 := Lib.hid (K0.out.trans (hb2.mono K0.out.size))
 clear hb2 hX hD hE
 go_wp2_with fail
 have hyz := K1.out
 have hb := HB2.out
 have hx := HX.out
 exact bodyPost_ret (v := .tuple #[.agg #[.int .i64 xx.k, .int .i64 xx.c, .int .u64 (xx.a : Int), .int .u64 (xx.b : Int), .slice D xx.d.length dc, .slice E xx.m ec], .agg #[.int .i64 0, .bool false, .int .i64 0, .int .u64 0, .slice none 0 0], .bool false]) (by simp [results, Tryz.results30, go_sem, a0, a1, a2, a3, a4, a5, r1, r2, r3, r4, r5]) rfl ⟨D, dc, E, ec, rfl, ⟨hx.k, hx.c, hx.a, hx.b, hx.dl, hx.ml, hx.d.svd (Q := fun b => y.heap.size ≤ b) (by repeat (first | with_reducible exact Svd.refl _ _ | with_reducible refine Svd.drew ?_ | with_reducible refine Svd.alloc ?_ _ | (with_reducible refine Svd.set ?_ _ _ _ (by omega)))) HD.out, hx.f.svd (Q := fun b => y.heap.size ≤ b) (by repeat (first | with_reducible exact Svd.refl _ _ | with_reducible refine Svd.drew ?_ | with_reducible refine Svd.alloc ?_ _ | (with_reducible refine Svd.set ?_ _ _ _ (by omega)))) HE.out⟩, belA, HD.out.mono fun b h => by omega, HE.out.mono fun b h => by omega⟩
set_option maxHeartbeats 4000000 in
set_option maxRecDepth 100000 in
theorem vNext_done (t : Nat) (ht : t ≤ 64) (c : Int) (me : Nat) (hme : me < 1000000) (k u v : Int) (x : Nat) (A : Option Addr) (n cap : Nat) (log : List Res) (hc : n ≤ cap) (w : World) (hTab : Tab w) (hl : Hid (LogAt w A n log)) (r : Nat) (s2 : List Res) (hR : vNextR t me k u log = .done r s2) :
  Calls Tryz.prog 30 #[.int .i64 (t : Int), .int .i64 c, .int .i64 (me : Int), .agg #[.int .i64 k, .int .i64 u, .int .i64 v, .int .u64 (x : Int)], .slice A n cap] w (RunE (vErr r) (vIs r) 0 0 w) := by
 have HP := fun g w1 hg hb hT h0 hm1 h1 => vProg_at g w.heap.size (w.heap.size + 1) (w.heap.size + 1 + 1) A n cap log t ht me hme k u v x w w1 hg hc hTab hl.out hb hT h0 hm1 h1 _ hR
 have hmf : ∀ (fn : Fn) (first cap : Array Value) (w : World), (Instr.makeFunc fn first cap).run Tryz.prog w = .ok (.func fn first cap) w := fun _ _ _ _ => rfl
 clear ht hme hTab hc hR
 replace HP : ∀ g w1, w.heap.size ≤ g → Below w.heap.size w w1 → VarAt w1 g (tapeV A n cap true false (.int .i64 0) (.int .i64 0) (.int .u64 0) (.int .u64 0) (.slice none 0 0) (.slice none 0 0)) → VarAt w1 w.heap.size [.int .i64 (t : Int)] → VarAt w1 (w.heap.size + 1) [.int .i64 (me : Int)] → VarAt w1 (w.heap.size + 1 + 1) [.int .i64 k, .int .i64 u, .int .i64 v, .int .u64 (x : Int)] → Calls Tryz.prog 63 #[doV g, .pointer (some ⟨w.heap.size, 0, none⟩), .pointer (some ⟨w.heap.size + 1, 0, none⟩), .pointer (some ⟨w.heap.size + 1 + 1, 0, none⟩)] w1 (ProgE g (vErr r) (vIs r) 0 0 false (.int .i64 0) (.int .i64 0) (.int .u64 0) (.int .u64 0) (.slice none 0 0) (.slice none 0 0) w1) := HP
 generalize vErr r = er at *
 generalize vIs r = is at *
 go_enter Tryz.func30, Tryz.ntmps30
 go_wp2_with fail
 refine gen_w (P := fun W => Calls _ _ _ W _) (fun y => Below w.heap.size w y ∧ y.heap.size = w.heap.size + 1 + 1 + 1 + 1 + 1 ∧ VarAt y w.heap.size [.int .i64 (t : Int)] ∧ VarAt y (w.heap.size + 1) [.int .i64 (me : Int)] ∧ VarAt y (w.heap.size + 1 + 1) [.int .i64 k, .int .i64 u, .int .i64 v, .int .u64 (x : Int)] ∧ VarAt y (w.heap.size + 1 + 1 + 1) [.int .i64 0, .int .i64 0, .int .u64 0, .int .u64 0, .slice none 0 0, .slice none 0 0] ∧ VarAt y (w.heap.size + 1 + 1 + 1 + 1) [.int .i64 0, .bool false, .int .i64 0, .int .u64 0, .slice none 0 0]) ⟨belA, by simp, VarAt.mk1 (by simp <;> omega), VarAt.mk1 (by simp <;> omega), VarAt.mk4 (by simp <;> omega), VarAt.mk6 (by simp <;> omega), VarAt.mk5 (by simp <;> omega)⟩ ?_
 rintro y ⟨k0, k1, k2, km, k3, k4, k5⟩
 have K0 := Lib.hid k0
 have K1 := Lib.hid k1
 have K4 := Lib.hid k4
 have K5 := Lib.hid k5
 have HQ : ∀ g w1, y.heap.size ≤ g → Below y.heap.size y w1 → VarAt w1 g (tapeV A n cap true false (.int .i64 0) (.int .i64 0) (.int .u64 0) (.int .u64 0) (.slice none 0 0) (.slice none 0 0)) → Calls Tryz.prog 63 #[doV g, .pointer (some ⟨w.heap.size, 0, none⟩), .pointer (some ⟨w.heap.size + 1, 0, none⟩), .pointer (some ⟨w.heap.size + 1 + 1, 0, none⟩)] w1 (ProgE g er is 0 0 false (.int .i64 0) (.int .i64 0) (.int .u64 0) (.int .u64 0) (.slice none 0 0) (.slice none 0 0) w1) :=
  fun g w1 hg hb hT => HP g w1 (by omega) (k0.trans (hb.mono (by omega))) hT (k2.below hb) (km.below hb) (k3.below hb)
 clear HP k0 k1 k2 km k3 k4 k5
 refine (runVt_yes A n cap w.heap.size (w.heap.size + 1) (w.heap.size + 1 + 1) er is 0 0 y HQ).mono ?_
 clear HQ
 rintro e w2 ⟨rfl, hb2⟩
 obtain ⟨m1, ⟨a0, a1, a2, a3, a4, a5⟩, b0, b1, b2, b3, b4, b5⟩ := (K4.out.below hb2).six
 obtain ⟨m2, ⟨r1, r2, r3, r4, r5⟩, s1, s2, s3, s4, s5⟩ := (K5.out.below hb2).five
 have HB2 := Lib.hid (K0.out.trans (hb2.mono K0.out.size))
 clear hb2
 go_wp2_with fail
 have hb := HB2.out
 exact bodyPost_ret (v := .tuple #[.agg #[.int .i64 0, .int .i64 0, .int .u64 0, .int .u64 0, .slice none 0 0, .slice none 0 0], .agg #[.int .i64 er, .bool is, .int .i64 0, .int .u64 0, .slice none 0 0], .bool true]) (by simp [results, Tryz.results30, go_sem, a0, a1, a2, a3, a4, a5, r1, r2, r3, r4, r5]) rfl ⟨rfl, belA⟩
end Go.Proofs.YtibpfkcackdbgaaGreatDoor
