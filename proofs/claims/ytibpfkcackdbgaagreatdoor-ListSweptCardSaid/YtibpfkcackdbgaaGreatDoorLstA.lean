/- LstA -/
import Derived.Test.YtibpfkcackdbgaaGreatDoorSavSrv
import Derived.Test.YtibpfkcackdbgaaGreatDoorEpcA
import Derived.Test.YtibpfkcackdbgaaGreatDoorEpcB
import Derived.Test.YtibpfkcackdbgaaGreatDoorSavSave
import Derived.Test.YtibpfkcackdbgaaGreatDoorPolB
namespace Go.Proofs.YtibpfkcackdbgaaGreatDoor
open Go.ChangeShapes Go.WideShapes Go.ChangeAt Go.RowKit Go.BigFrame
set_option linter.unusedVariables false
set_option maxRecDepth 100000
def Prg.up : Prg → Prd
 | .ret d => .ret d
 | .ask k i a b f => .ask k i a b [] fun n => (f n).up
 | .bad => .bad
def Prg.mem : Prg → Prop
 | .ret _ => True
 | .ask k _ _ _ f => (0 ≤ k ∧ k < 5) ∧ ∀ n, (f n).mem
 | .bad => True
def Ran.up {S : Type} : Ran S → RanD S
 | .done d s => .done d s
 | .left k i a b => .left k i a b []
 | .bad => .bad
theorem Prg.run_up {S : Type} (T : S → Int → Int → Nat → Nat → List Nat → Tell S) (U : S → Int → Int → Nat → Nat → Tell S) (h : ∀ s k i a b, 0 ≤ k → k < 5 → T s k i a b [] = U s k i a b) :
  ∀ (p : Prg) (s : S), p.mem → p.up.run T s = (p.run U s).up
 | .ret _, _, _ => rfl
 | .bad, _, _ => rfl
 | .ask k i a b f, s, hm => by
  simp only [Prg.up, Prd.run, Prg.run, h s k i a b hm.1.1 hm.1.2]
  cases U s k i a b with
  | bad => rfl
  | left => rfl
  | told n s' => exact Prg.run_up T U h (f n) s' (hm.2 n)
theorem Prg.ok_up : ∀ (p : Prg) (n : Nat), p.ok n → p.up.ok n
 | .ret _, _, _ => trivial
 | .bad, _, h => h.elim
 | .ask k i a b f, n, h => by
  cases n with
  | zero => trivial
  | succ n => exact fun x => Prg.ok_up (f x) n (h x)
theorem Prg.mem_retireL (t r l : Nat) : ∀ n, (Prg.retireL t r l n).mem
 | 0 => trivial
 | n + 1 => by
  unfold Prg.retireL
  refine ⟨by decide, fun _ => ⟨by decide, fun _ => ⟨by decide, fun d => ?_⟩⟩⟩
  show (if d = 1 then Prg.ret 0 else Prg.retireL t r l n).mem
  by_cases h : d = 1
  ·rw [if_pos h]; trivial
  ·rw [if_neg h]; exact Prg.mem_retireL t r l n
theorem Prg.mem_lretire (t r n : Nat) : (Prg.retire t r n).mem := ⟨by decide, fun e => Prg.mem_retireL t r _ n⟩
def encS (p x c : Nat) : Nat := 1 + c + 4 * (x + 1048576 * p)
def codS (d : Nat) : Nat := (d - 1) % 4
def curS (d : Nat) : Nat := (d - 1) / 4 % 1048576
def predS (d : Nat) : Nat := (d - 1) / 4 / 1048576 % 1048576
theorem codS_enc {p x c : Nat} (hc : c < 4) : codS (encS p x c) = c := by unfold codS encS; omega
theorem curS_enc {p x c : Nat} (hx : x < 1048576) (hc : c < 4) : curS (encS p x c) = x := by unfold curS encS; omega
theorem predS_enc {p x c : Nat} (hp : p < 1048576) (hx : x < 1048576) (hc : c < 4) : predS (encS p x c) = p := by unfold predS encS; omega
theorem encS_ne (p x c : Nat) : encS p x c ≠ 0 := by unfold encS; omega
theorem refN_lt (w : Nat) : refN w < 1048576 := Nat.mod_lt _ (by decide)
theorem nextN_0 (t : Nat) : nextN t 0 = 0 := by unfold nextN; rw [if_pos rfl]
theorem nextN_pos {t x : Nat} (h : x ≠ 0) : nextN t x = fieldN t x 0 := by unfold nextN; rw [if_neg h]
namespace Prd
def takeOut (t p x w n : Nat) : Prd := (save t x 2 n).bind fun s => if s = 1 then ask 2 ((nextN t p : Nat) : Int) (linkN x false) (linkN (refN w) false) [] fun d => if d = 1 then (Prg.retire t x n).up.bind fun _ => ret 3 else ret 1 else ret 0
def walk (t : Nat) (look : Nat → Nat → Prd) (n : Nat) : Nat → Nat → Nat → Prd
 | 0, _, _ => bad
 | m + 1, p, x =>
  if x = 0 then ret (encS p 0 0) else ask 0 ((fieldN t x 0 : Nat) : Int) 0 0 [] fun w =>
   if markB w = true then (takeOut t p x w n).bind fun d => if d = 0 then ret 0 else if d = 3 then walk t look n m p (refN w) else ask 0 0 0 0 [] fun y => walk t look n m 0 (refN y)
   else (look x w).bind fun d => if d = 0 then walk t look n m x (refN w) else if d = 1 then walk t look n m p x else ret (encS p x d)
def start (t : Nat) (look : Nat → Nat → Prd) (n m : Nat) : Prd := ask 0 0 0 0 [] fun y => walk t look n m 0 (refN y)
def lookS (t k : Nat) (x _w : Nat) : Prd := ask 0 ((fieldN t x 1 : Nat) : Int) 0 0 [] fun a => ret (if a = k then 3 else if k ≤ a then 2 else 0)
def search (t k n : Nat) : Prd := start t (lookS t k) n n
def edge (t x st : Nat) : Prd := ask 0 ((fieldN t x 1 : Nat) : Int) 0 0 [] fun a => if a % 2147483648 = 0 then ret 0 else ask 0 ((fieldN t x 4 : Nat) : Int) 0 0 [] fun u => ask 0 ((fieldN t x 5 : Nat) : Int) 0 0 [] fun v => ret (if u = st ∨ v = st then 1 else 0)
def markW (t x w : Nat) : Prd := ask 2 ((nextN t x : Nat) : Int) w (w + 1) [] fun d => ret d
def lookW (t st n : Nat) (x w : Nat) : Prd := (edge t x st).bind fun e => if e = 1 then (markW t x w).bind fun d => if d = 1 then (set t x 2 n).bind fun _ => ret 1 else ret 1 else ret 0
def sweep (t st n : Nat) : Prd := start t (lookW t st n) n n
def seekL (t k : Nat) : Nat → Nat → Prd
 | 0, _ => bad
 | m + 1, x => if x = 0 then ret 0 else ask 0 ((fieldN t x 1 : Nat) : Int) 0 0 [] fun a => if k ≤ a then ret (2 * x + if a = k then 1 else 0) else ask 0 ((fieldN t x 0 : Nat) : Int) 0 0 [] fun w => seekL t k m (refN w)
def seek (t f k n : Nat) : Prd := ask 0 ((nextN t f : Nat) : Int) 0 0 [] fun w => seekL t k n (refN w)
def turnP (t p x r : Nat) : Prd := ask 2 ((nextN t p : Nat) : Int) (linkN x false) (linkN r false) [] fun d => ret d
def link (t p x r : Nat) : Prd := ask 1 ((nextN t r : Nat) : Int) (linkN x false) 0 [] fun _ => turnP t p x r
def mark (t r : Nat) : Prd := ask 0 ((nextN t r : Nat) : Int) 0 0 [] fun w => if markB w = true then ret 0 else markW t r w
theorem ok_takeOut (t p x w n m : Nat) (h : m < n) : (takeOut t p x w n).ok m := ok_bind _ _ _ (ok_save t x 2 n m h) fun s m1 h1 => by
 split
 ·refine ok_ask fun m2 d h2 => ?_
  split
  ·exact ok_bind _ _ _ (Prg.ok_up _ _ (Prg.ok_retire t x n m2 (by omega))) fun _ _ _ => trivial
  ·trivial
 ·trivial
theorem ok_walk (t : Nat) (look : Nat → Nat → Prd) (n : Nat) (hl : ∀ x w m, m < n → (look x w).ok m) : ∀ (f p x m : Nat), m < f → m < n → (walk t look n f p x).ok m
 | 0, _, _, m, h, _ => absurd h (Nat.not_lt_zero _)
 | f + 1, p, x, m, h, hn => by
  unfold walk
  split
  ·trivial
  ·refine ok_ask fun m1 w h1 => ?_
   split
   ·refine ok_bind _ _ _ (ok_takeOut t p x w n m1 (by omega)) fun d m2 h2 => ?_
    split
    ·trivial
    ·split
     ·exact ok_walk t look n hl f _ _ m2 (by omega) (by omega)
     ·exact ok_ask fun m3 y h3 => ok_walk t look n hl f _ _ m3 (by omega) (by omega)
   ·refine ok_bind _ _ _ (hl x w m1 (by omega)) fun d m2 h2 => ?_
    split
    ·exact ok_walk t look n hl f _ _ m2 (by omega) (by omega)
    ·split
     ·exact ok_walk t look n hl f _ _ m2 (by omega) (by omega)
     ·trivial
theorem ok_start (t : Nat) (look : Nat → Nat → Prd) (n : Nat) (hl : ∀ x w m, m < n → (look x w).ok m) (m : Nat) (h : m < n) : (start t look n n).ok m := ok_ask fun m1 y h1 => ok_walk t look n hl n _ _ m1 (by omega) (by omega)
theorem ok_lookS (t k x w m : Nat) : (lookS t k x w).ok m := ok_ask fun _ _ _ => trivial
theorem ok_edge (t x st m : Nat) : (edge t x st).ok m := ok_ask fun m1 a h1 => by
 split
 ·trivial
 ·exact ok_ask fun _ _ _ => ok_ask fun _ _ _ => trivial
theorem ok_lookW (t st n x w m : Nat) (h : m < n) : (lookW t st n x w).ok m := ok_bind _ _ _ (ok_edge t x st m) fun e m1 h1 => by
 split
 ·refine ok_bind _ _ _ (ok_ask fun _ _ _ => trivial) fun d m2 h2 => ?_
  split
  ·exact ok_bind _ _ _ (ok_raise _ _ _ n m2 (by omega)) fun _ _ _ => trivial
  ·trivial
 ·trivial
theorem ok_search (t k n m : Nat) (h : m < n) : (search t k n).ok m := ok_start t _ n (fun x w m _ => ok_lookS t k x w m) m h
theorem ok_sweep (t st n m : Nat) (h : m < n) : (sweep t st n).ok m := ok_start t _ n (fun x w m h => ok_lookW t st n x w m h) m h
theorem ok_seekL (t k : Nat) : ∀ (f x m : Nat), m < f → (seekL t k f x).ok m
 | 0, _, m, h => absurd h (Nat.not_lt_zero _)
 | f + 1, x, m, h => by
  unfold seekL
  split
  ·trivial
  ·refine ok_ask fun m1 a h1 => ?_
   split
   ·trivial
   ·exact ok_ask fun m2 w h2 => ok_seekL t k f _ m2 (by omega)
theorem ok_seek (t f k n m : Nat) (h : m < n) : (seek t f k n).ok m := ok_ask fun m1 w h1 => ok_seekL t k n _ m1 (by omega)
theorem ok_link (t p x r m : Nat) : (link t p x r).ok m := ok_ask fun _ _ _ => ok_ask fun _ _ _ => trivial
theorem ok_mark (t r m : Nat) : (mark t r).ok m := ok_ask fun m1 w h1 => by
 split
 ·trivial
 ·exact ok_ask fun _ _ _ => trivial
end Prd
section
variable {dv : Value} {S : Type} (V : SrvD dv S)
theorem upD {p : Prg} (hm : p.mem) {s : S} {F : FuncId} {args : Array Value} {ret : Nat → Value} (w : World)
  (h : p.run V.M.tell s ≠ .bad → Calls Tryz.prog F args w (RunEnd V.M w ret (p.run V.M.tell s))) (hb : p.up.run V.tell s ≠ .bad) : Calls Tryz.prog F args w (RunD14 V w ret (p.up.run V.tell s)) := by
 rw [Prg.run_up V.tell V.M.tell (fun s k i a b h1 h2 => V.mem h1 h2) p s hm] at hb ⊢
 cases hp : p.run V.M.tell s with
 | bad => rw [hp] at hb; exact absurd rfl hb
 | left k i a b =>
  rw [hp] at h
  refine (h (by simp)).mono fun e w' hq => ?_
  have hk : 0 ≤ k ∧ k < 5 := by
   clear h hb hq
   induction p generalizing s with
   | ret d => simp [Prg.run] at hp
   | bad => simp [Prg.run] at hp
   | ask k' i' a' b' f ih =>
    simp only [Prg.run] at hp
    cases ht : V.M.tell s k' i' a' b' with
    | bad => rw [ht] at hp; cases hp
    | left => rw [ht] at hp; cases hp; exact hm.1
    | told n s' => rw [ht] at hp; exact ih n (hm.2 n) hp
  exact Quits.mono hq (V.lmem hk.1 hk.2)
 | done d s' =>
  rw [hp] at h
  exact (h (by simp)).mono fun e w' hq => hq
end
end Go.Proofs.YtibpfkcackdbgaaGreatDoor
namespace Go.Proofs.YtibpfkcackdbgaaGreatDoor
open Go.ChangeShapes Go.WideShapes Go.ChangeAt Go.RowKit Go.BigFrame
set_option linter.unusedVariables false
set_option maxRecDepth 100000
theorem nextI {t r : Nat} (ht : t ≤ 64) (hr : r < 1048576) : -9223372036854775808 ≤ ((nextN t r : Nat) : Int) ∧ ((nextN t r : Nat) : Int) < 9223372036854775808 := by
 unfold nextN fieldN
 split <;> omega
theorem linkN_lt' {r : Nat} (h : r < 1048576) (m : Bool) : linkN r m < 18446744073709551616 := by
 unfold linkN
 cases m <;> simp <;> omega
theorem or_mark {w : Nat} (hw : w < 18446744073709551616) (h : markB w = false) : bits .or .u64 (w : Int) ((linkN 0 true : Nat) : Int) = ((w + 1 : Nat) : Int) ∧ w + 1 < 18446744073709551616 := by
 unfold markB at h
 rw [decide_eq_false_iff_not] at h
 have e : linkN 0 true = 1 := rfl
 have h3 : 2 ^ 1 * (w / 2) + 1 = 2 ^ 1 * (w / 2) ||| 1 := Nat.two_pow_add_eq_or_of_lt (i := 1) (by decide) (w / 2)
 have h4 : 2 ^ 1 * (w / 2) = w := by omega
 rw [h4] at h3
 rw [e, u64_or_nat w 1 hw (by decide), ← h3]
 exact ⟨rfl, by omega⟩
section
variable {dv : Value} {S : Type} (V : SrvD dv S)
section
variable {R : RanD S} (hb : R ≠ .bad) {q : Nat → Prd} {s : S}
include hb
theorem lNext_go (t r : Nat) (ht : t ≤ 64) (hr : r < 1048576) (hR : (Prd.ask 0 ((nextN t r : Nat) : Int) 0 0 [] q).run V.tell s = R) (w : World) (hI : V.M.I s w) :
  Calls Tryz.prog 53 #[dv, .int .i64 (t : Int), .int .i64 (r : Int)] w (GoD V R w (fun n => .int .u64 (n : Int)) q) := by
 have HK := fun w => next_any t r (by omega) (by omega) w
 have HL := loadD V hb (nextI ht hr) hR
 have HI := Lib.hid hI
 clear hI hR ht hr
 generalize nextN t r = p at *
 go_enter Tryz.func53, Tryz.ntmps53
 go_wp2_with (go_at_call 50; (with_reducible refine (HK _).mono ?_); rintro e w' ⟨rfl, rfl⟩)
 (with_reducible refine (HL _ HI.out).mono ?_)
 clear HL
 rintro e w2 (⟨n, s2, rfl, hn, hi, hbt, hr⟩ | ⟨k, j, a, b, d, hr, rfl, hl⟩)
 case inr => exact ⟨rfl, .inr ⟨k, j, a, b, d, hr, rfl, hl⟩⟩
 have HE := Lib.hid (And.intro hn (And.intro hi (And.intro hbt hr)))
 clear hn hi hbt hr
 go_wp2_with fail
 go_ret
 exact .inl ⟨n, s2, rfl, HE.out.1, HE.out.2.1, HE.out.2.2.1, HE.out.2.2.2⟩
theorem lKey_go (t r : Nat) (ht : t ≤ 64) (h1 : 1 ≤ r) (hr : r < 1048576) (hR : (Prd.ask 0 ((fieldN t r 1 : Nat) : Int) 0 0 [] q).run V.tell s = R) (w : World) (hI : V.M.I s w) :
  Calls Tryz.prog 48 #[dv, .int .i64 (t : Int), .int .i64 (r : Int)] w (GoD V R w (fun n => .int .u64 (n : Int)) q) := by
 have HK : ∀ w, Calls Tryz.prog 87 #[.int .i64 (t : Int), .int .i64 (r : Int), .int .i64 1] w fun e w' => e = .returned (.int .i64 (fieldN t r 1 : Nat)) ∧ w = w' := fun w => field_any t r 1 (by omega) h1 (by omega) (by omega) w
 have HL := loadD V hb (fieldI ht hr (f := 1) (by omega)) hR
 have HI := Lib.hid hI
 clear hI hR ht h1 hr
 generalize fieldN t r 1 = p at *
 go_enter Tryz.func48, Tryz.ntmps48
 go_wp2_with (go_at_call 87; (with_reducible refine (HK _).mono ?_); rintro e w' ⟨rfl, rfl⟩)
 (with_reducible refine (HL _ HI.out).mono ?_)
 clear HL
 rintro e w2 (⟨n, s2, rfl, hn, hi, hbt, hr⟩ | ⟨k, j, a, b, d, hr, rfl, hl⟩)
 case inr => exact ⟨rfl, .inr ⟨k, j, a, b, d, hr, rfl, hl⟩⟩
 have HE := Lib.hid (And.intro hn (And.intro hi (And.intro hbt hr)))
 clear hn hi hbt hr
 go_wp2_with fail
 go_ret
 exact .inl ⟨n, s2, rfl, HE.out.1, HE.out.2.1, HE.out.2.2.1, HE.out.2.2.2⟩
theorem lTurn_go (t p x r : Nat) (ht : t ≤ 64) (hp : p < 1048576) (hx : x < 1048576) (hr : r < 1048576) (hR : (Prd.ask 2 ((nextN t p : Nat) : Int) (linkN x false) (linkN r false) [] q).run V.tell s = R) (w : World) (hI : V.M.I s w) :
  Calls Tryz.prog 52 #[dv, .int .i64 (t : Int), .int .i64 (p : Int), .int .i64 (x : Int), .int .i64 (r : Int)] w (GoD V R w (fun n => .bool ((n : Int) == 1)) q) := by
 have HK := fun w => next_any t p (by omega) (by omega) w
 have HX := fun w => link_any x false (by omega) w
 have HY := fun w => link_any r false (by omega) w
 have HL := casD V hb (nextI ht hp) (linkN_lt' hx false) (linkN_lt' hr false) hR
 have HI := Lib.hid hI
 clear hI hR ht hr hp hx
 obtain ⟨np, hnp⟩ : ∃ z, nextN t p = z := ⟨_, rfl⟩
 obtain ⟨lx, hlx⟩ : ∃ z, linkN x false = z := ⟨_, rfl⟩
 obtain ⟨lr, hlr⟩ : ∃ z, linkN r false = z := ⟨_, rfl⟩
 rw [hnp] at HK
 rw [hlx] at HX
 rw [hlr] at HY
 rw [hnp, hlx, hlr] at HL
 clear hnp hlx hlr
 go_enter Tryz.func52, Tryz.ntmps52
 go_wp2_with (first | (go_at_call 50; (with_reducible refine (HK _).mono ?_); rintro e w' ⟨rfl, rfl⟩) | (go_at_call 51; (first | with_reducible refine (HX _).mono ?_ | with_reducible refine (HY _).mono ?_); rintro e w' ⟨rfl, rfl⟩))
 (with_reducible refine (HL _ HI.out).mono ?_)
 clear HL
 rintro e w2 (⟨n, s2, rfl, hn, hi, hbt, hr⟩ | ⟨k, j, a, b, d, hr, rfl, hl⟩)
 case inr => exact ⟨rfl, .inr ⟨k, j, a, b, d, hr, rfl, hl⟩⟩
 have HE := Lib.hid (And.intro hn (And.intro hi (And.intro hbt hr)))
 clear hn hi hbt hr
 go_wp2_with fail
 go_ret
 exact .inl ⟨n, s2, rfl, HE.out.1, HE.out.2.1, HE.out.2.2.1, HE.out.2.2.2⟩
theorem lMark_go (t x v : Nat) (ht : t ≤ 64) (hx : x < 1048576) (hv : v < 18446744073709551616) (hm : markB v = false) (hR : (Prd.ask 2 ((nextN t x : Nat) : Int) v (v + 1) [] q).run V.tell s = R) (w : World) (hI : V.M.I s w) :
  Calls Tryz.prog 55 #[dv, .int .i64 (t : Int), .int .i64 (x : Int), .int .u64 (v : Int)] w (GoD V R w (fun n => .bool ((n : Int) == 1)) q) := by
 obtain ⟨hor, hlt⟩ := or_mark hv hm
 have HK := fun w => next_any t x (by omega) (by omega) w
 have HX : ∀ w, Calls Tryz.prog 51 #[.int .i64 0, .bool true] w fun e w' => e = .returned (.int .u64 (linkN 0 true : Nat)) ∧ w = w' := fun w => link_any 0 true (by omega) w
 have HL := casD V hb (nextI ht hx) hv hlt hR
 have HI := Lib.hid hI
 clear hI hR ht hx hv hm hlt
 generalize nextN t x = np at *
 generalize linkN 0 true = l1 at *
 generalize v + 1 = v1 at *
 go_enter Tryz.func55, Tryz.ntmps55
 go_wp2_with (first | (go_at_call 50; (with_reducible refine (HK _).mono ?_); rintro e w' ⟨rfl, rfl⟩) | (go_at_call 51; (with_reducible refine (HX _).mono ?_); rintro e w' ⟨rfl, rfl⟩))
 (with_reducible refine (HL _ HI.out).mono ?_)
 clear HL
 rintro e w2 (⟨n, s2, rfl, hn, hi, hbt, hr⟩ | ⟨k, j, a, b, d, hr, rfl, hl⟩)
 case inr => exact ⟨rfl, .inr ⟨k, j, a, b, d, hr, rfl, hl⟩⟩
 have HE := Lib.hid (And.intro hn (And.intro hi (And.intro hbt hr)))
 clear hn hi hbt hr
 go_wp2_with fail
 go_ret
 exact .inl ⟨n, s2, rfl, HE.out.1, HE.out.2.1, HE.out.2.2.1, HE.out.2.2.2⟩
end
def tkOutV (d : Nat) : Value := .tuple #[.bool ((d : Int) == 3), .bool ((d : Int) != 0)]
theorem tkOut_3 : tkOutV 3 = .tuple #[.bool true, .bool true] := rfl
theorem tkOut_1 : tkOutV 1 = .tuple #[.bool false, .bool true] := rfl
theorem tkOut_0 : tkOutV 0 = .tuple #[.bool false, .bool false] := rfl
set_option maxHeartbeats 1000000 in
theorem takeOut_prg (t p x v n : Nat) (ht : t ≤ 64) (hp : p < 1048576) (h1 : 1 ≤ x) (hx : x < 1048576) (hv : v < 18446744073709551616) (s : S) (hb : (Prd.takeOut t p x v n).run V.tell s ≠ .bad) (w : World) (hI : V.M.I s w) (hBw : ∀ y, V.M.B y ≤ w.heap.size) :
  Calls Tryz.prog 85 #[dv, .int .i64 (t : Int), .int .i64 (p : Int), .int .i64 (x : Int), .int .u64 (v : Int)] w (RunD14 V w tkOutV ((Prd.takeOut t p x v n).run V.tell s)) := by
 generalize hR : (Prd.takeOut t p x v n).run V.tell s = R at hb ⊢
 unfold Prd.takeOut at hR
 have HS : Calls Tryz.prog 134 #[dv, .int .i64 (t : Int), .int .i64 (x : Int), .int .i64 2] w _ := partD V hb hR w (fun hb' => save_prg V t x 2 n ht h1 hx (.inr rfl) s hb' w hI hBw)
 have HX := Lib.hid (And.intro ht (And.intro hp (And.intro h1 hx)))
 have HRF := fun w => ref_any v hv w
 have hrv := refN_lt v
 have HB := Lib.hid hb
 clear hI hBw hR ht hp h1 hx hb hv
 go_enter Tryz.func85, Tryz.ntmps85
 go_wp2_with fail
 (with_reducible refine HS.mono ?_)
 clear HS
 rintro e w2 (⟨d, s2, rfl, hi, hbt, hr⟩ | ⟨k, j, a, b, d, hr, rfl, hl⟩)
 case inr => exact ⟨rfl, RunD14.quit V ⟨k, j, a, b, d, hr, rfl, hl⟩⟩
 dsimp only at hr
 by_cases hd : d = 1
 ·have dd := eq1 hd
  rw [if_pos hd] at hr
  have HC := lTurn_go V HB.out t p x (refN v) HX.out.1 HX.out.2.1 HX.out.2.2.2 hrv hr
  have HI2 := Lib.hid hi
  have HB2 := Lib.hid hbt
  clear hi hbt hr hd hrv
  generalize refN v = rv at *
  go_wp2_with (go_at_call 59; (with_reducible refine (HRF _).mono ?_); rintro e w' ⟨rfl, rfl⟩)
  (with_reducible refine (HC _ HI2.out).mono ?_)
  clear HC HI2
  rintro e w3 (⟨d2, s3, rfl, hn, hi, hbt, hr⟩ | ⟨k, j, a, b, d, hr, rfl, hl⟩)
  case inr => exact ⟨rfl, RunD14.quit V ⟨k, j, a, b, d, hr, rfl, hl⟩⟩
  dsimp only at hr
  have HB3 := Lib.hid (HB2.out.trans hbt)
  clear dd
  by_cases hd2 : d2 = 1
  ·have dd := eq1 hd2
   rw [if_pos hd2] at hr
   have HT := partD V HB.out (F := 135) (args := #[dv, .int .i64 (t : Int), .int .i64 (x : Int)]) (ret := fun _ => .tuple #[]) hr w3 (upD V (Prg.mem_lretire t x n) w3 (fun hb' => retire_prg V.M t HX.out.1 x HX.out.2.2.1 HX.out.2.2.2 n s3 hb' w3 hi))
   clear hn hi hbt hr hd2
   go_wp2_with fail
   (with_reducible refine HT.mono ?_)
   clear HT
   rintro e w4 (⟨d4, s4, rfl, hi, hbt, hr⟩ | ⟨k, j, a, b, d, hr, rfl, hl⟩)
   case inr => exact ⟨rfl, RunD14.quit V ⟨k, j, a, b, d, hr, rfl, hl⟩⟩
   dsimp only at hr
   have HE := RunD14.fin V (w := w) (ret := tkOutV) hr hi (HB3.out.trans hbt)
   rw [tkOut_3] at HE
   replace HE := Lib.hid HE
   clear hi hbt hr
   go_wp2_with fail
   exact bodyPost_ret (v := .tuple #[.bool true, .bool true]) (by simp [results, Tryz.results85, go_sem]) rfl HE.out
  ·have dd := ne1 hd2
   rw [if_neg hd2] at hr
   have HE := RunD14.fin V (w := w) (ret := tkOutV) hr hi HB3.out
   rw [tkOut_1] at HE
   replace HE := Lib.hid HE
   clear hn hi hbt hr hd2
   go_wp2_with fail
   exact bodyPost_ret (v := .tuple #[.bool false, .bool true]) (by simp [results, Tryz.results85, go_sem]) rfl HE.out
 ·have dd := ne1 hd
  rw [if_neg hd] at hr
  have HE := RunD14.fin V (w := w) (ret := tkOutV) hr hi hbt
  rw [tkOut_0] at HE
  replace HE := Lib.hid HE
  clear hi hbt hr hd hrv
  go_wp2_with fail
  exact bodyPost_ret (v := .tuple #[.bool false, .bool false]) (by simp [results, Tryz.results85, go_sem]) rfl HE.out
set_option maxHeartbeats 1000000 in
theorem edge_prg (t x st : Nat) (ht : t ≤ 64) (h1 : 1 ≤ x) (hx : x < 1048576) (s : S) (hb : (Prd.edge t x st).run V.tell s ≠ .bad) (w : World) (hI : V.M.I s w) :
  Calls Tryz.prog 57 #[dv, .int .i64 (t : Int), .int .i64 (x : Int), .int .u64 (st : Int)] w (RunD14 V w (fun d => .bool ((d : Int) == 1)) ((Prd.edge t x st).run V.tell s)) := by
 generalize hR : (Prd.edge t x st).run V.tell s = R at hb ⊢
 unfold Prd.edge at hR
 have HL := lKey_go V hb t x ht h1 hx hR
 have HK4 : ∀ w, Calls Tryz.prog 87 #[.int .i64 (t : Int), .int .i64 (x : Int), .int .i64 4] w fun e w' => e = .returned (.int .i64 (fieldN t x 4 : Nat)) ∧ w = w' := fun w => field_any t x 4 (by omega) h1 (by omega) (by omega) w
 have HK5 : ∀ w, Calls Tryz.prog 87 #[.int .i64 (t : Int), .int .i64 (x : Int), .int .i64 5] w fun e w' => e = .returned (.int .i64 (fieldN t x 5 : Nat)) ∧ w = w' := fun w => field_any t x 5 (by omega) h1 (by omega) (by omega) w
 have HF4 := Lib.hid (fieldI ht hx (f := 4) (by omega))
 have HF5 := Lib.hid (fieldI ht hx (f := 5) (by omega))
 have HB := Lib.hid hb
 have HI := Lib.hid hI
 clear hI hR ht h1 hx hb
 generalize fieldN t x 4 = f4 at *
 generalize fieldN t x 5 = f5 at *
 go_enter Tryz.func57, Tryz.ntmps57
 go_wp2_with fail
 (with_reducible refine (HL _ HI.out).mono ?_)
 clear HL
 rintro e w2 (⟨a, s2, rfl, hn, hi, hbt, hr⟩ | ⟨k, j, a, b, d, hr, rfl, hl⟩)
 case inr => exact ⟨rfl, RunD14.quit V ⟨k, j, a, b, d, hr, rfl, hl⟩⟩
 dsimp only at hr
 have HSP := fun w => keySplit_any a hn w
 by_cases ha : a % 2147483648 = 0
 ·rw [if_pos ha] at hr
  have dv1 : decide ((a : Int) % 2147483648 - 1 < 0) = true := by rw [decide_eq_true_iff]; omega
  have HE := Lib.hid (RunD14.fin V (w := w) (ret := fun d => .bool ((d : Int) == 1)) hr hi hbt)
  clear hn hi hbt hr ha
  go_wp2_with (go_at_call 90; (with_reducible refine (HSP _).mono ?_); rintro e w' ⟨rfl, rfl⟩)
  go_ret
  exact HE.out
 ·rw [if_neg ha] at hr
  have dv1 : decide ((a : Int) % 2147483648 - 1 < 0) = false := by rw [decide_eq_false_iff_not]; omega
  have HL := loadD V HB.out HF4.out hr
  have HI2 := Lib.hid hi
  have HB2 := Lib.hid hbt
  clear hn hi hbt hr ha
  go_wp2_with (first | (go_at_call 90; (with_reducible refine (HSP _).mono ?_); rintro e w' ⟨rfl, rfl⟩) | (go_at_call 87; (with_reducible refine (HK4 _).mono ?_); rintro e w' ⟨rfl, rfl⟩))
  (with_reducible refine (HL _ HI2.out).mono ?_)
  clear HL HI2
  rintro e w3 (⟨u, s3, rfl, hn, hi, hbt, hr⟩ | ⟨k, j, a, b, d, hr, rfl, hl⟩)
  case inr => exact ⟨rfl, RunD14.quit V ⟨k, j, a, b, d, hr, rfl, hl⟩⟩
  dsimp only at hr
  have HL := loadD V HB.out HF5.out hr
  have HI3 := Lib.hid hi
  have HB3 := Lib.hid (HB2.out.trans hbt)
  clear hn hi hbt hr
  go_wp2_with (go_at_call 87; (with_reducible refine (HK5 _).mono ?_); rintro e w' ⟨rfl, rfl⟩)
  (with_reducible refine (HL _ HI3.out).mono ?_)
  clear HL HI3
  rintro e w4 (⟨v, s4, rfl, hn, hi, hbt, hr⟩ | ⟨k, j, a, b, d, hr, rfl, hl⟩)
  case inr => exact ⟨rfl, RunD14.quit V ⟨k, j, a, b, d, hr, rfl, hl⟩⟩
  dsimp only at hr
  have HE := Lib.hid (RunD14.fin V (w := w) (ret := fun d => .bool ((d : Int) == 1)) hr hi (HB3.out.trans hbt))
  clear hn hi hbt hr dv1
  by_cases hu : u = st
  ·have du : ((u : Int) == (st : Int)) = true := by rw [beq_iff_eq]; omega
   rw [if_pos (.inl hu)] at HE
   clear hu
   go_wp2_with fail
   go_ret
   exact HE.out
  ·have du : ((u : Int) == (st : Int)) = false := by rw [beq_eq_false_iff_ne]; omega
   by_cases hv : v = st
   ·have dw : ((v : Int) == (st : Int)) = true := by rw [beq_iff_eq]; omega
    rw [if_pos (.inr hv)] at HE
    clear hu hv
    go_wp2_with fail
    go_ret
    exact HE.out
   ·have dw : ((v : Int) == (st : Int)) = false := by rw [beq_eq_false_iff_ne]; omega
    rw [if_neg (by rintro (h | h); exact hu h; exact hv h)] at HE
    clear hu hv
    go_wp2_with fail
    go_ret
    exact HE.out
theorem link_prg (t p x r : Nat) (ht : t ≤ 64) (hp : p < 1048576) (hx : x < 1048576) (hr : r < 1048576) (s : S) (hb : (Prd.link t p x r).run V.tell s ≠ .bad) (w : World) (hI : V.M.I s w) :
  Calls Tryz.prog 22 #[dv, .int .i64 (t : Int), .int .i64 (p : Int), .int .i64 (x : Int), .int .i64 (r : Int)] w (RunD14 V w (fun d => .bool ((d : Int) == 1)) ((Prd.link t p x r).run V.tell s)) := by
 generalize hR : (Prd.link t p x r).run V.tell s = R at hb ⊢
 unfold Prd.link at hR
 have HK := fun w => next_any t r (by omega) (by omega) w
 have HX := fun w => link_any x false (by omega) w
 have HS := storeD V hb (nextI ht hr) (linkN_lt' hx false) hR
 have HY := Lib.hid (And.intro ht (And.intro hp (And.intro hx hr)))
 have HB := Lib.hid hb
 have HI := Lib.hid hI
 clear hI hR ht hp hx hr hb
 obtain ⟨np, hnp⟩ : ∃ z, nextN t r = z := ⟨_, rfl⟩
 obtain ⟨lx, hlx⟩ : ∃ z, linkN x false = z := ⟨_, rfl⟩
 rw [hnp] at HK
 rw [hlx] at HX
 rw [hnp, hlx] at HS
 clear hnp hlx
 go_enter Tryz.func22, Tryz.ntmps22
 go_wp2_with (first | (go_at_call 50; (with_reducible refine (HK _).mono ?_); rintro e w' ⟨rfl, rfl⟩) | (go_at_call 51; (with_reducible refine (HX _).mono ?_); rintro e w' ⟨rfl, rfl⟩))
 (with_reducible refine (HS _ HI.out).mono ?_)
 clear HS
 rintro e w2 (⟨n, s2, rfl, hn, hi, hbt, hr⟩ | ⟨k, j, a, b, d, hr, rfl, hl⟩)
 case inr => exact ⟨rfl, RunD14.quit V ⟨k, j, a, b, d, hr, rfl, hl⟩⟩
 dsimp only at hr
 unfold Prd.turnP at hr
 have HC := lTurn_go V HB.out t p x r HY.out.1 HY.out.2.1 HY.out.2.2.1 HY.out.2.2.2 hr
 have HI2 := Lib.hid hi
 have HB2 := Lib.hid hbt
 clear hn hi hbt hr
 go_wp2_with fail
 (with_reducible refine (HC _ HI2.out).mono ?_)
 clear HC HI2
 rintro e w3 (⟨d2, s3, rfl, hn, hi, hbt, hr⟩ | ⟨k, j, a, b, d, hr, rfl, hl⟩)
 case inr => exact ⟨rfl, RunD14.quit V ⟨k, j, a, b, d, hr, rfl, hl⟩⟩
 dsimp only at hr
 have HE := Lib.hid (RunD14.fin V (w := w) (ret := fun d => .bool ((d : Int) == 1)) hr hi (HB2.out.trans hbt))
 clear hn hi hbt hr
 go_wp2_with fail
 go_ret
 exact HE.out
theorem mark_prg (t r : Nat) (ht : t ≤ 64) (hr : r < 1048576) (s : S) (hb : (Prd.mark t r).run V.tell s ≠ .bad) (w : World) (hI : V.M.I s w) :
  Calls Tryz.prog 23 #[dv, .int .i64 (t : Int), .int .i64 (r : Int)] w (RunD14 V w (fun d => .bool ((d : Int) == 1)) ((Prd.mark t r).run V.tell s)) := by
 generalize hR : (Prd.mark t r).run V.tell s = R at hb ⊢
 unfold Prd.mark at hR
 have HL := lNext_go V hb t r ht hr hR
 have HY := Lib.hid (And.intro ht hr)
 have HB := Lib.hid hb
 have HI := Lib.hid hI
 clear hI hR ht hr hb
 go_enter Tryz.func23, Tryz.ntmps23
 go_wp2_with fail
 (with_reducible refine (HL _ HI.out).mono ?_)
 clear HL
 rintro e w2 (⟨v, s2, rfl, hn, hi, hbt, hr⟩ | ⟨k, j, a, b, d, hr, rfl, hl⟩)
 case inr => exact ⟨rfl, RunD14.quit V ⟨k, j, a, b, d, hr, rfl, hl⟩⟩
 dsimp only at hr
 have HM := fun w => mark_any v hn w
 have HI2 := Lib.hid hi
 have HB2 := Lib.hid hbt
 cases hm : markB v with
 | true =>
  rw [hm] at HM
  rw [if_pos hm] at hr
  have HE := Lib.hid (RunD14.fin V (w := w) (ret := fun d => .bool ((d : Int) == 1)) hr hi hbt)
  clear hn hi hbt hr hm
  go_wp2_with (go_at_call 54; (with_reducible refine (HM _).mono ?_); rintro e w' ⟨rfl, rfl⟩)
  go_ret
  exact HE.out
 | false =>
  rw [hm] at HM
  rw [if_neg (by rw [hm]; decide)] at hr
  unfold Prd.markW at hr
  have HC := lMark_go V HB.out t r v HY.out.1 HY.out.2 hn hm hr
  clear hn hi hbt hr hm
  go_wp2_with (go_at_call 54; (with_reducible refine (HM _).mono ?_); rintro e w' ⟨rfl, rfl⟩)
  (with_reducible refine (HC _ HI2.out).mono ?_)
  clear HC HI2
  rintro e w3 (⟨d2, s3, rfl, hn, hi, hbt, hr⟩ | ⟨k, j, a, b, d, hr, rfl, hl⟩)
  case inr => exact ⟨rfl, RunD14.quit V ⟨k, j, a, b, d, hr, rfl, hl⟩⟩
  dsimp only at hr
  have HE := Lib.hid (RunD14.fin V (w := w) (ret := fun d => .bool ((d : Int) == 1)) hr hi (HB2.out.trans hbt))
  clear hn hi hbt hr
  go_wp2_with fail
  go_ret
  exact HE.out
end
end Go.Proofs.YtibpfkcackdbgaaGreatDoor
namespace Go.Proofs.YtibpfkcackdbgaaGreatDoor
open Go.ChangeShapes Go.WideShapes Go.ChangeAt Go.RowKit Go.BigFrame
set_option linter.unusedVariables false
set_option maxRecDepth 100000
def stepI (d : Nat) : Int := if d = 0 then 0 else if d = 1 then 1 else 2
def stepV (d : Nat) : Value := .int .i64 (stepI d)
def walkV (d : Nat) : Value := .tuple #[.int .i64 ((predS d : Nat) : Int), .int .i64 ((curS d : Nat) : Int), .bool ((d : Int) != 0)]
theorem walkV_0 : walkV 0 = .tuple #[.int .i64 0, .int .i64 0, .bool false] := rfl
theorem walkV_enc {p x c : Nat} (hp : p < 1048576) (hx : x < 1048576) (hc : c < 4) : walkV (encS p x c) = .tuple #[.int .i64 (p : Int), .int .i64 (x : Int), .bool true] := by
 have h : (((encS p x c : Nat) : Int) != 0) = true := by rw [bne_iff_ne]; have := encS_ne p x c; omega
 unfold walkV
 rw [predS_enc hp hx hc, curS_enc hx hc, h]
section
variable {dv : Value} {S : Type} (V : SrvD dv S)
def RunK (g0 : World) (KO : Nat → World → Prop) (ret : Nat → Value) (R : RanD S) (e : Ending) (w' : World) : Prop := match R with
 | .done r s => e = .returned (ret r) ∧ V.M.I s w' ∧ But V.M.g g0 w' ∧ KO r w'
 | .left k i a b d => Quits V.M.pv (V.L k i a b d) e w'
 | .bad => True
def GoK (R : RanD S) (g0 : World) (KO : Nat → World → Prop) (ret : Nat → Value) (q : Nat → Prd) (e : Ending) (w' : World) : Prop :=
 (∃ n s', e = .returned (ret n) ∧ V.M.I s' w' ∧ But V.M.g g0 w' ∧ KO n w' ∧ (q n).run V.tell s' = R) ∨ QuitD V R e w'
theorem partK {R : RanD S} (hb : R ≠ .bad) {p : Prd} {q : Nat → Prd} {s : S} {F : FuncId} {args : Array Value} {g0 : World} {KO : Nat → World → Prop} {ret : Nat → Value} (hR : (p.bind q).run V.tell s = R) (w : World)
  (h : p.run V.tell s ≠ .bad → Calls Tryz.prog F args w (RunK V g0 KO ret (p.run V.tell s))) : Calls Tryz.prog F args w (GoK V R g0 KO ret q) := by
 rw [Prd.run_bind] at hR
 cases hp : p.run V.tell s with
 | bad => rw [hp] at hR; exact absurd hR.symm hb
 | left k i a b d =>
  rw [hp] at hR h
  exact (h (by simp)).mono fun e w' hq => .inr ⟨_, _, _, _, _, hR.symm, hq⟩
 | done d s' =>
  rw [hp] at hR h
  refine (h (by simp)).mono ?_
  rintro e w' ⟨rfl, h1, h2, h3⟩
  exact .inl ⟨d, s', rfl, h1, h2, h3, hR⟩
theorem RunK.fin {R : RanD S} {d : Nat} {s : S} {g0 w' : World} {KO : Nat → World → Prop} {ret : Nat → Value} (h : (Prd.ret d).run V.tell s = R) (hI : V.M.I s w') (hb : But V.M.g g0 w') (hk : KO d w') : RunK V g0 KO ret R (.returned (ret d)) w' := by
 subst h
 exact ⟨rfl, hI, hb, hk⟩
theorem RunK.quit {R : RanD S} {g0 w' : World} {KO : Nat → World → Prop} {ret : Nat → Value} {e : Ending} (h : QuitD V R e w') : RunK V g0 KO ret R e w' := by
 obtain ⟨k, i, a, b, d, rfl, hq⟩ := h
 exact hq
structure LookK (g0 : World) (t : Nat) (look : Nat → Nat → Prd) (fo : FuncId) (caps : Array Value) (KO : Nat → World → Prop) : Prop where
 but : ∀ c w w', KO c w → But V.M.g w w' → KO c w'
 one : ∀ w, KO 1 w → KO 0 w
 four : ∀ c w, KO c w → c < 4
 call : ∀ (args : Array Value) (W : World), (callFunc fo args).run Tryz.prog W = .ok (.enter fo args) W
 beg : ∀ y, V.M.B y ≤ g0.heap.size
 lk : ∀ x v s z, x ≠ 0 → x < 1048576 → v < 18446744073709551616 → markB v = false → V.M.I s z → But V.M.g g0 z → KO 0 z → (look x v).run V.tell s ≠ .bad → Calls Tryz.prog fo (#[.int .i64 (x : Int), .int .u64 (v : Int)] ++ caps) z (RunK V g0 KO stepV ((look x v).run V.tell s))
structure WalkI (g0 : World) (t : Nat) (look : Nat → Nat → Prd) (n M : Nat) (KO : Nat → World → Prop) (R : RanD S) (m : Nat) (vp vx : Value) (w : World) : Prop where
 ex : ∃ (p x : Nat) (s : S), vp = .int .i64 (p : Int) ∧ vx = .int .i64 (x : Int) ∧ p < 1048576 ∧ x < 1048576 ∧ V.M.I s w ∧ (Prd.walk t look n m p x).run V.tell s = R
 but : But V.M.g g0 w
 ko : KO 0 w
 le : m ≤ M
set_option maxHeartbeats 8000000 in
set_option maxRecDepth 100000 in
theorem walk_prg (t n : Nat) (ht : t ≤ 64) (look : Nat → Nat → Prd) (fo : FuncId) (caps : Array Value) (KO : Nat → World → Prop) (g0 : World) (hk : LookK V g0 t look fo caps KO) (m : Nat) (s : S) (hb : (Prd.start t look n m).run V.tell s ≠ .bad) (w : World) (hI : V.M.I s w) (hbt : But V.M.g g0 w) (hko : KO 0 w) :
  Calls Tryz.prog 46 #[dv, .int .i64 (t : Int), .func (.func fo) #[] caps] w (RunK V g0 (fun d => KO (codS d)) walkV ((Prd.start t look n m).run V.tell s)) := by
 generalize hR : (Prd.start t look n m).run V.tell s = R at hb ⊢
 have HK := Lib.hid hk
 have hcall := hk.call
 have HT := Lib.hid ht
 have HB := Lib.hid hb
 have HR := Lib.hid hR
 have HI0 := Lib.hid hI
 have HB0 := Lib.hid hbt
 have HKO0 := Lib.hid hko
 clear hR hI hbt hko hb ht hk
 go_enter Tryz.func46, Tryz.ntmps46
 go_wp2_with fail
 refine wp_scope_again 0 (fun m a' w' => ∃ (s : S) (u6 u7 u8 u9 u10 u11 u12 u13 u14 u15 u16 u17 u18 u19 u20 u21 u22 u23 u24 u25 u26 u27 u28 u29 u30 u31 u32 u33 u34 u35 u36 u37 u38 u39 u40 u41 u42 u43 u44 u45 u46 u47 u48 u49 u50 u51 u52 : Value), a' = { tmps := #[dv, .int .i64 (t : Int), .func (.func fo) #[] caps, undef, undef, undef, u6, u7, u8, u9, u10, u11, u12, u13, u14, u15, u16, u17, u18, u19, u20, u21, u22, u23, u24, u25, u26, u27, u28, u29, u30, u31, u32, u33, u34, u35, u36, u37, u38, u39, u40, u41, u42, u43, u44, u45, u46, u47, u48, u49, u50, u51, u52], defers := [] } ∧ V.M.I s w' ∧ But V.M.g g0 w' ∧ KO 0 w' ∧ (Prd.start t look n m).run V.tell s = R) rfl ?_ ?_
 case refine_2 =>
  intro key
  go_wp2_with fail
  refine wp_label ?_
  simp only [Exit.then]
  rename_i hk
  exact hk _ _ (key m _ _ ⟨s, _, _, _, _, _, _, _, _, _, _, _, _, _, _, _, _, _, _, _, _, _, _, _, _, _, _, _, _, _, _, _, _, _, _, _, _, _, _, _, _, _, _, _, _, _, _, _, rfl, HI0.out, HB0.out, HKO0.out, HR.out⟩)
 case refine_1 =>
  clear HI0 HR HB0 HKO0
  clear s m
  rintro M a' z ⟨s, u6, u7, u8, u9, u10, u11, u12, u13, u14, u15, u16, u17, u18, u19, u20, u21, u22, u23, u24, u25, u26, u27, u28, u29, u30, u31, u32, u33, u34, u35, u36, u37, u38, u39, u40, u41, u42, u43, u44, u45, u46, u47, u48, u49, u50, u51, u52, rfl, hI, hbt, hko, hR⟩
  have hR1 : (Prd.ask 0 ((nextN t 0 : Nat) : Int) 0 0 [] fun y => Prd.walk t look n M 0 (refN y)).run V.tell s = R := by rw [nextN_0]; exact hR
  have HL : ∀ w, V.M.I s w → Calls Tryz.prog 53 #[dv, .int .i64 (t : Int), .int .i64 0] w _ := fun w h => lNext_go V HB.out t 0 HT.out (by decide) hR1 w h
  have HI := Lib.hid hI
  have HB0 := Lib.hid hbt
  have HKO := Lib.hid hko
  clear hI hbt hR hR1 hko
  go_wp2_with fail
  (with_reducible refine (HL _ HI.out).mono ?_)
  clear HL HI
  rintro e w2 (⟨y, s2, rfl, hn, hi, hbt, hr⟩ | ⟨k, j, a, b, d, hr, rfl, hl⟩)
  case inr => exact ⟨rfl, RunK.quit V ⟨k, j, a, b, d, hr, rfl, hl⟩⟩
  dsimp only at hr
  have HRF := fun w => ref_any y hn w
  have hrl := refN_lt y
  have HJ0 := Lib.hid (show ∃ m, WalkI V g0 t look n M KO R m (.int .i64 0) (.int .i64 ((refN y : Nat) : Int)) w2 from ⟨M, ⟨0, refN y, s2, rfl, rfl, by decide, hrl, hi, hr⟩, HB0.out.trans hbt, HK.out.but _ _ _ HKO.out hbt, Nat.le_refl _⟩)
  clear hn hi hbt hr hrl HB0 HKO
  generalize refN y = ry at *
  go_wp2_with (go_at_call 59; (with_reducible refine (HRF _).mono ?_); rintro e w' ⟨rfl, rfl⟩)
  clear HRF
  go_loopw [6, 7] (fun vp vx wr => ∃ m, WalkI V g0 t look n M KO R m vp vx wr) (fun vp vx wr => cnt (fun m wr => WalkI V g0 t look n M KO R m vp vx wr) wr)
  case atStart => exact HJ0.out
  case round =>
   clear HJ0
   have hj := cnt_spec (J := fun m wr => WalkI V g0 t look n M KO R m u6 u7 wr) hrel
   clear hrel
   generalize hm : cnt (fun m wr => WalkI V g0 t look n M KO R m u6 u7 wr) wr = m at *
   have HM := Lib.hid hm
   clear hm
   obtain ⟨⟨p, x, s3, rfl, rfl, hp, hx, hi, hr⟩, hbt, hko, hle⟩ := hj
   cases m with
   | zero => exact absurd hr.symm HB.out
   | succ m =>
   by_cases hx0 : x = 0
   ·subst hx0
    have hr1 : (Prd.ret (encS p 0 0)).run V.tell s3 = R := hr
    have HE := RunK.fin V (g0 := g0) (KO := fun d => KO (codS d)) (ret := walkV) hr1 hi hbt (by show KO (codS (encS p 0 0)) wr; rw [codS_enc (by decide)]; exact hko)
    rw [walkV_enc hp (by decide) (by decide)] at HE
    replace HE := Lib.hid HE
    clear hr hr1 hi hbt hko hx hle
    go_wp2_with fail
    simp only [Exit.jump]
    exact bodyPost_ret (v := .tuple #[.int .i64 (p : Int), .int .i64 0, .bool true]) (by simp [results, Tryz.results46, go_sem]) rfl HE.out
   have dx : ((x : Int) != 0) = true := by rw [bne_iff_ne]; omega
   have hr1 : (Prd.ask 0 ((fieldN t x 0 : Nat) : Int) 0 0 [] fun w => if markB w = true then (Prd.takeOut t p x w n).bind fun d => if d = 0 then Prd.ret 0 else if d = 3 then Prd.walk t look n m p (refN w) else Prd.ask 0 0 0 0 [] fun y => Prd.walk t look n m 0 (refN y) else (look x w).bind fun d => if d = 0 then Prd.walk t look n m x (refN w) else if d = 1 then Prd.walk t look n m p x else Prd.ret (encS p x d)).run V.tell s3 = R := by
    rw [← hr]
    conv => rhs; unfold Prd.walk
    rw [if_neg hx0]
   rw [← nextN_pos hx0] at hr1
   have HL := lNext_go V HB.out t x HT.out hx hr1
   have HX := Lib.hid (And.intro hp (And.intro (Nat.pos_of_ne_zero hx0) hx))
   have HI3 := Lib.hid hi
   have HB3 := Lib.hid hbt
   have HK3 := Lib.hid hko
   have HLE := Lib.hid hle
   clear hi hbt hko hr hr1 hle hx0 hp hx
   go_wp2_with fail
   (with_reducible refine (HL _ HI3.out).mono ?_)
   clear HL HI3
   rintro e w4 (⟨v, s4, rfl, hn, hi, hbt, hr⟩ | ⟨k, j, a, b, d, hr, rfl, hl⟩)
   case inr => exact ⟨rfl, RunK.quit V ⟨k, j, a, b, d, hr, rfl, hl⟩⟩
   dsimp only at hr
   have HMK := fun w => mark_any v hn w
   have HRF := fun w => ref_any v hn w
   have hrl := refN_lt v
   have HB4 := Lib.hid (HB3.out.trans hbt)
   have HK4 := Lib.hid (HK.out.but _ _ _ HK3.out hbt)
   clear HB3 HK3 hbt
   cases hmk : markB v with
   | true =>
    rw [hmk] at HMK
    rw [if_pos hmk] at hr
    have HTO := partD V HB.out hr w4 (fun hb' => takeOut_prg V t p x v n HT.out HX.out.1 HX.out.2.1 HX.out.2.2 hn s4 hb' w4 hi (fun y => Nat.le_trans (HK.out.beg y) HB4.out.size))
    unfold tkOutV at HTO
    have HN := Lib.hid hrl
    clear hi hn hr hmk hrl
    generalize refN v = rv at *
    go_wp2_with (go_at_call 54; (with_reducible refine (HMK _).mono ?_); rintro e w' ⟨rfl, rfl⟩)
    (with_reducible refine HTO.mono ?_)
    clear HTO
    rintro e w5 (⟨d, s5, rfl, hi, hbt, hr⟩ | ⟨k, j, a, b, d, hr, rfl, hl⟩)
    case inr => exact ⟨rfl, RunK.quit V ⟨k, j, a, b, d, hr, rfl, hl⟩⟩
    dsimp only at hr
    have HB5 := Lib.hid (HB4.out.trans hbt)
    have HK5 := Lib.hid (HK.out.but _ _ _ HK4.out hbt)
    clear HB4 HK4 hbt
    by_cases hd0 : d = 0
    ·rw [if_pos hd0] at hr
     have dd : ((d : Int) != 0) = false := by rw [bne_eq_false_iff_eq]; omega
     have HE := RunK.fin V (g0 := g0) (KO := fun d => KO (codS d)) (ret := walkV) hr hi HB5.out (by show KO (codS 0) w5; exact HK5.out)
     rw [walkV_0] at HE
     replace HE := Lib.hid HE
     clear hi hr hd0
     go_wp2_with fail
     simp only [Exit.jump]
     exact bodyPost_ret (v := .tuple #[.int .i64 0, .int .i64 0, .bool false]) (by simp [results, Tryz.results46, go_sem]) rfl HE.out
    ·rw [if_neg hd0] at hr
     have dd : ((d : Int) != 0) = true := by rw [bne_iff_ne]; omega
     by_cases hd3 : d = 3
     ·rw [if_pos hd3] at hr
      have d3 : ((d : Int) == 3) = true := by rw [beq_iff_eq]; omega
      have HJ6 := Lib.hid (show WalkI V g0 t look n M KO R m (.int .i64 (p : Int)) (.int .i64 ((rv : Nat) : Int)) w5 from ⟨⟨p, rv, s5, rfl, rfl, HX.out.1, HN.out, hi, hr⟩, HB5.out, HK5.out, by have := HLE.out; omega⟩)
      clear hi hr hd0 hd3
      go_wp2_with (go_at_call 59; (with_reducible refine (HRF _).mono ?_); rintro e w' ⟨rfl, rfl⟩)
      go_roundw
      case rel => exact ⟨m, HJ6.out⟩
      case measure => exact Nat.lt_of_lt_of_eq (cnt_lt (J := fun m wr => WalkI V g0 t look n M KO R m (.int .i64 (p : Int)) (.int .i64 ((rv : Nat) : Int)) wr) HJ6.out (Nat.lt_succ_self m)) HM.out.symm
     ·rw [if_neg hd3] at hr
      have d3 : ((d : Int) == 3) = false := by rw [beq_eq_false_iff_ne]; omega
      have HI5 := Lib.hid hi
      have HR5 := Lib.hid (show (Prd.start t look n m).run V.tell s5 = R from hr)
      clear hi hr hd0 hd3
      go_wp2_with fail
      go_step3
      exact ⟨rfl, m, by have := HLE.out; omega, s5, _, _, _, _, _, _, _, _, _, _, _, _, _, _, _, _, _, _, _, _, _, _, _, _, _, _, _, _, _, _, _, _, _, _, _, _, _, _, _, _, _, _, _, _, _, _, _, rfl, HI5.out, HB5.out, HK5.out, HR5.out⟩
   | false =>
    rw [hmk] at HMK
    rw [if_neg (by rw [hmk]; decide)] at hr
    have HCL := partK V HB.out hr w4 (fun hb' => HK.out.lk x v s4 w4 (by have := HX.out.2.1; omega) HX.out.2.2 hn hmk hi HB4.out HK4.out hb')
    have HN := Lib.hid hrl
    clear hi hn hr hmk hrl HB4 HK4
    generalize refN v = rv at *
    go_wp2_with (go_at_call 54; (with_reducible refine (HMK _).mono ?_); rintro e w' ⟨rfl, rfl⟩)
    (with_reducible refine HCL.mono ?_)
    clear HCL
    rintro e w5 (⟨d, s5, rfl, hi, hbt, hko, hr⟩ | ⟨k, j, a, b, d, hr, rfl, hl⟩)
    case inr => exact ⟨rfl, RunK.quit V ⟨k, j, a, b, d, hr, rfl, hl⟩⟩
    dsimp only at hr
    by_cases hd0 : d = 0
    ·rw [if_pos hd0] at hr
     subst hd0
     rw [show stepV 0 = .int .i64 0 from rfl]
     have HJ6 := Lib.hid (show WalkI V g0 t look n M KO R m (.int .i64 (x : Int)) (.int .i64 ((rv : Nat) : Int)) w5 from ⟨⟨x, rv, s5, rfl, rfl, HX.out.2.2, HN.out, hi, hr⟩, hbt, hko, by have := HLE.out; omega⟩)
     clear hi hr hbt hko
     go_wp2_with (go_at_call 59; (with_reducible refine (HRF _).mono ?_); rintro e w' ⟨rfl, rfl⟩)
     go_roundw
     case rel => exact ⟨m, HJ6.out⟩
     case measure => exact Nat.lt_of_lt_of_eq (cnt_lt (J := fun m wr => WalkI V g0 t look n M KO R m (.int .i64 (x : Int)) (.int .i64 ((rv : Nat) : Int)) wr) HJ6.out (Nat.lt_succ_self m)) HM.out.symm
    ·rw [if_neg hd0] at hr
     by_cases hd1 : d = 1
     ·rw [if_pos hd1] at hr
      subst hd1
      rw [show stepV 1 = .int .i64 1 from rfl]
      have HJ6 := Lib.hid (show WalkI V g0 t look n M KO R m (.int .i64 (p : Int)) (.int .i64 (x : Int)) w5 from ⟨⟨p, x, s5, rfl, rfl, HX.out.1, HX.out.2.2, hi, hr⟩, hbt, HK.out.one _ hko, by have := HLE.out; omega⟩)
      clear hi hr hbt hko hd0
      go_wp2_with fail
      go_roundw
      case rel => exact ⟨m, HJ6.out⟩
      case measure => exact Nat.lt_of_lt_of_eq (cnt_lt (J := fun m wr => WalkI V g0 t look n M KO R m (.int .i64 (p : Int)) (.int .i64 (x : Int)) wr) HJ6.out (Nat.lt_succ_self m)) HM.out.symm
     ·rw [if_neg hd1] at hr
      have hd4 := HK.out.four _ _ hko
      rw [show stepV d = .int .i64 2 by unfold stepV stepI; rw [if_neg hd0, if_neg hd1]]
      have HE := RunK.fin V (g0 := g0) (KO := fun d => KO (codS d)) (ret := walkV) hr hi hbt (by show KO (codS (encS p x d)) w5; rw [codS_enc hd4]; exact hko)
      rw [walkV_enc HX.out.1 HX.out.2.2 hd4] at HE
      replace HE := Lib.hid HE
      clear hi hr hbt hko hd0 hd1 hd4
      go_wp2_with fail
      simp only [Exit.jump]
      exact bodyPost_ret (v := .tuple #[.int .i64 (p : Int), .int .i64 (x : Int), .bool true]) (by simp [results, Tryz.results46, go_sem]) rfl HE.out
end
end Go.Proofs.YtibpfkcackdbgaaGreatDoor
namespace Go.Proofs.YtibpfkcackdbgaaGreatDoor
open Go.ChangeShapes Go.WideShapes Go.ChangeAt Go.RowKit Go.BigFrame
set_option linter.unusedVariables false
set_option maxRecDepth 100000
section
variable {dv : Value} {S : Type} (V : SrvD dv S)
theorem search_call (args : Array Value) (W : World) : (callFunc 47 args).run Tryz.prog W = .ok (.enter 47 args) W := by kernel_rfl
theorem sweep_call (args : Array Value) (W : World) : (callFunc 56 args).run Tryz.prog W = .ok (.enter 56 args) W := by kernel_rfl
structure BoxS (dv : Value) (g t k bd bt bk bf : Nat) (c : Nat) (w : World) : Prop where
 four : c < 4
 do_ : VarAt w bd [dv]
 t_ : VarAt w bt [.int .i64 (t : Int)]
 k_ : VarAt w bk [.int .u64 (k : Int)]
 f_ : VarAt w bf [.bool ((c : Int) == 3)]
 gd : bd ≠ g
 gt : bt ≠ g
 gk : bk ≠ g
 gf : bf ≠ g
 fd : bd ≠ bf
 ft : bt ≠ bf
 fk : bk ≠ bf
theorem BoxS.but {g t k bd bt bk bf c : Nat} {w w' : World} (h : BoxS dv g t k bd bt bk bf c w) (hb : But g w w') : BoxS dv g t k bd bt bk bf c w' :=
 ⟨h.four, h.do_.but hb h.gd, h.t_.but hb h.gt, h.k_.but hb h.gk, h.f_.but hb h.gf, h.gd, h.gt, h.gk, h.gf, h.fd, h.ft, h.fk⟩
theorem BoxS.put {g t k bd bt bk bf c : Nat} {w : World} (h : BoxS dv g t k bd bt bk bf c w) (c' : Nat) (h4 : c' < 4) (z : Bool) (hz : z = ((c' : Int) == 3)) : BoxS dv g t k bd bt bk bf c' (w.setCell ⟨bf, 0, none⟩ (.bool z)) :=
 ⟨h4, h.do_.apart 0 _ (Ne.symm h.fd), h.t_.apart 0 _ (Ne.symm h.ft), h.k_.apart 0 _ (Ne.symm h.fk), by subst hz; exact h.f_.setAt 0 _ (by simp), h.gd, h.gt, h.gk, h.gf, h.fd, h.ft, h.fk⟩
set_option maxHeartbeats 1000000 in
theorem search1_prg (t k x v : Nat) (ht : t ≤ 64) (h1 : x ≠ 0) (hx : x < 1048576) (bd bt bk bf : Nat) (g0 : World) (hbeg : ∀ y, V.M.B y ≤ g0.heap.size) (hgg : V.M.g ≤ g0.heap.size) (hbf : g0.heap.size ≤ bf) (s : S) (hb : (Prd.lookS t k x v).run V.tell s ≠ .bad) (z : World) (hI : V.M.I s z) (hbt : But V.M.g g0 z) (hK : BoxS dv V.M.g t k bd bt bk bf 0 z) :
  Calls Tryz.prog 47 #[.int .i64 (x : Int), .int .u64 (v : Int), .pointer (some ⟨bd, 0, none⟩), .pointer (some ⟨bt, 0, none⟩), .pointer (some ⟨bk, 0, none⟩), .pointer (some ⟨bf, 0, none⟩)] z (RunK V g0 (BoxS dv V.M.g t k bd bt bk bf) stepV ((Prd.lookS t k x v).run V.tell s)) := by
 generalize hR : (Prd.lookS t k x v).run V.tell s = R at hb ⊢
 unfold Prd.lookS at hR
 have HL := lKey_go V hb t x ht (by omega) hx hR
 have HB := Lib.hid hb
 have HI := Lib.hid hI
 have HBT := Lib.hid hbt
 have HK := Lib.hid hK
 have HG := Lib.hid (And.intro hbeg (And.intro hgg hbf))
 have c0 := hK.do_.2.1 0 _ rfl
 have c1 := hK.t_.2.1 0 _ rfl
 clear hI hbt hK hR hb ht h1 hx hbeg hgg hbf
 go_enter Tryz.func47, Tryz.ntmps47
 go_wp2_with fail
 (with_reducible refine (HL _ HI.out).mono ?_)
 clear HL c0 c1
 rintro e w2 (⟨a, s2, rfl, hn, hi, hbt, hr⟩ | ⟨k, j, a, b, d, hr, rfl, hl⟩)
 case inr => exact ⟨rfl, RunK.quit V ⟨k, j, a, b, d, hr, rfl, hl⟩⟩
 dsimp only at hr
 have HK2 := Lib.hid (HK.out.but hbt)
 have HB2 := Lib.hid (HBT.out.trans hbt)
 have hst : ∀ (c : Nat) (zb : Bool), c < 4 → zb = ((c : Int) == 3) → (Prd.ret c).run V.tell s2 = R → RunK V g0 (BoxS dv V.M.g t k bd bt bk bf) stepV R (.returned (stepV c)) (w2.setCell ⟨bf, 0, none⟩ (.bool zb)) := fun c zb h4 hz hr => by
  have hbw := Nat.le_trans (HG.out.1 w2) HG.out.2.2
  exact RunK.fin V hr (V.M.stay hi ((Below.refl _ _).setCell hbw _)) (HB2.out.new _ _ _ HG.out.2.1 HG.out.2.2) (HK2.out.put c h4 zb hz)
 have HST := Lib.hid hst
 have c2 := HK2.out.k_.2.1 0 _ rfl
 have c3 := HK2.out.f_.2.1 0 _ rfl
 have f2 := HK2.out.f_.2.2 0 (by decide)
 have hnb : ¬ bf = bk := Ne.symm HK2.out.fk
 have hnb2 : ¬ bk = bf := HK2.out.fk
 clear hn hi hbt hst HK HI HBT HK2 HB2
 by_cases h1 : a = k
 ·rw [if_pos h1] at hr
  have d1 : ((a : Int) == (k : Int)) = true := by rw [beq_iff_eq]; omega
  have d2 : decide (k ≤ a) = true := by rw [decide_eq_true_iff]; omega
  have HE : Hid (RunK V g0 (BoxS dv V.M.g t k bd bt bk bf) stepV R (.returned (.int .i64 2)) (w2.setCell ⟨bf, 0, none⟩ (.bool true))) := Lib.hid (HST.out 3 true (by decide) (by decide) hr)
  clear hr HST h1
  go_wp2_with fail
  go_ret
  exact HE.out
 ·rw [if_neg h1] at hr
  have d1 : ((a : Int) == (k : Int)) = false := by rw [beq_eq_false_iff_ne]; omega
  by_cases h2 : k ≤ a
  ·rw [if_pos h2] at hr
   have d2 : decide (k ≤ a) = true := by rw [decide_eq_true_iff]; omega
   have HE : Hid (RunK V g0 (BoxS dv V.M.g t k bd bt bk bf) stepV R (.returned (.int .i64 2)) (w2.setCell ⟨bf, 0, none⟩ (.bool false))) := Lib.hid (HST.out 2 false (by decide) (by decide) hr)
   clear hr HST h1 h2
   go_wp2_with fail
   go_ret
   exact HE.out
  ·rw [if_neg h2] at hr
   have d2 : decide (k ≤ a) = false := by rw [decide_eq_false_iff_not]; omega
   have HE : Hid (RunK V g0 (BoxS dv V.M.g t k bd bt bk bf) stepV R (.returned (.int .i64 0)) (w2.setCell ⟨bf, 0, none⟩ (.bool false))) := Lib.hid (HST.out 0 false (by decide) (by decide) hr)
   clear hr HST h1 h2
   go_wp2_with fail
   go_ret
   exact HE.out
def searchV (d : Nat) : Value := .tuple #[.int .i64 ((predS d : Nat) : Int), .int .i64 ((curS d : Nat) : Int), .bool ((codS d : Int) == 3), .bool ((d : Int) != 0)]
theorem lookS_k (t k : Nat) (ht : t ≤ 64) (bd bt bk bf : Nat) (g0 : World) (hbeg : ∀ y, V.M.B y ≤ g0.heap.size) (hgg : V.M.g ≤ g0.heap.size) (hbf : g0.heap.size ≤ bf) :
  LookK V g0 t (Prd.lookS t k) 47 #[.pointer (some ⟨bd, 0, none⟩), .pointer (some ⟨bt, 0, none⟩), .pointer (some ⟨bk, 0, none⟩), .pointer (some ⟨bf, 0, none⟩)] (BoxS dv V.M.g t k bd bt bk bf) where
 but := fun c x y h hxy => h.but hxy
 one := fun x h => ⟨by decide, h.do_, h.t_, h.k_, h.f_, h.gd, h.gt, h.gk, h.gf, h.fd, h.ft, h.fk⟩
 four := fun c x h => h.four
 call := search_call
 beg := hbeg
 lk := fun x v s z hx0 hx hv hm hi hb hk hbd => search1_prg V t k x v ht hx0 hx bd bt bk bf g0 hbeg hgg hbf s hbd z hi hb hk
omit V in
theorem three_boxes (w : World) (v1 v2 v3 : Value) (t1 t2 t3 : TypeId) : VarAt (((w.alloc (.cells #[v1] t1)).alloc (.cells #[v2] t2)).alloc (.cells #[v3] t3)) w.heap.size [v1] ∧ VarAt (((w.alloc (.cells #[v1] t1)).alloc (.cells #[v2] t2)).alloc (.cells #[v3] t3)) (w.heap.size + 1) [v2] ∧ VarAt (((w.alloc (.cells #[v1] t1)).alloc (.cells #[v2] t2)).alloc (.cells #[v3] t3)) (w.heap.size + 1 + 1) [v3] ∧ Below w.heap.size w (((w.alloc (.cells #[v1] t1)).alloc (.cells #[v2] t2)).alloc (.cells #[v3] t3)) := by
 have s1 : (w.alloc (.cells #[v1] t1)).heap.size = w.heap.size + 1 := by simp
 have s2 : ((w.alloc (.cells #[v1] t1)).alloc (.cells #[v2] t2)).heap.size = w.heap.size + 1 + 1 := by simp
 have h1 := VarAt.made w #[v1] t1
 have h2 := VarAt.made (w.alloc (.cells #[v1] t1)) #[v2] t2
 have h3 := VarAt.made ((w.alloc (.cells #[v1] t1)).alloc (.cells #[v2] t2)) #[v3] t3
 rw [s1] at h2
 rw [s2] at h3
 have b1 := al_below w (.cells #[v1] t1)
 have b2 := al_below (w.alloc (.cells #[v1] t1)) (.cells #[v2] t2)
 have b3 := al_below ((w.alloc (.cells #[v1] t1)).alloc (.cells #[v2] t2)) (.cells #[v3] t3)
 exact ⟨(h1.below b2).below b3, h2.below b3, h3, (b1.trans (b2.mono b1.size)).trans (b3.mono (Nat.le_trans b1.size b2.size))⟩
set_option maxHeartbeats 4000000 in
set_option maxRecDepth 100000 in
theorem search_prg (t k n : Nat) (ht : t ≤ 64) (s : S) (hb : (Prd.search t k n).run V.tell s ≠ .bad) (w : World) (hI : V.M.I s w) (hBw : ∀ y, V.M.B y ≤ w.heap.size) :
  Calls Tryz.prog 21 #[dv, .int .i64 (t : Int), .int .u64 (k : Int)] w (RunD14 V w searchV ((Prd.search t k n).run V.tell s)) := by
 have hgw := V.lt hI
 have HLK := lookS_k V t k ht w.heap.size (w.heap.size + 1) (w.heap.size + 1 + 1) (w.heap.size + 1 + 1 + 1) w hBw (Nat.le_of_lt hgw) (by omega)
 have HW := walk_prg V t n ht (Prd.lookS t k) _ _ _ w HLK n s hb
 change ∀ z, _ → _ → _ → _ at HW
 generalize hR : (Prd.search t k n).run V.tell s = R at hb ⊢
 rw [show (Prd.start t (Prd.lookS t k) n n).run V.tell s = R from hR] at HW
 have HB := Lib.hid hb
 have HI := Lib.hid hI
 have HGW := Lib.hid hgw
 have HBW := Lib.hid hBw
 clear hI hBw hR ht hb hgw HLK
 obtain ⟨df, d1, d2, rfl⟩ := V.M.isFn
 go_enter Tryz.func21, Tryz.ntmps21
 go_upto_region 1 with fail
 refine gen_w (P := fun W => Code.wp _ _ _ _ W) (fun q => V.M.I s q ∧ But V.M.g w q ∧ BoxS (.func (.func df) d1 d2) V.M.g t k w.heap.size (w.heap.size + 1) (w.heap.size + 1 + 1) (w.heap.size + 1 + 1 + 1) 0 q) (by
  obtain ⟨q1, q2, q3, hbl⟩ := three_boxes w (.func (.func df) d1 d2) (.int .i64 (t : Int)) (.int .u64 (k : Int)) 52 3 27
  have hs := hbl.size
  generalize hW : ((w.alloc (.cells #[.func (.func df) d1 d2] 52)).alloc (.cells #[.int .i64 (t : Int)] 3)).alloc (.cells #[.int .u64 (k : Int)] 27) = q0 at *
  have hq : q0.heap.size = w.heap.size + 1 + 1 + 1 := by rw [← hW]; simp
  have q4 := VarAt.made q0 #[.bool false] 4
  have b4 := al_below q0 (.cells #[.bool false] 4)
  rw [hq] at q4
  have hg := HGW.out
  exact ⟨V.M.later HI.out (hbl.trans (b4.mono hs)), But.of (hbl.trans (b4.mono hs)) (Nat.le_of_lt hg), ⟨by decide, q1.below b4, q2.below b4, q3.below b4, q4, by omega, by omega, by omega, by omega, by omega, by omega, by omega⟩⟩) ?_
 rintro z0 ⟨hi, hbt, hk⟩
 have HC := HW z0 hi hbt hk
 have c0 := hk.do_.2.1 0 _ rfl
 have c1 := hk.t_.2.1 0 _ rfl
 clear hi hbt hk HW HI
 have HBF := Lib.hid (show w.heap.size ≤ w.heap.size + 1 + 1 + 1 by omega)
 generalize w.heap.size + 1 + 1 + 1 = bf at *
 generalize w.heap.size + 1 + 1 = bk at *
 generalize w.heap.size + 1 = bt at *
 obtain ⟨bd, hbd⟩ : ∃ b, w.heap.size = b := ⟨_, rfl⟩
 rw [hbd] at HC c0 ⊢
 have HBD := Lib.hid hbd
 clear hbd
 go_wp2_with fail
 (with_reducible refine HC.mono ?_)
 clear HC c0 c1
 cases R with
 | bad => exact absurd rfl HB.out
 | left k i a b d =>
  rintro e w3 ⟨rfl, hl⟩
  exact ⟨rfl, rfl, hl⟩
 | done d s3 =>
  rintro e w3 ⟨rfl, hi, hb3, hk⟩
  have c4 := hk.f_.2.1 0 _ rfl
  have f4 := hk.f_.2.2 0 (by simp)
  have HE := Lib.hid (And.intro hi hb3)
  clear hi hb3 hk
  unfold walkV
  generalize hq1 : predS d = pd
  generalize hq2 : curS d = cd
  generalize hq3 : ((d : Int) != 0) = okd
  generalize hq4 : ((codS d : Int) == 3) = fd at *
  have HQ := Lib.hid (show searchV d = .tuple #[.int .i64 (pd : Int), .int .i64 (cd : Int), .bool fd, .bool okd] by unfold searchV; rw [hq1, hq2, hq3, hq4])
  clear hq1 hq2 hq3 hq4
  go_wp2_with fail
  go_region
  all_goals
   go_wp2_with fail
   have hg := HGW.out
   have hi := HE.out.1
   have hb := HE.out.2
   exact bodyPost_ret (v := .tuple #[.int .i64 (pd : Int), .int .i64 (cd : Int), .bool fd, .bool okd]) (by simp [results, Tryz.results21, go_sem, c4]) rfl ⟨by rw [HQ.out], V.M.stay hi (by repeat (first | exact (Below.refl _ _).setCell (Nat.le_trans (HBW.out w3) HBF.out) _ | with_reducible refine Below.drew ?_)), by repeat (first | exact hb.new _ _ _ (Nat.le_of_lt hg) HBF.out | with_reducible refine But.drew ?_)⟩
structure BoxW (dv : Value) (g t k bd bt bk : Nat) (c : Nat) (w : World) : Prop where
 four : c < 4
 do_ : VarAt w bd [dv]
 t_ : VarAt w bt [.int .i64 (t : Int)]
 k_ : VarAt w bk [.int .u64 (k : Int)]
 gd : bd ≠ g
 gt : bt ≠ g
 gk : bk ≠ g
omit V in
theorem BoxW.but {g t k bd bt bk c : Nat} {w w' : World} (h : BoxW dv g t k bd bt bk c w) (hb : But g w w') : BoxW dv g t k bd bt bk c w' :=
 ⟨h.four, h.do_.but hb h.gd, h.t_.but hb h.gt, h.k_.but hb h.gk, h.gd, h.gt, h.gk⟩
omit V in
theorem BoxW.to {g t k bd bt bk c : Nat} {w : World} (h : BoxW dv g t k bd bt bk c w) (d : Nat) (hd : d < 4) : BoxW dv g t k bd bt bk d w := ⟨hd, h.do_, h.t_, h.k_, h.gd, h.gt, h.gk⟩
set_option maxHeartbeats 2000000 in
theorem sweep1_prg (t k n x v : Nat) (ht : t ≤ 64) (h1 : x ≠ 0) (hx : x < 1048576) (hv : v < 18446744073709551616) (hm : markB v = false) (bd bt bk : Nat) (g0 : World) (s : S) (hb : (Prd.lookW t k n x v).run V.tell s ≠ .bad) (z : World) (hI : V.M.I s z) (hbt : But V.M.g g0 z) (hK : BoxW dv V.M.g t k bd bt bk 0 z) :
  Calls Tryz.prog 56 #[.int .i64 (x : Int), .int .u64 (v : Int), .pointer (some ⟨bd, 0, none⟩), .pointer (some ⟨bt, 0, none⟩), .pointer (some ⟨bk, 0, none⟩)] z (RunK V g0 (BoxW dv V.M.g t k bd bt bk) stepV ((Prd.lookW t k n x v).run V.tell s)) := by
 generalize hR : (Prd.lookW t k n x v).run V.tell s = R at hb ⊢
 unfold Prd.lookW at hR
 have HL := partD V hb hR z (fun hb' => edge_prg V t x k ht (by omega) hx s hb' z hI)
 have HB := Lib.hid hb
 have HBT := Lib.hid hbt
 have HK := Lib.hid hK
 have HX := Lib.hid (And.intro ht (And.intro h1 (And.intro hx (And.intro hv hm))))
 have c0 := hK.do_.2.1 0 _ rfl
 have c1 := hK.t_.2.1 0 _ rfl
 have c2 := hK.k_.2.1 0 _ rfl
 clear hI hbt hK hR hb ht h1 hx hv hm
 go_enter Tryz.func56, Tryz.ntmps56
 go_wp2_with fail
 (with_reducible refine HL.mono ?_)
 clear HL c0 c1 c2
 rintro e w2 (⟨d, s2, rfl, hi, hbt, hr⟩ | ⟨k, j, a, b, d, hr, rfl, hl⟩)
 case inr => exact ⟨rfl, RunK.quit V ⟨k, j, a, b, d, hr, rfl, hl⟩⟩
 dsimp only at hr
 have HK2 := Lib.hid (HK.out.but hbt)
 have HB2 := Lib.hid (HBT.out.trans hbt)
 have c0 := HK2.out.do_.2.1 0 _ rfl
 have c1 := HK2.out.t_.2.1 0 _ rfl
 clear HK HBT hbt
 by_cases hd : d = 1
 ·rw [if_pos hd] at hr
  have dd := eq1 hd
  have hr1 : (Prd.ask 2 ((nextN t x : Nat) : Int) v (v + 1) [] fun d => if d = 1 then (Prd.set t x 2 n).bind fun _ => Prd.ret 1 else Prd.ret 1).run V.tell s2 = R := hr
  have HM := lMark_go V HB.out t x v HX.out.1 HX.out.2.2.1 HX.out.2.2.2.1 HX.out.2.2.2.2 hr1 w2 hi
  clear hr hr1 hd hi
  go_wp2_with fail
  (with_reducible refine HM.mono ?_)
  clear HM c0 c1 dd
  rintro e w3 (⟨d3, s3, rfl, hn, hi, hbt, hr⟩ | ⟨k, j, a, b, d, hr, rfl, hl⟩)
  case inr => exact ⟨rfl, RunK.quit V ⟨k, j, a, b, d, hr, rfl, hl⟩⟩
  dsimp only at hr
  have HK3 := Lib.hid (HK2.out.but hbt)
  have HB3 := Lib.hid (HB2.out.trans hbt)
  have c0 := HK3.out.do_.2.1 0 _ rfl
  have c1 := HK3.out.t_.2.1 0 _ rfl
  clear HK2 HB2 hbt hn
  by_cases hd3 : d3 = 1
  ·rw [if_pos hd3] at hr
   have dd := eq1 hd3
   have HS : Calls Tryz.prog 58 #[dv, .int .i64 (t : Int), .int .i64 (x : Int), .int .i64 2] w3 _ := partD V HB.out hr w3 (fun hb' => set_prg V t x 2 n HX.out.1 (by have := HX.out.2.1; omega) HX.out.2.2.1 (.inr rfl) s3 hb' w3 hi)
   clear hr hd3 hi
   go_wp2_with fail
   (with_reducible refine HS.mono ?_)
   clear HS c0 c1 dd
   rintro e w4 (⟨d4, s4, rfl, hi, hbt, hr⟩ | ⟨k, j, a, b, d, hr, rfl, hl⟩)
   case inr => exact ⟨rfl, RunK.quit V ⟨k, j, a, b, d, hr, rfl, hl⟩⟩
   dsimp only at hr
   have HE : Hid (RunK V g0 (BoxW dv V.M.g t k bd bt bk) stepV R (.returned (.int .i64 1)) w4) := Lib.hid (RunK.fin V (KO := BoxW dv V.M.g t k bd bt bk) (ret := stepV) hr hi (HB3.out.trans hbt) ((HK3.out.but hbt).to 1 (by decide)))
   clear hi hbt hr
   go_wp2_with fail
   go_ret
   exact HE.out
  ·rw [if_neg hd3] at hr
   have dd := ne1 hd3
   have HE : Hid (RunK V g0 (BoxW dv V.M.g t k bd bt bk) stepV R (.returned (.int .i64 1)) w3) := Lib.hid (RunK.fin V (KO := BoxW dv V.M.g t k bd bt bk) (ret := stepV) hr hi HB3.out (HK3.out.to 1 (by decide)))
   clear hi hr hd3
   go_wp2_with fail
   go_ret
   exact HE.out
 ·rw [if_neg hd] at hr
  have dd := ne1 hd
  have HE : Hid (RunK V g0 (BoxW dv V.M.g t k bd bt bk) stepV R (.returned (.int .i64 0)) w2) := Lib.hid (RunK.fin V (KO := BoxW dv V.M.g t k bd bt bk) (ret := stepV) hr hi HB2.out HK2.out)
  clear hi hr hd
  go_wp2_with fail
  go_ret
  exact HE.out
theorem lookW_k (t k n : Nat) (ht : t ≤ 64) (bd bt bk : Nat) (g0 : World) (hbeg : ∀ y, V.M.B y ≤ g0.heap.size) :
  LookK V g0 t (Prd.lookW t k n) 56 #[.pointer (some ⟨bd, 0, none⟩), .pointer (some ⟨bt, 0, none⟩), .pointer (some ⟨bk, 0, none⟩)] (BoxW dv V.M.g t k bd bt bk) where
 but := fun c x y h hxy => h.but hxy
 one := fun x h => h.to 0 (by decide)
 four := fun c x h => h.four
 call := sweep_call
 beg := hbeg
 lk := fun x v s z hx0 hx hv hm hi hb hk hbd => sweep1_prg V t k n x v ht hx0 hx hv hm bd bt bk g0 s hbd z hi hb hk
set_option maxHeartbeats 4000000 in
set_option maxRecDepth 100000 in
theorem sweep_prg (t k n : Nat) (ht : t ≤ 64) (s : S) (hb : (Prd.sweep t k n).run V.tell s ≠ .bad) (w : World) (hI : V.M.I s w) (hBw : ∀ y, V.M.B y ≤ w.heap.size) :
  Calls Tryz.prog 24 #[dv, .int .i64 (t : Int), .int .u64 (k : Int)] w (RunD14 V w (fun d => .bool ((d : Int) != 0)) ((Prd.sweep t k n).run V.tell s)) := by
 have hgw := V.lt hI
 have HLK := lookW_k V t k n ht w.heap.size (w.heap.size + 1) (w.heap.size + 1 + 1) w hBw
 have HW := walk_prg V t n ht (Prd.lookW t k n) _ _ _ w HLK n s hb
 change ∀ z, _ → _ → _ → _ at HW
 generalize hR : (Prd.sweep t k n).run V.tell s = R at hb ⊢
 rw [show (Prd.start t (Prd.lookW t k n) n n).run V.tell s = R from hR] at HW
 have HB := Lib.hid hb
 have HI := Lib.hid hI
 have HGW := Lib.hid hgw
 clear hI hBw hR ht hb hgw HLK
 obtain ⟨df, d1, d2, rfl⟩ := V.M.isFn
 go_enter Tryz.func24, Tryz.ntmps24
 go_upto_region 1 with fail
 refine gen_w (P := fun W => Code.wp _ _ _ _ W) (fun q => V.M.I s q ∧ But V.M.g w q ∧ BoxW (.func (.func df) d1 d2) V.M.g t k w.heap.size (w.heap.size + 1) (w.heap.size + 1 + 1) 0 q) (by
  obtain ⟨q1, q2, q3, hbl⟩ := three_boxes w (.func (.func df) d1 d2) (.int .i64 (t : Int)) (.int .u64 (k : Int)) 52 3 27
  have hg := HGW.out
  exact ⟨V.M.later HI.out hbl, But.of hbl (Nat.le_of_lt hg), ⟨by decide, q1, q2, q3, by omega, by omega, by omega⟩⟩) ?_
 rintro z0 ⟨hi, hbt, hk⟩
 have HC := HW z0 hi hbt hk
 have c0 := hk.do_.2.1 0 _ rfl
 have c1 := hk.t_.2.1 0 _ rfl
 clear hi hbt hk HW HI
 generalize w.heap.size + 1 + 1 = bk at *
 generalize w.heap.size + 1 = bt at *
 obtain ⟨bd, hbd⟩ : ∃ b, w.heap.size = b := ⟨_, rfl⟩
 rw [hbd] at HC c0 ⊢
 clear hbd
 go_wp2_with fail
 (with_reducible refine HC.mono ?_)
 clear HC c0 c1
 cases R with
 | bad => exact absurd rfl HB.out
 | left k i a b d =>
  rintro e w3 ⟨rfl, hl⟩
  exact ⟨rfl, rfl, hl⟩
 | done d s3 =>
  rintro e w3 ⟨rfl, hi, hb3, hk⟩
  have HE := Lib.hid (And.intro hi hb3)
  clear hi hb3 hk
  unfold walkV
  generalize predS d = pd
  generalize curS d = cd
  go_wp2_with fail
  go_ret
  exact ⟨rfl, HE.out.1, HE.out.2⟩
def seekV (d : Nat) : Value := .tuple #[.int .i64 ((d / 2 : Nat) : Int), .bool (decide (d % 2 = 1))]
structure SeekI (w0 : World) (t k : Nat) (R : RanD S) (m : Nat) (vx : Value) (w : World) : Prop where
 ex : ∃ (x : Nat) (s : S), vx = .int .i64 (x : Int) ∧ x < 1048576 ∧ V.M.I s w ∧ (Prd.seekL t k m x).run V.tell s = R
 but : But V.M.g w0 w
set_option maxHeartbeats 4000000 in
set_option maxRecDepth 100000 in
theorem seek_prg (t f k n : Nat) (ht : t ≤ 64) (hf : f < 1048576) (s : S) (hb : (Prd.seek t f k n).run V.tell s ≠ .bad) (w : World) (hI : V.M.I s w) :
  Calls Tryz.prog 25 #[dv, .int .i64 (t : Int), .int .i64 (f : Int), .int .u64 (k : Int)] w (RunD14 V w seekV ((Prd.seek t f k n).run V.tell s)) := by
 generalize hR : (Prd.seek t f k n).run V.tell s = R at hb ⊢
 unfold Prd.seek at hR
 have HL := lNext_go V hb t f ht hf hR
 have HT := Lib.hid ht
 have HB := Lib.hid hb
 have HI := Lib.hid hI
 clear hI hR ht hf hb
 go_enter Tryz.func25, Tryz.ntmps25
 go_wp2_with fail
 (with_reducible refine (HL _ HI.out).mono ?_)
 clear HL HI
 rintro e w2 (⟨y, s2, rfl, hn, hi, hbt, hr⟩ | ⟨k, j, a, b, d, hr, rfl, hl⟩)
 case inr => exact ⟨rfl, RunD14.quit V ⟨k, j, a, b, d, hr, rfl, hl⟩⟩
 dsimp only at hr
 have HRF := fun w => ref_any y hn w
 have hrl := refN_lt y
 have HJ0 := Lib.hid (show ∃ m, SeekI V w t k R m (.int .i64 ((refN y : Nat) : Int)) w2 from ⟨n, ⟨refN y, s2, rfl, hrl, hi, hr⟩, hbt⟩)
 clear hn hi hbt hr hrl
 generalize refN y = ry at *
 go_wp2_with (go_at_call 59; (with_reducible refine (HRF _).mono ?_); rintro e w' ⟨rfl, rfl⟩)
 clear HRF
 go_loopw [10] (fun vx wr => ∃ m, SeekI V w t k R m vx wr) (fun vx wr => cnt (fun m wr => SeekI V w t k R m vx wr) wr)
 case atStart => exact HJ0.out
 case round =>
  clear HJ0
  have hj := cnt_spec (J := fun m wr => SeekI V w t k R m u10 wr) hrel
  clear hrel
  generalize hm : cnt (fun m wr => SeekI V w t k R m u10 wr) wr = m at *
  have HM := Lib.hid hm
  clear hm
  obtain ⟨⟨x, s3, rfl, hx, hi, hr⟩, hbt⟩ := hj
  cases m with
  | zero => exact absurd hr.symm HB.out
  | succ m =>
  by_cases hx0 : x = 0
  ·subst hx0
   have hr1 : (Prd.ret 0).run V.tell s3 = R := hr
   have HE : Hid (RunD14 V w seekV R (.returned (.tuple #[.int .i64 0, .bool false])) wr) := Lib.hid (RunD14.fin V (w := w) (ret := seekV) hr1 hi hbt)
   clear hr hr1 hi hbt hx
   go_wp2_with fail
   exact bodyPost_ret (v := .tuple #[.int .i64 0, .bool false]) (by simp [results, Tryz.results25, go_sem]) rfl HE.out
  have dx : ((x : Int) != 0) = true := by rw [bne_iff_ne]; omega
  have hr1 : (Prd.ask 0 ((fieldN t x 1 : Nat) : Int) 0 0 [] fun a => if k ≤ a then Prd.ret (2 * x + if a = k then 1 else 0) else Prd.ask 0 ((fieldN t x 0 : Nat) : Int) 0 0 [] fun w => Prd.seekL t k m (refN w)).run V.tell s3 = R := by
   rw [← hr]
   conv => rhs; unfold Prd.seekL
   rw [if_neg hx0]
  rw [← nextN_pos hx0] at hr1
  have HL := lKey_go V HB.out t x HT.out (by omega) hx hr1
  have HX := Lib.hid (And.intro hx (Nat.pos_of_ne_zero hx0))
  have HI3 := Lib.hid hi
  have HB3 := Lib.hid hbt
  clear hi hbt hr hr1 hx0 hx
  go_wp2_with fail
  (with_reducible refine (HL _ HI3.out).mono ?_)
  clear HL HI3
  rintro e w4 (⟨a, s4, rfl, hn, hi, hbt, hr⟩ | ⟨k, j, a, b, d, hr, rfl, hl⟩)
  case inr => exact ⟨rfl, RunD14.quit V ⟨k, j, a, b, d, hr, rfl, hl⟩⟩
  dsimp only at hr
  have HB4 := Lib.hid (HB3.out.trans hbt)
  clear HB3 hbt hn
  by_cases hka : k ≤ a
  ·rw [if_pos hka] at hr
   have dk : decide (k ≤ a) = true := by rw [decide_eq_true_iff]; omega
   have HE := RunD14.fin V (w := w) (ret := seekV) hr hi HB4.out
   have e1 : seekV (2 * x + if a = k then 1 else 0) = .tuple #[.int .i64 (x : Int), .bool ((a : Int) == (k : Int))] := by
    have h1 : (2 * x + if a = k then 1 else 0) / 2 = x := by split <;> omega
    have h2 : decide ((2 * x + if a = k then 1 else 0) % 2 = 1) = ((a : Int) == (k : Int)) := by
     by_cases h : a = k
     ·subst h; simp
     ·have : ((a : Int) == (k : Int)) = false := by rw [beq_eq_false_iff_ne]; omega
      rw [this, if_neg h, decide_eq_false_iff_not]; omega
    unfold seekV
    rw [h1, h2]
   rw [e1] at HE
   replace HE := Lib.hid HE
   clear hi hr hka e1
   go_wp2_with fail
   exact bodyPost_ret (v := .tuple #[.int .i64 (x : Int), .bool ((a : Int) == (k : Int))]) (by simp [results, Tryz.results25, go_sem]) rfl HE.out
  ·rw [if_neg hka] at hr
   have dk : decide (k ≤ a) = false := by rw [decide_eq_false_iff_not]; omega
   have HL := lNext_go V HB.out t x HT.out HX.out.1 hr w4 hi
   clear hi hr hka
   go_wp2_with fail
   (with_reducible refine HL.mono ?_)
   clear HL
   rintro e w5 (⟨y5, s5, rfl, hn, hi, hbt, hr⟩ | ⟨k, j, a, b, d, hr, rfl, hl⟩)
   case inr => exact ⟨rfl, RunD14.quit V ⟨k, j, a, b, d, hr, rfl, hl⟩⟩
   dsimp only at hr
   have HRF := fun w => ref_any y5 hn w
   have HJ6 := Lib.hid (show SeekI V w t k R m (.int .i64 ((refN y5 : Nat) : Int)) w5 from ⟨⟨refN y5, s5, rfl, refN_lt y5, hi, hr⟩, HB4.out.trans hbt⟩)
   clear hn hi hbt hr
   generalize refN y5 = r5 at *
   go_wp2_with (go_at_call 59; (with_reducible refine (HRF _).mono ?_); rintro e w' ⟨rfl, rfl⟩)
   go_roundw
   case rel => exact ⟨m, HJ6.out⟩
   case measure => exact Nat.lt_of_lt_of_eq (cnt_lt (J := fun m wr => SeekI V w t k R m (.int .i64 ((r5 : Nat) : Int)) wr) HJ6.out (Nat.lt_succ_self m)) HM.out.symm
end
end Go.Proofs.YtibpfkcackdbgaaGreatDoor
namespace Go.Proofs.YtibpfkcackdbgaaGreatDoor
open Go.ChangeShapes Go.WideShapes Go.ChangeAt Go.RowKit Go.BigFrame
set_option linter.unusedVariables false
set_option maxRecDepth 100000
def lPrg (t : Nat) (k u v : Int) (x n : Nat) : Prd :=
 if k = 8 then Prd.search t x n else if k = 25 then Prd.seek t u.toNat x n else if k = 24 then Prd.link t u.toNat v.toNat x else if k = 9 then Prd.mark t u.toNat else if k = 10 then Prd.sweep t x n else .ret 0
def lErr (k : Int) (d : Nat) : Int := if k = 8 ∨ k = 10 then (if d = 0 then 7 else 0) else if k = 25 ∨ k = 24 ∨ k = 9 then 0 else 1
def lIs (k : Int) (d : Nat) : Bool := if k = 8 then ((codS d : Int) == 3) else if k = 25 then decide (d % 2 = 1) else if k = 24 ∨ k = 9 then ((d : Int) == 1) else false
def lN (k : Int) (d : Nat) : Nat := if k = 8 then curS d else if k = 25 then d / 2 else 0
def lW (k : Int) (d : Nat) : Nat := if k = 8 then predS d else 0
def lOut (k : Int) (d : Nat) : Value := .agg #[.int .i64 (lErr k d), .bool (lIs k d), .int .i64 (lN k d : Int), .int .u64 (lW k d : Int), .slice none 0 0]
def LOp (k u v : Int) (x : Nat) : Prop := (k = 9 → 1 ≤ u ∧ u < 1048576) ∧ (k = 24 → 0 ≤ u ∧ u < 1048576 ∧ 0 ≤ v ∧ v < 1048576 ∧ 1 ≤ x ∧ x < 1048576) ∧ (k = 25 → 0 ≤ u ∧ u < 1048576)
theorem lPrg_ok (t : Nat) (k u v : Int) (x n m : Nat) (h : m < n) : (lPrg t k u v x n).ok m := by
 unfold lPrg
 split
 ·exact Prd.ok_search _ _ n m h
 ·split
  ·exact Prd.ok_seek _ _ _ n m h
  ·split
   ·exact Prd.ok_link _ _ _ _ m
   ·split
    ·exact Prd.ok_mark _ _ m
    ·split
     ·exact Prd.ok_sweep _ _ n m h
     ·trivial
section
variable {dv : Value} {S : Type} (V : SrvD dv S)
set_option maxHeartbeats 8000000 in
set_option maxRecDepth 100000 in
theorem lAnswer_at (t : Nat) (ht : t ≤ 64) (k u v : Int) (x : Nat) (hx : x < 18446744073709551616) (hop : LOp k u v x) (n : Nat) (s : S) (R : RanD S) (hR : (lPrg t k u v x n).run V.tell s = R) (hb : R ≠ .bad) (w : World) (hI : V.M.I s w) (hgw : V.M.g < w.heap.size) (hBw : ∀ y, V.M.B y ≤ w.heap.size) :
  Calls Tryz.prog 84 #[dv, .int .i64 (t : Int), .agg #[.int .i64 k, .int .i64 u, .int .i64 v, .int .u64 (x : Int)]] w (RunD14 V w (lOut k) R) := by
 obtain ⟨gv, hgv⟩ : ∃ g, V.M.g = g := ⟨_, rfl⟩
 have n1 : ¬ (w.heap.size = gv) := by omega
 have n2 : ¬ (w.heap.size + 1 = gv) := by omega
 have n3 : ¬ (w.heap.size + 1 + 1 = gv) := by omega
 by_cases h8 : k = 8
 ·subst h8
  have hp : lPrg t 8 u v x n = Prd.search t x n := by unfold lPrg; rfl
  rw [hp] at hR
  have HC : ∀ y, w.heap.size ≤ y.heap.size → V.M.I s y → Calls Tryz.prog 21 #[dv, .int .i64 (t : Int), .int .u64 (x : Int)] y (RunD14 V y searchV R) := fun y hyw hI => by rw [← hR] at hb ⊢; exact search_prg V t x n ht s hb y hI (fun z => Nat.le_trans (hBw z) hyw)
  clear hop hp
  have HI := Lib.hid hI
  have HGV := Lib.hid hgv
  have HBW := Lib.hid hBw
  clear hI hR ht hx hgv hBw
  go_enter Tryz.func84, Tryz.ntmps84
  go_wp2_with fail
  refine gen_w (P := fun W => Calls _ _ _ W _) (fun y => Below w.heap.size w y ∧ y.heap.size = w.heap.size + 1 + 1 + 1 ∧ VarAt y (w.heap.size + 1) [.int .i64 0, .bool false, .int .i64 0, .int .u64 0, .slice none 0 0] ∧ VarAt y (w.heap.size + 1 + 1) [.int .i64 0, .bool false, .int .i64 0, .int .u64 0, .slice none 0 0]) ⟨belA, by simp, VarAt.mk5 (by simp), VarAt.mk5 (by simp)⟩ ?_
  rintro y ⟨k0, k1, k2, k3⟩
  have K0 := Lib.hid k0
  have K1 := Lib.hid k1
  have K2 := Lib.hid k2
  have K3 := Lib.hid k3
  clear k0 k1 k2 k3
  refine (HC y K0.out.size (V.M.later HI.out K0.out)).mono ?_
  clear HC
  cases R with
  | bad => exact absurd rfl hb
  | left k i a b d =>
   rintro e w2 ⟨rfl, hl⟩
   exact ⟨rfl, rfl, hl⟩
  | done r s2 =>
   rintro e w2 ⟨rfl, hi, hbt⟩
   have hyz := K1.out
   have hg := HGV.out
   rw [hg] at hbt
   obtain ⟨_, ⟨a1, a2, a3, a4, a5⟩, b1, b2, b3, b4, b5⟩ := (K2.out.but hbt n2).five
   obtain ⟨_, ⟨c1, c2, c3, c4, c5⟩, d1', d2', d3', d4', d5'⟩ := (K3.out.but hbt n3).five
   have hsz := hbt.size
   have m1 : w.heap.size + 1 < w2.heap.size := by omega
   have m2 : w.heap.size + 1 + 1 < w2.heap.size := by omega
   have HW : Hid (But gv w w2) := Lib.hid ((But.of K0.out (by omega)).trans hbt)
   have HI2 := Lib.hid hi
   have HV2 := Lib.hid (K2.out.but hbt n2)
   have HU2 := Lib.hid (K3.out.but hbt n3)
   have nb : w.heap.size + 1 + 1 ≠ w.heap.size + 1 := by omega
   clear hi hbt hyz hg
   by_cases hr0 : r = 0
   ·subst hr0
    rw [show searchV 0 = .tuple #[.int .i64 0, .int .i64 0, .bool false, .bool false] from rfl]
    have HE := Lib.hid (show lOut 8 0 = .agg #[.int .i64 7, .bool false, .int .i64 0, .int .u64 0, .slice none 0 0] from rfl)
    go_upto_region 7 with fail
    refine gen_w (P := fun W => Code.wp _ _ _ _ W) (fun q => V.M.I s2 q ∧ But gv w q ∧ VarAt q (w.heap.size + 1) [.int .i64 0, .bool false, .int .i64 0, .int .u64 0, .slice none 0 0] ∧ VarAt q (w.heap.size + 1 + 1) [.int .i64 0, .bool false, .int .i64 0, .int .u64 0, .slice none 0 0]) (by
     have hbw := HW.out
     have hg := HGV.out
     exact ⟨V.M.stay HI2.out (Below.mono (B := w.heap.size) (by repeat (first | with_reducible exact Below.refl _ _ | with_reducible refine Below.drew ?_ | with_reducible refine below_al ?_ | (refine Below.setCell ?_ (show w.heap.size ≤ _ by (try simp only []); omega) _))) (HBW.out _)), butA, (((((HV2.out.apart 0 _ nb).apart 1 _ nb).apart 2 _ nb).apart 3 _ nb).apart 4 _ nb), (((((HU2.out.setAt 0 _ (by simp)).setAt 1 _ (by simp)).setAt 2 _ (by simp)).setAt 3 _ (by simp)).setAt 4 _ (by simp))⟩) ?_
    rintro q3 ⟨hi, hbw, hv1, hv2⟩
    clear a1 a2 a3 a4 a5 b1 b2 b3 b4 b5 c1 c2 c3 c4 c5 d1' d2' d3' d4' d5' m1 m2 HI2 HW HV2 HU2
    have HI3 := Lib.hid hi
    have HW3 := Lib.hid hbw
    have HV3 := Lib.hid hv1
    have HU3 := Lib.hid hv2
    obtain ⟨m1, ⟨a1, a2, a3, a4, a5⟩, b1, b2, b3, b4, b5⟩ := hv1.five
    obtain ⟨m2, ⟨c1, c2, c3, c4, c5⟩, d1', d2', d3', d4', d5'⟩ := hv2.five
    clear hi hbw hv1 hv2
    go_upto_region 18 with fail
    refine gen_w (P := fun W => Code.wp _ _ _ _ W) (fun q => V.M.I s2 q ∧ But gv w q ∧ VarAt q (w.heap.size + 1) [.int .i64 0, .bool false, .int .i64 0, .int .u64 0, .slice none 0 0] ∧ VarAt q (w.heap.size + 1 + 1) [.int .i64 7, .bool false, .int .i64 0, .int .u64 0, .slice none 0 0]) (by
     have hbw := HW3.out
     have hg := HGV.out
     exact ⟨V.M.stay HI3.out (Below.mono (B := w.heap.size) (by repeat (first | with_reducible exact Below.refl _ _ | with_reducible refine Below.drew ?_ | with_reducible refine below_al ?_ | (refine Below.setCell ?_ (show w.heap.size ≤ _ by (try simp only []); omega) _))) (HBW.out _)), butA, (((((HV3.out.apart 0 _ nb).apart 1 _ nb).apart 2 _ nb).apart 3 _ nb).apart 4 _ nb), (((((HU3.out.setAt 0 _ (by simp)).setAt 1 _ (by simp)).setAt 2 _ (by simp)).setAt 3 _ (by simp)).setAt 4 _ (by simp))⟩) ?_
    rintro q4 ⟨hi, hbw, hv1, hv2⟩
    clear a1 a2 a3 a4 a5 b1 b2 b3 b4 b5 c1 c2 c3 c4 c5 d1' d2' d3' d4' d5' m1 m2 HI3 HW3 HV3 HU3
    have HI4 := Lib.hid hi
    have HW4 := Lib.hid hbw
    have HV4 := Lib.hid hv1
    have HU4 := Lib.hid hv2
    obtain ⟨m1, ⟨a1, a2, a3, a4, a5⟩, b1, b2, b3, b4, b5⟩ := hv1.five
    obtain ⟨m2, ⟨c1, c2, c3, c4, c5⟩, d1', d2', d3', d4', d5'⟩ := hv2.five
    clear hi hbw hv1 hv2
    go_wp2_with fail
    have hg := HGV.out
    have hbw := HW4.out
    refine bodyPost_ret (v := .agg #[.int .i64 7, .bool false, .int .i64 0, .int .u64 0, .slice none 0 0]) (by simp [results, Tryz.results84, go_sem, a1, a2, a3, a4, a5]) rfl ⟨congrArg Ending.returned HE.out.symm, V.M.stay HI4.out (Below.mono (B := w.heap.size) (by repeat (first | with_reducible exact Below.refl _ _ | with_reducible refine Below.drew ?_ | with_reducible refine below_al ?_ | (refine Below.setCell ?_ (show w.heap.size ≤ _ by (try simp only []); omega) _))) (HBW.out _)), ?_⟩
    rw [hg]
    exact butA
   ·have hp : predS r < 1048576 := Nat.mod_lt _ (by decide)
    have hok : ((r : Int) != 0) = true := by rw [bne_iff_ne]; omega
    have hpw : IntKind.u64.wrap ((predS r : Nat) : Int) = ((predS r : Nat) : Int) := by rw [IntKind.wrap_u64]; omega
    have HE := Lib.hid (show lOut 8 r = .agg #[.int .i64 0, .bool ((codS r : Int) == 3), .int .i64 ((curS r : Nat) : Int), .int .u64 ((predS r : Nat) : Int), .slice none 0 0] by unfold lOut lErr; rw [if_pos (by decide), if_neg hr0]; rfl)
    unfold searchV
    rw [hok]
    generalize predS r = pd at *
    generalize curS r = cd at *
    generalize ((codS r : Int) == 3) = fd at *
    clear hp hok hr0
    go_upto_region 7 with fail
    refine gen_w (P := fun W => Code.wp _ _ _ _ W) (fun q => V.M.I s2 q ∧ But gv w q ∧ VarAt q (w.heap.size + 1) [.int .i64 0, .bool false, .int .i64 0, .int .u64 0, .slice none 0 0] ∧ VarAt q (w.heap.size + 1 + 1) [.int .i64 0, .bool fd, .int .i64 (cd : Int), .int .u64 (pd : Int), .slice none 0 0]) (by
     have hbw := HW.out
     have hg := HGV.out
     exact ⟨V.M.stay HI2.out (Below.mono (B := w.heap.size) (by repeat (first | with_reducible exact Below.refl _ _ | with_reducible refine Below.drew ?_ | with_reducible refine below_al ?_ | (refine Below.setCell ?_ (show w.heap.size ≤ _ by (try simp only []); omega) _))) (HBW.out _)), butA, (((((HV2.out.apart 0 _ nb).apart 1 _ nb).apart 2 _ nb).apart 3 _ nb).apart 4 _ nb), (((((HU2.out.setAt 0 _ (by simp)).setAt 1 _ (by simp)).setAt 2 _ (by simp)).setAt 3 _ (by simp)).setAt 4 _ (by simp))⟩) ?_
    rintro q3 ⟨hi, hbw, hv1, hv2⟩
    clear a1 a2 a3 a4 a5 b1 b2 b3 b4 b5 c1 c2 c3 c4 c5 d1' d2' d3' d4' d5' m1 m2 HI2 HW HV2 HU2
    have HI3 := Lib.hid hi
    have HW3 := Lib.hid hbw
    have HV3 := Lib.hid hv1
    have HU3 := Lib.hid hv2
    obtain ⟨m1, ⟨a1, a2, a3, a4, a5⟩, b1, b2, b3, b4, b5⟩ := hv1.five
    obtain ⟨m2, ⟨c1, c2, c3, c4, c5⟩, d1', d2', d3', d4', d5'⟩ := hv2.five
    clear hi hbw hv1 hv2
    go_wp2_with fail
    have hg := HGV.out
    have hbw := HW3.out
    refine bodyPost_ret (v := .agg #[.int .i64 0, .bool fd, .int .i64 (cd : Int), .int .u64 (pd : Int), .slice none 0 0]) (by simp [results, Tryz.results84, go_sem, a1, a2, a3, a4, a5]) rfl ⟨congrArg Ending.returned HE.out.symm, V.M.stay HI3.out (Below.mono (B := w.heap.size) (by repeat (first | with_reducible exact Below.refl _ _ | with_reducible refine Below.drew ?_ | with_reducible refine below_al ?_ | (refine Below.setCell ?_ (show w.heap.size ≤ _ by (try simp only []); omega) _))) (HBW.out _)), ?_⟩
    rw [hg]
    exact butA
 by_cases h25 : k = 25
 ·subst h25
  obtain ⟨u0, u1⟩ := hop.2.2 rfl
  obtain ⟨ur, rfl⟩ : ∃ ur : Nat, u = (ur : Int) := ⟨u.toNat, by omega⟩
  have hut : ((ur : Int)).toNat = ur := Int.toNat_natCast ur
  have hu2 : ur < 1048576 := by omega
  have hp : lPrg t 25 (ur : Int) v x n = Prd.seek t ur x n := by unfold lPrg; rw [hut]; rfl
  rw [hp] at hR
  have HC : ∀ y, w.heap.size ≤ y.heap.size → V.M.I s y → Calls Tryz.prog 25 #[dv, .int .i64 (t : Int), .int .i64 (ur : Int), .int .u64 (x : Int)] y (RunD14 V y seekV R) := fun y hyw hI => by rw [← hR] at hb ⊢; exact seek_prg V t ur x n ht hu2 s hb y hI
  clear hop hp
  have HI := Lib.hid hI
  have HGV := Lib.hid hgv
  have HBW := Lib.hid hBw
  clear hI hR ht hx hgv hBw
  go_enter Tryz.func84, Tryz.ntmps84
  go_wp2_with fail
  refine gen_w (P := fun W => Calls _ _ _ W _) (fun y => Below w.heap.size w y ∧ y.heap.size = w.heap.size + 1 + 1 + 1 ∧ VarAt y (w.heap.size + 1) [.int .i64 0, .bool false, .int .i64 0, .int .u64 0, .slice none 0 0] ∧ VarAt y (w.heap.size + 1 + 1) [.int .i64 0, .bool false, .int .i64 0, .int .u64 0, .slice none 0 0]) ⟨belA, by simp, VarAt.mk5 (by simp), VarAt.mk5 (by simp)⟩ ?_
  rintro y ⟨k0, k1, k2, k3⟩
  have K0 := Lib.hid k0
  have K1 := Lib.hid k1
  have K2 := Lib.hid k2
  have K3 := Lib.hid k3
  clear k0 k1 k2 k3
  refine (HC y K0.out.size (V.M.later HI.out K0.out)).mono ?_
  clear HC
  cases R with
  | bad => exact absurd rfl hb
  | left k i a b d =>
   rintro e w2 ⟨rfl, hl⟩
   exact ⟨rfl, rfl, hl⟩
  | done r s2 =>
   rintro e w2 ⟨rfl, hi, hbt⟩
   have hyz := K1.out
   have hg := HGV.out
   rw [hg] at hbt
   obtain ⟨_, ⟨a1, a2, a3, a4, a5⟩, b1, b2, b3, b4, b5⟩ := (K2.out.but hbt n2).five
   obtain ⟨_, ⟨c1, c2, c3, c4, c5⟩, d1', d2', d3', d4', d5'⟩ := (K3.out.but hbt n3).five
   have hsz := hbt.size
   have m1 : w.heap.size + 1 < w2.heap.size := by omega
   have m2 : w.heap.size + 1 + 1 < w2.heap.size := by omega
   have HW : Hid (But gv w w2) := Lib.hid ((But.of K0.out (by omega)).trans hbt)
   have HI2 := Lib.hid hi
   clear hi hbt hyz hg
   have HE := Lib.hid (show lOut 25 r = .agg #[.int .i64 0, .bool (decide (r % 2 = 1)), .int .i64 ((r / 2 : Nat) : Int), .int .u64 0, .slice none 0 0] from rfl)
   unfold seekV
   generalize r / 2 = cd at *
   generalize decide (r % 2 = 1) = fd at *
   go_wp2_with fail
   have hg := HGV.out
   have hbw := HW.out
   refine bodyPost_ret (v := .agg #[.int .i64 0, .bool fd, .int .i64 (cd : Int), .int .u64 0, .slice none 0 0]) (by simp [results, Tryz.results84, go_sem, a1, a2, a3, a4, a5]) rfl ⟨congrArg Ending.returned HE.out.symm, V.M.stay HI2.out (Below.mono (B := w.heap.size) (by repeat (first | with_reducible exact Below.refl _ _ | with_reducible refine Below.drew ?_ | with_reducible refine below_al ?_ | (refine Below.setCell ?_ (show w.heap.size ≤ _ by (try simp only []); omega) _))) (HBW.out _)), ?_⟩
   rw [hg]
   exact butA
 by_cases h24 : k = 24
 ·subst h24
  obtain ⟨u0, u1, v0, v1, x0, x1⟩ := hop.2.1 rfl
  obtain ⟨ur, rfl⟩ : ∃ ur : Nat, u = (ur : Int) := ⟨u.toNat, by omega⟩
  have hut : ((ur : Int)).toNat = ur := Int.toNat_natCast ur
  have hu2 : ur < 1048576 := by omega
  obtain ⟨vr, rfl⟩ : ∃ vr : Nat, v = (vr : Int) := ⟨v.toNat, by omega⟩
  have hvt : ((vr : Int)).toNat = vr := Int.toNat_natCast vr
  have hv2 : vr < 1048576 := by omega
  have hxw : IntKind.i64.wrap (x : Int) = (x : Int) := by rw [IntKind.wrap_i64]; omega
  have hp : lPrg t 24 (ur : Int) (vr : Int) x n = Prd.link t ur vr x := by unfold lPrg; rw [hut, hvt]; rfl
  rw [hp] at hR
  have HC : ∀ y, w.heap.size ≤ y.heap.size → V.M.I s y → Calls Tryz.prog 22 #[dv, .int .i64 (t : Int), .int .i64 (ur : Int), .int .i64 (vr : Int), .int .i64 (x : Int)] y (RunD14 V y (fun d => .bool ((d : Int) == 1)) R) := fun y hyw hI => by rw [← hR] at hb ⊢; exact link_prg V t ur vr x ht hu2 hv2 x1 s hb y hI
  clear hop hp
  have HI := Lib.hid hI
  have HGV := Lib.hid hgv
  have HBW := Lib.hid hBw
  clear hI hR ht hx hgv hBw
  go_enter Tryz.func84, Tryz.ntmps84
  go_wp2_with fail
  refine gen_w (P := fun W => Calls _ _ _ W _) (fun y => Below w.heap.size w y ∧ y.heap.size = w.heap.size + 1 + 1 + 1 ∧ VarAt y (w.heap.size + 1) [.int .i64 0, .bool false, .int .i64 0, .int .u64 0, .slice none 0 0] ∧ VarAt y (w.heap.size + 1 + 1) [.int .i64 0, .bool false, .int .i64 0, .int .u64 0, .slice none 0 0]) ⟨belA, by simp, VarAt.mk5 (by simp), VarAt.mk5 (by simp)⟩ ?_
  rintro y ⟨k0, k1, k2, k3⟩
  have K0 := Lib.hid k0
  have K1 := Lib.hid k1
  have K2 := Lib.hid k2
  have K3 := Lib.hid k3
  clear k0 k1 k2 k3
  refine (HC y K0.out.size (V.M.later HI.out K0.out)).mono ?_
  clear HC
  cases R with
  | bad => exact absurd rfl hb
  | left k i a b d =>
   rintro e w2 ⟨rfl, hl⟩
   exact ⟨rfl, rfl, hl⟩
  | done r s2 =>
   rintro e w2 ⟨rfl, hi, hbt⟩
   have hyz := K1.out
   have hg := HGV.out
   rw [hg] at hbt
   obtain ⟨_, ⟨a1, a2, a3, a4, a5⟩, b1, b2, b3, b4, b5⟩ := (K2.out.but hbt n2).five
   obtain ⟨_, ⟨c1, c2, c3, c4, c5⟩, d1', d2', d3', d4', d5'⟩ := (K3.out.but hbt n3).five
   have hsz := hbt.size
   have m1 : w.heap.size + 1 < w2.heap.size := by omega
   have m2 : w.heap.size + 1 + 1 < w2.heap.size := by omega
   have HW : Hid (But gv w w2) := Lib.hid ((But.of K0.out (by omega)).trans hbt)
   have HI2 := Lib.hid hi
   clear hi hbt hyz hg
   have HE := Lib.hid (show lOut 24 r = .agg #[.int .i64 0, .bool ((r : Int) == 1), .int .i64 0, .int .u64 0, .slice none 0 0] from rfl)
   go_wp2_with fail
   have hg := HGV.out
   have hbw := HW.out
   refine bodyPost_ret (v := .agg #[.int .i64 0, .bool ((r : Int) == 1), .int .i64 0, .int .u64 0, .slice none 0 0]) (by simp [results, Tryz.results84, go_sem, a1, a2, a3, a4, a5]) rfl ⟨congrArg Ending.returned HE.out.symm, V.M.stay HI2.out (Below.mono (B := w.heap.size) (by repeat (first | with_reducible exact Below.refl _ _ | with_reducible refine Below.drew ?_ | with_reducible refine below_al ?_ | (refine Below.setCell ?_ (show w.heap.size ≤ _ by (try simp only []); omega) _))) (HBW.out _)), ?_⟩
   rw [hg]
   exact butA
 by_cases h9 : k = 9
 ·subst h9
  obtain ⟨u0, u1⟩ := hop.1 rfl
  obtain ⟨ur, rfl⟩ : ∃ ur : Nat, u = (ur : Int) := ⟨u.toNat, by omega⟩
  have hut : ((ur : Int)).toNat = ur := Int.toNat_natCast ur
  have hu2 : ur < 1048576 := by omega
  have hp : lPrg t 9 (ur : Int) v x n = Prd.mark t ur := by unfold lPrg; rw [hut]; rfl
  rw [hp] at hR
  have HC : ∀ y, w.heap.size ≤ y.heap.size → V.M.I s y → Calls Tryz.prog 23 #[dv, .int .i64 (t : Int), .int .i64 (ur : Int)] y (RunD14 V y (fun d => .bool ((d : Int) == 1)) R) := fun y hyw hI => by rw [← hR] at hb ⊢; exact mark_prg V t ur ht hu2 s hb y hI
  clear hop hp
  have HI := Lib.hid hI
  have HGV := Lib.hid hgv
  have HBW := Lib.hid hBw
  clear hI hR ht hx hgv hBw
  go_enter Tryz.func84, Tryz.ntmps84
  go_wp2_with fail
  refine gen_w (P := fun W => Calls _ _ _ W _) (fun y => Below w.heap.size w y ∧ y.heap.size = w.heap.size + 1 + 1 + 1 ∧ VarAt y (w.heap.size + 1) [.int .i64 0, .bool false, .int .i64 0, .int .u64 0, .slice none 0 0] ∧ VarAt y (w.heap.size + 1 + 1) [.int .i64 0, .bool false, .int .i64 0, .int .u64 0, .slice none 0 0]) ⟨belA, by simp, VarAt.mk5 (by simp), VarAt.mk5 (by simp)⟩ ?_
  rintro y ⟨k0, k1, k2, k3⟩
  have K0 := Lib.hid k0
  have K1 := Lib.hid k1
  have K2 := Lib.hid k2
  have K3 := Lib.hid k3
  clear k0 k1 k2 k3
  refine (HC y K0.out.size (V.M.later HI.out K0.out)).mono ?_
  clear HC
  cases R with
  | bad => exact absurd rfl hb
  | left k i a b d =>
   rintro e w2 ⟨rfl, hl⟩
   exact ⟨rfl, rfl, hl⟩
  | done r s2 =>
   rintro e w2 ⟨rfl, hi, hbt⟩
   have hyz := K1.out
   have hg := HGV.out
   rw [hg] at hbt
   obtain ⟨_, ⟨a1, a2, a3, a4, a5⟩, b1, b2, b3, b4, b5⟩ := (K2.out.but hbt n2).five
   obtain ⟨_, ⟨c1, c2, c3, c4, c5⟩, d1', d2', d3', d4', d5'⟩ := (K3.out.but hbt n3).five
   have hsz := hbt.size
   have m1 : w.heap.size + 1 < w2.heap.size := by omega
   have m2 : w.heap.size + 1 + 1 < w2.heap.size := by omega
   have HW : Hid (But gv w w2) := Lib.hid ((But.of K0.out (by omega)).trans hbt)
   have HI2 := Lib.hid hi
   clear hi hbt hyz hg
   have HE := Lib.hid (show lOut 9 r = .agg #[.int .i64 0, .bool ((r : Int) == 1), .int .i64 0, .int .u64 0, .slice none 0 0] from rfl)
   go_wp2_with fail
   have hg := HGV.out
   have hbw := HW.out
   refine bodyPost_ret (v := .agg #[.int .i64 0, .bool ((r : Int) == 1), .int .i64 0, .int .u64 0, .slice none 0 0]) (by simp [results, Tryz.results84, go_sem, a1, a2, a3, a4, a5]) rfl ⟨congrArg Ending.returned HE.out.symm, V.M.stay HI2.out (Below.mono (B := w.heap.size) (by repeat (first | with_reducible exact Below.refl _ _ | with_reducible refine Below.drew ?_ | with_reducible refine below_al ?_ | (refine Below.setCell ?_ (show w.heap.size ≤ _ by (try simp only []); omega) _))) (HBW.out _)), ?_⟩
   rw [hg]
   exact butA
 by_cases h10 : k = 10
 ·subst h10
  have hp : lPrg t 10 u v x n = Prd.sweep t x n := by unfold lPrg; rfl
  rw [hp] at hR
  have HC : ∀ y, w.heap.size ≤ y.heap.size → V.M.I s y → Calls Tryz.prog 24 #[dv, .int .i64 (t : Int), .int .u64 (x : Int)] y (RunD14 V y (fun d => .bool ((d : Int) != 0)) R) := fun y hyw hI => by rw [← hR] at hb ⊢; exact sweep_prg V t x n ht s hb y hI (fun z => Nat.le_trans (hBw z) hyw)
  clear hop hp
  have HI := Lib.hid hI
  have HGV := Lib.hid hgv
  have HBW := Lib.hid hBw
  clear hI hR ht hx hgv hBw
  go_enter Tryz.func84, Tryz.ntmps84
  go_wp2_with fail
  refine gen_w (P := fun W => Calls _ _ _ W _) (fun y => Below w.heap.size w y ∧ y.heap.size = w.heap.size + 1 + 1 + 1 ∧ VarAt y (w.heap.size + 1) [.int .i64 0, .bool false, .int .i64 0, .int .u64 0, .slice none 0 0] ∧ VarAt y (w.heap.size + 1 + 1) [.int .i64 0, .bool false, .int .i64 0, .int .u64 0, .slice none 0 0]) ⟨belA, by simp, VarAt.mk5 (by simp), VarAt.mk5 (by simp)⟩ ?_
  rintro y ⟨k0, k1, k2, k3⟩
  have K0 := Lib.hid k0
  have K1 := Lib.hid k1
  have K2 := Lib.hid k2
  have K3 := Lib.hid k3
  clear k0 k1 k2 k3
  refine (HC y K0.out.size (V.M.later HI.out K0.out)).mono ?_
  clear HC
  cases R with
  | bad => exact absurd rfl hb
  | left k i a b d =>
   rintro e w2 ⟨rfl, hl⟩
   exact ⟨rfl, rfl, hl⟩
  | done r s2 =>
   rintro e w2 ⟨rfl, hi, hbt⟩
   have hyz := K1.out
   have hg := HGV.out
   rw [hg] at hbt
   obtain ⟨_, ⟨a1, a2, a3, a4, a5⟩, b1, b2, b3, b4, b5⟩ := (K2.out.but hbt n2).five
   obtain ⟨_, ⟨c1, c2, c3, c4, c5⟩, d1', d2', d3', d4', d5'⟩ := (K3.out.but hbt n3).five
   have hsz := hbt.size
   have m1 : w.heap.size + 1 < w2.heap.size := by omega
   have m2 : w.heap.size + 1 + 1 < w2.heap.size := by omega
   have HW : Hid (But gv w w2) := Lib.hid ((But.of K0.out (by omega)).trans hbt)
   have HI2 := Lib.hid hi
   clear hi hbt hyz hg
   by_cases hr0 : r = 0
   ·subst hr0
    have HE := Lib.hid (show lOut 10 0 = .agg #[.int .i64 7, .bool false, .int .i64 0, .int .u64 0, .slice none 0 0] from rfl)
    go_wp2_with fail
    have hg := HGV.out
    have hbw := HW.out
    refine bodyPost_ret (v := .agg #[.int .i64 7, .bool false, .int .i64 0, .int .u64 0, .slice none 0 0]) (by simp [results, Tryz.results84, go_sem, a1, a2, a3, a4, a5]) rfl ⟨congrArg Ending.returned HE.out.symm, V.M.stay HI2.out (Below.mono (B := w.heap.size) (by repeat (first | with_reducible exact Below.refl _ _ | with_reducible refine Below.drew ?_ | with_reducible refine below_al ?_ | (refine Below.setCell ?_ (show w.heap.size ≤ _ by (try simp only []); omega) _))) (HBW.out _)), ?_⟩
    rw [hg]
    exact butA
   ·have hok : ((r : Int) != 0) = true := by rw [bne_iff_ne]; omega
    have HE := Lib.hid (show lOut 10 r = .agg #[.int .i64 0, .bool false, .int .i64 0, .int .u64 0, .slice none 0 0] by unfold lOut lErr; rw [if_pos (by decide), if_neg hr0]; rfl)
    clear hr0
    go_wp2_with fail
    have hg := HGV.out
    have hbw := HW.out
    refine bodyPost_ret (v := .agg #[.int .i64 0, .bool false, .int .i64 0, .int .u64 0, .slice none 0 0]) (by simp [results, Tryz.results84, go_sem, a1, a2, a3, a4, a5]) rfl ⟨congrArg Ending.returned HE.out.symm, V.M.stay HI2.out (Below.mono (B := w.heap.size) (by repeat (first | with_reducible exact Below.refl _ _ | with_reducible refine Below.drew ?_ | with_reducible refine below_al ?_ | (refine Below.setCell ?_ (show w.heap.size ≤ _ by (try simp only []); omega) _))) (HBW.out _)), ?_⟩
    rw [hg]
    exact butA
 have hp : lPrg t k u v x n = .ret 0 := by unfold lPrg; rw [if_neg h8, if_neg h25, if_neg h24, if_neg h9, if_neg h10]
 rw [hp] at hR
 have hee : lOut k 0 = .agg #[.int .i64 1, .bool false, .int .i64 0, .int .u64 0, .slice none 0 0] := by unfold lOut lErr lIs lN lW; rw [if_neg (by omega), if_neg (by omega), if_neg h8, if_neg h25, if_neg (by omega), if_neg h8, if_neg h25, if_neg h8]; rfl
 have e8 : ((k : Int) == 8) = false := by rw [beq_eq_false_iff_ne]; exact h8
 have e25 : ((k : Int) == 25) = false := by rw [beq_eq_false_iff_ne]; exact h25
 have e24 : ((k : Int) == 24) = false := by rw [beq_eq_false_iff_ne]; exact h24
 have e9 : ((k : Int) == 9) = false := by rw [beq_eq_false_iff_ne]; exact h9
 have e10 : ((k : Int) == 10) = false := by rw [beq_eq_false_iff_ne]; exact h10
 rw [← hR]
 have HI := Lib.hid hI
 have HGV := Lib.hid hgv
 have HBW := Lib.hid hBw
 have HE := Lib.hid hee
 clear hI hR ht hx hgv hBw hop h8 h25 h24 h9 h10 hb hp hee
 go_enter Tryz.func84, Tryz.ntmps84
 go_wp2_with fail
 have hg := HGV.out
 refine bodyPost_ret (v := .agg #[.int .i64 1, .bool false, .int .i64 0, .int .u64 0, .slice none 0 0]) (by simp [results, Tryz.results84, go_sem]) rfl ⟨congrArg Ending.returned HE.out.symm, V.M.stay HI.out (Below.mono (B := w.heap.size) (by repeat (first | with_reducible exact Below.refl _ _ | with_reducible refine Below.drew ?_ | with_reducible refine below_al ?_ | (refine Below.setCell ?_ (show w.heap.size ≤ _ by (try simp only []); omega) _))) (HBW.out _)), ?_⟩
 rw [hg]
 have hbw : But gv w w := But.refl _ _
 exact butA
end
end Go.Proofs.YtibpfkcackdbgaaGreatDoor
