/- LstChain -/
import Derived.Test.YtibpfkcackdbgaaGreatDoorLstC
namespace Go.Proofs.YtibpfkcackdbgaaGreatDoor
open Go.ChangeShapes Go.WideShapes Go.ChangeAt Go.RowKit Go.BigFrame
set_option linter.unusedVariables false
set_option maxRecDepth 100000
theorem setW_ne {G : Nat → Nat} {i v q : Nat} (h : q ≠ i) : setW G i v q = G q := by unfold setW; rw [if_neg h]
theorem setW_eq {G : Nat → Nat} {i v : Nat} : setW G i v i = v := by unfold setW; rw [if_pos rfl]
def nf : Nat → Bool := fun _ => false
namespace Prd
section
variable {n me : Nat} {W : WS} {j : Nat}
def retG (t x : Nat) (G : Nat → Nat) : Nat → Nat := setW (setW G (fieldN t x 7) (G (limboN (G 3)))) (limboN (G 3)) x
theorem limbo_small (e : Nat) : 4 ≤ limboN e ∧ limboN e < 7 := by unfold limboN; omega
theorem retire_run {t x f : Nat} (hn : fieldN t x 7 < n) (hx : 1 ≤ x) (hW : ∀ q, W.1 q < 18446744073709551616) :
  (Prg.retire t x (f + 1)).up.run (wTell n me nf) (W, j) = .done 0 ((retG t x W.1, W.2), j + 4) := by
 have hl := limbo_small (W.1 3)
 have hf : 8 ≤ fieldN t x 7 := by unfold fieldN; omega
 have e1 : (Prg.retire t x (f + 1)).up = ask 0 ((3 : Nat) : Int) 0 0 [] fun e => (Prg.retireL t x (limboN e) (f + 1)).up := rfl
 rw [e1, run_load (by omega) hW]
 generalize hL : limboN (W.1 3) = l at *
 have e2 : (Prg.retireL t x l (f + 1)).up = ask 0 ((l : Nat) : Int) 0 0 [] fun h => ask 1 ((fieldN t x 7 : Nat) : Int) h 0 [] fun _ => ask 2 ((l : Nat) : Int) h x [] fun d => (if d = 1 then Prg.ret 0 else Prg.retireL t x l f).up := rfl
 rw [e2, run_load (show l < n by omega) hW, run_store hn hW]
 have w1 := setW_lt hW (i := fieldN t x 7) (hW l)
 have h2 := run_cas (n := n) (me := me) (fail := nf) (j := j + 1 + 1 + 1) (W := (setW W.1 (fieldN t x 7) (W.1 l), W.2)) (i := l) (by omega) w1 x fun d => (if d = 1 then Prg.ret 0 else Prg.retireL t x l f).up
 rw [show (setW W.1 (fieldN t x 7) (W.1 l), W.2).1 l = W.1 l from setW_ne (by omega)] at h2
 rw [h2]
 unfold retG
 rw [hL]
 rfl
def outG (t p x v : Nat) (G : Nat → Nat) : Nat → Nat := retG t x (setW (setW G (fieldN t x 2) (G (fieldN t x 2) + 2)) (nextN t p) (linkN (refN v) false))
theorem takeOut_run {t p x v f : Nat} (hx : 1 ≤ x) (hx2 : x < 1048576) (hp : nextN t p < n) (hpx : nextN t p ≠ fieldN t x 2) (hn : fieldN t x 7 < n) (hW : ∀ q, W.1 q < 18446744073709551616) (hm : me < W.2.length) (hd : (stmAt W me).bytes.length + 47 ≤ 100000) (hb : hasF (W.1 (fieldN t x 2)) 2 = false) (hl : W.1 (nextN t p) = linkN x false) :
  (takeOut t p x v (f + 1)).run (wTell n me nf) (W, j) = .done 3 ((outG t p x v W.1, putR me (dataN (entW t x 2 W.1)) W.2), j + 10) := by
 have hf2 : fieldN t x 2 < n := by unfold fieldN at *; omega
 have hf6 : fieldN t x 6 < n := by unfold fieldN at *; omega
 have hdl := data_len (entW t x 2 W.1)
 have hb2 : hasF (W.1 (fieldN t x 2)) ((2 : Nat) : Int) = false := hb
 unfold takeOut
 rw [run_bind, save_run hf2 hW, rest_saved hf6 hW hb2, saved_run (m := f) hf2 hW hm (by omega) rfl rfl rfl hb2]
 simp only [RanD.next, if_true]
 have hg2 : W.1 (fieldN t x 2) + 2 < 18446744073709551616 := by
  have h := hb
  unfold hasF at h
  rw [decide_eq_false_iff_not] at h
  have e : bitsN (2 : Int) = 2 := by decide
  rw [e] at h
  have := hW (fieldN t x 2)
  omega
 have w1 := setW_lt hW (i := fieldN t x 2) hg2
 have h2 := run_cas (me := me) (fail := nf) (j := j + 1 + loadsN 2 + 4) (W := (setW W.1 (fieldN t x 2) (W.1 (fieldN t x 2) + 2), putR me (dataN (entW t x 2 W.1)) W.2)) hp w1 (linkN (refN v) false) fun d => if d = 1 then (Prg.retire t x (f + 1)).up.bind fun _ => ret 3 else ret 1
 rw [show (setW W.1 (fieldN t x 2) (W.1 (fieldN t x 2) + 2), putR me (dataN (entW t x 2 W.1)) W.2).1 (nextN t p) = linkN x false from (setW_ne hpx).trans hl] at h2
 rw [h2, if_pos rfl, run_bind]
 have w2 := setW_lt w1 (i := nextN t p) (linkN_lt' (refN_lt v) false)
 rw [retire_run (W := (setW (setW W.1 (fieldN t x 2) (W.1 (fieldN t x 2) + 2)) (nextN t p) (linkN (refN v) false), putR me (dataN (entW t x 2 W.1)) W.2)) hn hx w2]
 rfl
end
end Prd
theorem outG_ne {t p x v q : Nat} {G : Nat → Nat} (h2 : q ≠ fieldN t x 2) (hp : q ≠ nextN t p) (h7 : q ≠ fieldN t x 7) (hl : q < 4 ∨ 7 ≤ q) : Prd.outG t p x v G q = G q := by
 unfold Prd.outG Prd.retG
 have hL := Prd.limbo_small (setW (setW G (fieldN t x 2) (G (fieldN t x 2) + 2)) (nextN t p) (linkN (refN v) false) 3)
 rw [setW_ne (by omega), setW_ne h7, setW_ne hp, setW_ne h2]
theorem outG_next {t p x v : Nat} {G : Nat → Nat} (hx : 1 ≤ x) (hpx : nextN t p ≠ fieldN t x 7) : Prd.outG t p x v G (nextN t p) = linkN (refN v) false := by
 unfold Prd.outG Prd.retG
 have hL := Prd.limbo_small (setW (setW G (fieldN t x 2) (G (fieldN t x 2) + 2)) (nextN t p) (linkN (refN v) false) 3)
 have hn : nextN t p < 4 ∨ 7 ≤ nextN t p := by unfold nextN fieldN; split <;> omega
 rw [setW_ne (by omega), setW_ne hpx, setW_eq]
theorem outG_lt {t p x v : Nat} {G : Nat → Nat} (hx : x < 1048576) (hW : ∀ q, G q < 18446744073709551616) (h2 : G (fieldN t x 2) + 2 < 18446744073709551616) (q : Nat) : Prd.outG t p x v G q < 18446744073709551616 := by
 have w1 := setW_lt (setW_lt hW (i := fieldN t x 2) h2) (i := nextN t p) (linkN_lt' (refN_lt v) false)
 exact setW_lt (setW_lt w1 (w1 _)) (by omega) q
def Line (t : Nat) (G : Nat → Nat) : Nat → List Nat → Prop
 | x, [] => x = 0
 | x, y :: l => x = y ∧ 1 ≤ x ∧ x < 1048576 ∧ G (fieldN t x 0) < 2097152 ∧ Line t G (refN (G (fieldN t x 0))) l
theorem Line.of {t : Nat} {G G' : Nat → Nat} : ∀ {l : List Nat} {x : Nat}, Line t G x l → (∀ y, y ∈ l → G' (fieldN t y 0) = G (fieldN t y 0)) → Line t G' x l
 | [], _, h, _ => h
 | y :: l, x, ⟨h1, h2, h3, h4, h5⟩, he => by
  subst h1
  have e := he x (List.mem_cons_self ..)
  exact ⟨rfl, h2, h3, by rw [e]; exact h4, by rw [e]; exact Line.of h5 fun y hy => he y (List.mem_cons_of_mem _ hy)⟩
theorem Line.small {t : Nat} {G : Nat → Nat} : ∀ {l : List Nat} {x : Nat}, Line t G x l → ∀ y, y ∈ l → 1 ≤ y ∧ y < 1048576
 | [], _, _, y, hy => absurd hy (List.not_mem_nil)
 | z :: l, x, ⟨h1, h2, h3, h4, h5⟩, y, hy => by
  rcases List.mem_cons.1 hy with rfl | h
  ·subst h1; exact ⟨h2, h3⟩
  ·exact h5.small y h
theorem refN_small {w : Nat} (h : w < 2097152) : refN w = w / 2 := by unfold refN; omega
theorem fieldN_inj {t x y a b : Nat} (hx : 1 ≤ x) (hy : 1 ≤ y) (ha : a < 8) (hb : b < 8) (h : fieldN t x a = fieldN t y b) : x = y ∧ a = b := by unfold fieldN at h; omega
def fstG (t k : Nat) (G : Nat → Nat) : List Nat → Nat
 | [] => 0
 | y :: l => if k ≤ G (fieldN t y 1) then y else fstG t k G l
def isG (t k : Nat) (G : Nat → Nat) (l : List Nat) : Bool := decide (fstG t k G l ≠ 0 ∧ G (fieldN t (fstG t k G l) 1) = k)
namespace Prd
variable {n me : Nat} {W : WS}
theorem walk_out {t f m p x j : Nat} (hx : 1 ≤ x) (hx2 : x < 1048576) (hp : nextN t p < n) (hpx : nextN t p ≠ fieldN t x 2) (hn : fieldN t x 7 < n) (hW : ∀ q, W.1 q < 18446744073709551616) (hm : me < W.2.length) (hd : (stmAt W me).bytes.length + 47 ≤ 100000) (hb : hasF (W.1 (fieldN t x 2)) 2 = false) (hl : W.1 (nextN t p) = linkN x false) (hmk : markB (W.1 (fieldN t x 0)) = true) (look : Nat → Nat → Prd) :
  (walk t look (f + 1) (m + 1) p x).run (wTell n me nf) (W, j) = (walk t look (f + 1) m p (refN (W.1 (fieldN t x 0)))).run (wTell n me nf) ((outG t p x (W.1 (fieldN t x 0)) W.1, putR me (dataN (entW t x 2 W.1)) W.2), j + 11) := by
 conv => lhs; unfold walk
 rw [if_neg (by omega), run_load (by unfold fieldN at *; omega) hW, if_pos hmk, run_bind, takeOut_run hx hx2 hp hpx hn hW hm hd hb hl]
 simp only [RanD.next]
 rw [if_neg (by decide)]
 simp only [if_true]
end Prd
end Go.Proofs.YtibpfkcackdbgaaGreatDoor
