/- AccC -/
import Derived.Test.YtibpfkcackdbgaaGreatDoorAccDo
import Derived.Test.YtibpfkcackdbgaaGreatDoorCllA
import Derived.Test.YtibpfkcackdbgaaGreatDoorBase
import Derived.Test.YtibpfkcackdbgaaGreatDoorAccRef
import Derived.Test.YtibpfkcackdbgaaGreatDoorDskA
namespace Go.Proofs.YtibpfkcackdbgaaGreatDoor
open Go.ChangeShapes Go.WideShapes Go.ChangeAt Go.RowKit
set_option linter.unusedVariables false
set_option maxRecDepth 100000
section
variable (t c : Int) (A : Option Addr) (n k : Nat) (r : Nat) (R : Option Addr) (m0 ra : Nat) (S : Option Addr) (m1 sa : Nat) (l0 l1 : List Stm)
end
end Go.Proofs.YtibpfkcackdbgaaGreatDoor
namespace Go.Proofs.YtibpfkcackdbgaaGreatDoor
open Go.ChangeShapes Go.WideShapes Go.ChangeAt Go.RowKit
set_option linter.unusedVariables false
set_option maxRecDepth 100000
theorem setW_self {F : Nat → Nat} {i x : Nat} (h : F i = x) : setW F i x = F := by
 funext j
 unfold setW
 split
 ·rename_i e; rw [e, h]
 ·rfl
section
variable (r : Int) (A : Option Addr) (n a : Nat) (B : Option Addr) (b : Nat) (l0 l1 : List Stm) (row i : Int)
end
section
variable (t c : Int) (A : Option Addr) (n k : Nat) (F : Nat → Nat) (r : Nat) (R S : Option Addr) (m ra sa : Nat) (l0 l1 : List Stm) (me : Int) (a b : Nat) (D : Option Addr) (dn dc : Nat) (W : Option Addr) (wn wc : Nat)
theorem ofWord_yes (K i : Nat) (hK : K < 5) (hi : i < n) (hn : n ≤ 1000000) (hF : ∀ j, F j < 18446744073709551616) (ha : a < 18446744073709551616) (hb : b < 18446744073709551616) (w : World) (hA : Hid (AtW w A n F)) :
  Calls Tryz.prog 76 #[.agg #[.int .i64 t, .int .i64 c, .slice A n k], .agg #[.int .i64 (K : Int), .int .i64 (i : Int), .int .u64 (a : Int), .int .u64 (b : Int), .slice D dn dc, .slice W wn wc]] w (WordW w t c A n (setW F i (isN K a b (F i))) (toldN K a b (F i))) := by
 have hx := hF i
 have neq : ∀ {x y : Nat}, x ≠ y → ((x : Int) != (y : Int)) = true := fun h => by rw [bne_iff_ne]; omega
 have eq_ : ∀ {x y : Nat}, x = y → ((x : Int) != (y : Int)) = false := fun h => by rw [bne_eq_false_iff_eq]; omega
 obtain rfl | rfl | rfl | rfl | rfl : K = 0 ∨ K = 1 ∨ K = 2 ∨ K = 3 ∨ K = 4 := by omega
 ·have e : isN 0 a b (F i) = F i := rfl
  rw [e, setW_self rfl]
  exact ofWord_load_same t c A n k F a b D dn dc W wn wc i (F i) (F i) (F i) hi hn rfl hx (eq_ rfl) (fun w => load_at (F i) 0 i a b D dn dc W wn wc w) w hA
 ·have e : isN 1 a b (F i) = a := rfl
  rw [e]
  by_cases h : a = F i
  ·rw [setW_self h.symm]
   exact ofWord_store_same t c A n k F a b D dn dc W wn wc i (F i) a 0 hi hn rfl ha (eq_ h) (fun w => store_at (F i) 1 i a b D dn dc W wn wc w) w hA
  ·exact ofWord_store_turn t c A n k F a b D dn dc W wn wc i (F i) a 0 hi hn rfl ha (neq h) (fun w => store_at (F i) 1 i a b D dn dc W wn wc w) w hA
 ·by_cases hxa : F i = a
  ·have e : isN 2 a b (F i) = b := if_pos hxa
   have e' : toldN 2 a b (F i) = 1 := if_pos hxa
   rw [e, e']
   by_cases h : b = F i
   ·rw [setW_self h.symm]
    exact ofWord_cas_same t c A n k F a b D dn dc W wn wc i (F i) b 1 hi hn rfl hb (eq_ h) (fun w => cas_yes (F i) 2 i a b D dn dc W wn wc w (eq_ hxa)) w hA
   ·exact ofWord_cas_turn t c A n k F a b D dn dc W wn wc i (F i) b 1 hi hn rfl hb (neq h) (fun w => cas_yes (F i) 2 i a b D dn dc W wn wc w (eq_ hxa)) w hA
  ·have e : isN 2 a b (F i) = F i := if_neg hxa
   have e' : toldN 2 a b (F i) = 0 := if_neg hxa
   rw [e, e', setW_self rfl]
   exact ofWord_cas_same t c A n k F a b D dn dc W wn wc i (F i) (F i) 0 hi hn rfl hx (eq_ rfl) (fun w => cas_no (F i) 2 i a b D dn dc W wn wc w (neq hxa)) w hA
 ·have e : isN 3 a b (F i) = (F i + a) % 18446744073709551616 := rfl
  rw [e]
  have hs : IntKind.u64.wrap ((F i : Int) + (a : Int)) = (((F i + a) % 18446744073709551616 : Nat) : Int) := by rw [IntKind.wrap_u64]; omega
  have hlt : (F i + a) % 18446744073709551616 < 18446744073709551616 := Nat.mod_lt _ (by omega)
  by_cases h : (F i + a) % 18446744073709551616 = F i
  ·rw [setW_self h.symm]
   exact ofWord_add_same t c A n k F a b D dn dc W wn wc i (F i) _ (F i) hi hn rfl hlt (eq_ h) (fun w => add_at (F i) 3 i a b D dn dc W wn wc w _ hs) w hA
  ·exact ofWord_add_turn t c A n k F a b D dn dc W wn wc i (F i) _ (F i) hi hn rfl hlt (neq h) (fun w => add_at (F i) 3 i a b D dn dc W wn wc w _ hs) w hA
 ·have e : isN 4 a b (F i) = a := rfl
  rw [e]
  by_cases h : a = F i
  ·rw [setW_self h.symm]
   exact ofWord_swap_same t c A n k F a b D dn dc W wn wc i (F i) a (F i) hi hn rfl ha (eq_ h) (fun w => swap_at (F i) 4 i a b D dn dc W wn wc w) w hA
  ·exact ofWord_swap_turn t c A n k F a b D dn dc W wn wc i (F i) a (F i) hi hn rfl ha (neq h) (fun w => swap_at (F i) 4 i a b D dn dc W wn wc w) w hA
theorem doWord (K i : Nat) (hK : K < 5) (hi : i < n) (hn : n ≤ 1000000) (hF : ∀ j, F j < 18446744073709551616) (ha : a < 18446744073709551616) (hb : b < 18446744073709551616) (fa : Bool) (w : World) (hA : Hid (AtW w A n F)) (h0 : Hid (StmsAt w R m l0)) (h1 : Hid (StmsAt w S m l1)) :
  Calls Tryz.prog 34 #[.agg #[.int .i64 t, .int .i64 c, .slice A n k, .int .u64 (r : Int), .slice R m ra, .slice S m sa], .int .i64 me, .agg #[.int .i64 (K : Int), .int .i64 (i : Int), .int .u64 (a : Int), .int .u64 (b : Int), .slice D dn dc, .slice W wn wc], .bool fa] w (DoW w t c A n r R S m (setW F i (isN K a b (F i))) l0 l1 (toldN K a b (F i)) [] false) :=
 do_word t c A n k F r R S m ra sa l0 l1 me K i a b D dn dc W wn wc (by unfold diskB; rw [decide_eq_false (by omega)]; rfl) (by rw [beq_eq_false_iff_ne]; omega) fa _ _ (fun w h => ofWord_yes t c A n k F a b D dn dc W wn wc K i hK hi hn hF ha hb w h) w hA h0 h1
end
section
variable (t c : Int) (A : Option Addr) (n k : Nat) (F : Nat → Nat) (r : Nat) (R S : Option Addr) (m ra sa : Nat) (l0 l1 : List Stm) (me ki i : Int) (a b : Nat) (D : Option Addr) (dn dc : Nat) (ys : List Nat) (W : Option Addr) (wn wc : Nat) (ws : Nat → Nat) (fa : Bool)
end
end Go.Proofs.YtibpfkcackdbgaaGreatDoor
namespace Go.Proofs.YtibpfkcackdbgaaGreatDoor
open Go.ChangeShapes Go.WideShapes Go.ChangeAt Go.RowKit
set_option linter.unusedVariables false
set_option maxRecDepth 100000
def WdAt (x : World) (b : Nat) (t c : Int) (A : Option Addr) (n k r : Nat) (R : Option Addr) (m ra : Nat) (S : Option Addr) (sa : Nat) (G : Nat → Nat) (l0 l1 : List Stm) : Prop :=
 VarAt x b [.int .i64 t, .int .i64 c, .slice A n k, .int .u64 (r : Int), .slice R m ra, .slice S m sa] ∧ AtW x A n G ∧ StmsAt x R m l0 ∧ StmsAt x S m l1
def ResAt (x : World) (b N : Nat) (X : Option Addr) (k : Nat) (xs : List Nat) (fl : Bool) : Prop :=
 VarAt x b [.int .u64 (N : Int), .slice X xs.length k, .bool fl] ∧ AtB x X xs.length xs
section
variable {x x' : World} {b : Nat} {t c : Int} {A : Option Addr} {n k r : Nat} {R : Option Addr} {m ra : Nat} {S : Option Addr} {sa : Nat} {G : Nat → Nat} {l0 l1 : List Stm}
theorem WdAt.later (h : WdAt x b t c A n k r R m ra S sa G l0 l1) (hb : Below x.heap.size x x') : WdAt x' b t c A n k r R m ra S sa G l0 l1 := ⟨h.1.below hb, h.2.1.later hb, h.2.2.1.later hb, h.2.2.2.later hb⟩
theorem WdAt.made (w : World) (o : Obj) (ty : TypeId) (hA : AtW w A n G) (h0 : StmsAt w R m l0) (h1 : StmsAt w S m l1) :
  WdAt ((w.alloc (.cells #[.int .i64 t, .int .i64 c, .slice A n k, .int .u64 (r : Int), .slice R m ra, .slice S m sa] ty)).alloc o) w.heap.size t c A n k r R m ra S sa G l0 l1 :=
 ⟨(VarAt.made w #[.int .i64 t, .int .i64 c, .slice A n k, .int .u64 (r : Int), .slice R m ra, .slice S m sa] ty).below (al_below _ _), hA.later (below_pair _ _ _), h0.later (below_pair _ _ _), h1.later (below_pair _ _ _)⟩
theorem WdAt.cells (h : WdAt x b t c A n k r R m ra S sa G l0 l1) : x.cell? ⟨b, 0, none⟩ = some (.int .i64 t) ∧ x.cell? ⟨b, 1, none⟩ = some (.int .i64 c) ∧ x.cell? ⟨b, 2, none⟩ = some (.slice A n k) ∧ x.cell? ⟨b, 3, none⟩ = some (.int .u64 (r : Int)) ∧ x.cell? ⟨b, 4, none⟩ = some (.slice R m ra) ∧ x.cell? ⟨b, 5, none⟩ = some (.slice S m sa) := h.1.six.2.1
end
section
variable {x x' : World} {b N : Nat} {X : Option Addr} {k : Nat} {xs : List Nat} {fl : Bool}
theorem ResAt.later (h : ResAt x b N X k xs fl) (hb : Below x.heap.size x x') : ResAt x' b N X k xs fl := ⟨h.1.below hb, AtB.later (Lib.hid h.2) hb⟩
theorem ResAt.made (w : World) (o : Obj) (ty : TypeId) (hX : AtB w X xs.length xs) : ResAt ((w.alloc o).alloc (.cells #[.int .u64 (N : Int), .slice X xs.length k, .bool fl] ty)) (w.heap.size + 1) N X k xs fl :=
 ⟨VarAt.made1 w o #[.int .u64 (N : Int), .slice X xs.length k, .bool fl] ty, AtB.later (Lib.hid hX) (below_pair _ _ _)⟩
theorem ResAt.cells (h : ResAt x b N X k xs fl) : x.cell? ⟨b, 0, none⟩ = some (.int .u64 (N : Int)) ∧ x.cell? ⟨b, 1, none⟩ = some (.slice X xs.length k) ∧ x.cell? ⟨b, 2, none⟩ = some (.bool fl) := ⟨h.1.three.2.1, h.1.three.2.2.1, h.1.three.2.2.2.1⟩
end
theorem AtW.word {x : World} {A : Option Addr} {n : Nat} {G : Nat → Nat} (h : AtW x A n G) (hn : 0 < n) : ∃ b off, A = some ⟨b, off, none⟩ ∧ ∀ j, j < n → x.cell? ⟨b, off + j, none⟩ = some (.int .u64 ((G j : Nat) : Int)) := by
 obtain ⟨b, off, e, _, hc⟩ := h.2 hn
 exact ⟨b, off, e, hc⟩
def ParmAt (x : World) (A : Option Addr) (n : Nat) (F : Nat → Nat) (R : Option Addr) (m0 : Nat) (S : Option Addr) (m1 : Nat) (l0 l1 : List Stm) (D : Option Addr) (dn : Nat) (ys : List Nat) (W : Option Addr) (wn : Nat) (ws : Nat → Nat) : Prop :=
 AtW x A n F ∧ StmsAt x R m0 l0 ∧ StmsAt x S m1 l1 ∧ AtB x D dn ys ∧ AtW x W wn ws
theorem ParmAt.later {x x' : World} {A : Option Addr} {n : Nat} {F : Nat → Nat} {R : Option Addr} {m0 : Nat} {S : Option Addr} {m1 : Nat} {l0 l1 : List Stm} {D : Option Addr} {dn : Nat} {ys : List Nat} {W : Option Addr} {wn : Nat} {ws : Nat → Nat}
  (h : ParmAt x A n F R m0 S m1 l0 l1 D dn ys W wn ws) (hb : Below x.heap.size x x') : ParmAt x' A n F R m0 S m1 l0 l1 D dn ys W wn ws :=
 ⟨h.1.later hb, h.2.1.later hb, h.2.2.1.later hb, AtB.later (Lib.hid h.2.2.2.1) hb, h.2.2.2.2.later hb⟩
theorem WdAt.gA {x : World} {b : Nat} {t c : Int} {A : Option Addr} {n k r : Nat} {R : Option Addr} {m ra : Nat} {S : Option Addr} {sa : Nat} {G : Nat → Nat} {l0 l1 : List Stm} (h : WdAt x b t c A n k r R m ra S sa G l0 l1) : Hid (AtW x A n G) := Lib.hid h.2.1
theorem WdAt.g0 {x : World} {b : Nat} {t c : Int} {A : Option Addr} {n k r : Nat} {R : Option Addr} {m ra : Nat} {S : Option Addr} {sa : Nat} {G : Nat → Nat} {l0 l1 : List Stm} (h : WdAt x b t c A n k r R m ra S sa G l0 l1) : Hid (StmsAt x R m l0) := Lib.hid h.2.2.1
theorem WdAt.g1 {x : World} {b : Nat} {t c : Int} {A : Option Addr} {n k r : Nat} {R : Option Addr} {m ra : Nat} {S : Option Addr} {sa : Nat} {G : Nat → Nat} {l0 l1 : List Stm} (h : WdAt x b t c A n k r R m ra S sa G l0 l1) : Hid (StmsAt x S m l1) := Lib.hid h.2.2.2
theorem ParmAt.gA {x : World} {A : Option Addr} {n : Nat} {F : Nat → Nat} {R : Option Addr} {m0 : Nat} {S : Option Addr} {m1 : Nat} {l0 l1 : List Stm} {D : Option Addr} {dn : Nat} {ys : List Nat} {W : Option Addr} {wn : Nat} {ws : Nat → Nat} (h : ParmAt x A n F R m0 S m1 l0 l1 D dn ys W wn ws) : Hid (AtW x A n F) := Lib.hid h.1
theorem ParmAt.g0 {x : World} {A : Option Addr} {n : Nat} {F : Nat → Nat} {R : Option Addr} {m0 : Nat} {S : Option Addr} {m1 : Nat} {l0 l1 : List Stm} {D : Option Addr} {dn : Nat} {ys : List Nat} {W : Option Addr} {wn : Nat} {ws : Nat → Nat} (h : ParmAt x A n F R m0 S m1 l0 l1 D dn ys W wn ws) : Hid (StmsAt x R m0 l0) := Lib.hid h.2.1
theorem ParmAt.g1 {x : World} {A : Option Addr} {n : Nat} {F : Nat → Nat} {R : Option Addr} {m0 : Nat} {S : Option Addr} {m1 : Nat} {l0 l1 : List Stm} {D : Option Addr} {dn : Nat} {ys : List Nat} {W : Option Addr} {wn : Nat} {ws : Nat → Nat} (h : ParmAt x A n F R m0 S m1 l0 l1 D dn ys W wn ws) : Hid (StmsAt x S m1 l1) := Lib.hid h.2.2.1
end Go.Proofs.YtibpfkcackdbgaaGreatDoor
namespace Go.Proofs.YtibpfkcackdbgaaGreatDoor
open Go.ChangeShapes Go.WideShapes Go.ChangeAt Go.RowKit
set_option linter.unusedVariables false
set_option maxRecDepth 100000
def Keep (Q : Nat → Prop) (y x : World) : Prop := y.heap.size ≤ x.heap.size ∧ ∀ b o, b < y.heap.size → Q b → x.cell? ⟨b, o, none⟩ = y.cell? ⟨b, o, none⟩
section
variable {Q : Nat → Prop} {y x : World}
theorem Keep.refl (Q : Nat → Prop) (y : World) : Keep Q y y := ⟨Nat.le_refl _, fun _ _ _ _ => rfl⟩
theorem Keep.drew (h : Keep Q y x) : Keep Q y x.drew := h
theorem Keep.alloc (h : Keep Q y x) (o : Obj) : Keep Q y (x.alloc o) := by
 have hb := al_below x o
 exact ⟨Nat.le_trans h.1 hb.size, fun b o hlt hq => (hb.cell (p := ⟨b, o, none⟩) (Nat.lt_of_lt_of_le hlt h.1)).trans (h.2 b o hlt hq)⟩
theorem Keep.set (h : Keep Q y x) (b j : Nat) (v : Value) (hb : b < y.heap.size → ¬ Q b) : Keep Q y (x.setCell ⟨b, j, none⟩ v) := by
 refine ⟨by simpa using h.1, fun g o hlt hq => ?_⟩
 rw [World.cell?_setCell_other _ _ _ _ (fun e => by
  have e2 : b = g := by first | exact congrArg Addr.block e | exact (congrArg Addr.block e).symm
  subst e2
  exact hb hlt hq)]
 exact h.2 g o hlt hq
theorem AtW.keep {a : Option Addr} {n : Nat} {f : Nat → Nat} (h : AtW y a n f) (hK : Keep Q y x) (hO : OffW Q a n) : AtW x a n f := by
 refine ⟨h.1, fun hp => ?_⟩
 obtain ⟨b, off, e, hlt, hc⟩ := h.2 hp
 exact ⟨b, off, e, Nat.lt_of_lt_of_le hlt hK.1, fun j hj => (hK.2 _ _ hlt (hO hp b off e)).trans (hc j hj)⟩
theorem AtB.keep {a : Option Addr} {n : Nat} {xs : List Nat} (h : AtB y a n xs) (hK : Keep Q y x) (hO : OffW Q a n) : AtB x a n xs := by
 refine ⟨h.1, h.2.1, h.2.2.1, fun hp => ?_⟩
 obtain ⟨b, off, e, hlt, hc⟩ := h.2.2.2 hp
 exact ⟨b, off, e, Nat.lt_of_lt_of_le hlt hK.1, fun j hj => (hK.2 _ _ hlt (hO hp b off e)).trans (hc j hj)⟩
theorem StmsAt.keep {a : Option Addr} {n : Nat} {l : List Stm} (h : StmsAt y a n l) (hK : Keep Q y x) (hO : OffS Q y a n) : StmsAt x a n l := by
 obtain ⟨h1, h2, h3⟩ := h
 refine ⟨h1, h2, fun hp => ?_⟩
 obtain ⟨b, off, e, hlt, hc⟩ := h3 hp
 obtain ⟨k1, k2⟩ := hO b off e hp
 refine ⟨b, off, e, Nat.lt_of_lt_of_le hlt hK.1, fun j z hz => ?_⟩
 obtain ⟨A, cap, c1, c2, c3, c4, c5, c6⟩ := hc j z hz
 have hj : j < n := by have := (List.getElem?_eq_some_iff.1 hz).1; omega
 exact ⟨A, cap, (hK.2 _ _ hlt k1).trans c1, c2, c3, c4.keep hK (fun hl b' o' e' => k2 j hj ⟨b', o', none⟩ _ _ (by rw [c1, e']) hl), (hK.2 _ _ hlt k1).trans c5, c6⟩
theorem OffS.keep {P : Nat → Prop} {a : Option Addr} {n : Nat} {l : List Stm} (h : OffS P y a n) (hS : StmsAt y a n l) (hK : Keep Q y x) (hO : OffS Q y a n) : OffS P x a n := fun b off e hp => by
 obtain ⟨h1, h2⟩ := h b off e hp
 obtain ⟨k1, _⟩ := hO b off e hp
 obtain ⟨b', off', e', hlt, _⟩ := hS.2.2 hp
 rw [e'] at e
 cases e
 exact ⟨h1, fun j hj ad len c hc hl => h2 j hj ad len c ((hK.2 _ _ hlt k1).symm.trans hc) hl⟩
end
theorem VarAt.onto {w0 w w' : World} {b : Nat} {vs : List Value} (hb : Below w.heap.size w w') (h : VarAt w0 b vs) (hh : w0.heap = w.heap) : VarAt w' b vs := by
 refine VarAt.below (w := w) ⟨by rw [← hh]; exact h.1, fun j v hv => ?_, fun j hj => ?_⟩ hb
 ·have := h.2.1 j v hv
  unfold World.cell? at this ⊢
  rw [← hh]; exact this
 ·have := h.2.2 j hj
  unfold World.frozen? at this ⊢
  rw [← hh]; exact this
def Qn (g N1 N2 b : Nat) : Prop := b ≠ g ∧ (b < N1 ∨ N2 ≤ b)
theorem OffS.both {P Q : Nat → Prop} {w : World} {a : Option Addr} {n : Nat} (h : OffS P w a n) (h' : OffS Q w a n) : OffS (fun b => P b ∧ Q b) w a n := fun b off e hn =>
 ⟨⟨(h b off e hn).1, (h' b off e hn).1⟩, fun j hj ad len c hc hl => ⟨(h b off e hn).2 j hj ad len c hc hl, (h' b off e hn).2 j hj ad len c hc hl⟩⟩
end Go.Proofs.YtibpfkcackdbgaaGreatDoor
