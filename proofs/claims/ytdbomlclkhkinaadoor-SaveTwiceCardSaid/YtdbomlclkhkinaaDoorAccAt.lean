/-
  Variables that hold a world, and what an access told; what the call of an access leaves in them.
-/
import Derived.Test.YtdbomlclkhkinaaDoorAccBoth
namespace Go.Proofs.YtdbomlclkhkinaaDoor
open Go.ChangeShapes Go.WideShapes Go.ChangeAt Go.RowKit
set_option linter.unusedVariables false
set_option maxRecDepth 100000

def WdAt (x : World) (b : Nat) (t c : Int) (A : Option Addr) (n k r : Nat) (R : Option Addr) (m ra : Nat) (S : Option Addr) (sa : Nat) (G : Nat → Nat) (l0 l1 : List Stm) : Prop :=
  VarAt x b [.int .i64 t, .int .i64 c, .slice A n k, .int .u64 (r : Int), .slice R m ra, .slice S m sa] ∧ AtW x A n G ∧ StmsAt x R m l0 ∧ StmsAt x S m l1
def ResAt (x : World) (b N : Nat) (X : Option Addr) (k : Nat) (xs : List Nat) (fl : Bool) : Prop :=
  VarAt x b [.int .u64 (N : Int), .slice X xs.length k, .bool fl] ∧ AtB x X xs.length xs
section
variable {x x' : World} {b : Nat} {t c : Int} {A : Option Addr} {n k r : Nat} {R : Option Addr} {m ra : Nat} {S : Option Addr} {sa : Nat} {G : Nat → Nat} {l0 l1 : List Stm}
theorem WdAt.later (h : WdAt x b t c A n k r R m ra S sa G l0 l1) (hb : Below x.heap.size x x') : WdAt x' b t c A n k r R m ra S sa G l0 l1 := ⟨h.1.below hb, h.2.1.later hb, h.2.2.1.later hb, h.2.2.2.later hb⟩
theorem WdAt.made (w : World) (o : Obj) (ty : TypeId) (hA : AtW w A n G) (h0 : StmsAt w R m l0) (h1 : StmsAt w S m l1) :
    WdAt ((w.alloc (.cells #[.int .i64 t, .int .i64 c, .slice A n k, .int .u64 (r : Int), .slice R m ra, .slice S m sa] ty)).alloc o) w.heap.size t c A n k r R m ra S sa G l0 l1 :=
  ⟨(VarAt.made w #[.int .i64 t, .int .i64 c, .slice A n k, .int .u64 (r : Int), .slice R m ra, .slice S m sa] ty).below (al_below _ _), hA.later (below_pair _ _ _), h0.later (below_pair _ _ _), h1.later (below_pair _ _ _)⟩
theorem WdAt.made0 (w : World) (ty : TypeId) (hA : AtW w A n G) (h0 : StmsAt w R m l0) (h1 : StmsAt w S m l1) :
    WdAt (w.alloc (.cells #[.int .i64 t, .int .i64 c, .slice A n k, .int .u64 (r : Int), .slice R m ra, .slice S m sa] ty)) w.heap.size t c A n k r R m ra S sa G l0 l1 :=
  ⟨VarAt.made w #[.int .i64 t, .int .i64 c, .slice A n k, .int .u64 (r : Int), .slice R m ra, .slice S m sa] ty, hA.later (al_below _ _), h0.later (al_below _ _), h1.later (al_below _ _)⟩
theorem WdAt.cells (h : WdAt x b t c A n k r R m ra S sa G l0 l1) : x.cell? ⟨b, 0, none⟩ = some (.int .i64 t) ∧ x.cell? ⟨b, 1, none⟩ = some (.int .i64 c) ∧ x.cell? ⟨b, 2, none⟩ = some (.slice A n k) ∧ x.cell? ⟨b, 3, none⟩ = some (.int .u64 (r : Int)) ∧ x.cell? ⟨b, 4, none⟩ = some (.slice R m ra) ∧ x.cell? ⟨b, 5, none⟩ = some (.slice S m sa) := h.1.six.2.1
end
section
variable {x x' : World} {b N : Nat} {X : Option Addr} {k : Nat} {xs : List Nat} {fl : Bool}
theorem ResAt.later (h : ResAt x b N X k xs fl) (hb : Below x.heap.size x x') : ResAt x' b N X k xs fl := ⟨h.1.below hb, AtB.later (Lib.hid h.2) hb⟩
theorem ResAt.made (w : World) (o : Obj) (ty : TypeId) (hX : AtB w X xs.length xs) : ResAt ((w.alloc o).alloc (.cells #[.int .u64 (N : Int), .slice X xs.length k, .bool fl] ty)) (w.heap.size + 1) N X k xs fl :=
  ⟨VarAt.made1 w o #[.int .u64 (N : Int), .slice X xs.length k, .bool fl] ty, AtB.later (Lib.hid hX) (below_pair _ _ _)⟩
theorem ResAt.cells (h : ResAt x b N X k xs fl) : x.cell? ⟨b, 0, none⟩ = some (.int .u64 (N : Int)) ∧ x.cell? ⟨b, 1, none⟩ = some (.slice X xs.length k) ∧ x.cell? ⟨b, 2, none⟩ = some (.bool fl) := ⟨h.1.three.2.1, h.1.three.2.2.1, h.1.three.2.2.2.1⟩
end
theorem AtW.word {x : World} {A : Option Addr} {n : Nat} {G : Nat → Nat} (h : AtW x A n G) (hn : 0 < n) : ∃ b off, A = some ⟨b, off, none⟩ ∧ ∀ j, j < n → x.cell? ⟨b, off + j, none⟩ = some (.int .u64 ((G j : Nat) : Int)) := by
  obtain ⟨b, off, e, _, hc⟩ := h.2 hn
  exact ⟨b, off, e, hc⟩
/-- What a law of this layer is asked of, but for numbers: a world's memory, and an access's. -/
def ParmAt (x : World) (A : Option Addr) (n : Nat) (F : Nat → Nat) (R : Option Addr) (m0 : Nat) (S : Option Addr) (m1 : Nat) (l0 l1 : List Stm) (D : Option Addr) (dn : Nat) (ys : List Nat) (W : Option Addr) (wn : Nat) (ws : Nat → Nat) : Prop :=
  AtW x A n F ∧ StmsAt x R m0 l0 ∧ StmsAt x S m1 l1 ∧ AtB x D dn ys ∧ AtW x W wn ws
theorem ParmAt.later {x x' : World} {A : Option Addr} {n : Nat} {F : Nat → Nat} {R : Option Addr} {m0 : Nat} {S : Option Addr} {m1 : Nat} {l0 l1 : List Stm} {D : Option Addr} {dn : Nat} {ys : List Nat} {W : Option Addr} {wn : Nat} {ws : Nat → Nat}
    (h : ParmAt x A n F R m0 S m1 l0 l1 D dn ys W wn ws) (hb : Below x.heap.size x x') : ParmAt x' A n F R m0 S m1 l0 l1 D dn ys W wn ws :=
  ⟨h.1.later hb, h.2.1.later hb, h.2.2.1.later hb, AtB.later (Lib.hid h.2.2.2.1) hb, h.2.2.2.2.later hb⟩
theorem WdAt.gA {x : World} {b : Nat} {t c : Int} {A : Option Addr} {n k r : Nat} {R : Option Addr} {m ra : Nat} {S : Option Addr} {sa : Nat} {G : Nat → Nat} {l0 l1 : List Stm} (h : WdAt x b t c A n k r R m ra S sa G l0 l1) : Hid (AtW x A n G) := Lib.hid h.2.1
theorem WdAt.g0 {x : World} {b : Nat} {t c : Int} {A : Option Addr} {n k r : Nat} {R : Option Addr} {m ra : Nat} {S : Option Addr} {sa : Nat} {G : Nat → Nat} {l0 l1 : List Stm} (h : WdAt x b t c A n k r R m ra S sa G l0 l1) : Hid (StmsAt x R m l0) := Lib.hid h.2.2.1
theorem WdAt.g1 {x : World} {b : Nat} {t c : Int} {A : Option Addr} {n k r : Nat} {R : Option Addr} {m ra : Nat} {S : Option Addr} {sa : Nat} {G : Nat → Nat} {l0 l1 : List Stm} (h : WdAt x b t c A n k r R m ra S sa G l0 l1) : Hid (StmsAt x S m l1) := Lib.hid h.2.2.2
theorem ResAt.gX {x : World} {b N : Nat} {X : Option Addr} {k : Nat} {xs : List Nat} {fl : Bool} (h : ResAt x b N X k xs fl) : Hid (AtB x X xs.length xs) := Lib.hid h.2
theorem ParmAt.gA {x : World} {A : Option Addr} {n : Nat} {F : Nat → Nat} {R : Option Addr} {m0 : Nat} {S : Option Addr} {m1 : Nat} {l0 l1 : List Stm} {D : Option Addr} {dn : Nat} {ys : List Nat} {W : Option Addr} {wn : Nat} {ws : Nat → Nat} (h : ParmAt x A n F R m0 S m1 l0 l1 D dn ys W wn ws) : Hid (AtW x A n F) := Lib.hid h.1
theorem ParmAt.g0 {x : World} {A : Option Addr} {n : Nat} {F : Nat → Nat} {R : Option Addr} {m0 : Nat} {S : Option Addr} {m1 : Nat} {l0 l1 : List Stm} {D : Option Addr} {dn : Nat} {ys : List Nat} {W : Option Addr} {wn : Nat} {ws : Nat → Nat} (h : ParmAt x A n F R m0 S m1 l0 l1 D dn ys W wn ws) : Hid (StmsAt x R m0 l0) := Lib.hid h.2.1
theorem ParmAt.g1 {x : World} {A : Option Addr} {n : Nat} {F : Nat → Nat} {R : Option Addr} {m0 : Nat} {S : Option Addr} {m1 : Nat} {l0 l1 : List Stm} {D : Option Addr} {dn : Nat} {ys : List Nat} {W : Option Addr} {wn : Nat} {ws : Nat → Nat} (h : ParmAt x A n F R m0 S m1 l0 l1 D dn ys W wn ws) : Hid (StmsAt x S m1 l1) := Lib.hid h.2.2.1
theorem ParmAt.gD {x : World} {A : Option Addr} {n : Nat} {F : Nat → Nat} {R : Option Addr} {m0 : Nat} {S : Option Addr} {m1 : Nat} {l0 l1 : List Stm} {D : Option Addr} {dn : Nat} {ys : List Nat} {W : Option Addr} {wn : Nat} {ws : Nat → Nat} (h : ParmAt x A n F R m0 S m1 l0 l1 D dn ys W wn ws) : Hid (AtB x D dn ys) := Lib.hid h.2.2.2.1
theorem ParmAt.gW {x : World} {A : Option Addr} {n : Nat} {F : Nat → Nat} {R : Option Addr} {m0 : Nat} {S : Option Addr} {m1 : Nat} {l0 l1 : List Stm} {D : Option Addr} {dn : Nat} {ys : List Nat} {W : Option Addr} {wn : Nat} {ws : Nat → Nat} (h : ParmAt x A n F R m0 S m1 l0 l1 D dn ys W wn ws) : Hid (AtW x W wn ws) := Lib.hid h.2.2.2.2
theorem right_parts {t c : Int} {n m0 m1 : Nat} {l0 l1 : List Stm} (hr : rightW t c n l0 l1 = true) (hf : fewD l0 l1 = true) (h0 : l0.length = m0) (h1 : l1.length = m1) :
    0 < n ∧ 1 ≤ m0 ∧ m0 ≤ 8 ∧ GoodD m0 l0 l1 ∧ (∀ x ∈ l0, x.bytes.length ≤ 100000) ∧ (∀ x ∈ l1, x.bytes.length ≤ 100000) ∧ m1 = m0 := by
  unfold rightW at hr
  simp only [Bool.and_eq_true] at hr
  obtain ⟨hm, hd, ht⟩ := hr
  obtain ⟨e1, g0, g1, k1, _⟩ := right_len hd
  obtain ⟨f8, _, fs⟩ := fewD_iff hf
  unfold rightM at hm
  simp only [Bool.and_eq_true, decide_eq_true_eq] at hm
  obtain ⟨hmb, hn⟩ := hm
  obtain ⟨tn, cn, rfl, rfl, q1, q2, q3⟩ := mayB_iff hmb
  refine ⟨by omega, by omega, by omega, ⟨h0, by omega, g0, g1⟩, fun x hx => ?_, fun x hx => ?_, by omega⟩
  · have := sumN_mem hx; omega
  · have := sumN_mem hx; omega
end Go.Proofs.YtdbomlclkhkinaaDoor
