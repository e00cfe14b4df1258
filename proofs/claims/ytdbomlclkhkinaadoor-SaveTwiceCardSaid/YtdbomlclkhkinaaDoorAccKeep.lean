/-
  Worlds in which some blocks that were there are as they were, whatever else was made or stored.
-/
import Derived.Test.YtdbomlclkhkinaaDoorAccAt
namespace Go.Proofs.YtdbomlclkhkinaaDoor
open Go.ChangeShapes Go.WideShapes Go.ChangeAt Go.RowKit
set_option linter.unusedVariables false
set_option maxRecDepth 100000

def Keep (Q : Nat → Prop) (y x : World) : Prop := y.heap.size ≤ x.heap.size ∧ ∀ b o, b < y.heap.size → Q b → x.cell? ⟨b, o, none⟩ = y.cell? ⟨b, o, none⟩
section
variable {Q : Nat → Prop} {y x : World}
theorem Keep.refl (Q : Nat → Prop) (y : World) : Keep Q y y := ⟨Nat.le_refl _, fun _ _ _ _ => rfl⟩
theorem Keep.drew (h : Keep Q y x) : Keep Q y x.drew := h
theorem Keep.alloc (h : Keep Q y x) (o : Obj) : Keep Q y (x.alloc o) := by
  have hb := al_below x o
  exact ⟨Nat.le_trans h.1 hb.size, fun b o hlt hq => (hb.cell (p := ⟨b, o, none⟩) (Nat.lt_of_lt_of_le hlt h.1)).trans (h.2 b o hlt hq)⟩
theorem Keep.set (h : Keep Q y x) (b j : Nat) (v : Value) (hb : b < y.heap.size → ¬ Q b) : Keep Q y (x.setCell ⟨b, j, none⟩ v) := by
  refine ⟨by simpa using h.1, fun g o hlt hq => ?_⟩
  rw [World.cell?_setCell_other _ _ _ _ (fun e => by
    have e2 : b = g := by first | exact congrArg Addr.block e | exact (congrArg Addr.block e).symm
    subst e2
    exact hb hlt hq)]
  exact h.2 g o hlt hq
theorem AtW.keep {a : Option Addr} {n : Nat} {f : Nat → Nat} (h : AtW y a n f) (hK : Keep Q y x) (hO : OffW Q a n) : AtW x a n f := by
  refine ⟨h.1, fun hp => ?_⟩
  obtain ⟨b, off, e, hlt, hc⟩ := h.2 hp
  exact ⟨b, off, e, Nat.lt_of_lt_of_le hlt hK.1, fun j hj => (hK.2 _ _ hlt (hO hp b off e)).trans (hc j hj)⟩
theorem AtB.keep {a : Option Addr} {n : Nat} {xs : List Nat} (h : AtB y a n xs) (hK : Keep Q y x) (hO : OffW Q a n) : AtB x a n xs := by
  refine ⟨h.1, h.2.1, h.2.2.1, fun hp => ?_⟩
  obtain ⟨b, off, e, hlt, hc⟩ := h.2.2.2 hp
  exact ⟨b, off, e, Nat.lt_of_lt_of_le hlt hK.1, fun j hj => (hK.2 _ _ hlt (hO hp b off e)).trans (hc j hj)⟩
theorem StmsAt.keep {a : Option Addr} {n : Nat} {l : List Stm} (h : StmsAt y a n l) (hK : Keep Q y x) (hO : OffS Q y a n) : StmsAt x a n l := by
  obtain ⟨h1, h2, h3⟩ := h
  refine ⟨h1, h2, fun hp => ?_⟩
  obtain ⟨b, off, e, hlt, hc⟩ := h3 hp
  obtain ⟨k1, k2⟩ := hO b off e hp
  refine ⟨b, off, e, Nat.lt_of_lt_of_le hlt hK.1, fun j z hz => ?_⟩
  obtain ⟨A, cap, c1, c2, c3, c4, c5, c6⟩ := hc j z hz
  have hj : j < n := by have := (List.getElem?_eq_some_iff.1 hz).1; omega
  exact ⟨A, cap, (hK.2 _ _ hlt k1).trans c1, c2, c3, c4.keep hK (fun hl b' o' e' => k2 j hj ⟨b', o', none⟩ _ _ (by rw [c1, e']) hl), (hK.2 _ _ hlt k1).trans c5, c6⟩
theorem OffS.keep {P : Nat → Prop} {a : Option Addr} {n : Nat} {l : List Stm} (h : OffS P y a n) (hS : StmsAt y a n l) (hK : Keep Q y x) (hO : OffS Q y a n) : OffS P x a n := fun b off e hp => by
  obtain ⟨h1, h2⟩ := h b off e hp
  obtain ⟨k1, _⟩ := hO b off e hp
  obtain ⟨b', off', e', hlt, _⟩ := hS.2.2 hp
  rw [e'] at e
  cases e
  exact ⟨h1, fun j hj ad len c hc hl => h2 j hj ad len c ((hK.2 _ _ hlt k1).symm.trans hc) hl⟩
end
theorem VarAt.onto {w0 w w' : World} {b : Nat} {vs : List Value} (hb : Below w.heap.size w w') (h : VarAt w0 b vs) (hh : w0.heap = w.heap) : VarAt w' b vs := by
  refine VarAt.below (w := w) ⟨by rw [← hh]; exact h.1, fun j v hv => ?_, fun j hj => ?_⟩ hb
  · have := h.2.1 j v hv
    unfold World.cell? at this ⊢
    rw [← hh]; exact this
  · have := h.2.2 j hj
    unfold World.frozen? at this ⊢
    rw [← hh]; exact this
/-- Not a variable's block, nor between two. -/
def Qn (g N1 N2 b : Nat) : Prop := b ≠ g ∧ (b < N1 ∨ N2 ≤ b)
theorem OffS.both {P Q : Nat → Prop} {w : World} {a : Option Addr} {n : Nat} (h : OffS P w a n) (h' : OffS Q w a n) : OffS (fun b => P b ∧ Q b) w a n := fun b off e hn =>
  ⟨⟨(h b off e hn).1, (h' b off e hn).1⟩, fun j hj ad len c hc hl => ⟨(h b off e hn).2 j hj ad len c hc hl, (h' b off e hn).2 j hj ad len c hc hl⟩⟩
theorem arm_fact {wr wa w4 : World} {g n m kx : Nat} {A3 A4 R3 R4 S3 S4 X : Option Addr} {G3 : Nat → Nat} {l0 l1 : List Stm} (hwr : Below wr.heap.size wr wa) (hb : Below wa.heap.size wa w4)
    (hP : ∀ P : Nat → Prop, (∀ b, wa.heap.size ≤ b → P b) → OffW P A3 n → OffS P wa R3 m → OffS P wa S3 m → OffW P A4 n ∧ OffS P w4 R4 m ∧ OffS P w4 S4 m ∧ OffW P X kx)
    (hA : AtW wr A3 n G3) (h0 : StmsAt wr R3 m l0) (h1 : StmsAt wr S3 m l1) (o0 : OffW (Out g 1) A3 n) (o1 : OffS (Out g 1) wr R3 m) (o2 : OffS (Out g 1) wr S3 m) (hg : g < wr.heap.size) :
    ∃ N2, N2 = wa.heap.size ∧ wr.heap.size ≤ N2 ∧ N2 ≤ w4.heap.size ∧ OffW (Qn g wr.heap.size N2) A4 n ∧ OffS (Qn g wr.heap.size N2) w4 R4 m ∧ OffS (Qn g wr.heap.size N2) w4 S4 m := by
  have hz := hwr.size
  obtain ⟨p0, p1, p2, _⟩ := hP (Qn g wr.heap.size wa.heap.size) (fun b hb => ⟨by omega, .inr hb⟩)
    (fun hp b off e => ⟨by have := o0 hp b off e; unfold Out at this; omega, .inl (hA.old hp b off e)⟩)
    ((((o1.both h0.old).mono fun b hb => (⟨by have := hb.1; unfold Out at this; omega, .inl hb.2⟩ : Qn g wr.heap.size wa.heap.size b))).later h0 hwr)
    ((((o2.both h1.old).mono fun b hb => (⟨by have := hb.1; unfold Out at this; omega, .inl hb.2⟩ : Qn g wr.heap.size wa.heap.size b))).later h1 hwr)
  exact ⟨_, rfl, hz, hb.size, p0, p1, p2⟩
end Go.Proofs.YtdbomlclkhkinaaDoor
