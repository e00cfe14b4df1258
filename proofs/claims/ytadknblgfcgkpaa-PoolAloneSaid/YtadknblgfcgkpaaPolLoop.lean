/-
  What the laws' loops keep: a world in its variable, a row of records that are had, the records that are free.
-/
import Derived.Test.YtadknblgfcgkpaaPolFree
namespace Go.Proofs.Ytadknblgfcgkpaa
open Go.ChangeShapes Go.WideShapes Go.ChangeAt Go.RowKit Go.BigFrame
set_option linter.unusedVariables false
set_option maxRecDepth 100000

/-- Free and had: each record once, none missing. -/
structure Parts (c : Nat) (G : Nat → Nat) (l hs : List Nat) : Prop where
  free : FreeIs 1 G l
  nodup : (l ++ hs).Nodup
  le : ∀ a ∈ l ++ hs, 1 ≤ a ∧ a ≤ c
  len : l.length + hs.length = c
theorem Parts.start {c : Nat} (hc : c < 1048576) : Parts c (newF 1 c) (List.range' 1 c) [] :=
  ⟨new_free hc, by rw [List.append_nil]; exact List.nodup_range', fun a ha => by rw [List.append_nil, List.mem_range'_1] at ha; omega, by rw [List.length_range']; rfl⟩
theorem Parts.pop {c a : Nat} {G : Nat → Nat} {l hs : List Nat} (h : Parts c G (a :: l) hs) : Parts c (popG 1 G) l (hs ++ [a]) := by
  have hp : (l ++ (hs ++ [a])).Perm ((a :: l) ++ hs) := by
    rw [← List.append_assoc]
    exact List.perm_append_comm
  exact ⟨h.free.pop, hp.nodup_iff.2 h.nodup, fun b hb => h.le b (hp.mem_iff.1 hb), by have := h.len; simp at this ⊢; omega⟩
theorem Parts.push {c q : Nat} {G : Nat → Nat} {l hs hs' : List Nat} (h : Parts c G l hs) (hp : hs.Perm (q :: hs')) (hc : c < 1048576) : Parts c (pushG 1 q G) (q :: l) hs' := by
  have hq : (l ++ hs).Perm ((q :: l) ++ hs') := (List.Perm.append_left l hp).trans List.perm_middle
  have hm := h.le q (hq.mem_iff.2 (List.mem_append_left _ (List.mem_cons_self ..)))
  have hn := hq.nodup_iff.1 h.nodup
  have hno : q ∉ l := by
    intro hx
    rw [List.cons_append, List.nodup_cons] at hn
    exact hn.1 (List.mem_append_left _ hx)
  have hl := hp.length_eq
  exact ⟨h.free.push hm.1 (by omega) hno, hn, fun b hb => h.le b (hq.mem_iff.2 hb), by have := h.len; simp at hl ⊢; omega⟩
theorem Parts.last {c : Nat} {G : Nat → Nat} {l hs : List Nat} {q : Nat} (h : Parts c G l (hs ++ [q])) (hc : c < 1048576) : Parts c (pushG 1 q G) (q :: l) hs := h.push (by
  have := List.perm_append_comm (l₁ := hs) (l₂ := [q])
  exact this) hc

/-- A loop's state: the world in its variable, and a row of ints of the call's own. -/
structure RunT (y0 : World) (gx B0 : Nat) (c : Int) (n r : Nat) (v : Value) (hs : List Nat) (G : Nat → Nat) (x : World) : Prop where
  below : Below y0.heap.size y0 x
  size : B0 ≤ x.heap.size
  lt : y0.heap.size ≤ gx ∧ gx < B0
  run : WdFrom (Nt gx gx v) (fun _ => False) x gx 1 c n r 1 G (zerosS 1) (zerosS 1)
  own : OwnI x B0 v hs
section
variable {y0 : World} {gx B0 : Nat} {c : Int} {n r : Nat} {v : Value} {hs : List Nat} {G : Nat → Nat} {x x' : World}
theorem RunT.later (h : RunT y0 gx B0 c n r v hs G x) (hb : Below x.heap.size x x') : RunT y0 gx B0 c n r v hs G x' :=
  ⟨h.below.trans (hb.mono h.below.size), Nat.le_trans h.size hb.size, h.lt, h.run.later hb, h.own.later hb⟩
theorem RunT.next {v' : Value} {hs' : List Nat} {w' : World} (h : RunT y0 gx B0 c n r v hs G x) (hown : OwnI w' B0 v' hs') (hg : x.grownBy w' v.ownBlock) (hv : v'.ownBlock = v.ownBlock ∨ v'.ownBlock = some x.heap.size) : RunT y0 gx B0 c n r v' hs' G w' := by
  have hrow : ∀ k, v.ownBlock = some k → B0 ≤ k := fun k hk => (h.own.lt k hk).1
  have hK : Keep (fun b => Nt gx gx v b ∧ Nt gx gx v' b) x w' := Keep.grown hg (fun b hb k hk => hb.1.2.2 k hk)
  have sub : ∀ b, b < x.heap.size → Nt gx gx v b → Nt gx gx v b ∧ Nt gx gx v' b := fun b hb hn => ⟨hn, hn.both hv hb⟩
  have hlt := h.lt
  have hvx : ∀ us, VarAt x gx us → VarAt w' gx us := fun us hu => hu.grown hg (fun k hk e => by have := hrow k hk; omega)
  have hb : Below y0.heap.size y0 w' := h.below.grown hg h.below.size (fun k hk => by have := hrow k hk; omega)
  exact ⟨hb, Nat.le_trans h.size hg.size, hlt, ((h.run.sub sub).keep hK hvx).sub fun b _ h => h.2, hown⟩
theorem RunT.cut {a : Option Addr} {k cap m : Nat} (h : RunT y0 gx B0 c n r (.slice a k cap) hs G x) (hm : m ≤ hs.length) (hz : a ≠ none) : RunT y0 gx B0 c n r (.slice a m cap) (hs.take m) G x :=
  ⟨h.below, h.size, h.lt, h.run.sub fun b _ hn => ⟨hn.1, hn.2.1, fun k hk => hn.2.2 k (by cases a <;> exact hk)⟩, h.own.cut hm hz⟩
end
end Go.Proofs.Ytadknblgfcgkpaa
