/-
  What PoolAlone's loops keep: a world in its variable, and two rows of ints of the call's own; a world that is to be stored.
-/
import Derived.Test.YtadknblgfcgkpaaPolLoop
namespace Go.Proofs.Ytadknblgfcgkpaa
open Go.ChangeShapes Go.WideShapes Go.ChangeAt Go.RowKit Go.BigFrame
set_option linter.unusedVariables false
set_option maxRecDepth 100000
set_option maxRecDepth 100000

def Nt2 (g : Nat) (u v : Value) (b : Nat) : Prop := b ≠ g ∧ (∀ k, u.ownBlock = some k → b ≠ k) ∧ ∀ k, v.ownBlock = some k → b ≠ k
theorem Nt2.swap {g : Nat} {u v : Value} {b : Nat} (h : Nt2 g u v b) : Nt2 g v u b := ⟨h.1, h.2.2, h.2.1⟩
theorem Nt2.both {g : Nat} {u u' v : Value} {N b : Nat} (h : Nt2 g u v b) (hv : u'.ownBlock = u.ownBlock ∨ u'.ownBlock = some N) (hb : b < N) : Nt2 g u' v b := by
  refine ⟨h.1, fun k hk => ?_, h.2.2⟩
  rcases hv with e | e
  · exact h.2.1 k (by rw [← e]; exact hk)
  · rw [e] at hk
    cases hk
    omega
structure RunU (y0 : World) (gx B0 : Nat) (c : Int) (n r : Nat) (pv hv : Value) (ps hs : List Nat) (G : Nat → Nat) (x : World) : Prop where
  below : Below y0.heap.size y0 x
  size : B0 ≤ x.heap.size
  lt : y0.heap.size ≤ gx ∧ gx < B0
  run : WdFrom (Nt2 gx pv hv) (fun _ => False) x gx 1 c n r 1 G (zerosS 1) (zerosS 1)
  pile : OwnI x B0 pv ps
  held : OwnI x B0 hv hs
  apart : ∀ k, pv.ownBlock = some k → hv.ownBlock ≠ some k
section
variable {y0 : World} {gx B0 : Nat} {c : Int} {n r : Nat} {pv hv : Value} {ps hs : List Nat} {G : Nat → Nat} {x x' : World}
theorem RunU.swap (h : RunU y0 gx B0 c n r pv hv ps hs G x) : RunU y0 gx B0 c n r hv pv hs ps G x :=
  ⟨h.below, h.size, h.lt, h.run.sub fun b _ hn => hn.swap, h.held, h.pile, fun k h1 h2 => h.apart k h2 h1⟩
theorem RunU.later (h : RunU y0 gx B0 c n r pv hv ps hs G x) (hb : Below x.heap.size x x') : RunU y0 gx B0 c n r pv hv ps hs G x' :=
  ⟨h.below.trans (hb.mono h.below.size), Nat.le_trans h.size hb.size, h.lt, h.run.later hb, h.pile.later hb, h.held.later hb, h.apart⟩
theorem RunU.old (h : RunU y0 gx B0 c n r pv hv ps hs G x) : ∀ b, x.heap.size ≤ b → Nt2 gx pv hv b := fun b hb => ⟨by have := h.lt; have := h.size; omega, fun k hk => by have := (h.pile.lt k hk).2; omega, fun k hk => by have := (h.held.lt k hk).2; omega⟩
theorem RunU.nextP {pv' : Value} {ps' : List Nat} {w' : World} (h : RunU y0 gx B0 c n r pv hv ps hs G x) (hown : OwnI w' B0 pv' ps') (hg : x.grownBy w' pv.ownBlock) (hv1 : pv'.ownBlock = pv.ownBlock ∨ pv'.ownBlock = some x.heap.size) : RunU y0 gx B0 c n r pv' hv ps' hs G w' := by
  have hrow : ∀ k, pv.ownBlock = some k → B0 ≤ k := fun k hk => (h.pile.lt k hk).1
  have hK : Keep (fun b => Nt2 gx pv hv b ∧ Nt2 gx pv' hv b) x w' := Keep.grown hg (fun b hb k hk => hb.1.2.1 k hk)
  have sub : ∀ b, b < x.heap.size → Nt2 gx pv hv b → Nt2 gx pv hv b ∧ Nt2 gx pv' hv b := fun b hb hn => ⟨hn, hn.both hv1 hb⟩
  have hlt := h.lt
  have hvx : ∀ us, VarAt x gx us → VarAt w' gx us := fun us hu => hu.grown hg (fun k hk e => by have := hrow k hk; omega)
  have hb : Below y0.heap.size y0 w' := h.below.grown hg h.below.size (fun k hk => by have := hrow k hk; omega)
  refine ⟨hb, Nat.le_trans h.size hg.size, hlt, ((h.run.sub sub).keep hK hvx).sub fun b _ h => h.2, hown, h.held.kept hg ?_, ?_⟩
  · cases hh : hv.ownBlock with
    | none => exact .inl rfl
    | some k => exact .inr (fun e => h.apart k e.symm hh)
  · intro k hk
    rcases hv1 with e | e
    · exact h.apart k (by rw [← e]; exact hk)
    · intro hh
      rw [e] at hk
      cases hk
      have := (h.held.lt _ hh).2
      omega
theorem RunU.cutP {a : Option Addr} {k cap m : Nat} (h : RunU y0 gx B0 c n r (.slice a k cap) hv ps hs G x) (hm : m ≤ ps.length) (hz : a ≠ none) : RunU y0 gx B0 c n r (.slice a m cap) hv (ps.take m) hs G x :=
  ⟨h.below, h.size, h.lt, h.run.sub fun b _ hn => ⟨hn.1, fun k hk => hn.2.1 k (by cases a <;> exact hk), hn.2.2⟩, h.pile.cut hm hz, h.held, fun k hk => h.apart k (by cases a <;> exact hk)⟩
theorem RunU.newH {hv' : Value} {hs' : List Nat} (h : RunU y0 gx B0 c n r pv hv ps hs G x) (hb : Below x.heap.size x x') (hown : OwnI x' x.heap.size hv' hs') : RunU y0 gx B0 c n r pv hv' ps hs' G x' :=
  ⟨h.below.trans (hb.mono h.below.size), Nat.le_trans h.size hb.size, h.lt, (h.run.sub fun b hbb hn => (⟨hn.1, hn.2.1, fun k hk => by have := (hown.lt k hk).1; omega⟩ : Nt2 gx pv hv' b)).later hb, h.pile.later hb, hown.low h.size, fun k hk hh => by have := (h.pile.lt k hk).2; have := (hown.lt k hh).1; omega⟩
/-- Behind a store into the world's variable. -/
theorem RunU.put {G' : Nat → Nat} (h : RunU y0 gx B0 c n r pv hv ps hs G x) (hb : Below y0.heap.size y0 x') (hs0 : x.heap.size ≤ x'.heap.size) (hp : OwnI x' B0 pv ps) (hh : OwnI x' B0 hv hs) (hrun : WdFrom (Nt2 gx pv hv) (fun _ => False) x' gx 1 c n r 1 G' (zerosS 1) (zerosS 1)) : RunU y0 gx B0 c n r pv hv ps hs G' x' :=
  ⟨hb, Nat.le_trans h.size hs0, h.lt, hrun, hp, hh, h.apart⟩
end
/-- And a world that is to be stored in a variable of its own, and what was told in another. -/
structure RunP (y0 : World) (gx B0 : Nat) (c : Int) (n r : Nat) (pv hv : Value) (ps hs : List Nat) (G : Nat → Nat) (g' go : Nat) (O : List Value) (G' : Nat → Nat) (x : World) : Prop where
  u : RunU y0 gx B0 c n r pv hv ps hs G x
  next : WdFrom (Nt2 gx pv hv) (fun _ => False) x g' 1 c n r 1 G' (zerosS 1) (zerosS 1)
  out : VarAt x go O
  far : B0 ≤ g' ∧ B0 ≤ go
  off : ∀ k, pv.ownBlock = some k ∨ hv.ownBlock = some k → g' ≠ k ∧ go ≠ k
section
variable {y0 : World} {gx B0 : Nat} {c : Int} {n r : Nat} {pv hv : Value} {ps hs : List Nat} {G G' : Nat → Nat} {g' go : Nat} {O : List Value} {x x' : World}
theorem RunP.swap (h : RunP y0 gx B0 c n r pv hv ps hs G g' go O G' x) : RunP y0 gx B0 c n r hv pv hs ps G g' go O G' x :=
  ⟨h.u.swap, h.next.sub fun b _ hn => hn.swap, h.out, h.far, fun k hk => h.off k hk.symm⟩
theorem RunP.later (h : RunP y0 gx B0 c n r pv hv ps hs G g' go O G' x) (hb : Below x.heap.size x x') : RunP y0 gx B0 c n r pv hv ps hs G g' go O G' x' :=
  ⟨h.u.later hb, h.next.later hb, h.out.below hb, h.far, h.off⟩
theorem RunP.nextP {pv' : Value} {ps' : List Nat} {w' : World} (h : RunP y0 gx B0 c n r pv hv ps hs G g' go O G' x) (hown : OwnI w' B0 pv' ps') (hg : x.grownBy w' pv.ownBlock) (hv1 : pv'.ownBlock = pv.ownBlock ∨ pv'.ownBlock = some x.heap.size) : RunP y0 gx B0 c n r pv' hv ps' hs G g' go O G' w' := by
  have hK : Keep (fun b => Nt2 gx pv hv b ∧ Nt2 gx pv' hv b) x w' := Keep.grown hg (fun b hb k hk => hb.1.2.1 k hk)
  have sub : ∀ b, b < x.heap.size → Nt2 gx pv hv b → Nt2 gx pv hv b ∧ Nt2 gx pv' hv b := fun b hb hn => ⟨hn, hn.both hv1 hb⟩
  have hoff := h.off
  have hl1 := h.next.lt
  have hl2 := h.out.1
  refine ⟨h.u.nextP hown hg hv1, ((h.next.sub sub).keep hK (fun us hu => hu.grown hg (fun k hk => (hoff k (.inl hk)).1))).sub fun b _ h => h.2, h.out.grown hg (fun k hk => (hoff k (.inl hk)).2), h.far, ?_⟩
  intro k hk
  rcases hk with hk | hk
  · rcases hv1 with e | e
    · exact hoff k (.inl (by rw [← e]; exact hk))
    · rw [e] at hk
      cases hk
      omega
  · exact hoff k (.inr hk)
theorem RunP.nextH {hv' : Value} {hs' : List Nat} {w' : World} (h : RunP y0 gx B0 c n r pv hv ps hs G g' go O G' x) (hown : OwnI w' B0 hv' hs') (hg : x.grownBy w' hv.ownBlock) (hv1 : hv'.ownBlock = hv.ownBlock ∨ hv'.ownBlock = some x.heap.size) : RunP y0 gx B0 c n r pv hv' ps hs' G g' go O G' w' := (h.swap.nextP hown hg hv1).swap
theorem RunP.cutP {a : Option Addr} {k cap m : Nat} (h : RunP y0 gx B0 c n r (.slice a k cap) hv ps hs G g' go O G' x) (hm : m ≤ ps.length) (hz : a ≠ none) : RunP y0 gx B0 c n r (.slice a m cap) hv (ps.take m) hs G g' go O G' x :=
  ⟨h.u.cutP hm hz, h.next.sub fun b _ hn => ⟨hn.1, fun k hk => hn.2.1 k (by cases a <;> exact hk), hn.2.2⟩, h.out, h.far, fun k hk => h.off k (hk.imp (fun e => by cases a <;> exact e) id)⟩
theorem RunP.newH {hv' : Value} {hs' : List Nat} (h : RunP y0 gx B0 c n r pv hv ps hs G g' go O G' x) (hb : Below x.heap.size x x') (hown : OwnI x' x.heap.size hv' hs') : RunP y0 gx B0 c n r pv hv' ps hs' G g' go O G' x' :=
  ⟨h.u.newH hb hown, (h.next.sub fun b hbb hn => (⟨hn.1, hn.2.1, fun k hk => by have := (hown.lt k hk).1; omega⟩ : Nt2 gx pv hv' b)).later hb, h.out.below hb, h.far, fun k hk => by
    have h1 := h.next.lt
    have h2 := h.out.1
    rcases hk with hk | hk
    · exact h.off k (.inl hk)
    · have := (hown.lt k hk).1
      omega⟩
end
/-! ### Appends where the order is drawn -/
theorem OwnI.made (w : World) : OwnI (w.alloc (.cells #[] 3)) w.heap.size (.slice (some ⟨w.heap.size, 0, none⟩) 0 0) [] :=
  ⟨by simp [intV], .inr ⟨w.heap.size, 0, #[], rfl, Nat.le_refl _, heap_alloc_new w _, Nat.le_refl _, by unfold maxLen; omega, by simp, by simp [intV]⟩⟩
def RowI (w : World) (ad : Addr) (m : Nat) (ys : List Nat) : Prop := ys.length = m ∧ ∀ (j u : Nat), ys[j]? = some u → (ad.add j).block < w.heap.size ∧ w.cell? (ad.add j) = some (.int .i64 (u : Int))
theorem RowI.below {w w' : World} {ad : Addr} {m : Nat} {ys : List Nat} (h : RowI w ad m ys) (hb : Below w.heap.size w w') : RowI w' ad m ys := ⟨h.1, fun j u hu => ⟨Nat.lt_of_lt_of_le (h.2 j u hu).1 hb.size, (hb.cell (h.2 j u hu).1).trans (h.2 j u hu).2⟩⟩
theorem step_appendI {ops : Array Oper} {o : Oper} {a : Act} {w0 w : World} {K : Act → World → Prop} {Q : Exit → Act → World → Prop} {E : Prop} (hB : Below w0.heap.size w0 w) (hg : o.guard = none) (s x : Operand)
    (ho : o.op = .call { callee := .builtin .append, args := #[s, x], argTypes := #[35, 35] }) (v : Value) (xs : List Nat) (hs : a.eval s = v) (hown : OwnI w w0.heap.size v xs)
    (ad : Addr) (m c : Nat) (ys : List Nat) (hx : a.eval x = .slice (some ad) m c) (hA : RowI w ad m ys) (hb : xs.length + m ≤ 900000)
    (h : ∀ v' w', OwnI w' w0.heap.size v' (xs ++ ys) → Below w0.heap.size w0 w' → K (a.put o.dst v') w') : if Region.wanted o (yielded ops a.tmps) = true then Oper.wp Try.prog o a w K Q else E := by
  have hw : Region.wanted o (yielded ops a.tmps) = true := by simp [Region.wanted, hg]
  rw [if_pos hw]
  obtain ⟨i, hi, hz0, hz1, hz2⟩ := info_parts infoI
  have hone : ∀ u ∈ intV ys, u.oneCell' = true := by
    intro u hu
    unfold intV at hu
    obtain ⟨y, _, rfl⟩ := List.mem_map.1 hu
    rfl
  have hnews : ∀ j u, (intV ys)[j]? = some u → w.cell? (ad.add j) = some u := by
    intro j u hu
    unfold intV at hu
    rw [List.getElem?_map] at hu
    cases hy : ys[j]? with
    | none => rw [hy] at hu; cases hu
    | some y => rw [hy] at hu; cases hu; exact (hA.2 j y hy).2
  obtain ⟨v', w', hr, h2, h3, _⟩ := run_append_own (P := Try.prog) w w0.heap.size 35 o.type 3 i _ 1 8 Try.underlying35 hi hz0 hz1 hz2 rfl (by decide) v xs.length (intV xs) hown ad m c (intV ys)
    (by rw [intV_len, hA.1]; omega) hnews hone (by unfold maxLen; omega) (by omega) hB.size
  have h2' : OwnI w' w0.heap.size v' (xs ++ ys) := by
    unfold OwnI
    rw [List.length_append, hA.1, show intV (xs ++ ys) = intV xs ++ intV ys by unfold intV; rw [List.map_append]]
    exact h2
  unfold Oper.wp execOp
  simp only [ho, resolve, invoke, builtin, Sem.run_bind, Sem.run_pure, Result.andThen_ok, List.map_toArray, List.map_cons, List.map_nil, hs, hx, hr]
  exact h v' w' h2' (hown.grow h3 hB (Nat.le_refl _))
theorem OwnI.at_ {w : World} {B n cap j y : Nat} {a : Option Addr} {xs : List Nat} (h : OwnI w B (.slice a n cap) xs) (hx : xs[j]? = some y) : ∃ g, a = some ⟨g, 0, none⟩ ∧ n ≤ cap ∧ w.cell? ⟨g, j, none⟩ = some (.int .i64 (y : Int)) := by
  obtain ⟨a', cap', e, hcap, _, hc⟩ := h.form
  cases e
  obtain ⟨g, e, _, _, hcell⟩ := hc j y hx
  exact ⟨g, e, hcap, hcell⟩
theorem pile_step {c j : Nat} (h : j + 1 ≤ c) : (List.range' (j + 1 + 1) (c - (j + 1))).reverse ++ [j + 1] = (List.range' (j + 1) (c - j)).reverse := by
  rw [show c - j = (c - (j + 1)) + 1 by omega, List.range'_succ, List.reverse_cons]
theorem perm_at {hs : List Nat} {k q : Nat} (h : hs[k]? = some q) : hs.Perm (q :: (hs.take k ++ hs.drop (k + 1))) := by
  obtain ⟨hk, rfl⟩ := List.getElem?_eq_some_iff.1 h
  have h1 : hs = hs.take k ++ hs[k] :: hs.drop (k + 1) := by rw [← List.drop_eq_getElem_cons hk, List.take_append_drop]
  have h2 : (hs.take k ++ hs[k] :: hs.drop (k + 1)).Perm (hs[k] :: (hs.take k ++ hs.drop (k + 1))) := List.perm_middle
  rw [← h1] at h2
  exact h2
/-- The front and the end of a row, as they are cut. -/
theorem OwnI.front {w : World} {B g cap k : Nat} {xs : List Nat} (h : OwnI w B (.slice (some ⟨g, 0, none⟩) xs.length cap) xs) (hk : k ≤ xs.length) : RowI w ⟨g, 0, none⟩ k (xs.take k) := by
  obtain ⟨a, cap', e, _, _, hc⟩ := h.form
  cases e
  refine ⟨by rw [List.length_take]; omega, fun j u hu => ?_⟩
  have hj := (List.getElem?_eq_some_iff.1 hu).1
  rw [List.length_take] at hj
  rw [List.getElem?_take_of_lt (by omega)] at hu
  obtain ⟨g2, e, _, hlt, hcell⟩ := hc j u hu
  cases e
  rw [Addr.add_mid, Nat.zero_add]
  exact ⟨hlt, hcell⟩
theorem OwnI.back {w : World} {B g cap k : Nat} {xs : List Nat} (h : OwnI w B (.slice (some ⟨g, 0, none⟩) xs.length cap) xs) (hk : k ≤ xs.length) : ∃ ad, (∀ W, (Instr.slice 35 (.slice (some ⟨g, 0, none⟩) xs.length cap) (some (.int .i64 (k : Int))) none none).run Try.prog W = .ok (.slice (some ad) (xs.length - k) (cap - k)) W) ∧ RowI w ad (xs.length - k) (xs.drop k) := by
  obtain ⟨a, cap', e, hcap, _, hc⟩ := h.form
  cases e
  refine ⟨if cap = k then ⟨g, 0, none⟩ else (⟨g, 0, none⟩ : Addr).add (k * 1), fun W => ?_, by rw [List.length_drop], fun j u hu => ?_⟩
  · rw [run_cutI_l (some ⟨g, 0, none⟩) xs.length cap k hk W]
    by_cases hck : cap = k
    · rw [if_pos hck, if_pos hck]
    · rw [if_neg hck, if_neg hck]; rfl
  · have hj := (List.getElem?_eq_some_iff.1 hu).1
    rw [List.length_drop] at hj
    rw [if_neg (by omega), Addr.add_mid, Addr.add_mid, Nat.zero_add, Nat.mul_one]
    rw [List.getElem?_drop] at hu
    obtain ⟨g2, e, _, hlt, hcell⟩ := hc (k + j) u hu
    cases e
    exact ⟨hlt, hcell⟩
end Go.Proofs.Ytadknblgfcgkpaa
