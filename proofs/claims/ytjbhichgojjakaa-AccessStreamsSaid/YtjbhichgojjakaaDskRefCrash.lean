/-
  The contract of the document's own Crash: two rows that grow, stream by stream.
-/
import Derived.Test.YtjbhichgojjakaaDskCrash2
import Derived.Deep.RegionHeld3
namespace Go.Proofs.Ytjbhichgojjakaa
open Go.ChangeShapes Go.WideShapes Go.ChangeAt Go.RowKit
set_option linter.unusedVariables false
set_option maxRecDepth 100000

/-- A row of streams of the call's own (its memory from s on), whose bytes are the call's own too (from base on). -/
def OwnStms (w : World) (base s : Nat) (v : Value) (n : Nat) (l : List Stm) : Prop :=
  ∃ vs, w.ownsRow s 76 2 v n vs ∧ vs.length = l.length * 2 ∧ ∀ j x, l[j]? = some x → ∃ u, vs[j * 2]? = some u ∧ vs[j * 2 + 1]? = some (.int .i64 x.synced) ∧ Own w base u x.bytes.length x.bytes ∧ (-9223372036854775808 ≤ x.synced ∧ x.synced < 9223372036854775808) ∧ x.bytes.length ≤ 1000000
theorem OwnStms.nil (w : World) (base s : Nat) : OwnStms w base s (.slice none 0 0) 0 [] := ⟨[], World.ownsRow_nil _ _ _ _, rfl, fun j x h => by simp at h⟩
theorem OwnStms.later {w w' : World} {base s n : Nat} {v : Value} {l : List Stm} (h : OwnStms w base s v n l) (hb : Below w.heap.size w w') : OwnStms w' base s v n l := by
  obtain ⟨vs, h1, h2, h3⟩ := h
  refine ⟨vs, ownsRow_later h1 hb, h2, fun j x hx => ?_⟩
  obtain ⟨u, k1, k2, k3, k4⟩ := h3 j x hx
  exact ⟨u, k1, k2, k3.later hb, k4⟩
theorem OwnStms.aside {w : World} {base s n : Nat} {v : Value} {l : List Stm} (h : OwnStms w base s v n l) (b j : Nat) (u : Value) (hb : b < base) (hs : b < s) : OwnStms (w.setCell ⟨b, j, none⟩ u) base s v n l := by
  obtain ⟨vs, h1, h2, h3⟩ := h
  refine ⟨vs, ownsRow_apart h1 b j u hs, h2, fun i x hx => ?_⟩
  obtain ⟨y, k1, k2, k3, k4⟩ := h3 i x hx
  exact ⟨y, k1, k2, k3.aside b j u hb, k4⟩
theorem own_kind {w : World} {base n : Nat} {e : TypeId} {size : Nat} {v : Value} {vs : List Value} (h : w.ownsRow base e size v n vs) (g : Nat) (hg : v.ownBlock = some g) : ∃ cur mk, w.heap[g]? = some (.cells cur e mk) := by
  rcases h.2 with ⟨rfl, _⟩ | ⟨g', cap, cur, rfl, _, hgb, _⟩
  · simp [Value.ownBlock] at hg
  · simp [Value.ownBlock] at hg
    subst hg
    exact ⟨cur, _, hgb⟩
theorem OwnStms.grown {w w' : World} {base s n : Nat} {v : Value} {l : List Stm} {row : Option Nat} (h : OwnStms w base s v n l) (hg : w.grownBy w' row) (hrow : v.ownBlock = none ∨ ¬ v.ownBlock = row) (ht : ∀ g, row = some g → ∃ cur mk, w.heap[g]? = some (.cells cur 76 mk)) : OwnStms w' base s v n l := by
  obtain ⟨vs, h1, h2, h3⟩ := h
  refine ⟨vs, h1.kept hg hrow, h2, fun j x hx => ?_⟩
  obtain ⟨u, k1, k2, k3, k4⟩ := h3 j x hx
  refine ⟨u, k1, k2, ⟨k3.1, k3.2.kept hg ?_⟩, k4⟩
  rcases row with _ | g
  · rcases hu : u.ownBlock with _ | q
    · exact .inl rfl
    · exact .inr (by simp)
  · rcases hu : u.ownBlock with _ | q
    · exact .inl rfl
    · refine .inr (fun e => ?_)
      obtain ⟨cur, mk, hc⟩ := ht g rfl
      obtain ⟨cur', mk', hc'⟩ := own_kind k3.2 q hu
      cases e
      rw [hc] at hc'
      simp at hc'
theorem OwnStms.at_ {w : World} {base s n : Nat} {v : Value} {l : List Stm} (h : OwnStms w base s v n l) (hn : n ≤ 1000000) : ∃ a cap, v = .slice a n cap ∧ n ≤ cap ∧ StmsAt w a n l ∧ ∀ P : Nat → Prop, (∀ b, base ≤ b → P b) → (∀ b, s ≤ b → P b) → OffS P w a n := by
  obtain ⟨vs, h1, h2, h3⟩ := h
  have hraw : RawS w vs l := ⟨h2, fun j x hx => by
    obtain ⟨u, k1, k2, k3, k4, k5⟩ := h3 j x hx
    obtain ⟨A, cap, rfl, k6, k7⟩ := k3.at_ (by omega)
    exact ⟨A, cap, k1, k2, k6, by omega, k7, k4⟩⟩
  obtain ⟨a, cap, rfl, hc, hS⟩ := hraw.at_ h1 (Below.refl _ _) (by omega)
  refine ⟨a, cap, rfl, hc, hS, fun P hP1 hP2 => off_own h1 hP2 ?_⟩
  intro j ad len c hu hl
  have hj : j < l.length := by have := (List.getElem?_eq_some_iff.1 hu).1; omega
  obtain ⟨u, k1, _, k3, _⟩ := h3 j _ (List.getElem?_eq_getElem hj)
  rw [hu] at k1
  cases k1
  obtain ⟨b, off, sp⟩ := ad
  have hlen : (l[j]).bytes.length = len := by
    rcases k3.2.2 with ⟨e, _⟩ | ⟨g, cap', cur, e, _⟩
    · cases e
    · simp at e; exact e.2.1.symm
  rcases k3.2.2 with ⟨e, _⟩ | ⟨g, cap', cur, e, hg, _⟩
  · cases e
  · simp only [Value.slice.injEq, Option.some.injEq, Addr.mk.injEq] at e
    obtain ⟨⟨rfl, _⟩, _⟩ := e
    exact hP1 _ hg

/-- What a world keeps while the variables are read and the result under way is written. -/
def CrS (w : World) (v0 v1 v2 : Value) (w' : World) : Prop :=
  Below w.heap.size w w' ∧ VarAt w' w.heap.size [v0, v1, v2] ∧ VarAt w' (w.heap.size + 1) [.int .u64 0, .slice none 0 0, .slice none 0 0] ∧ w.heap.size + 2 < w'.heap.size ∧ ∀ j, j < 3 → (∃ v, w'.cell? ⟨w.heap.size + 2, j, none⟩ = some v) ∧ w'.frozen? ⟨w.heap.size + 2, j, none⟩ = false
section
variable {w w' w2 : World} {v0 v1 v2 : Value}
theorem CrS.later (h : CrS w v0 v1 v2 w') (hb : Below w'.heap.size w' w2) : CrS w v0 v1 v2 w2 := by
  obtain ⟨h1, h2, h3, h4, h5⟩ := h
  refine ⟨h1.trans (hb.mono h1.size), h2.below hb, h3.below hb, Nat.lt_of_lt_of_le h4 hb.size, fun j hj => ?_⟩
  obtain ⟨⟨v, hv⟩, hf⟩ := h5 j hj
  exact ⟨⟨v, (keptCells hb _ _ h4).trans hv⟩, (keptFrozen hb _ _ h4).trans hf⟩
theorem CrS.alloc (h : CrS w v0 v1 v2 w') (o : Obj) : CrS w v0 v1 v2 (w'.alloc o) := h.later ((Below.refl _ _).alloc (Nat.le_refl _) o)
theorem CrS.drew (h : CrS w v0 v1 v2 w') : CrS w v0 v1 v2 w'.drew := h.later (Below.drew (Below.refl _ _))
theorem CrS.res (h : CrS w v0 v1 v2 w') (j : Nat) (v : Value) : CrS w v0 v1 v2 (w'.setCell ⟨w.heap.size + 2, j, none⟩ v) := by
  obtain ⟨h1, h2, h3, h4, h5⟩ := h
  refine ⟨below_set1 (by omega) v h1, h2.apart j v (by omega), h3.apart j v (by omega), by simpa using h4, fun i hi => ?_⟩
  obtain ⟨⟨u, hu⟩, hf⟩ := h5 i hi
  refine ⟨?_, by rw [World.frozen?_setCell]; exact hf⟩
  by_cases hij : i = j
  · subst hij; exact ⟨v, World.cell?_setCell_same w' _ v hu⟩
  · exact ⟨u, by rw [World.cell?_setCell_other _ _ _ _ (by simp <;> omega)]; exact hu⟩
theorem CrS.grown {row : Option Nat} (h : CrS w v0 v1 v2 w') (hg : w'.grownBy w2 row) (hr : ∀ g, row = some g → w.heap.size + 3 ≤ g) : CrS w v0 v1 v2 w2 ∧ ∀ j, w2.cell? ⟨w.heap.size + 2, j, none⟩ = w'.cell? ⟨w.heap.size + 2, j, none⟩ := by
  obtain ⟨h1, h2, h3, h4, h5⟩ := h
  have hk : Below (w.heap.size + 3) w' w2 := (Below.refl _ w').grown hg (by omega) hr
  have hc : ∀ b o, b < w.heap.size + 3 → w2.cell? ⟨b, o, none⟩ = w'.cell? ⟨b, o, none⟩ := fun b o hb => hk.cell (p := ⟨b, o, none⟩) hb
  have hfz : ∀ b o, b < w.heap.size + 3 → w2.frozen? ⟨b, o, none⟩ = w'.frozen? ⟨b, o, none⟩ := fun b o hb => hk.frozen (p := ⟨b, o, none⟩) hb
  refine ⟨⟨h1.trans (hk.mono (by omega)), ⟨Nat.lt_of_lt_of_le h2.1 hk.size, fun j u hu => (hc _ _ (by omega)).trans (h2.2.1 j u hu), fun j hj => (hfz _ _ (by omega)).trans (h2.2.2 j hj)⟩, ⟨Nat.lt_of_lt_of_le h3.1 hk.size, fun j u hu => (hc _ _ (by omega)).trans (h3.2.1 j u hu), fun j hj => (hfz _ _ (by omega)).trans (h3.2.2 j hj)⟩, Nat.lt_of_lt_of_le h4 hk.size, fun j hj => ?_⟩, fun j => hc _ _ (by omega)⟩
  obtain ⟨⟨v, hv⟩, hf⟩ := h5 j hj
  exact ⟨⟨v, (hc _ _ (by omega)).trans hv⟩, (hfz _ _ (by omega)).trans hf⟩
theorem CrS.c0 (h : CrS w v0 v1 v2 w') : w'.cell? ⟨w.heap.size, 0, none⟩ = some v0 := h.2.1.three.2.1
theorem CrS.c1 (h : CrS w v0 v1 v2 w') : w'.cell? ⟨w.heap.size, 1, none⟩ = some v1 := h.2.1.three.2.2.1
theorem CrS.c2 (h : CrS w v0 v1 v2 w') : w'.cell? ⟨w.heap.size, 2, none⟩ = some v2 := h.2.1.three.2.2.2.1
theorem CrS.r (h : CrS w v0 v1 v2 w') (j : Nat) (hj : j < 3) : w'.cell? ⟨w.heap.size + 2, j, none⟩ = some (cellV w' (w.heap.size + 2) j) := by
  obtain ⟨⟨v, hv⟩, _⟩ := h.2.2.2.2 j hj
  unfold cellV
  rw [hv]; rfl
theorem CrS.f (h : CrS w v0 v1 v2 w') (j : Nat) (hj : j < 3) : w'.frozen? ⟨w.heap.size + 2, j, none⟩ = false := (h.2.2.2.2 j hj).2
theorem CrS.bel (h : CrS w v0 v1 v2 w') : Below w.heap.size w w' := h.1
theorem CrS.cell (h : CrS w v0 v1 v2 w') {b o : Nat} {v : Value} (hb : b < w.heap.size) (hc : w.cell? ⟨b, o, none⟩ = some v) : w'.cell? ⟨b, o, none⟩ = some v := (h.1.cell (p := ⟨b, o, none⟩) hb).trans hc
end
theorem getElem?_snoc {α : Type} (l : List α) (y : α) (j : Nat) (x : α) (h : (l ++ [y])[j]? = some x) : l[j]? = some x ∨ (j = l.length ∧ x = y) := by
  by_cases hj : j < l.length
  · rw [List.getElem?_append_left hj] at h; exact .inl h
  · rw [List.getElem?_append_right (by omega)] at h
    have h0 := (List.getElem?_eq_some_iff.1 h).1
    simp at h0
    have : j = l.length := by omega
    subst this
    simp at h
    exact .inr ⟨rfl, h.symm⟩
/-- One more stream behind a row of the call's own. -/
theorem step_append_one {ops : Array Oper} {o : Oper} {a : Act} {w0 w : World} {v0 v1 v2 : Value} {K : Act → World → Prop} {Q : Exit → Act → World → Prop} {E : Prop} (hS : CrS w0 v0 v1 v2 w) (hg : o.guard = none) (s x : Operand)
    (ho : o.op = .call { callee := .builtin .append, args := #[s, x], argTypes := #[30, 30] }) (sb : Nat) (v : Value) (n : Nat) (l : List Stm) (hs : a.eval s = v) (hown : OwnStms w (w0.heap.size + 3) sb v n l) (hsb : w0.heap.size + 3 ≤ sb) (hsw : sb ≤ w.heap.size)
    (g c : Nat) (y : Stm) (u : Value) (hx : a.eval x = .slice (some ⟨g, 0, none⟩) 1 c) (hc0 : w.cell? ⟨g, 0, none⟩ = some u) (hc1 : w.cell? ⟨g, 1, none⟩ = some (.int .i64 y.synced)) (hu : Own w (w0.heap.size + 3) u y.bytes.length y.bytes)
    (hy : -9223372036854775808 ≤ y.synced ∧ y.synced < 9223372036854775808) (hyl : y.bytes.length ≤ 1000000) (hn : n < 1000000)
    (h : ∀ v' w', OwnStms w' (w0.heap.size + 3) sb v' (n + 1) (l ++ [y]) → CrS w0 v0 v1 v2 w' → (∀ j, w'.cell? ⟨w0.heap.size + 2, j, none⟩ = w.cell? ⟨w0.heap.size + 2, j, none⟩) →
      (∀ u' s' n' l', OwnStms w (w0.heap.size + 3) s' u' n' l' → (u'.ownBlock = none ∨ ¬ u'.ownBlock = v.ownBlock) → OwnStms w' (w0.heap.size + 3) s' u' n' l') → w.heap.size ≤ w'.heap.size → K (a.put o.dst v') w') : if Region.wanted o (yielded ops a.tmps) = true then Oper.wp Try.prog o a w K Q else E := by
  have hw : Region.wanted o (yielded ops a.tmps) = true := by simp [Region.wanted, hg]
  rw [if_pos hw]
  obtain ⟨i, hi, hz0, hz1, hz2⟩ := info_parts infoM
  obtain ⟨vs, k1, k2, k3⟩ := hown
  obtain ⟨v', w', r1, r2, r3, _⟩ := run_append_own (P := Try.prog) w sb 30 o.type 76 i _ 2 32 Try.underlying30 hi hz0 hz1 hz2 rfl (by decide) v n vs k1 ⟨g, 0, none⟩ 1 c [u, .int .i64 y.synced] rfl
    (fun j q hq => by
      have hj : j < 2 := by have := (List.getElem?_eq_some_iff.1 hq).1; simpa using this
      obtain rfl | rfl : j = 0 ∨ j = 1 := by omega
      · simp at hq; subst hq; exact hc0
      · simp at hq; subst hq; exact hc1) (fun q hq => by
      simp at hq
      rcases hq with rfl | rfl
      · rcases hu.2.2 with ⟨rfl, _⟩ | ⟨_, _, _, rfl, _⟩ <;> rfl
      · rfl) (by unfold maxLen; omega) (by omega) hsw
  have ht : ∀ g, v.ownBlock = some g → ∃ cur mk, w.heap[g]? = some (.cells cur 76 mk) := fun g hg => own_kind k1 g hg
  have hl : vs.length = n * 2 := k1.1
  have keep : ∀ (q : Value) (zs : List Nat) (m : Nat), Own w (w0.heap.size + 3) q m zs → Own w' (w0.heap.size + 3) q m zs := fun q zs m hq => by
    refine ⟨hq.1, hq.2.kept r3 ?_⟩
    rcases hv : v.ownBlock with _ | p
    · rcases hu : q.ownBlock with _ | z
      · exact .inl rfl
      · exact .inr (by simp)
    · rcases hu : q.ownBlock with _ | z
      · exact .inl rfl
      · refine .inr (fun e => ?_)
        obtain ⟨cur, mk, hc⟩ := ht p hv
        obtain ⟨cur', mk', hc'⟩ := own_kind hq.2 z hu
        cases e
        rw [hc] at hc'
        simp at hc'
  have hnew : OwnStms w' (w0.heap.size + 3) sb v' (n + 1) (l ++ [y]) := by
    refine ⟨vs ++ [u, .int .i64 y.synced], r2, by simp [k2]; omega, fun j z hz => ?_⟩
    rcases getElem?_snoc l y j z hz with h1 | ⟨rfl, rfl⟩
    · obtain ⟨q, q1, q2, q3, q4⟩ := k3 j z h1
      have hj : j < l.length := (List.getElem?_eq_some_iff.1 h1).1
      exact ⟨q, by rw [List.getElem?_append_left (by omega)]; exact q1, by rw [List.getElem?_append_left (by omega)]; exact q2, keep _ _ _ q3, q4⟩
    · exact ⟨u, by rw [List.getElem?_append_right (by omega), ← k2, Nat.sub_self]; rfl, by rw [List.getElem?_append_right (by omega), ← k2, show vs.length + 1 - vs.length = 1 by omega]; rfl, keep _ _ _ hu, hy, hyl⟩
  obtain ⟨s1, s2⟩ := hS.grown r3 (fun p hp => by have := (k1.lt p hp).1; omega)
  unfold Oper.wp execOp
  simp only [ho, resolve, invoke, builtin, Sem.run_bind, Sem.run_pure, Result.andThen_ok, List.map_toArray, List.map_cons, List.map_nil, hs, hx, r1]
  exact h v' w' hnew s1 s2 (fun u' s' n' l' q1 q2 => q1.grown r3 q2 ht) r3.size


/-- The result under way, behind k of the 2n streams. -/
def CrRel (w : World) (r : Int) (A : Option Addr) (n a : Nat) (B : Option Addr) (b : Nat) (p0 p1 : List Stm) (k : Nat) (wr : World) : Prop :=
  ∃ u0 u1 s, CrS w (.int .u64 r) (.slice A n a) (.slice B n b) wr ∧ wr.cell? ⟨w.heap.size + 2, 0, none⟩ = some (.int .u64 r) ∧ wr.cell? ⟨w.heap.size + 2, 1, none⟩ = some u0 ∧ wr.cell? ⟨w.heap.size + 2, 2, none⟩ = some u1 ∧
    w.heap.size + 3 ≤ s ∧ s ≤ wr.heap.size ∧ (∀ g, u0.ownBlock = some g → g < s) ∧ (k ≤ n → u1 = .slice none 0 0) ∧
    OwnStms wr (w.heap.size + 3) (w.heap.size + 3) u0 (min k n) (p0.take k) ∧ OwnStms wr (w.heap.size + 3) s u1 (k - n) (p1.take (k - n))
theorem takeS_snoc {l : List Stm} {k : Nat} {x : Stm} (h : l[k]? = some x) : l.take (k + 1) = l.take k ++ [x] := by rw [List.take_add_one, h]; rfl
/-- One more in the first row. -/
theorem CrRel.step0 {w w4 : World} {r : Int} {A B : Option Addr} {n a b k : Nat} {p0 p1 : List Stm} {v4 : Value} {y : Stm} (hk : k < n) (hy : p0[k]? = some y)
    (hS : CrS w (.int .u64 r) (.slice A n a) (.slice B n b) w4) (hc0 : w4.cell? ⟨w.heap.size + 2, 0, none⟩ = some (.int .u64 r)) (hc1 : ∃ u, w4.cell? ⟨w.heap.size + 2, 1, none⟩ = some u) (hc2 : w4.cell? ⟨w.heap.size + 2, 2, none⟩ = some (.slice none 0 0))
    (h : OwnStms w4 (w.heap.size + 3) (w.heap.size + 3) v4 (min k n + 1) (p0.take k ++ [y])) : CrRel w r A n a B b p0 p1 (k + 1) (w4.setCell ⟨w.heap.size + 2, 1, none⟩ v4) := by
  obtain ⟨u, hu⟩ := hc1
  have ha := h.aside (w.heap.size + 2) 1 v4 (by omega) (by omega)
  have hlt : ∀ g, v4.ownBlock = some g → g < (w4.setCell ⟨w.heap.size + 2, 1, none⟩ v4).heap.size := fun g hg => by
    obtain ⟨vs, h1, _⟩ := ha
    exact (h1.lt g hg).2
  have hsz := hS.2.2.2.1
  refine ⟨v4, .slice none 0 0, (w4.setCell ⟨w.heap.size + 2, 1, none⟩ v4).heap.size, hS.res 1 v4, by rw [World.cell?_setCell_other _ _ _ _ (by simp)]; exact hc0, World.cell?_setCell_same w4 _ v4 hu, by rw [World.cell?_setCell_other _ _ _ _ (by simp)]; exact hc2, by simp; omega, Nat.le_refl _, hlt, fun _ => rfl, ?_, ?_⟩
  · rw [takeS_snoc hy, show min (k + 1) n = min k n + 1 by omega]
    exact ha
  · rw [show k + 1 - n = 0 by omega]
    exact OwnStms.nil _ _ _
/-- One more in the second row. -/
theorem CrRel.step1 {w w4 : World} {r : Int} {A B : Option Addr} {n a b k i s : Nat} {p0 p1 : List Stm} {u0 v4 : Value} {y : Stm} (hk : k = n + i) (hl0 : p0.length = n) (hy : p1[i]? = some y)
    (hS : CrS w (.int .u64 r) (.slice A n a) (.slice B n b) w4) (hc0 : w4.cell? ⟨w.heap.size + 2, 0, none⟩ = some (.int .u64 r)) (hc1 : w4.cell? ⟨w.heap.size + 2, 1, none⟩ = some u0) (hc2 : ∃ u, w4.cell? ⟨w.heap.size + 2, 2, none⟩ = some u)
    (hs : w.heap.size + 3 ≤ s) (hs4 : s ≤ w4.heap.size) (hg : ∀ g, u0.ownBlock = some g → g < s) (h0 : OwnStms w4 (w.heap.size + 3) (w.heap.size + 3) u0 (min k n) (p0.take k)) (h : OwnStms w4 (w.heap.size + 3) s v4 (k - n + 1) (p1.take (k - n) ++ [y])) : CrRel w r A n a B b p0 p1 (k + 1) (w4.setCell ⟨w.heap.size + 2, 2, none⟩ v4) := by
  obtain ⟨u, hu⟩ := hc2
  have hsz := hS.2.2.2.1
  refine ⟨u0, v4, s, hS.res 2 v4, by rw [World.cell?_setCell_other _ _ _ _ (by simp)]; exact hc0, by rw [World.cell?_setCell_other _ _ _ _ (by simp)]; exact hc1, World.cell?_setCell_same w4 _ v4 hu, hs, by simpa using hs4, hg, fun h => by omega, ?_, ?_⟩
  · rw [show min (k + 1) n = min k n by omega, show p0.take (k + 1) = p0.take k by rw [List.take_of_length_le (by omega), List.take_of_length_le (by omega)]]
    exact h0.aside _ _ _ (by omega) (by omega)
  · rw [show k + 1 - n = (k - n) + 1 by omega, takeS_snoc (x := y) (by rw [show k - n = i by omega]; exact hy)]
    exact h.aside _ _ _ (by omega) (by omega)
/-- All is done: the two rows. -/
theorem CrRel.done {w wr : World} {r : Int} {A B : Option Addr} {n a b : Nat} {p0 p1 : List Stm} (h : CrRel w r A n a B b p0 p1 (2 * n) wr) (h0 : p0.length = n) (h1 : p1.length = n) (hn : n ≤ 1000000) :
    ∃ A' a' B' b', CrS w (.int .u64 r) (.slice A n a) (.slice B n b) wr ∧ VarAt wr (w.heap.size + 1) [.int .u64 0, .slice none 0 0, .slice none 0 0] ∧ VarAt wr (w.heap.size + 2) [.int .u64 r, .slice A' n a', .slice B' n b'] ∧ StmsAt wr A' n p0 ∧ StmsAt wr B' n p1 ∧
      ∀ P : Nat → Prop, (∀ b, w.heap.size + 3 ≤ b → P b) → OffS P wr A' n ∧ OffS P wr B' n := by
  obtain ⟨u0, u1, s, hS, c0, c1, c2, hs, hsw, hg, hu, q0, q1⟩ := h
  rw [show min (2 * n) n = n by omega, List.take_of_length_le (by omega)] at q0
  rw [show 2 * n - n = n by omega, List.take_of_length_le (by omega)] at q1
  obtain ⟨A', a', rfl, _, s0, o0⟩ := q0.at_ hn
  obtain ⟨B', b', rfl, _, s1, o1⟩ := q1.at_ hn
  refine ⟨A', a', B', b', hS, hS.2.2.1, ⟨hS.2.2.2.1, fun j v hj => ?_, fun j hj => (hS.2.2.2.2 j (by simpa using hj)).2⟩, s0, s1, fun P hP => ⟨o0 P hP hP, o1 P hP (fun b hb => hP b (by omega))⟩⟩
  have : j < 3 := by have := (List.getElem?_eq_some_iff.1 hj).1; simpa using this
  obtain rfl | rfl | rfl : j = 0 ∨ j = 1 ∨ j = 2 := by omega
  · simp at hj; subst hj; exact c0
  · simp at hj; subst hj; exact c1
  · simp at hj; subst hj; exact c2

end Go.Proofs.Ytjbhichgojjakaa
