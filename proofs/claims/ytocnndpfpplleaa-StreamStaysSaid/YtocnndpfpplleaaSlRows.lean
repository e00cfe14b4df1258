/-
  Rows of rows of bytes in memory: slices of slices: of the call's own (built by append, each row in a block of its own), and such that come in or lie.
-/
import Derived.Test.YtocnndpfpplleaaBytes
import Derived.OwnWalkIn
namespace Go.Proofs.Ytocnndpfpplleaa
open Go.ChangeShapes Go.WideShapes Go.ChangeAt Go.RowKit
set_option linter.unusedVariables false

theorem infoS : (Try.prog.info? 22).map (fun i => (i.zero, i.size, i.bytes)) = some (some (.slice none 0 0), 1, 24) := by kernel_rfl

theorem AtB.of_block {w w' : World} {a : Option Addr} {len : Nat} {xs : List Nat} (h : AtB w a len xs) (hs : w.heap.size ≤ w'.heap.size) (hb : ∀ ad, a = some ad → w'.heap[ad.block]? = w.heap[ad.block]?) : AtB w' a len xs := by
  obtain ⟨h1, h2, h3, h4⟩ := h
  refine ⟨h1, h2, h3, fun hp => ?_⟩
  obtain ⟨b, off, e, hlt, hc⟩ := h4 hp
  exact ⟨b, off, e, Nat.lt_of_lt_of_le hlt hs, fun j hj => (World.cell?_of_block (w := w) (a := ⟨b, off + j, none⟩) (hb ⟨b, off, none⟩ e)).trans (hc j hj)⟩

/-- A value that reads as bytes, in a block of bytes. -/
def Elem (w : World) (u : Value) (xs : List Nat) : Prop := ∃ A len cap, u = .slice A len cap ∧ AtB w A len xs ∧ len ≤ cap ∧ ∀ ad, A = some ad → ∃ cur, w.heap[ad.block]? = some (.cells cur 5 (0, 0))
theorem Elem.kept {w w' : World} {u : Value} {xs : List Nat} {row : Option Nat} (h : Elem w u xs) (hg : w.grownBy w' row) (hr : ∀ r, row = some r → ∀ cur, w.heap[r]? ≠ some (.cells cur 5 (0, 0))) : Elem w' u xs := by
  obtain ⟨A, len, cap, rfl, hat, hlc, hbl⟩ := h
  have hk : ∀ ad, A = some ad → w'.heap[ad.block]? = w.heap[ad.block]? := fun ad e => by
    obtain ⟨cur, hc⟩ := hbl ad e
    exact hg.block _ (Array.getElem?_eq_some_iff.1 hc).1 (fun e' => hr _ e'.symm cur hc)
  exact ⟨A, len, cap, rfl, hat.of_block hg.size hk, hlc, fun ad e => by obtain ⟨cur, hc⟩ := hbl ad e; exact ⟨cur, (hk ad e).trans hc⟩⟩
theorem Own.elem {w : World} {base : Nat} {v : Value} {n : Nat} {xs : List Nat} (h : Own w base v n xs) (hn : n ≤ 9223372036854775807) : Elem w v xs := by
  have hl := h.length
  rcases h.2.2 with ⟨rfl, rfl⟩ | ⟨g, cap, cur, rfl, hg, hheap, hcap, hmax, hsz, htake⟩
  · obtain rfl : xs = [] := List.eq_nil_of_length_eq_zero hl
    exact ⟨none, 0, 0, rfl, AtB.nil _ _, Nat.le_refl _, fun ad e => by cases e⟩
  · obtain ⟨A, c, e, _, hat⟩ := h.at_ hn
    simp only [Value.slice.injEq, true_and] at e
    obtain ⟨rfl, rfl⟩ := e
    exact ⟨_, _, _, rfl, hat, hcap, fun ad e => by cases e; exact ⟨cur, hheap⟩⟩

/-- A slice of slices of the call's own: row j reads as the j-th row of bytes. -/
def OwnRows (w : World) (base : Nat) (v : Value) (n : Nat) (ll : List (List Nat)) : Prop :=
  ll.length = n ∧ ∃ vs, w.ownsRow base 22 1 v n vs ∧ ∀ j, j < n → ∃ u, vs[j]? = some u ∧ Elem w u (ll.getD j [])
/-- The turn of a block that holds neither bytes nor slices. -/
def Aside (w : World) (row : Option Nat) : Prop := ∀ r, row = some r → (∀ cur, w.heap[r]? ≠ some (.cells cur 5 (0, 0))) ∧ (∀ cur, w.heap[r]? ≠ some (.cells cur 22 (0, 0)))
theorem OwnRows.nil (w : World) (base : Nat) : OwnRows w base (.slice none 0 0) 0 [] := ⟨rfl, [], World.ownsRow_nil _ _ _ _, fun j hj => by omega⟩
theorem OwnRows.kept {w w' : World} {base : Nat} {v : Value} {n : Nat} {ll : List (List Nat)} {row : Option Nat} (h : OwnRows w base v n ll) (hg : w.grownBy w' row) (hr : Aside w row) : OwnRows w' base v n ll := by
  obtain ⟨hl, vs, hvs, hel⟩ := h
  refine ⟨hl, vs, hvs.kept hg ?_, fun j hj => ?_⟩
  · rcases hvs.2 with ⟨rfl, _⟩ | ⟨g, cap, cur, rfl, _, hgb, _⟩
    · exact .inl rfl
    · refine .inr fun e => ?_
      exact (hr g (by simpa [Value.ownBlock] using e.symm)).2 cur hgb
  · obtain ⟨u, hu, he⟩ := hel j hj
    exact ⟨u, hu, he.kept hg (fun r e => (hr r e).1)⟩
theorem OwnRows.alloc {w : World} {base : Nat} {v : Value} {n : Nat} {ll : List (List Nat)} (h : OwnRows w base v n ll) (o : Obj) : OwnRows (w.alloc o) base v n ll := h.kept (World.grownBy_alloc w o none) (fun r e => by cases e)
theorem OwnRows.drewN {w : World} {base : Nat} {v : Value} {n : Nat} {ll : List (List Nat)} (h : OwnRows w base v n ll) (m : Nat) : OwnRows (w.drewN m) base v n ll := h
/-- Behind the laws: 'Below' from a bound on that lies behind all its blocks. -/
theorem OwnRows.below {w w' : World} {base : Nat} {v : Value} {n : Nat} {ll : List (List Nat)} (h : OwnRows w base v n ll) (hb : Below w.heap.size w w') : OwnRows w' base v n ll := by
  refine h.kept (row := none) ⟨hb.os, hb.tape, hb.output, hb.size, fun k hk _ => hb.block k hk⟩ (fun r e => by cases e)
/-- One row more. -/
theorem OwnRows.more {w w' : World} {base : Nat} {v v' u : Value} {n : Nat} {ll : List (List Nat)} {xs : List Nat} {vs : List Value} (hl : ll.length = n) (hvs : w.ownsRow base 22 1 v n vs)
    (hel : ∀ j, j < n → ∃ u, vs[j]? = some u ∧ Elem w u (ll.getD j [])) (he : Elem w u xs) (hown : w'.ownsRow base 22 1 v' (n + 1) (vs ++ [u])) (hg : w.grownBy w' v.ownBlock) : OwnRows w' base v' (n + 1) (ll ++ [xs]) := by
  have hnot : ∀ r, v.ownBlock = some r → ∀ cur, w.heap[r]? ≠ some (.cells cur 5 (0, 0)) := by
    intro r hr cur hc
    rcases hvs.2 with ⟨rfl, _⟩ | ⟨g, cap, cur', rfl, _, hgb, _⟩
    · simp [Value.ownBlock] at hr
    · simp [Value.ownBlock] at hr
      subst hr
      rw [hgb] at hc
      simp at hc
  have hvl : vs.length = n := by have := hvs.1; omega
  refine ⟨by simp [hl], _, hown, fun j hj => ?_⟩
  by_cases h : j < n
  · obtain ⟨u', hu', he'⟩ := hel j h
    refine ⟨u', by rw [List.getElem?_append_left (by omega)]; exact hu', ?_⟩
    have : (ll ++ [xs]).getD j [] = ll.getD j [] := by simp only [List.getD_eq_getElem?_getD]; rw [List.getElem?_append_left (by omega)]
    rw [this]
    exact he'.kept hg hnot
  · obtain rfl : j = n := by omega
    refine ⟨u, by rw [List.getElem?_append_right (by omega)]; simp [hvl], ?_⟩
    have : (ll ++ [xs]).getD j [] = xs := by simp only [List.getD_eq_getElem?_getD]; rw [List.getElem?_append_right (by omega)]; simp [hl]
    rw [this]
    exact he.kept hg hnot

theorem OwnRows.grew {w w1 w2 : World} {base : Nat} {v : Value} {n : Nat} {ll : List (List Nat)} {o : Obj} (h : OwnRows w1 base v n ll) (hb : Below base w w1) (hg : (w1.alloc o).grownBy w2 v.ownBlock) (hbase : base ≤ w.heap.size := by exact Nat.le_refl _) : Below base w w2 := by
  obtain ⟨_, vs, hvs, _⟩ := h
  exact (hb.alloc (Nat.le_trans hbase hb.size) o).grown hg (by have := hb.size; simp; omega) (fun k hk => (hvs.lt k hk).1)

/-- Rows of bytes that lie: what a slice of slices reads as. -/
def AtRows (w : World) (a : Option Addr) (n : Nat) (ll : List (List Nat)) : Prop :=
  ll.length = n ∧ n ≤ 9223372036854775807 ∧ (0 < n → ∃ b off, a = some ⟨b, off, none⟩ ∧ b < w.heap.size ∧ ∀ j, j < n → ∃ A len cap, w.cell? ⟨b, off + j, none⟩ = some (.slice A len cap) ∧ len ≤ 9223372036854775807 ∧ AtB w A len (ll.getD j []))
theorem AtRows.later {w w' : World} {a : Option Addr} {n : Nat} {ll : List (List Nat)} (h : AtRows w a n ll) (hb : Below w.heap.size w w') : AtRows w' a n ll := by
  obtain ⟨h1, h2, h3⟩ := h
  refine ⟨h1, h2, fun hp => ?_⟩
  obtain ⟨b, off, e, hlt, hc⟩ := h3 hp
  refine ⟨b, off, e, Nat.lt_of_lt_of_le hlt hb.size, fun j hj => ?_⟩
  obtain ⟨A, len, cap, hcell, hl, hat⟩ := hc j hj
  exact ⟨A, len, cap, (hb.cell (p := ⟨b, off + j, none⟩) hlt).trans hcell, hl, hat.below hb (Nat.le_refl _)⟩
theorem AtRows.nil (w : World) (a : Option Addr) : AtRows w a 0 [] := ⟨rfl, by omega, fun h => by omega⟩
theorem AtRows.drewN {w : World} {a : Option Addr} {n : Nat} {ll : List (List Nat)} (h : AtRows w a n ll) (m : Nat) : AtRows (w.drewN m) a n ll := h
theorem OwnRows.at_ {w : World} {base : Nat} {v : Value} {n : Nat} {ll : List (List Nat)} (h : OwnRows w base v n ll) (hn : n ≤ 9223372036854775807) : ∃ A cap, v = .slice A n cap ∧ n ≤ cap ∧ AtRows w A n ll := by
  obtain ⟨hl, vs, hvs, hel⟩ := h
  rcases hvs.2 with ⟨rfl, rfl⟩ | ⟨g, cap, cur, rfl, hb, hgb, hcap, _⟩
  · exact ⟨none, 0, rfl, Nat.le_refl _, by obtain rfl : ll = [] := List.eq_nil_of_length_eq_zero hl; exact AtRows.nil _ _⟩
  · refine ⟨_, cap, rfl, hcap, hl, hn, fun _ => ⟨g, 0, rfl, (Array.getElem?_eq_some_iff.1 hgb).1, fun j hj => ?_⟩⟩
    obtain ⟨u, hu, A, len, c, rfl, hat, _⟩ := hel j hj
    refine ⟨A, len, c, ?_, hat.2.2.1, hat⟩
    have := hvs.cells (g := g) rfl j _ hu
    rw [Addr.add_lit] at this
    exact this

/-- Rows of bytes that lie, none longer than its room. -/
def AtRowsC (w : World) (a : Option Addr) (n : Nat) (ll : List (List Nat)) : Prop :=
  ll.length = n ∧ (0 < n → ∃ b off, a = some ⟨b, off, none⟩ ∧ b < w.heap.size ∧ ∀ j, j < n → ∃ A len cap, w.cell? ⟨b, off + j, none⟩ = some (.slice A len cap) ∧ len ≤ cap ∧ AtB w A len (ll.getD j []))
theorem AtRowsC.later {w w' : World} {a : Option Addr} {n : Nat} {ll : List (List Nat)} (h : AtRowsC w a n ll) (hb : Below w.heap.size w w') : AtRowsC w' a n ll := by
  obtain ⟨h1, h3⟩ := h
  refine ⟨h1, fun hp => ?_⟩
  obtain ⟨b, off, e, hlt, hc⟩ := h3 hp
  refine ⟨b, off, e, Nat.lt_of_lt_of_le hlt hb.size, fun j hj => ?_⟩
  obtain ⟨A, len, cap, hcell, hl, hat⟩ := hc j hj
  exact ⟨A, len, cap, (hb.cell (p := ⟨b, off + j, none⟩) hlt).trans hcell, hl, hat.below hb (Nat.le_refl _)⟩
theorem OwnRows.atC {w : World} {base : Nat} {v : Value} {n : Nat} {ll : List (List Nat)} (h : OwnRows w base v n ll) : ∃ A cap, v = .slice A n cap ∧ n ≤ cap ∧ AtRowsC w A n ll := by
  obtain ⟨hl, vs, hvs, hel⟩ := h
  rcases hvs.2 with ⟨rfl, rfl⟩ | ⟨g, cap, cur, rfl, hb, hgb, hcap, _⟩
  · exact ⟨none, 0, rfl, Nat.le_refl _, hl, fun h => by omega⟩
  · refine ⟨_, cap, rfl, hcap, hl, fun _ => ⟨g, 0, rfl, (Array.getElem?_eq_some_iff.1 hgb).1, fun j hj => ?_⟩⟩
    obtain ⟨u, hu, A, len, c, rfl, hat, hlc, _⟩ := hel j hj
    refine ⟨A, len, c, ?_, hlc, hat⟩
    have := hvs.cells (g := g) rfl j _ hu
    rw [Addr.add_lit] at this
    exact this

/-- 'append(out, x)' in a fence: out the call's own rows; x one row in a block of bytes. -/
theorem wpListIn_append_row {F : Fence} {n : Nat} {ops : Array Oper} {rest : List Oper} {o : Oper} {a : Act} {w : World} {Q : Exit → Act → World → Prop} (hg : o.guard = none) (s x : Operand)
    (ho : o.op = .call { callee := .builtin .append, args := #[s, x], argTypes := #[32, 32] }) (base : Nat) (v : Value) (k : Nat) (ll : List (List Nat)) (hs : a.eval s = v) (hown : OwnRows w base v k ll)
    (ad : Addr) (c : Nat) (u : Value) (xs : List Nat) (hx : a.eval x = .slice (some ad) 1 c) (hc : w.cell? ad = some u) (he : Elem w u xs) (hb : k + 1 ≤ 1000000000000) (hbase : base ≤ w.heap.size)
    (h : ∀ g cap w', OwnRows w' base (.slice (some ⟨g, 0, none⟩) (k + 1) cap) (k + 1) (ll ++ [xs]) → w.grownBy w' v.ownBlock → wpListIn F n Try.prog ops Q rest (a.put o.dst (.slice (some ⟨g, 0, none⟩) (k + 1) cap)) w') : wpListIn F n Try.prog ops Q (o :: rest) a w := by
  obtain ⟨i, hi, hz0, hz1, hz2⟩ := info_parts infoS
  obtain ⟨hl, vs, hvs, hel⟩ := hown
  have hone : u.oneCell' = true := by obtain ⟨A, len, cap, rfl, _⟩ := he; rfl
  refine wpListIn_append_own w hg s x 32 ho base 22 i (.slice none 0 0) 1 24 Try.underlying32 hi hz0 hz1 hz2 rfl (by decide) v k vs hs hvs ad 1 c [u] hx rfl
    (fun j z hj => by
      have : j = 0 := by have := (List.getElem?_eq_some_iff.1 hj).1; simp at this; exact this
      subst this
      simp at hj; subst hj
      rw [Addr.add_zero']; exact hc) (fun z hz => by simp at hz; subst hz; exact hone) (by unfold maxLen; omega) (by omega) hbase ?_
  intro v' w' hown' hgrow _
  have hm := OwnRows.more hl hvs hel he hown' hgrow
  rcases hown'.2 with ⟨rfl, h0⟩ | ⟨g, cap, cur, rfl, _⟩
  · omega
  · exact h g cap w' hm hgrow
/-- The same as one step of a region that draws its order. -/
theorem stepIn_append_row {F : Fence} {n : Nat} {ops : Array Oper} {o : Oper} {a : Act} {w : World} {K : Act → World → Prop} {Q : Exit → Act → World → Prop} {E : Prop} (hg : o.guard = none) (s x : Operand)
    (ho : o.op = .call { callee := .builtin .append, args := #[s, x], argTypes := #[32, 32] }) (base : Nat) (v : Value) (k : Nat) (ll : List (List Nat)) (hs : a.eval s = v) (hown : OwnRows w base v k ll)
    (ad : Addr) (c : Nat) (u : Value) (xs : List Nat) (hx : a.eval x = .slice (some ad) 1 c) (hc : w.cell? ad = some u) (he : Elem w u xs) (hb : k + 1 ≤ 1000000000000) (hbase : base ≤ w.heap.size)
    (h : ∀ g cap w', OwnRows w' base (.slice (some ⟨g, 0, none⟩) (k + 1) cap) (k + 1) (ll ++ [xs]) → w.grownBy w' v.ownBlock → K (a.put o.dst (.slice (some ⟨g, 0, none⟩) (k + 1) cap)) w') : if Region.wanted o (yielded ops a.tmps) = true then Oper.wpIn F n Try.prog o a w K Q else E := by
  have hw : Region.wanted o (yielded ops a.tmps) = true := by simp [Region.wanted, hg]
  rw [if_pos hw]
  obtain ⟨i, hi, hz0, hz1, hz2⟩ := info_parts infoS
  obtain ⟨hl, vs, hvs, hel⟩ := hown
  have hone : u.oneCell' = true := by obtain ⟨A, len, cap, rfl, _⟩ := he; rfl
  obtain ⟨v', w', hrun, hown', hgrow, _⟩ := run_append_own (P := Try.prog) w base 32 o.type 22 i (.slice none 0 0) 1 24 Try.underlying32 hi hz0 hz1 hz2 rfl (by decide) v k vs hvs ad 1 c [u] rfl
    (fun j z hj => by
      have : j = 0 := by have := (List.getElem?_eq_some_iff.1 hj).1; simp at this; exact this
      subst this
      simp at hj; subst hj
      rw [Addr.add_zero']; exact hc) (fun z hz => by simp at hz; subst hz; exact hone) (by unfold maxLen; omega) (by omega) hbase
  have hm := OwnRows.more hl hvs hel he hown' hgrow
  have hK : K (a.put o.dst v') w' := by
    rcases hown'.2 with ⟨rfl, h0⟩ | ⟨g, cap, cur, rfl, _⟩
    · omega
    · exact h g cap w' hm hgrow
  unfold Oper.wpIn
  refine ⟨?_, ?_⟩
  · simp [Oper.about, ho, resolve, Target.leads, Sem.run_pure]
  · rw [Oper.semAt_plain F _ _ (by rw [ho]; intro c hc'; cases hc')]
    simp [execOp, ho, resolve, invoke, builtin, hs, hx, hrun, Result.andThen]
    exact hK
/-- The same where no fence is. -/
theorem wpList_append_row {ops : Array Oper} {rest : List Oper} {o : Oper} {a : Act} {w : World} {Q : Exit → Act → World → Prop} (hg : o.guard = none) (s x : Operand)
    (ho : o.op = .call { callee := .builtin .append, args := #[s, x], argTypes := #[32, 32] }) (base : Nat) (v : Value) (k : Nat) (ll : List (List Nat)) (hs : a.eval s = v) (hown : OwnRows w base v k ll)
    (ad : Addr) (c : Nat) (u : Value) (xs : List Nat) (hx : a.eval x = .slice (some ad) 1 c) (hc : w.cell? ad = some u) (he : Elem w u xs) (hb : k + 1 ≤ 1000000000000) (hbase : base ≤ w.heap.size)
    (h : ∀ g cap w', OwnRows w' base (.slice (some ⟨g, 0, none⟩) (k + 1) cap) (k + 1) (ll ++ [xs]) → w.grownBy w' v.ownBlock → wpList Try.prog ops Q rest (a.put o.dst (.slice (some ⟨g, 0, none⟩) (k + 1) cap)) w') : wpList Try.prog ops Q (o :: rest) a w := by
  obtain ⟨i, hi, hz0, hz1, hz2⟩ := info_parts infoS
  obtain ⟨hl, vs, hvs, hel⟩ := hown
  have hone : u.oneCell' = true := by obtain ⟨A, len, cap, rfl, _⟩ := he; rfl
  refine wpList_append_own w hg s x 32 ho base 22 i (.slice none 0 0) 1 24 Try.underlying32 hi hz0 hz1 hz2 rfl (by decide) v k vs hs hvs ad 1 c [u] hx rfl
    (fun j z hj => by
      have : j = 0 := by have := (List.getElem?_eq_some_iff.1 hj).1; simp at this; exact this
      subst this
      simp at hj; subst hj
      rw [Addr.add_zero']; exact hc) (fun z hz => by simp at hz; subst hz; exact hone) (by unfold maxLen; omega) (by omega) hbase ?_
  intro v' w' hown' hgrow _
  have hm := OwnRows.more hl hvs hel he hown' hgrow
  rcases hown'.2 with ⟨rfl, h0⟩ | ⟨g, cap, cur, rfl, _⟩
  · omega
  · exact h g cap w' hm hgrow
end Go.Proofs.Ytocnndpfpplleaa
