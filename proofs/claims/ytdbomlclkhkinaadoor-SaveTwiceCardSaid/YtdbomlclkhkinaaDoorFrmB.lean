/-
  Texts of one kind, one behind the other: SlRows, FrmRef, FrmSplit, FrmRefSplit.
-/
import Derived.Test.YtdbomlclkhkinaaDoorBase
import Derived.OwnWalkIn
import Derived.Test.YtdbomlclkhkinaaDoorCrcA
import Derived.Test.YtdbomlclkhkinaaDoorFrmA
import Derived.RangeFuncNested
import Derived.RangeFuncBound
import Derived.RangeFuncCalls
import Derived.RangeFuncLeaves
import Derived.RangeFuncBox
import Derived.Shelf.Abstract
import Derived.Shelf.RegionOpen
import Derived.WalkKit
import Derived.TacticsInMore
import Derived.LoopNIn
import Derived.LoopIn
import Derived.Maps.AppendAt
import Derived.Lib.SliceRun
namespace Go.Proofs.YtdbomlclkhkinaaDoor
open Go.ChangeShapes Go.WideShapes Go.ChangeAt Go.RowKit
set_option linter.unusedVariables false
set_option maxRecDepth 100000

theorem infoS : (Tryd.prog.info? 48).map (fun i => (i.zero, i.size, i.bytes)) = some (some (.slice none 0 0), 1, 24) := by kernel_rfl

theorem AtB.of_block {w w' : World} {a : Option Addr} {len : Nat} {xs : List Nat} (h : AtB w a len xs) (hs : w.heap.size ≤ w'.heap.size) (hb : ∀ ad, a = some ad → w'.heap[ad.block]? = w.heap[ad.block]?) : AtB w' a len xs := by
  obtain ⟨h1, h2, h3, h4⟩ := h
  refine ⟨h1, h2, h3, fun hp => ?_⟩
  obtain ⟨b, off, e, hlt, hc⟩ := h4 hp
  exact ⟨b, off, e, Nat.lt_of_lt_of_le hlt hs, fun j hj => (World.cell?_of_block (w := w) (a := ⟨b, off + j, none⟩) (hb ⟨b, off, none⟩ e)).trans (hc j hj)⟩

/-- A value that reads as bytes, in a block of bytes. -/
def Elem (w : World) (u : Value) (xs : List Nat) : Prop := ∃ A len cap, u = .slice A len cap ∧ AtB w A len xs ∧ len ≤ cap ∧ ∀ ad, A = some ad → ∃ cur, w.heap[ad.block]? = some (.cells cur 5 (0, 0))
theorem Elem.kept {w w' : World} {u : Value} {xs : List Nat} {row : Option Nat} (h : Elem w u xs) (hg : w.grownBy w' row) (hr : ∀ r, row = some r → ∀ cur, w.heap[r]? ≠ some (.cells cur 5 (0, 0))) : Elem w' u xs := by
  obtain ⟨A, len, cap, rfl, hat, hlc, hbl⟩ := h
  have hk : ∀ ad, A = some ad → w'.heap[ad.block]? = w.heap[ad.block]? := fun ad e => by
    obtain ⟨cur, hc⟩ := hbl ad e
    exact hg.block _ (Array.getElem?_eq_some_iff.1 hc).1 (fun e' => hr _ e'.symm cur hc)
  exact ⟨A, len, cap, rfl, hat.of_block hg.size hk, hlc, fun ad e => by obtain ⟨cur, hc⟩ := hbl ad e; exact ⟨cur, (hk ad e).trans hc⟩⟩
theorem Own.elem {w : World} {base : Nat} {v : Value} {n : Nat} {xs : List Nat} (h : Own w base v n xs) (hn : n ≤ 9223372036854775807) : Elem w v xs := by
  have hl := h.length
  rcases h.2.2 with ⟨rfl, rfl⟩ | ⟨g, cap, cur, rfl, hg, hheap, hcap, hmax, hsz, htake⟩
  · obtain rfl : xs = [] := List.eq_nil_of_length_eq_zero hl
    exact ⟨none, 0, 0, rfl, AtB.nil _ _, Nat.le_refl _, fun ad e => by cases e⟩
  · obtain ⟨A, c, e, _, hat⟩ := h.at_ hn
    simp only [Value.slice.injEq, true_and] at e
    obtain ⟨rfl, rfl⟩ := e
    exact ⟨_, _, _, rfl, hat, hcap, fun ad e => by cases e; exact ⟨cur, hheap⟩⟩

/-- A slice of slices of the call's own: row j reads as the j-th row of bytes. -/
def OwnRows (w : World) (base : Nat) (v : Value) (n : Nat) (ll : List (List Nat)) : Prop :=
  ll.length = n ∧ ∃ vs, w.ownsRow base 48 1 v n vs ∧ ∀ j, j < n → ∃ u, vs[j]? = some u ∧ Elem w u (ll.getD j [])
/-- The turn of a block that holds neither bytes nor slices. -/
def Aside (w : World) (row : Option Nat) : Prop := ∀ r, row = some r → (∀ cur, w.heap[r]? ≠ some (.cells cur 5 (0, 0))) ∧ (∀ cur, w.heap[r]? ≠ some (.cells cur 48 (0, 0)))
theorem OwnRows.nil (w : World) (base : Nat) : OwnRows w base (.slice none 0 0) 0 [] := ⟨rfl, [], World.ownsRow_nil _ _ _ _, fun j hj => by omega⟩
theorem OwnRows.kept {w w' : World} {base : Nat} {v : Value} {n : Nat} {ll : List (List Nat)} {row : Option Nat} (h : OwnRows w base v n ll) (hg : w.grownBy w' row) (hr : Aside w row) : OwnRows w' base v n ll := by
  obtain ⟨hl, vs, hvs, hel⟩ := h
  refine ⟨hl, vs, hvs.kept hg ?_, fun j hj => ?_⟩
  · rcases hvs.2 with ⟨rfl, _⟩ | ⟨g, cap, cur, rfl, _, hgb, _⟩
    · exact .inl rfl
    · refine .inr fun e => ?_
      exact (hr g (by simpa [Value.ownBlock] using e.symm)).2 cur hgb
  · obtain ⟨u, hu, he⟩ := hel j hj
    exact ⟨u, hu, he.kept hg (fun r e => (hr r e).1)⟩
theorem OwnRows.alloc {w : World} {base : Nat} {v : Value} {n : Nat} {ll : List (List Nat)} (h : OwnRows w base v n ll) (o : Obj) : OwnRows (w.alloc o) base v n ll := h.kept (World.grownBy_alloc w o none) (fun r e => by cases e)
theorem OwnRows.drewN {w : World} {base : Nat} {v : Value} {n : Nat} {ll : List (List Nat)} (h : OwnRows w base v n ll) (m : Nat) : OwnRows (w.drewN m) base v n ll := h
/-- Behind the laws: 'Below' from a bound on that lies behind all its blocks. -/
theorem OwnRows.below {w w' : World} {base : Nat} {v : Value} {n : Nat} {ll : List (List Nat)} (h : OwnRows w base v n ll) (hb : Below w.heap.size w w') : OwnRows w' base v n ll := by
  refine h.kept (row := none) ⟨hb.os, hb.tape, hb.output, hb.size, fun k hk _ => hb.block k hk⟩ (fun r e => by cases e)
/-- One row more. -/
theorem OwnRows.more {w w' : World} {base : Nat} {v v' u : Value} {n : Nat} {ll : List (List Nat)} {xs : List Nat} {vs : List Value} (hl : ll.length = n) (hvs : w.ownsRow base 48 1 v n vs)
    (hel : ∀ j, j < n → ∃ u, vs[j]? = some u ∧ Elem w u (ll.getD j [])) (he : Elem w u xs) (hown : w'.ownsRow base 48 1 v' (n + 1) (vs ++ [u])) (hg : w.grownBy w' v.ownBlock) : OwnRows w' base v' (n + 1) (ll ++ [xs]) := by
  have hnot : ∀ r, v.ownBlock = some r → ∀ cur, w.heap[r]? ≠ some (.cells cur 5 (0, 0)) := by
    intro r hr cur hc
    rcases hvs.2 with ⟨rfl, _⟩ | ⟨g, cap, cur', rfl, _, hgb, _⟩
    · simp [Value.ownBlock] at hr
    · simp [Value.ownBlock] at hr
      subst hr
      rw [hgb] at hc
      simp at hc
  have hvl : vs.length = n := by have := hvs.1; omega
  refine ⟨by simp [hl], _, hown, fun j hj => ?_⟩
  by_cases h : j < n
  · obtain ⟨u', hu', he'⟩ := hel j h
    refine ⟨u', by rw [List.getElem?_append_left (by omega)]; exact hu', ?_⟩
    have : (ll ++ [xs]).getD j [] = ll.getD j [] := by simp only [List.getD_eq_getElem?_getD]; rw [List.getElem?_append_left (by omega)]
    rw [this]
    exact he'.kept hg hnot
  · obtain rfl : j = n := by omega
    refine ⟨u, by rw [List.getElem?_append_right (by omega)]; simp [hvl], ?_⟩
    have : (ll ++ [xs]).getD j [] = xs := by simp only [List.getD_eq_getElem?_getD]; rw [List.getElem?_append_right (by omega)]; simp [hl]
    rw [this]
    exact he.kept hg hnot

theorem OwnRows.grew {w w1 w2 : World} {base : Nat} {v : Value} {n : Nat} {ll : List (List Nat)} {o : Obj} (h : OwnRows w1 base v n ll) (hb : Below base w w1) (hg : (w1.alloc o).grownBy w2 v.ownBlock) (hbase : base ≤ w.heap.size := by exact Nat.le_refl _) : Below base w w2 := by
  obtain ⟨_, vs, hvs, _⟩ := h
  exact (hb.alloc (Nat.le_trans hbase hb.size) o).grown hg (by have := hb.size; simp; omega) (fun k hk => (hvs.lt k hk).1)

/-- Rows of bytes that lie: what a slice of slices reads as. -/
def AtRows (w : World) (a : Option Addr) (n : Nat) (ll : List (List Nat)) : Prop :=
  ll.length = n ∧ n ≤ 9223372036854775807 ∧ (0 < n → ∃ b off, a = some ⟨b, off, none⟩ ∧ b < w.heap.size ∧ ∀ j, j < n → ∃ A len cap, w.cell? ⟨b, off + j, none⟩ = some (.slice A len cap) ∧ len ≤ 9223372036854775807 ∧ AtB w A len (ll.getD j []))
theorem AtRows.later {w w' : World} {a : Option Addr} {n : Nat} {ll : List (List Nat)} (h : AtRows w a n ll) (hb : Below w.heap.size w w') : AtRows w' a n ll := by
  obtain ⟨h1, h2, h3⟩ := h
  refine ⟨h1, h2, fun hp => ?_⟩
  obtain ⟨b, off, e, hlt, hc⟩ := h3 hp
  refine ⟨b, off, e, Nat.lt_of_lt_of_le hlt hb.size, fun j hj => ?_⟩
  obtain ⟨A, len, cap, hcell, hl, hat⟩ := hc j hj
  exact ⟨A, len, cap, (hb.cell (p := ⟨b, off + j, none⟩) hlt).trans hcell, hl, hat.below hb (Nat.le_refl _)⟩
theorem AtRows.nil (w : World) (a : Option Addr) : AtRows w a 0 [] := ⟨rfl, by omega, fun h => by omega⟩
theorem AtRows.drewN {w : World} {a : Option Addr} {n : Nat} {ll : List (List Nat)} (h : AtRows w a n ll) (m : Nat) : AtRows (w.drewN m) a n ll := h
theorem OwnRows.at_ {w : World} {base : Nat} {v : Value} {n : Nat} {ll : List (List Nat)} (h : OwnRows w base v n ll) (hn : n ≤ 9223372036854775807) : ∃ A cap, v = .slice A n cap ∧ n ≤ cap ∧ AtRows w A n ll := by
  obtain ⟨hl, vs, hvs, hel⟩ := h
  rcases hvs.2 with ⟨rfl, rfl⟩ | ⟨g, cap, cur, rfl, hb, hgb, hcap, _⟩
  · exact ⟨none, 0, rfl, Nat.le_refl _, by obtain rfl : ll = [] := List.eq_nil_of_length_eq_zero hl; exact AtRows.nil _ _⟩
  · refine ⟨_, cap, rfl, hcap, hl, hn, fun _ => ⟨g, 0, rfl, (Array.getElem?_eq_some_iff.1 hgb).1, fun j hj => ?_⟩⟩
    obtain ⟨u, hu, A, len, c, rfl, hat, _⟩ := hel j hj
    refine ⟨A, len, c, ?_, hat.2.2.1, hat⟩
    have := hvs.cells (g := g) rfl j _ hu
    rw [Addr.add_lit] at this
    exact this

/-- Rows of bytes that lie, none longer than its room. -/
def AtRowsC (w : World) (a : Option Addr) (n : Nat) (ll : List (List Nat)) : Prop :=
  ll.length = n ∧ (0 < n → ∃ b off, a = some ⟨b, off, none⟩ ∧ b < w.heap.size ∧ ∀ j, j < n → ∃ A len cap, w.cell? ⟨b, off + j, none⟩ = some (.slice A len cap) ∧ len ≤ cap ∧ AtB w A len (ll.getD j []))
theorem AtRowsC.later {w w' : World} {a : Option Addr} {n : Nat} {ll : List (List Nat)} (h : AtRowsC w a n ll) (hb : Below w.heap.size w w') : AtRowsC w' a n ll := by
  obtain ⟨h1, h3⟩ := h
  refine ⟨h1, fun hp => ?_⟩
  obtain ⟨b, off, e, hlt, hc⟩ := h3 hp
  refine ⟨b, off, e, Nat.lt_of_lt_of_le hlt hb.size, fun j hj => ?_⟩
  obtain ⟨A, len, cap, hcell, hl, hat⟩ := hc j hj
  exact ⟨A, len, cap, (hb.cell (p := ⟨b, off + j, none⟩) hlt).trans hcell, hl, hat.below hb (Nat.le_refl _)⟩
theorem OwnRows.atC {w : World} {base : Nat} {v : Value} {n : Nat} {ll : List (List Nat)} (h : OwnRows w base v n ll) : ∃ A cap, v = .slice A n cap ∧ n ≤ cap ∧ AtRowsC w A n ll := by
  obtain ⟨hl, vs, hvs, hel⟩ := h
  rcases hvs.2 with ⟨rfl, rfl⟩ | ⟨g, cap, cur, rfl, hb, hgb, hcap, _⟩
  · exact ⟨none, 0, rfl, Nat.le_refl _, hl, fun h => by omega⟩
  · refine ⟨_, cap, rfl, hcap, hl, fun _ => ⟨g, 0, rfl, (Array.getElem?_eq_some_iff.1 hgb).1, fun j hj => ?_⟩⟩
    obtain ⟨u, hu, A, len, c, rfl, hat, hlc, _⟩ := hel j hj
    refine ⟨A, len, c, ?_, hlc, hat⟩
    have := hvs.cells (g := g) rfl j _ hu
    rw [Addr.add_lit] at this
    exact this

/-- 'append(out, x)' in a fence: out the call's own rows; x one row in a block of bytes. -/
theorem wpListIn_append_row {F : Fence} {n : Nat} {ops : Array Oper} {rest : List Oper} {o : Oper} {a : Act} {w : World} {Q : Exit → Act → World → Prop} (hg : o.guard = none) (s x : Operand)
    (ho : o.op = .call { callee := .builtin .append, args := #[s, x], argTypes := #[65, 65] }) (base : Nat) (v : Value) (k : Nat) (ll : List (List Nat)) (hs : a.eval s = v) (hown : OwnRows w base v k ll)
    (ad : Addr) (c : Nat) (u : Value) (xs : List Nat) (hx : a.eval x = .slice (some ad) 1 c) (hc : w.cell? ad = some u) (he : Elem w u xs) (hb : k + 1 ≤ 1000000000000) (hbase : base ≤ w.heap.size)
    (h : ∀ g cap w', OwnRows w' base (.slice (some ⟨g, 0, none⟩) (k + 1) cap) (k + 1) (ll ++ [xs]) → w.grownBy w' v.ownBlock → wpListIn F n Tryd.prog ops Q rest (a.put o.dst (.slice (some ⟨g, 0, none⟩) (k + 1) cap)) w') : wpListIn F n Tryd.prog ops Q (o :: rest) a w := by
  obtain ⟨i, hi, hz0, hz1, hz2⟩ := info_parts infoS
  obtain ⟨hl, vs, hvs, hel⟩ := hown
  have hone : u.oneCell' = true := by obtain ⟨A, len, cap, rfl, _⟩ := he; rfl
  refine wpListIn_append_own w hg s x 65 ho base 48 i (.slice none 0 0) 1 24 Tryd.underlying65 hi hz0 hz1 hz2 rfl (by decide) v k vs hs hvs ad 1 c [u] hx rfl
    (fun j z hj => by
      have : j = 0 := by have := (List.getElem?_eq_some_iff.1 hj).1; simp at this; exact this
      subst this
      simp at hj; subst hj
      rw [Addr.add_zero']; exact hc) (fun z hz => by simp at hz; subst hz; exact hone) (by unfold maxLen; omega) (by omega) hbase ?_
  intro v' w' hown' hgrow _
  have hm := OwnRows.more hl hvs hel he hown' hgrow
  rcases hown'.2 with ⟨rfl, h0⟩ | ⟨g, cap, cur, rfl, _⟩
  · omega
  · exact h g cap w' hm hgrow
/-- The same as one step of a region that draws its order. -/
theorem stepIn_append_row {F : Fence} {n : Nat} {ops : Array Oper} {o : Oper} {a : Act} {w : World} {K : Act → World → Prop} {Q : Exit → Act → World → Prop} {E : Prop} (hg : o.guard = none) (s x : Operand)
    (ho : o.op = .call { callee := .builtin .append, args := #[s, x], argTypes := #[65, 65] }) (base : Nat) (v : Value) (k : Nat) (ll : List (List Nat)) (hs : a.eval s = v) (hown : OwnRows w base v k ll)
    (ad : Addr) (c : Nat) (u : Value) (xs : List Nat) (hx : a.eval x = .slice (some ad) 1 c) (hc : w.cell? ad = some u) (he : Elem w u xs) (hb : k + 1 ≤ 1000000000000) (hbase : base ≤ w.heap.size)
    (h : ∀ g cap w', OwnRows w' base (.slice (some ⟨g, 0, none⟩) (k + 1) cap) (k + 1) (ll ++ [xs]) → w.grownBy w' v.ownBlock → K (a.put o.dst (.slice (some ⟨g, 0, none⟩) (k + 1) cap)) w') : if Region.wanted o (yielded ops a.tmps) = true then Oper.wpIn F n Tryd.prog o a w K Q else E := by
  have hw : Region.wanted o (yielded ops a.tmps) = true := by simp [Region.wanted, hg]
  rw [if_pos hw]
  obtain ⟨i, hi, hz0, hz1, hz2⟩ := info_parts infoS
  obtain ⟨hl, vs, hvs, hel⟩ := hown
  have hone : u.oneCell' = true := by obtain ⟨A, len, cap, rfl, _⟩ := he; rfl
  obtain ⟨v', w', hrun, hown', hgrow, _⟩ := run_append_own (P := Tryd.prog) w base 65 o.type 48 i (.slice none 0 0) 1 24 Tryd.underlying65 hi hz0 hz1 hz2 rfl (by decide) v k vs hvs ad 1 c [u] rfl
    (fun j z hj => by
      have : j = 0 := by have := (List.getElem?_eq_some_iff.1 hj).1; simp at this; exact this
      subst this
      simp at hj; subst hj
      rw [Addr.add_zero']; exact hc) (fun z hz => by simp at hz; subst hz; exact hone) (by unfold maxLen; omega) (by omega) hbase
  have hm := OwnRows.more hl hvs hel he hown' hgrow
  have hK : K (a.put o.dst v') w' := by
    rcases hown'.2 with ⟨rfl, h0⟩ | ⟨g, cap, cur, rfl, _⟩
    · omega
    · exact h g cap w' hm hgrow
  unfold Oper.wpIn
  refine ⟨?_, ?_⟩
  · simp [Oper.about, ho, resolve, Target.leads, Sem.run_pure]
  · rw [Oper.semAt_plain F _ _ (by rw [ho]; intro c hc'; cases hc')]
    simp [execOp, ho, resolve, invoke, builtin, hs, hx, hrun, Result.andThen]
    exact hK
/-- The same where no fence is. -/
theorem wpList_append_row {ops : Array Oper} {rest : List Oper} {o : Oper} {a : Act} {w : World} {Q : Exit → Act → World → Prop} (hg : o.guard = none) (s x : Operand)
    (ho : o.op = .call { callee := .builtin .append, args := #[s, x], argTypes := #[65, 65] }) (base : Nat) (v : Value) (k : Nat) (ll : List (List Nat)) (hs : a.eval s = v) (hown : OwnRows w base v k ll)
    (ad : Addr) (c : Nat) (u : Value) (xs : List Nat) (hx : a.eval x = .slice (some ad) 1 c) (hc : w.cell? ad = some u) (he : Elem w u xs) (hb : k + 1 ≤ 1000000000000) (hbase : base ≤ w.heap.size)
    (h : ∀ g cap w', OwnRows w' base (.slice (some ⟨g, 0, none⟩) (k + 1) cap) (k + 1) (ll ++ [xs]) → w.grownBy w' v.ownBlock → wpList Tryd.prog ops Q rest (a.put o.dst (.slice (some ⟨g, 0, none⟩) (k + 1) cap)) w') : wpList Tryd.prog ops Q (o :: rest) a w := by
  obtain ⟨i, hi, hz0, hz1, hz2⟩ := info_parts infoS
  obtain ⟨hl, vs, hvs, hel⟩ := hown
  have hone : u.oneCell' = true := by obtain ⟨A, len, cap, rfl, _⟩ := he; rfl
  refine wpList_append_own w hg s x 65 ho base 48 i (.slice none 0 0) 1 24 Tryd.underlying65 hi hz0 hz1 hz2 rfl (by decide) v k vs hs hvs ad 1 c [u] hx rfl
    (fun j z hj => by
      have : j = 0 := by have := (List.getElem?_eq_some_iff.1 hj).1; simp at this; exact this
      subst this
      simp at hj; subst hj
      rw [Addr.add_zero']; exact hc) (fun z hz => by simp at hz; subst hz; exact hone) (by unfold maxLen; omega) (by omega) hbase ?_
  intro v' w' hown' hgrow _
  have hm := OwnRows.more hl hvs hel he hown' hgrow
  rcases hown'.2 with ⟨rfl, h0⟩ | ⟨g, cap, cur, rfl, _⟩
  · omega
  · exact h g cap w' hm hgrow
end Go.Proofs.YtdbomlclkhkinaaDoor
namespace Go.Proofs.YtdbomlclkhkinaaDoor
open Go.ChangeShapes Go.WideShapes Go.ChangeAt Go.RowKit
set_option linter.unusedVariables false
set_option maxRecDepth 100000

def RowsPost (w : World) (e : Ending) (w' : World) : Prop := e = .returned (.bool true) ∧ ∃ n, w' = w.drewN n

theorem refPut_no (A : Option Addr) (len cap : Nat) (h : len < 1 ∨ 65535 < len) (w : World) :
    Calls Tryd.prog 35 #[.slice A len cap] w fun e w' => e = .returned (.tuple #[.slice none 0 0, .int .i64 1]) ∧ w = w' := by
  rcases h with h | h
  · obtain rfl : len = 0 := by omega
    go_enter Tryd.func35, Tryd.ntmps35
    go_wp2_with fail
    go_ret2
    exact ⟨rfl, rfl⟩
  · have d1 : decide ((len : Int) < 1) = false := by rw [decide_eq_false_iff_not]; omega
    have d2 : decide ((65535 : Int) < (len : Int)) = true := by rw [decide_eq_true_iff]; omega
    go_enter Tryd.func35, Tryd.ntmps35
    go_wp2_with fail
    go_ret2
    exact ⟨rfl, rfl⟩

def headN (n m : Nat) : List Nat := [n % 256, n / 256, m % 256, m / 256 % 256, m / 65536 % 256, m / 16777216]
theorem head_is {n m : Nat} (h : n ≤ 65535) (hm : m < 4294967296) : headN n m = leN 2 n ++ leN 4 m := by
  simp [headN, leN]; omega
theorem head_bytes {n m : Nat} (h : n ≤ 65535) (hm : m < 4294967296) : Bytes (headN n m) := by
  rw [head_is h hm]
  intro x hx
  exact (List.mem_append.1 hx).elim (leN_bytes _ _ x) (leN_bytes _ _ x)
theorem refPut_yes (A : Option Addr) (len cap : Nat) (xs : List Nat) (h1 : 1 ≤ len) (h2 : len ≤ 65535) (w : World) (hA : Hid (AtB w A len xs)) (m : Nat) (lm : m < 4294967296) (hm : Hid (moreN 0 xs = m)) :
    Calls Tryd.prog 35 #[.slice A len cap] w (PutPost w (len + 6) (frameN xs)) := by
  have d1 : decide ((len : Int) < 1) = false := by rw [decide_eq_false_iff_not]; omega
  have d2 : decide ((65535 : Int) < (len : Int)) = false := by rw [decide_eq_false_iff_not]; omega
  have HF : Hid (headN len m ++ xs = frameN xs) := Lib.hid (by rw [head_is h2 lm, frameN, hA.out.1, hm.out]; simp)
  have HS : Hid (Calls Tryd.prog 63 #[.slice A len cap] w fun e w' => e = .returned (.int .u32 (m : Int)) ∧ w = w') := Lib.hid (by have := refSum_at A len cap xs w hA.out; rwa [hm.out] at this)
  have HO := Lib.hid (Own.lit w (headN len m) (head_bytes h2 lm) (by simp [headN]; unfold maxLen; omega))
  go_enter Tryd.func35, Tryd.ntmps35
  go_wp2_with fail
  refine HS.out.mono ?_
  rintro e w' ⟨rfl, rfl⟩
  go_wp2_with (at_builtin; (refine wpList_append_bytes (by rfl) (.tmp 38) (.tmp 39) (by rfl) w.heap.size _ 6 (headN len m) (by rfl) HO.out A len cap xs (by rfl) (AtB.later hA ((Below.refl _ _).alloc (Nat.le_refl _) _)) (by omega) (by simp) ?_); (intro v4 w4 hown4 hgrow4; have B4 := Lib.hid (((Below.refl w.heap.size w).alloc (Nat.le_refl _) _).grown hgrow4 (by simp) (fun k hk => by simp [Value.ownBlock] at hk; omega)); have O4 := Lib.hid hown4; clear hown4 hgrow4))
  go_ret2
  exact ⟨v4, rfl, by have := O4.out; rwa [HF.out, show 6 + len = len + 6 by omega] at this, B4.out⟩
theorem refPut_at (A : Option Addr) (len cap : Nat) (xs : List Nat) (h1 : 1 ≤ len) (h2 : len ≤ 65535) (w : World) (hA : Hid (AtB w A len xs)) :
    Calls Tryd.prog 35 #[.slice A len cap] w (PutPost w (len + 6) (frameN xs)) := refPut_yes A len cap xs h1 h2 w hA _ (more_lt 0 xs) (Lib.hid rfl)
end Go.Proofs.YtdbomlclkhkinaaDoor
namespace Go.Proofs.YtdbomlclkhkinaaDoor
open Go.ChangeShapes Go.WideShapes Go.ChangeAt Go.RowKit Go.Shelf
set_option linter.unusedVariables false
set_option maxRecDepth 100000
attribute [local go_sem] Oper.semAt_some

theorem grown_drewN (w : World) (n : Nat) (row : Option Nat) : w.grownBy (w.drewN n) row := ⟨rfl, rfl, rfl, Nat.le_refl _, fun _ _ _ => rfl⟩
/-- Bytes of a frame, as they lie in the text. -/
structure Piece (w0 : World) where
  A : Addr
  len : Nat
  cap : Nat
  xs : List Nat
  lies : AtB w0 (some A) len xs
  small : len ≤ 65535
def Piece.enc {w0 : World} (x : Piece w0) : Array Value := #[.slice (some x.A) x.len x.cap]

def lenOf : Value → Nat | .slice _ n _ => n | _ => 0

def BodiesPost {w0 : World} (xs : List Nat) (J Jx : List (Piece w0) → World → Prop) (e : Ending) (W' : World) : Prop :=
  (∃ v, e = .returned v) ∧ ((∃ ys, ys.map Piece.xs = splitN xs ∧ J ys W') ∨ (∃ pre, True ∧ Jx pre W'))
/-- What holds between two rounds. -/
def BodRel {w0 : World} (xs : List Nat) (J : List (Piece w0) → World → Prop) (p : Value) (wr : World) : Prop :=
  ∃ (pre : List (Piece w0)) (A : Option Addr) (len cap : Nat) (rest : List Nat), p = .slice A len cap ∧ splitN xs = pre.map Piece.xs ++ splitN rest ∧ AtB w0 A len rest ∧ len ≤ cap ∧ J pre wr ∧ Below w0.heap.size w0 wr

def PieceRows {w0 : World} (pre : List (Piece w0)) : List (List Nat) := pre.map Piece.xs
theorem used_small {w0 : World} (pre : List (Piece w0)) : usedN (PieceRows pre) ≤ 65541 * pre.length := by
  induction pre with
  | nil => exact Nat.le_refl _
  | cons x pre ih =>
    have h1 := x.lies.1
    have h2 := x.small
    show usedN (x.xs :: PieceRows pre) ≤ _
    rw [used_cons, List.length_cons]; omega
theorem rows_snoc {w0 : World} (pre : List (Piece w0)) (x : Piece w0) : PieceRows (pre ++ [x]) = PieceRows pre ++ [x.xs] := by simp [PieceRows]
/-- What holds between two rounds of Split's loop: of its two variables, and of all that lay. -/
def SplitI (w : World) (pre : List (Piece w)) (W : World) : Prop :=
  ((∃ v, Boxed W w.heap.size 65 v ∧ OwnRows W w.heap.size v pre.length (PieceRows pre)) ∧ Boxed W (w.heap.size + 1) 3 (.int .i64 ((usedN (PieceRows pre) : Nat) : Int))) ∧ Below w.heap.size w W
theorem splitI_own (w : World) (B : Nat) (hB : w.heap.size ≤ B) : OwnFrom B (SplitI w) := by
  refine OwnFrom.and (Own.from ?_ _) (ownFrom_below (Nat.le_refl _) hB)
  rintro pre X Y row ⟨⟨v, hv, hr⟩, hu⟩ hg hrow
  have hk : ∀ (b : Nat) (t : TypeId) (u : Value), Boxed X b t u → some b ≠ row := fun b t u h e => by
    obtain ⟨o, ho, hc⟩ := hrow b e.symm
    rw [show X.heap[b]? = _ from h] at ho; cases ho; cases hc
  refine ⟨⟨v, hv.kept hg (hk _ _ _ hv), hr.kept hg fun r e => ?_⟩, hu.kept hg (hk _ _ _ hu)⟩
  obtain ⟨o, ho, hc⟩ := hrow r e
  exact ⟨fun cur h => (by rw [h] at ho; cases ho; cases hc), fun cur h => (by rw [h] at ho; cases ho; cases hc)⟩
def SplitPost (w : World) (xs : List Nat) (e : Ending) (w' : World) : Prop :=
  ∃ v, e = .returned (.tuple #[v, .int .i64 ((usedN (splitN xs) : Nat) : Int)]) ∧ OwnRows w' w.heap.size v (splitN xs).length (splitN xs) ∧ Below w.heap.size w w'

/-- What the round still holds of the world where it began, on its way. -/
structure Mid (w W : World) (pre : List (Piece w)) (v : Value) (w' : World) : Prop where
  others : KeepsOthers W w'
  below : Below w.heap.size W w'
  since : Below w.heap.size w w'
  box : Boxed w' w.heap.size 65 v
  rows : OwnRows w' w.heap.size v pre.length (PieceRows pre)
  sum : Boxed w' (w.heap.size + 1) 3 (.int .i64 ((usedN (PieceRows pre) : Nat) : Int))
theorem Mid.start {w W : World} {pre : List (Piece w)} {v : Value} (hB : Below w.heap.size w W) (hv : Boxed W w.heap.size 65 v) (hr : OwnRows W w.heap.size v pre.length (PieceRows pre)) (hu : Boxed W (w.heap.size + 1) 3 (.int .i64 ((usedN (PieceRows pre) : Nat) : Int))) : Mid w W pre v W.drew :=
  ⟨KeepsOthers.drew _, (Below.refl _ _).drew, hB.drew, hv, hr, hu⟩
theorem Mid.later {w W w1 w2 : World} {pre : List (Piece w)} {v : Value} (h : Mid w W pre v w1) (hb : Below w1.heap.size w1 w2) : Mid w W pre v w2 where
  others := h.others.trans ⟨hb.size, fun k o hk _ => (hb.block k (Array.getElem?_eq_some_iff.1 hk).1).trans hk⟩
  below := h.below.trans (hb.mono h.since.size)
  since := h.since.trans (hb.mono h.since.size)
  box := (hb.block _ h.box.lt).trans h.box
  rows := h.rows.below hb
  sum := (hb.block _ h.sum.lt).trans h.sum
theorem Mid.alloc {w W w1 : World} {pre : List (Piece w)} {v : Value} (h : Mid w W pre v w1) (o : Obj) : Mid w W pre v (w1.alloc o) := h.later ((Below.refl _ _).alloc (Nat.le_refl _) o)
theorem not_rows {W : World} {B t base n : Nat} {u v : Value} {ll : List (List Nat)} (h : Boxed W B t u) (ht : t ≠ 48) (hr : OwnRows W base v n ll) : some B ≠ v.ownBlock := by
  obtain ⟨_, vs, hvs, _⟩ := hr
  exact h.not_row ht hvs
/-- Behind the append. -/
structure Mid2 (w W : World) (pre : List (Piece w)) (v u : Value) (x : Piece w) (w' : World) : Prop where
  others : KeepsOthers W w'
  below : Below w.heap.size W w'
  since : Below w.heap.size w w'
  box : Boxed w' w.heap.size 65 v
  rows : OwnRows w' w.heap.size u (pre.length + 1) (PieceRows pre ++ [x.xs])
  sum : Boxed w' (w.heap.size + 1) 3 (.int .i64 ((usedN (PieceRows pre) : Nat) : Int))
theorem Mid.appended {w W w1 w2 : World} {pre : List (Piece w)} {v u : Value} {x : Piece w} (h : Mid w W pre v w1) (hown : OwnRows w2 w.heap.size u (pre.length + 1) (PieceRows pre ++ [x.xs])) (hg : w1.grownBy w2 v.ownBlock) : Mid2 w W pre v u x w2 := by
  have hrow := h.rows
  obtain ⟨_, vs, hvs, _⟩ := hrow
  have hb : Below w.heap.size w1 w2 := (Below.refl _ _).grown hg h.since.size (fun k hk => (hvs.lt k hk).1)
  refine ⟨h.others.trans (KeepsOthers.of_grownBy hg fun j o ej hj => ?_), h.below.trans hb, h.since.trans hb, h.box.kept hg (not_rows h.box (by decide) h.rows), hown, h.sum.kept hg (not_rows h.sum (by decide) h.rows)⟩
  rcases hvs.2 with ⟨rfl, _⟩ | ⟨g, cap, cur, rfl, _, hgb, _⟩
  · simp [Value.ownBlock] at ej
  · obtain rfl : g = j := by simpa [Value.ownBlock] using ej
    rw [hgb] at hj; cases hj; rfl
/-- Behind the store of the longer row. -/
structure Mid3 (w W : World) (pre : List (Piece w)) (u : Value) (x : Piece w) (w' : World) : Prop where
  others : KeepsOthers W w'
  below : Below w.heap.size W w'
  since : Below w.heap.size w w'
  box : Boxed w' w.heap.size 65 u
  rows : OwnRows w' w.heap.size u (pre.length + 1) (PieceRows pre ++ [x.xs])
  sum : Boxed w' (w.heap.size + 1) 3 (.int .i64 ((usedN (PieceRows pre) : Nat) : Int))
theorem boxed_aside {W : World} {B t : Nat} {u : Value} (h : Boxed W B t u) (h5 : t ≠ 5) (h22 : t ≠ 48) : Aside W (some B) := by
  intro r e
  cases e
  exact ⟨fun cur hc => (by rw [show W.heap[B]? = _ from h] at hc; simp at hc; exact h5 hc.2), fun cur hc => (by rw [show W.heap[B]? = _ from h] at hc; simp at hc; exact h22 hc.2)⟩
theorem Mid2.stored {w W w1 : World} {pre : List (Piece w)} {v u : Value} {x : Piece w} (h : Mid2 w W pre v u x w1) : Mid3 w W pre u x (w1.setCell ⟨w.heap.size, 0, none⟩ u) where
  others := h.others.trans (KeepsOthers.setCell _ _ _)
  below := h.below.setCell (p := ⟨w.heap.size, 0, none⟩) (Nat.le_refl _) _
  since := h.since.setCell (p := ⟨w.heap.size, 0, none⟩) (Nat.le_refl _) _
  box := h.box.set u
  rows := h.rows.kept (grownBy_setCell' w1 _ u) (boxed_aside h.box (by decide) (by decide))
  sum := h.sum.kept (grownBy_setCell' w1 _ u) (by simp)
theorem Mid3.end_ {w W w1 : World} {pre : List (Piece w)} {u : Value} {x : Piece w} (h : Mid3 w W pre u x w1) (n : Int) (hn : n = ((usedN (PieceRows pre) : Nat) : Int) + (6 + (x.len : Int))) :
    KeepsOthers W (w1.setCell ⟨w.heap.size + 1, 0, none⟩ (.int .i64 n)) ∧ Below w.heap.size W (w1.setCell ⟨w.heap.size + 1, 0, none⟩ (.int .i64 n)) ∧ SplitI w (pre ++ [x]) (w1.setCell ⟨w.heap.size + 1, 0, none⟩ (.int .i64 n)) := by
  have e : usedN (PieceRows (pre ++ [x])) = usedN (PieceRows pre) + (6 + x.len) := by rw [rows_snoc, used_snoc, x.lies.1]
  refine ⟨h.others.trans (KeepsOthers.setCell _ _ _), h.below.setCell (p := ⟨w.heap.size + 1, 0, none⟩) (by simp) _, ⟨⟨u, h.box.kept (grownBy_setCell' w1 _ _) (by simp), ?_⟩, ?_⟩, h.since.setCell (p := ⟨w.heap.size + 1, 0, none⟩) (by simp) _⟩
  · rw [rows_snoc, List.length_append]
    exact h.rows.kept (grownBy_setCell' w1 _ _) (boxed_aside h.sum (by decide) (by decide))
  · rw [e]
    have := h.sum.set (.int .i64 n)
    rwa [hn, show ((usedN (PieceRows pre) : Nat) : Int) + (6 + (x.len : Int)) = ((usedN (PieceRows pre) + (6 + x.len) : Nat) : Int) by omega] at this ⊢

end Go.Proofs.YtdbomlclkhkinaaDoor
namespace Go.Proofs.YtdbomlclkhkinaaDoor
open Go.ChangeShapes Go.WideShapes Go.ChangeAt Go.RowKit
set_option linter.unusedVariables false
set_option maxRecDepth 100000

/-- What holds at the loop's head: behind the frames of pre. -/
def FRefRel (w : World) (s : List Nat) (v at_ : Value) (wr : World) : Prop :=
  ∃ (pre : List (List Nat)) (t : Nat), at_ = .int .i64 (t : Int) ∧ t = usedN pre ∧ t ≤ s.length ∧ splitN s = pre ++ splitN (s.drop t) ∧ pre.length ≤ t ∧ OwnRows wr w.heap.size v pre.length pre ∧ Below w.heap.size w wr
def EqUpto (f s : List Nat) (t k : Nat) : Prop := ∀ q, 2 ≤ q → q < k → f.getD q 0 = s.getD (t + q) 0
def InRel (w3 : World) (f s : List Nat) (t : Nat) (i : Value) (wq : World) : Prop := ∃ k m : Nat, 2 ≤ k ∧ k ≤ 6 ∧ i = .int .i64 (k : Int) ∧ wq = w3.drewN m ∧ EqUpto f s t k
theorem EqUpto.next {f s : List Nat} {t k : Nat} (h : EqUpto f s t k) (e : f.getD k 0 = s.getD (t + k) 0) : EqUpto f s t (k + 1) := fun q h2 hq => by
  rcases Nat.lt_or_ge q k with h' | h'
  · exact h q h2 h'
  · obtain rfl : q = k := by omega
    exact e
theorem split_post {w wr : World} {s : List Nat} {v : Value} {pre : List (List Nat)} {t : Nat} (ht : t = usedN pre) (hs : splitN s = pre ++ splitN (s.drop t)) (hno : ¬ Stands (s.drop t)) (hr : OwnRows wr w.heap.size v pre.length pre) (hb : Below w.heap.size w wr) :
    SplitPost w s (.returned (.tuple #[v, .int .i64 (t : Int)])) wr := by
  have e : splitN s = pre := by rw [hs, split_no hno, List.append_nil]
  exact ⟨v, by rw [e, ht], by rw [e]; exact hr, hb⟩

set_option maxRecDepth 100000 in
set_option maxHeartbeats 2000000 in
theorem refSplit_some (b off len cap : Nat) (s : List Nat) (hl : len ≤ cap) (hb : len ≤ 999999999999) (w : World) (hA : Hid (AtB w (some ⟨b, off, none⟩) len s)) :
    Calls Tryd.prog 17 #[.slice (some ⟨b, off, none⟩) len cap] w (SplitPost w s) := by
  have hlen := Lib.hid hA.out.1
  go_enter Tryd.func17, Tryd.ntmps17
  go_wp2_with fail
  go_loopw [4, 5] (fun v t wr => FRefRel w s v t wr) (fun _ t _ => len - (intOf t).toNat)
  case atStart => exact ⟨[], 0, rfl, rfl, Nat.zero_le _, rfl, Nat.zero_le _, OwnRows.nil _ _, Below.refl _ _⟩
  case round =>
    obtain ⟨pre, t, rfl, ht, htl, hsp, hpl, hrows, hbel⟩ := hrel
    rw [hlen.out] at htl
    have HT := Lib.hid ht
    have HSP := Lib.hid hsp
    have HR := Lib.hid hrows
    have HB := Lib.hid hbel
    have HAr := Lib.hid (hA.out.below hbel (Nat.le_refl _))
    clear ht hsp hrows hbel
    by_cases h6 : t + 6 ≤ len
    · have c0 := (HAr.out.cell t (by omega)).2
      have c1 := (HAr.out.cell (t + 1) (by omega)).2
      have y0 := hA.out.2.1.getD t
      have y1 := hA.out.2.1.getD (t + 1)
      have HC : Hid (cntN (s.drop t) = s.getD t 0 + 256 * s.getD (t + 1) 0) := Lib.hid (cnt_at (by rw [hlen.out]; omega))
      generalize s.getD t 0 = a0 at *
      generalize s.getD (t + 1) 0 = a1 at *
      obtain ⟨c, hc⟩ : ∃ c, c = a0 + 256 * a1 := ⟨_, rfl⟩
      have HCC : Hid (cntN (s.drop t) = c) := Lib.hid (by rw [HC.out, hc])
      have ec : (a0 : Int) + 256 * (a1 : Int) = (c : Int) := by omega
      have lc : c ≤ 65535 := by omega
      clear hc HC
      have i1 : IntKind.i64.wrap ((t : Int) + 1) = (t : Int) + 1 := IntWalk.i64_in _ (by omega)
      have i2 : (0 : Int) ≤ (t : Int) + 1 := by omega
      have i3 : ((t : Int) + 1).toNat = t + 1 := by omega
      have i4 : (t : Int) < (len : Int) := by omega
      have i5 : (t : Int) + 1 < (len : Int) := by omega
      by_cases h0 : c = 0
      · have HNO : Hid (¬ Stands (s.drop t)) := Lib.hid (fun h => by have := h.2.1; rw [HCC.out] at this; omega)
        subst h0
        go_wp2_with fail
        go_quiet (fail)
        clear i1 i2 i3 i4 i5
        go_wp2_with fail
        go_ret2
        exact split_post HT.out HSP.out HNO.out (HR.out.drewN _) (below_quiet HB.out _)
      have d0 : ((c : Int) == 0) = false := by rw [beq_eq_false_iff_ne]; omega
      by_cases h7 : len < t + 6 + c
      · have HNO : Hid (¬ Stands (s.drop t)) := Lib.hid (fun h => by have := h.2.2.1; rw [HCC.out, List.length_drop, hlen.out] at this; omega)
        go_wp2_with fail
        go_quiet (fail)
        clear i1 i2 i3 i4 i5
        go_wp2_with fail
        go_ret2
        exact split_post HT.out HSP.out HNO.out (HR.out.drewN _) (below_quiet HB.out _)
      have d1 : decide ((len : Int) < (t : Int) + 6 + (c : Int)) = false := by rw [decide_eq_false_iff_not]; omega
      have R : ∀ W, (Instr.slice 48 (.slice (some ⟨b, off, none⟩) len cap) (some (.int .i64 ((t : Int) + 6))) (some (.int .i64 ((t : Int) + 6 + (c : Int)))) none).run Tryd.prog W = .ok (.slice (cutA (some ⟨b, off, none⟩) cap (t + 6)) c (cap - (t + 6))) W := fun W => by
        have := run_cut_lh (some ⟨b, off, none⟩) len cap (t + 6) (t + 6 + c) (by omega) (by omega) W
        rwa [show t + 6 + c - (t + 6) = c by omega, show ((t + 6 + c : Nat) : Int) = (t : Int) + 6 + (c : Int) by omega, show ((t + 6 : Nat) : Int) = (t : Int) + 6 by omega] at this
      have HAt : Hid (AtB wr (cutA (some ⟨b, off, none⟩) cap (t + 6)) c (bodyN (s.drop t))) := Lib.hid (by
        have := HAr.out.cutA hl (t + 6) (t + 6 + c) (by omega) (by omega)
        rw [show t + 6 + c - (t + 6) = c by omega] at this
        rw [bodyN, HCC.out, List.drop_drop]; exact this)
      have HSB : Hid (Stands (s.drop t) ↔ ∀ k, 2 ≤ k → k < 6 → (frameN (bodyN (s.drop t))).getD k 0 = s.getD (t + k) 0) := Lib.hid (sum_bytes hA.out.2.1 (by rw [hlen.out]; omega) (by rw [HCC.out]; omega) (by rw [HCC.out, hlen.out]; omega))
      have HBody : Hid (∀ h : Stands (s.drop t), splitN (s.drop t) = bodyN (s.drop t) :: splitN ((s.drop t).drop (6 + c))) := Lib.hid (fun h => by rw [split_yes h, HCC.out])
      have HBL : Hid ((bodyN (s.drop t)).length = c) := Lib.hid HAt.out.1
      generalize bodyN (s.drop t) = body at *
      generalize cutA (some ⟨b, off, none⟩) cap (t + 6) = D at *
      generalize cap - (t + 6) = dcap at *
      go_wp2_with fail
      go_quiet (fail)
      clear i1 i2 i3 i4 i5 c0 c1 y0 y1 ec
      have HA1 : Hid (AtB (wr.drewN nq) (some ⟨b, off, none⟩) len s) := HAr
      have HT1 : Hid (AtB (wr.drewN nq) D c body) := HAt
      have HR1 : Hid (OwnRows (wr.drewN nq) w.heap.size u4 pre.length pre) := HR
      have HB1 : Hid (Below w.heap.size w (wr.drewN nq)) := Lib.hid (below_quiet HB.out nq)
      clear HAr HAt HR HB
      generalize wr.drewN nq = w1 at *
      go_wp2_with (at_builtin; (refine wpList_append_bytes (by rfl) (.tmp 42) (.tmp 50) (by rfl) w1.heap.size _ 0 [] (by rfl) (Own.made w1) D c dcap body (by rfl) (AtB.later HT1 (below_made w1)) (by omega) (by simp) ?_); (intro v2 w2 hown2 hgrow2; have B2 := Own.below hgrow2; rw [Nat.zero_add, List.nil_append] at hown2; obtain ⟨A2, k2, rfl, hk2, hat2⟩ := hown2.at_ (by omega); have HE2 := Lib.hid (hown2.elem (by omega)); have HT2 := Lib.hid hat2; have HA2 := Lib.hid (AtB.later HA1 B2); have HR2 := Lib.hid (HR1.out.below B2); have HB2 := Lib.hid (HB1.out.trans (B2.mono HB1.out.size)); clear hown2 hgrow2 hat2 B2 HA1 HR1 HB1 HT1))
      (with_reducible refine (refPut_at A2 c k2 body (by omega) lc w2 HT2).mono ?_)
      rintro e w3 ⟨v3, rfl, hO3, hB3⟩
      obtain ⟨A3, k3, rfl, hk3, hat3⟩ := hO3.at_ (by omega)
      obtain ⟨b3, o3, rfl, hlt3, hc3⟩ := hat3.2.2.2 (by omega)
      have HC3 := Lib.hid hc3
      have HE3 := Lib.hid (HE2.out.kept (row := none) ⟨hB3.os, hB3.tape, hB3.output, hB3.size, fun k hk _ => hB3.block k hk⟩ (fun r e => by cases e))
      have HA3 := Lib.hid (AtB.later HA2 hB3)
      have HR3 := Lib.hid (HR2.out.below hB3)
      have HB3 := Lib.hid (HB2.out.trans (hB3.mono HB2.out.size))
      have HF3 : Hid (∀ k, (frameN body).getD k 0 < 256) := Lib.hid (fun k => hat3.2.1.getD k)
      clear hO3 hB3 hat3 hlt3 hc3 HE2 HA2 HR2 HB2 HT2 hk2 hk3
      go_wp2_with fail
      obtain ⟨wo, hwo⟩ : ∃ wo : World, wo = wr := ⟨_, rfl⟩
      go_loopw [10] (fun i wq => InRel w3 (frameN body) s t i wq) (fun i _ => 6 - (intOf i).toNat)
      case atStart => exact ⟨2, 0, by omega, by omega, rfl, rfl, fun q h2 hq => by omega⟩
      case round =>
        obtain ⟨k, m, hk2, hk6, rfl, rfl, heq⟩ := hrel
        have HEQ := Lib.hid heq
        clear heq
        by_cases hlt : k < 6
        · have cs := (AtB.cell (w := w3) HA3.out (t + k) (by omega)).2
          have cf := HC3.out k (by omega)
          have ys := HA3.out.2.1.getD (t + k)
          have yf := HF3.out k
          have j1 : IntKind.i64.wrap ((t : Int) + (k : Int)) = (t : Int) + (k : Int) := IntWalk.i64_in _ (by omega)
          have j2 : (0 : Int) ≤ (t : Int) + (k : Int) := by omega
          have j3 : ((t : Int) + (k : Int)).toNat = t + k := by omega
          have j4 : (t : Int) + (k : Int) < (len : Int) := by omega
          have j5 : (k : Int) < (c : Int) + 6 := by omega
          have j6 : (0 : Int) ≤ (k : Int) := by omega
          have HX : Hid ((frameN body).getD k 0 = s.getD (t + k) 0 → EqUpto (frameN body) s t (k + 1)) := Lib.hid (fun e => HEQ.out.next e)
          have HY : Hid ((frameN body).getD k 0 ≠ s.getD (t + k) 0 → ¬ Stands (s.drop t)) := Lib.hid (fun e h => e (HSB.out.1 h k hk2 hlt))
          generalize (frameN body).getD k 0 = x at *
          generalize s.getD (t + k) 0 = y at *
          by_cases hxy : x = y
          · have HZ := Lib.hid (HX.out hxy)
            subst hxy
            clear HX HY
            go_wp2_with fail
            go_quiet (fail)
            clear j1 j2 j3 j4 j5 j6
            go_wp2_with fail
            go_roundw
            case rel => exact ⟨k + 1, _, by omega, by omega, by go_num, rfl, HZ.out⟩
            case measure => simp [intOf]; omega
          · have HZ := Lib.hid (HY.out hxy)
            have x1 : ((x : Int) != (y : Int)) = true := by rw [bne_iff_ne]; omega
            have x2 : ((x : Int) == (y : Int)) = false := by rw [beq_eq_false_iff_ne]; omega
            have x3 : (x == y) = false := by rw [beq_eq_false_iff_ne]; exact hxy
            clear HX HY hxy
            go_wp2_with fail
            go_quiet (fail)
            clear j1 j2 j3 j4 j5 j6
            go_wp2_with fail
            go_ret2
            exact split_post HT.out HSP.out HZ.out HR3.out (below_quiet (below_quiet HB3.out _) _)
        · obtain rfl : k = 6 := by omega
          have HST := Lib.hid (HSB.out.2 HEQ.out)
          have HE4 : Hid (Elem (w3.drewN m) (.slice A2 c k2) body) := HE3
          have HR4 : Hid (OwnRows (w3.drewN m) w.heap.size u4 pre.length pre) := HR3
          have HB4 : Hid (Below w.heap.size w (w3.drewN m)) := Lib.hid (below_quiet HB3.out m)
          clear HA3 HR3 HB3 HE3 HC3 HF3 HSB HEQ
          generalize w3.drewN m = w4 at *
          go_wp2_with (at_builtin; (refine wpList_append_row (by rfl) (.tmp 74) (.tmp 76) (by rfl) w.heap.size u4 pre.length pre (by rfl) (HR4.out.alloc _) ⟨w4.heap.size, 0, none⟩ 1 (.slice A2 c k2) body (by rfl) (by simp) (HE4.out.kept (World.grownBy_alloc w4 _ none) (fun r e => by cases e)) (by omega) (by have := HB4.out.size; simp; omega) ?_); (intro g cp w5 hown hgrow; have O5 := Lib.hid hown; have B5 := Lib.hid (HR4.out.grew HB4.out hgrow); clear hown hgrow))
          go_roundw
          case rel => exact ⟨pre ++ [body], t + (6 + c), by go_num, by rw [used_snoc, HT.out, HBL.out], by rw [hlen.out]; omega, by rw [HSP.out, HBody.out HST.out, List.drop_drop, List.append_assoc]; rfl, by rw [List.length_append, List.length_singleton]; omega, by rw [List.length_append]; exact O5.out, B5.out⟩
          case measure => simp [intOf]; omega
    · have HNO : Hid (¬ Stands (s.drop t)) := Lib.hid (fun h => by have := h.1; rw [List.length_drop, hlen.out] at this; omega)
      go_wp2_with fail
      go_ret2
      exact split_post HT.out HSP.out HNO.out HR.out HB.out

theorem refSplit_short (A : Option Addr) (len cap : Nat) (s : List Nat) (h6 : len < 6) (hs : s.length = len) (w : World) :
    Calls Tryd.prog 17 #[.slice A len cap] w (SplitPost w s) := by
  have HE := Lib.hid (split_short (s := s) (by omega))
  clear hs
  go_enter Tryd.func17, Tryd.ntmps17
  go_wp2_with fail
  go_loop [4, 5] (fun v t => v = .slice none 0 0 ∧ t = .int .i64 0) (fun _ _ => 0)
  case atStart => exact ⟨rfl, rfl⟩
  case round =>
    obtain ⟨rfl, rfl⟩ := hrel
    go_wp2_with fail
    go_ret2
    exact ⟨_, by rw [HE.out]; rfl, by rw [HE.out]; exact OwnRows.nil _ _, Below.refl _ _⟩
theorem refSplit_at (A : Option Addr) (len cap : Nat) (s : List Nat) (hl : len ≤ cap) (hb : len ≤ 999999999999) (w : World) (hA : Hid (AtB w A len s)) :
    Calls Tryd.prog 17 #[.slice A len cap] w (SplitPost w s) := by
  by_cases h6 : len < 6
  · exact refSplit_short A len cap s h6 hA.out.1 w
  · obtain ⟨b, off, rfl, _⟩ := hA.out.2.2.2 (by omega)
    exact refSplit_some b off len cap s hl hb w hA
end Go.Proofs.YtdbomlclkhkinaaDoor
