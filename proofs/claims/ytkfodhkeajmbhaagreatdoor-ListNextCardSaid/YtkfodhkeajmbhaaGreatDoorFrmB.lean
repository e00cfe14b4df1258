/-
  Texts of one kind, one behind the other: SlRows, FrmRef, FrmSplit, FrmRefSplit.
-/
import Derived.Test.YtkfodhkeajmbhaaGreatDoorBase
import Derived.OwnWalkIn
import Derived.Test.YtkfodhkeajmbhaaGreatDoorCrcA
import Derived.Test.YtkfodhkeajmbhaaGreatDoorFrmA
import Derived.RangeFuncNested
import Derived.RangeFuncBound
import Derived.RangeFuncCalls
import Derived.RangeFuncLeaves
import Derived.RangeFuncBox
import Derived.Shelf.Abstract
import Derived.Shelf.RegionOpen
import Derived.WalkKit
import Derived.TacticsInMore
import Derived.LoopNIn
import Derived.LoopIn
import Derived.Maps.AppendAt
import Derived.Lib.SliceRun
namespace Go.Proofs.YtkfodhkeajmbhaaGreatDoor
open Go.ChangeShapes Go.WideShapes Go.ChangeAt Go.RowKit
set_option linter.unusedVariables false
set_option maxRecDepth 100000
theorem AtB.of_block {w w' : World} {a : Option Addr} {len : Nat} {xs : List Nat} (h : AtB w a len xs) (hs : w.heap.size ≤ w'.heap.size) (hb : ∀ ad, a = some ad → w'.heap[ad.block]? = w.heap[ad.block]?) : AtB w' a len xs := by
  obtain ⟨h1, h2, h3, h4⟩ := h
  refine ⟨h1, h2, h3, fun hp => ?_⟩
  obtain ⟨b, off, e, hlt, hc⟩ := h4 hp
  exact ⟨b, off, e, Nat.lt_of_lt_of_le hlt hs, fun j hj => (World.cell?_of_block (w := w) (a := ⟨b, off + j, none⟩) (hb ⟨b, off, none⟩ e)).trans (hc j hj)⟩

/-- A value that reads as bytes, in a block of bytes. -/
def Elem (w : World) (u : Value) (xs : List Nat) : Prop := ∃ A len cap, u = .slice A len cap ∧ AtB w A len xs ∧ len ≤ cap ∧ ∀ ad, A = some ad → ∃ cur, w.heap[ad.block]? = some (.cells cur 5 (0, 0))
theorem Elem.kept {w w' : World} {u : Value} {xs : List Nat} {row : Option Nat} (h : Elem w u xs) (hg : w.grownBy w' row) (hr : ∀ r, row = some r → ∀ cur, w.heap[r]? ≠ some (.cells cur 5 (0, 0))) : Elem w' u xs := by
  obtain ⟨A, len, cap, rfl, hat, hlc, hbl⟩ := h
  have hk : ∀ ad, A = some ad → w'.heap[ad.block]? = w.heap[ad.block]? := fun ad e => by
    obtain ⟨cur, hc⟩ := hbl ad e
    exact hg.block _ (Array.getElem?_eq_some_iff.1 hc).1 (fun e' => hr _ e'.symm cur hc)
  exact ⟨A, len, cap, rfl, hat.of_block hg.size hk, hlc, fun ad e => by obtain ⟨cur, hc⟩ := hbl ad e; exact ⟨cur, (hk ad e).trans hc⟩⟩
theorem Own.elem {w : World} {base : Nat} {v : Value} {n : Nat} {xs : List Nat} (h : Own w base v n xs) (hn : n ≤ 9223372036854775807) : Elem w v xs := by
  have hl := h.length
  rcases h.2.2 with ⟨rfl, rfl⟩ | ⟨g, cap, cur, rfl, hg, hheap, hcap, hmax, hsz, htake⟩
  · obtain rfl : xs = [] := List.eq_nil_of_length_eq_zero hl
    exact ⟨none, 0, 0, rfl, AtB.nil _ _, Nat.le_refl _, fun ad e => by cases e⟩
  · obtain ⟨A, c, e, _, hat⟩ := h.at_ hn
    simp only [Value.slice.injEq, true_and] at e
    obtain ⟨rfl, rfl⟩ := e
    exact ⟨_, _, _, rfl, hat, hcap, fun ad e => by cases e; exact ⟨cur, hheap⟩⟩

/-- A slice of slices of the call's own: row j reads as the j-th row of bytes. -/
def OwnRows (w : World) (base : Nat) (v : Value) (n : Nat) (ll : List (List Nat)) : Prop :=
  ll.length = n ∧ ∃ vs, w.ownsRow base 31 1 v n vs ∧ ∀ j, j < n → ∃ u, vs[j]? = some u ∧ Elem w u (ll.getD j [])
/-- The turn of a block that holds neither bytes nor slices. -/
def Aside (w : World) (row : Option Nat) : Prop := ∀ r, row = some r → (∀ cur, w.heap[r]? ≠ some (.cells cur 5 (0, 0))) ∧ (∀ cur, w.heap[r]? ≠ some (.cells cur 31 (0, 0)))
theorem OwnRows.nil (w : World) (base : Nat) : OwnRows w base (.slice none 0 0) 0 [] := ⟨rfl, [], World.ownsRow_nil _ _ _ _, fun j hj => by omega⟩
theorem OwnRows.kept {w w' : World} {base : Nat} {v : Value} {n : Nat} {ll : List (List Nat)} {row : Option Nat} (h : OwnRows w base v n ll) (hg : w.grownBy w' row) (hr : Aside w row) : OwnRows w' base v n ll := by
  obtain ⟨hl, vs, hvs, hel⟩ := h
  refine ⟨hl, vs, hvs.kept hg ?_, fun j hj => ?_⟩
  · rcases hvs.2 with ⟨rfl, _⟩ | ⟨g, cap, cur, rfl, _, hgb, _⟩
    · exact .inl rfl
    · refine .inr fun e => ?_
      exact (hr g (by simpa [Value.ownBlock] using e.symm)).2 cur hgb
  · obtain ⟨u, hu, he⟩ := hel j hj
    exact ⟨u, hu, he.kept hg (fun r e => (hr r e).1)⟩
theorem OwnRows.alloc {w : World} {base : Nat} {v : Value} {n : Nat} {ll : List (List Nat)} (h : OwnRows w base v n ll) (o : Obj) : OwnRows (w.alloc o) base v n ll := h.kept (World.grownBy_alloc w o none) (fun r e => by cases e)
theorem OwnRows.drewN {w : World} {base : Nat} {v : Value} {n : Nat} {ll : List (List Nat)} (h : OwnRows w base v n ll) (m : Nat) : OwnRows (w.drewN m) base v n ll := h
/-- Behind the laws: 'Below' from a bound on that lies behind all its blocks. -/
theorem OwnRows.below {w w' : World} {base : Nat} {v : Value} {n : Nat} {ll : List (List Nat)} (h : OwnRows w base v n ll) (hb : Below w.heap.size w w') : OwnRows w' base v n ll := by
  refine h.kept (row := none) ⟨hb.os, hb.tape, hb.output, hb.size, fun k hk _ => hb.block k hk⟩ (fun r e => by cases e)
/-- One row more. -/
theorem OwnRows.more {w w' : World} {base : Nat} {v v' u : Value} {n : Nat} {ll : List (List Nat)} {xs : List Nat} {vs : List Value} (hl : ll.length = n) (hvs : w.ownsRow base 31 1 v n vs)
    (hel : ∀ j, j < n → ∃ u, vs[j]? = some u ∧ Elem w u (ll.getD j [])) (he : Elem w u xs) (hown : w'.ownsRow base 31 1 v' (n + 1) (vs ++ [u])) (hg : w.grownBy w' v.ownBlock) : OwnRows w' base v' (n + 1) (ll ++ [xs]) := by
  have hnot : ∀ r, v.ownBlock = some r → ∀ cur, w.heap[r]? ≠ some (.cells cur 5 (0, 0)) := by
    intro r hr cur hc
    rcases hvs.2 with ⟨rfl, _⟩ | ⟨g, cap, cur', rfl, _, hgb, _⟩
    · simp [Value.ownBlock] at hr
    · simp [Value.ownBlock] at hr
      subst hr
      rw [hgb] at hc
      simp at hc
  have hvl : vs.length = n := by have := hvs.1; omega
  refine ⟨by simp [hl], _, hown, fun j hj => ?_⟩
  by_cases h : j < n
  · obtain ⟨u', hu', he'⟩ := hel j h
    refine ⟨u', by rw [List.getElem?_append_left (by omega)]; exact hu', ?_⟩
    have : (ll ++ [xs]).getD j [] = ll.getD j [] := by simp only [List.getD_eq_getElem?_getD]; rw [List.getElem?_append_left (by omega)]
    rw [this]
    exact he'.kept hg hnot
  · obtain rfl : j = n := by omega
    refine ⟨u, by rw [List.getElem?_append_right (by omega)]; simp [hvl], ?_⟩
    have : (ll ++ [xs]).getD j [] = xs := by simp only [List.getD_eq_getElem?_getD]; rw [List.getElem?_append_right (by omega)]; simp [hl]
    rw [this]
    exact he.kept hg hnot

/-- Rows of bytes that lie: what a slice of slices reads as. -/
def AtRows (w : World) (a : Option Addr) (n : Nat) (ll : List (List Nat)) : Prop :=
  ll.length = n ∧ n ≤ 9223372036854775807 ∧ (0 < n → ∃ b off, a = some ⟨b, off, none⟩ ∧ b < w.heap.size ∧ ∀ j, j < n → ∃ A len cap, w.cell? ⟨b, off + j, none⟩ = some (.slice A len cap) ∧ len ≤ 9223372036854775807 ∧ AtB w A len (ll.getD j []))
theorem AtRows.later {w w' : World} {a : Option Addr} {n : Nat} {ll : List (List Nat)} (h : AtRows w a n ll) (hb : Below w.heap.size w w') : AtRows w' a n ll := by
  obtain ⟨h1, h2, h3⟩ := h
  refine ⟨h1, h2, fun hp => ?_⟩
  obtain ⟨b, off, e, hlt, hc⟩ := h3 hp
  refine ⟨b, off, e, Nat.lt_of_lt_of_le hlt hb.size, fun j hj => ?_⟩
  obtain ⟨A, len, cap, hcell, hl, hat⟩ := hc j hj
  exact ⟨A, len, cap, (hb.cell (p := ⟨b, off + j, none⟩) hlt).trans hcell, hl, hat.below hb (Nat.le_refl _)⟩
theorem AtRows.nil (w : World) (a : Option Addr) : AtRows w a 0 [] := ⟨rfl, by omega, fun h => by omega⟩
theorem AtRows.drewN {w : World} {a : Option Addr} {n : Nat} {ll : List (List Nat)} (h : AtRows w a n ll) (m : Nat) : AtRows (w.drewN m) a n ll := h
theorem OwnRows.at_ {w : World} {base : Nat} {v : Value} {n : Nat} {ll : List (List Nat)} (h : OwnRows w base v n ll) (hn : n ≤ 9223372036854775807) : ∃ A cap, v = .slice A n cap ∧ n ≤ cap ∧ AtRows w A n ll := by
  obtain ⟨hl, vs, hvs, hel⟩ := h
  rcases hvs.2 with ⟨rfl, rfl⟩ | ⟨g, cap, cur, rfl, hb, hgb, hcap, _⟩
  · exact ⟨none, 0, rfl, Nat.le_refl _, by obtain rfl : ll = [] := List.eq_nil_of_length_eq_zero hl; exact AtRows.nil _ _⟩
  · refine ⟨_, cap, rfl, hcap, hl, hn, fun _ => ⟨g, 0, rfl, (Array.getElem?_eq_some_iff.1 hgb).1, fun j hj => ?_⟩⟩
    obtain ⟨u, hu, A, len, c, rfl, hat, _⟩ := hel j hj
    refine ⟨A, len, c, ?_, hat.2.2.1, hat⟩
    have := hvs.cells (g := g) rfl j _ hu
    rw [Addr.add_lit] at this
    exact this

/-- Rows of bytes that lie, none longer than its room. -/
def AtRowsC (w : World) (a : Option Addr) (n : Nat) (ll : List (List Nat)) : Prop :=
  ll.length = n ∧ (0 < n → ∃ b off, a = some ⟨b, off, none⟩ ∧ b < w.heap.size ∧ ∀ j, j < n → ∃ A len cap, w.cell? ⟨b, off + j, none⟩ = some (.slice A len cap) ∧ len ≤ cap ∧ AtB w A len (ll.getD j []))
theorem AtRowsC.later {w w' : World} {a : Option Addr} {n : Nat} {ll : List (List Nat)} (h : AtRowsC w a n ll) (hb : Below w.heap.size w w') : AtRowsC w' a n ll := by
  obtain ⟨h1, h3⟩ := h
  refine ⟨h1, fun hp => ?_⟩
  obtain ⟨b, off, e, hlt, hc⟩ := h3 hp
  refine ⟨b, off, e, Nat.lt_of_lt_of_le hlt hb.size, fun j hj => ?_⟩
  obtain ⟨A, len, cap, hcell, hl, hat⟩ := hc j hj
  exact ⟨A, len, cap, (hb.cell (p := ⟨b, off + j, none⟩) hlt).trans hcell, hl, hat.below hb (Nat.le_refl _)⟩
end Go.Proofs.YtkfodhkeajmbhaaGreatDoor
namespace Go.Proofs.YtkfodhkeajmbhaaGreatDoor
open Go.ChangeShapes Go.WideShapes Go.ChangeAt Go.RowKit
set_option linter.unusedVariables false
set_option maxRecDepth 100000
def headN (n m : Nat) : List Nat := [n % 256, n / 256, m % 256, m / 256 % 256, m / 65536 % 256, m / 16777216]
theorem head_is {n m : Nat} (h : n ≤ 65535) (hm : m < 4294967296) : headN n m = leN 2 n ++ leN 4 m := by
  simp [headN, leN]; omega
theorem head_bytes {n m : Nat} (h : n ≤ 65535) (hm : m < 4294967296) : Bytes (headN n m) := by
  rw [head_is h hm]
  intro x hx
  exact (List.mem_append.1 hx).elim (leN_bytes _ _ x) (leN_bytes _ _ x)
theorem refPut_yes (A : Option Addr) (len cap : Nat) (xs : List Nat) (h1 : 1 ≤ len) (h2 : len ≤ 65535) (w : World) (hA : Hid (AtB w A len xs)) (m : Nat) (lm : m < 4294967296) (hm : Hid (moreN 0 xs = m)) :
    Calls Tryz.prog 131 #[.slice A len cap] w (PutPost w (len + 6) (frameN xs)) := by
  have d1 : decide ((len : Int) < 1) = false := by rw [decide_eq_false_iff_not]; omega
  have d2 : decide ((65535 : Int) < (len : Int)) = false := by rw [decide_eq_false_iff_not]; omega
  have HF : Hid (headN len m ++ xs = frameN xs) := Lib.hid (by rw [head_is h2 lm, frameN, hA.out.1, hm.out]; simp)
  have HS : Hid (Calls Tryz.prog 136 #[.slice A len cap] w fun e w' => e = .returned (.int .u32 (m : Int)) ∧ w = w') := Lib.hid (by have := refSum_at A len cap xs w hA.out; rwa [hm.out] at this)
  have HO := Lib.hid (Own.lit w (headN len m) (head_bytes h2 lm) (by simp [headN]; unfold maxLen; omega))
  go_enter Tryz.func131, Tryz.ntmps131
  go_wp2_with fail
  refine HS.out.mono ?_
  rintro e w' ⟨rfl, rfl⟩
  go_wp2_with (at_builtin; (refine wpList_append_bytes (by rfl) (.tmp 38) (.tmp 39) (by rfl) w.heap.size _ 6 (headN len m) (by rfl) HO.out A len cap xs (by rfl) (AtB.later hA ((Below.refl _ _).alloc (Nat.le_refl _) _)) (by omega) (by simp) ?_); (intro v4 w4 hown4 hgrow4; have B4 := Lib.hid (((Below.refl w.heap.size w).alloc (Nat.le_refl _) _).grown hgrow4 (by simp) (fun k hk => by simp [Value.ownBlock] at hk; omega)); have O4 := Lib.hid hown4; clear hown4 hgrow4))
  go_ret2
  exact ⟨v4, rfl, by have := O4.out; rwa [HF.out, show 6 + len = len + 6 by omega] at this, B4.out⟩
theorem refPut_at (A : Option Addr) (len cap : Nat) (xs : List Nat) (h1 : 1 ≤ len) (h2 : len ≤ 65535) (w : World) (hA : Hid (AtB w A len xs)) :
    Calls Tryz.prog 131 #[.slice A len cap] w (PutPost w (len + 6) (frameN xs)) := refPut_yes A len cap xs h1 h2 w hA _ (more_lt 0 xs) (Lib.hid rfl)
end Go.Proofs.YtkfodhkeajmbhaaGreatDoor
namespace Go.Proofs.YtkfodhkeajmbhaaGreatDoor
open Go.ChangeShapes Go.WideShapes Go.ChangeAt Go.RowKit Go.Shelf
set_option linter.unusedVariables false
set_option maxRecDepth 100000
/-- Bytes of a frame, as they lie in the text. -/
structure Piece (w0 : World) where
  A : Addr
  len : Nat
  cap : Nat
  xs : List Nat
  lies : AtB w0 (some A) len xs
  small : len ≤ 65535
def Piece.enc {w0 : World} (x : Piece w0) : Array Value := #[.slice (some x.A) x.len x.cap]

def lenOf : Value → Nat | .slice _ n _ => n | _ => 0

end Go.Proofs.YtkfodhkeajmbhaaGreatDoor
namespace Go.Proofs.YtkfodhkeajmbhaaGreatDoor
open Go.ChangeShapes Go.WideShapes Go.ChangeAt Go.RowKit
set_option linter.unusedVariables false
set_option maxRecDepth 100000
def EqUpto (f s : List Nat) (t k : Nat) : Prop := ∀ q, 2 ≤ q → q < k → f.getD q 0 = s.getD (t + q) 0
theorem EqUpto.next {f s : List Nat} {t k : Nat} (h : EqUpto f s t k) (e : f.getD k 0 = s.getD (t + k) 0) : EqUpto f s t (k + 1) := fun q h2 hq => by
  rcases Nat.lt_or_ge q k with h' | h'
  · exact h q h2 h'
  · obtain rfl : q = k := by omega
    exact e
end Go.Proofs.YtkfodhkeajmbhaaGreatDoor
