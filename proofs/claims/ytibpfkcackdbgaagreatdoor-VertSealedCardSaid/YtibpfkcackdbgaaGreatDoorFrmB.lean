/- FrmB -/
import Derived.Test.YtibpfkcackdbgaaGreatDoorBase
import Derived.OwnWalkIn
import Derived.Test.YtibpfkcackdbgaaGreatDoorCrcA
import Derived.Test.YtibpfkcackdbgaaGreatDoorFrmA
import Derived.RangeFuncNested
import Derived.RangeFuncBound
import Derived.RangeFuncCalls
import Derived.RangeFuncLeaves
import Derived.RangeFuncBox
import Derived.Shelf.Abstract
import Derived.Shelf.RegionOpen
import Derived.WalkKit
import Derived.TacticsInMore
import Derived.LoopNIn
import Derived.LoopIn
import Derived.Maps.AppendAt
import Derived.Lib.SliceRun
namespace Go.Proofs.YtibpfkcackdbgaaGreatDoor
open Go.ChangeShapes Go.WideShapes Go.ChangeAt Go.RowKit
set_option linter.unusedVariables false
set_option maxRecDepth 100000
theorem AtB.of_block {w w' : World} {a : Option Addr} {len : Nat} {xs : List Nat} (h : AtB w a len xs) (hs : w.heap.size ≤ w'.heap.size) (hb : ∀ ad, a = some ad → w'.heap[ad.block]? = w.heap[ad.block]?) : AtB w' a len xs := by
 obtain ⟨h1, h2, h3, h4⟩ := h
 refine ⟨h1, h2, h3, fun hp => ?_⟩
 obtain ⟨b, off, e, hlt, hc⟩ := h4 hp
 exact ⟨b, off, e, Nat.lt_of_lt_of_le hlt hs, fun j hj => (World.cell?_of_block (w := w) (a := ⟨b, off + j, none⟩) (hb ⟨b, off, none⟩ e)).trans (hc j hj)⟩
def Elem (w : World) (u : Value) (xs : List Nat) : Prop := ∃ A len cap, u = .slice A len cap ∧ AtB w A len xs ∧ len ≤ cap ∧ ∀ ad, A = some ad → ∃ cur, w.heap[ad.block]? = some (.cells cur 5 (0, 0))
theorem Elem.kept {w w' : World} {u : Value} {xs : List Nat} {row : Option Nat} (h : Elem w u xs) (hg : w.grownBy w' row) (hr : ∀ r, row = some r → ∀ cur, w.heap[r]? ≠ some (.cells cur 5 (0, 0))) : Elem w' u xs := by
 obtain ⟨A, len, cap, rfl, hat, hlc, hbl⟩ := h
 have hk : ∀ ad, A = some ad → w'.heap[ad.block]? = w.heap[ad.block]? := fun ad e => by
  obtain ⟨cur, hc⟩ := hbl ad e
  exact hg.block _ (Array.getElem?_eq_some_iff.1 hc).1 (fun e' => hr _ e'.symm cur hc)
 exact ⟨A, len, cap, rfl, hat.of_block hg.size hk, hlc, fun ad e => by obtain ⟨cur, hc⟩ := hbl ad e; exact ⟨cur, (hk ad e).trans hc⟩⟩
theorem Own.elem {w : World} {base : Nat} {v : Value} {n : Nat} {xs : List Nat} (h : Own w base v n xs) (hn : n ≤ 9223372036854775807) : Elem w v xs := by
 have hl := h.length
 rcases h.2.2 with ⟨rfl, rfl⟩ | ⟨g, cap, cur, rfl, hg, hheap, hcap, hmax, hsz, htake⟩
 ·obtain rfl : xs = [] := List.eq_nil_of_length_eq_zero hl
  exact ⟨none, 0, 0, rfl, AtB.nil _ _, Nat.le_refl _, fun ad e => by cases e⟩
 ·obtain ⟨A, c, e, _, hat⟩ := h.at_ hn
  simp only [Value.slice.injEq, true_and] at e
  obtain ⟨rfl, rfl⟩ := e
  exact ⟨_, _, _, rfl, hat, hcap, fun ad e => by cases e; exact ⟨cur, hheap⟩⟩
def OwnRows (w : World) (base : Nat) (v : Value) (n : Nat) (ll : List (List Nat)) : Prop :=
 ll.length = n ∧ ∃ vs, w.ownsRow base 22 1 v n vs ∧ ∀ j, j < n → ∃ u, vs[j]? = some u ∧ Elem w u (ll.getD j [])
def Aside (w : World) (row : Option Nat) : Prop := ∀ r, row = some r → (∀ cur, w.heap[r]? ≠ some (.cells cur 5 (0, 0))) ∧ (∀ cur, w.heap[r]? ≠ some (.cells cur 22 (0, 0)))
theorem OwnRows.nil (w : World) (base : Nat) : OwnRows w base (.slice none 0 0) 0 [] := ⟨rfl, [], World.ownsRow_nil _ _ _ _, fun j hj => by omega⟩
theorem OwnRows.kept {w w' : World} {base : Nat} {v : Value} {n : Nat} {ll : List (List Nat)} {row : Option Nat} (h : OwnRows w base v n ll) (hg : w.grownBy w' row) (hr : Aside w row) : OwnRows w' base v n ll := by
 obtain ⟨hl, vs, hvs, hel⟩ := h
 refine ⟨hl, vs, hvs.kept hg ?_, fun j hj => ?_⟩
 ·rcases hvs.2 with ⟨rfl, _⟩ | ⟨g, cap, cur, rfl, _, hgb, _⟩
  ·exact .inl rfl
  ·refine .inr fun e => ?_
   exact (hr g (by simpa [Value.ownBlock] using e.symm)).2 cur hgb
 ·obtain ⟨u, hu, he⟩ := hel j hj
  exact ⟨u, hu, he.kept hg (fun r e => (hr r e).1)⟩
theorem OwnRows.alloc {w : World} {base : Nat} {v : Value} {n : Nat} {ll : List (List Nat)} (h : OwnRows w base v n ll) (o : Obj) : OwnRows (w.alloc o) base v n ll := h.kept (World.grownBy_alloc w o none) (fun r e => by cases e)
theorem OwnRows.drewN {w : World} {base : Nat} {v : Value} {n : Nat} {ll : List (List Nat)} (h : OwnRows w base v n ll) (m : Nat) : OwnRows (w.drewN m) base v n ll := h
theorem OwnRows.below {w w' : World} {base : Nat} {v : Value} {n : Nat} {ll : List (List Nat)} (h : OwnRows w base v n ll) (hb : Below w.heap.size w w') : OwnRows w' base v n ll := by
 refine h.kept (row := none) ⟨hb.os, hb.tape, hb.output, hb.size, fun k hk _ => hb.block k hk⟩ (fun r e => by cases e)
theorem OwnRows.more {w w' : World} {base : Nat} {v v' u : Value} {n : Nat} {ll : List (List Nat)} {xs : List Nat} {vs : List Value} (hl : ll.length = n) (hvs : w.ownsRow base 22 1 v n vs)
  (hel : ∀ j, j < n → ∃ u, vs[j]? = some u ∧ Elem w u (ll.getD j [])) (he : Elem w u xs) (hown : w'.ownsRow base 22 1 v' (n + 1) (vs ++ [u])) (hg : w.grownBy w' v.ownBlock) : OwnRows w' base v' (n + 1) (ll ++ [xs]) := by
 have hnot : ∀ r, v.ownBlock = some r → ∀ cur, w.heap[r]? ≠ some (.cells cur 5 (0, 0)) := by
  intro r hr cur hc
  rcases hvs.2 with ⟨rfl, _⟩ | ⟨g, cap, cur', rfl, _, hgb, _⟩
  ·simp [Value.ownBlock] at hr
  ·simp [Value.ownBlock] at hr
   subst hr
   rw [hgb] at hc
   simp at hc
 have hvl : vs.length = n := by have := hvs.1; omega
 refine ⟨by simp [hl], _, hown, fun j hj => ?_⟩
 by_cases h : j < n
 ·obtain ⟨u', hu', he'⟩ := hel j h
  refine ⟨u', by rw [List.getElem?_append_left (by omega)]; exact hu', ?_⟩
  have : (ll ++ [xs]).getD j [] = ll.getD j [] := by simp only [List.getD_eq_getElem?_getD]; rw [List.getElem?_append_left (by omega)]
  rw [this]
  exact he'.kept hg hnot
 ·obtain rfl : j = n := by omega
  refine ⟨u, by rw [List.getElem?_append_right (by omega)]; simp [hvl], ?_⟩
  have : (ll ++ [xs]).getD j [] = xs := by simp only [List.getD_eq_getElem?_getD]; rw [List.getElem?_append_right (by omega)]; simp [hl]
  rw [this]
  exact he.kept hg hnot
def AtRows (w : World) (a : Option Addr) (n : Nat) (ll : List (List Nat)) : Prop :=
 ll.length = n ∧ n ≤ 9223372036854775807 ∧ (0 < n → ∃ b off, a = some ⟨b, off, none⟩ ∧ b < w.heap.size ∧ ∀ j, j < n → ∃ A len cap, w.cell? ⟨b, off + j, none⟩ = some (.slice A len cap) ∧ len ≤ 9223372036854775807 ∧ AtB w A len (ll.getD j []))
theorem AtRows.later {w w' : World} {a : Option Addr} {n : Nat} {ll : List (List Nat)} (h : AtRows w a n ll) (hb : Below w.heap.size w w') : AtRows w' a n ll := by
 obtain ⟨h1, h2, h3⟩ := h
 refine ⟨h1, h2, fun hp => ?_⟩
 obtain ⟨b, off, e, hlt, hc⟩ := h3 hp
 refine ⟨b, off, e, Nat.lt_of_lt_of_le hlt hb.size, fun j hj => ?_⟩
 obtain ⟨A, len, cap, hcell, hl, hat⟩ := hc j hj
 exact ⟨A, len, cap, (hb.cell (p := ⟨b, off + j, none⟩) hlt).trans hcell, hl, hat.below hb (Nat.le_refl _)⟩
theorem AtRows.nil (w : World) (a : Option Addr) : AtRows w a 0 [] := ⟨rfl, by omega, fun h => by omega⟩
theorem AtRows.drewN {w : World} {a : Option Addr} {n : Nat} {ll : List (List Nat)} (h : AtRows w a n ll) (m : Nat) : AtRows (w.drewN m) a n ll := h
theorem OwnRows.at_ {w : World} {base : Nat} {v : Value} {n : Nat} {ll : List (List Nat)} (h : OwnRows w base v n ll) (hn : n ≤ 9223372036854775807) : ∃ A cap, v = .slice A n cap ∧ n ≤ cap ∧ AtRows w A n ll := by
 obtain ⟨hl, vs, hvs, hel⟩ := h
 rcases hvs.2 with ⟨rfl, rfl⟩ | ⟨g, cap, cur, rfl, hb, hgb, hcap, _⟩
 ·exact ⟨none, 0, rfl, Nat.le_refl _, by obtain rfl : ll = [] := List.eq_nil_of_length_eq_zero hl; exact AtRows.nil _ _⟩
 ·refine ⟨_, cap, rfl, hcap, hl, hn, fun _ => ⟨g, 0, rfl, (Array.getElem?_eq_some_iff.1 hgb).1, fun j hj => ?_⟩⟩
  obtain ⟨u, hu, A, len, c, rfl, hat, _⟩ := hel j hj
  refine ⟨A, len, c, ?_, hat.2.2.1, hat⟩
  have := hvs.cells (g := g) rfl j _ hu
  rw [Addr.add_lit] at this
  exact this
def AtRowsC (w : World) (a : Option Addr) (n : Nat) (ll : List (List Nat)) : Prop :=
 ll.length = n ∧ (0 < n → ∃ b off, a = some ⟨b, off, none⟩ ∧ b < w.heap.size ∧ ∀ j, j < n → ∃ A len cap, w.cell? ⟨b, off + j, none⟩ = some (.slice A len cap) ∧ len ≤ cap ∧ AtB w A len (ll.getD j []))
theorem AtRowsC.later {w w' : World} {a : Option Addr} {n : Nat} {ll : List (List Nat)} (h : AtRowsC w a n ll) (hb : Below w.heap.size w w') : AtRowsC w' a n ll := by
 obtain ⟨h1, h3⟩ := h
 refine ⟨h1, fun hp => ?_⟩
 obtain ⟨b, off, e, hlt, hc⟩ := h3 hp
 refine ⟨b, off, e, Nat.lt_of_lt_of_le hlt hb.size, fun j hj => ?_⟩
 obtain ⟨A, len, cap, hcell, hl, hat⟩ := hc j hj
 exact ⟨A, len, cap, (hb.cell (p := ⟨b, off + j, none⟩) hlt).trans hcell, hl, hat.below hb (Nat.le_refl _)⟩
end Go.Proofs.YtibpfkcackdbgaaGreatDoor
namespace Go.Proofs.YtibpfkcackdbgaaGreatDoor
open Go.ChangeShapes Go.WideShapes Go.ChangeAt Go.RowKit
set_option linter.unusedVariables false
set_option maxRecDepth 100000
end Go.Proofs.YtibpfkcackdbgaaGreatDoor
namespace Go.Proofs.YtibpfkcackdbgaaGreatDoor
open Go.ChangeShapes Go.WideShapes Go.ChangeAt Go.RowKit Go.Shelf
set_option linter.unusedVariables false
set_option maxRecDepth 100000
structure Piece (w0 : World) where
 A : Addr
 len : Nat
 cap : Nat
 xs : List Nat
 lies : AtB w0 (some A) len xs
 small : len ≤ 65535
def Piece.enc {w0 : World} (x : Piece w0) : Array Value := #[.slice (some x.A) x.len x.cap]
def lenOf : Value → Nat | .slice _ n _ => n | _ => 0
def PieceRows {w0 : World} (pre : List (Piece w0)) : List (List Nat) := pre.map Piece.xs
structure Mid (w W : World) (pre : List (Piece w)) (v : Value) (w' : World) : Prop where
 others : KeepsOthers W w'
 below : Below w.heap.size W w'
 since : Below w.heap.size w w'
 box : Boxed w' w.heap.size 89 v
 rows : OwnRows w' w.heap.size v pre.length (PieceRows pre)
 sum : Boxed w' (w.heap.size + 1) 3 (.int .i64 ((usedN (PieceRows pre) : Nat) : Int))
theorem Mid.start {w W : World} {pre : List (Piece w)} {v : Value} (hB : Below w.heap.size w W) (hv : Boxed W w.heap.size 89 v) (hr : OwnRows W w.heap.size v pre.length (PieceRows pre)) (hu : Boxed W (w.heap.size + 1) 3 (.int .i64 ((usedN (PieceRows pre) : Nat) : Int))) : Mid w W pre v W.drew :=
 ⟨KeepsOthers.drew _, (Below.refl _ _).drew, hB.drew, hv, hr, hu⟩
theorem Mid.later {w W w1 w2 : World} {pre : List (Piece w)} {v : Value} (h : Mid w W pre v w1) (hb : Below w1.heap.size w1 w2) : Mid w W pre v w2 where
 others := h.others.trans ⟨hb.size, fun k o hk _ => (hb.block k (Array.getElem?_eq_some_iff.1 hk).1).trans hk⟩
 below := h.below.trans (hb.mono h.since.size)
 since := h.since.trans (hb.mono h.since.size)
 box := (hb.block _ h.box.lt).trans h.box
 rows := h.rows.below hb
 sum := (hb.block _ h.sum.lt).trans h.sum
theorem Mid.alloc {w W w1 : World} {pre : List (Piece w)} {v : Value} (h : Mid w W pre v w1) (o : Obj) : Mid w W pre v (w1.alloc o) := h.later ((Below.refl _ _).alloc (Nat.le_refl _) o)
theorem not_rows {W : World} {B t base n : Nat} {u v : Value} {ll : List (List Nat)} (h : Boxed W B t u) (ht : t ≠ 22) (hr : OwnRows W base v n ll) : some B ≠ v.ownBlock := by
 obtain ⟨_, vs, hvs, _⟩ := hr
 exact h.not_row ht hvs
structure Mid2 (w W : World) (pre : List (Piece w)) (v u : Value) (x : Piece w) (w' : World) : Prop where
 others : KeepsOthers W w'
 below : Below w.heap.size W w'
 since : Below w.heap.size w w'
 box : Boxed w' w.heap.size 89 v
 rows : OwnRows w' w.heap.size u (pre.length + 1) (PieceRows pre ++ [x.xs])
 sum : Boxed w' (w.heap.size + 1) 3 (.int .i64 ((usedN (PieceRows pre) : Nat) : Int))
theorem Mid.appended {w W w1 w2 : World} {pre : List (Piece w)} {v u : Value} {x : Piece w} (h : Mid w W pre v w1) (hown : OwnRows w2 w.heap.size u (pre.length + 1) (PieceRows pre ++ [x.xs])) (hg : w1.grownBy w2 v.ownBlock) : Mid2 w W pre v u x w2 := by
 have hrow := h.rows
 obtain ⟨_, vs, hvs, _⟩ := hrow
 have hb : Below w.heap.size w1 w2 := (Below.refl _ _).grown hg h.since.size (fun k hk => (hvs.lt k hk).1)
 refine ⟨h.others.trans (KeepsOthers.of_grownBy hg fun j o ej hj => ?_), h.below.trans hb, h.since.trans hb, h.box.kept hg (not_rows h.box (by decide) h.rows), hown, h.sum.kept hg (not_rows h.sum (by decide) h.rows)⟩
 rcases hvs.2 with ⟨rfl, _⟩ | ⟨g, cap, cur, rfl, _, hgb, _⟩
 ·simp [Value.ownBlock] at ej
 ·obtain rfl : g = j := by simpa [Value.ownBlock] using ej
  rw [hgb] at hj; cases hj; rfl
structure Mid3 (w W : World) (pre : List (Piece w)) (u : Value) (x : Piece w) (w' : World) : Prop where
 others : KeepsOthers W w'
 below : Below w.heap.size W w'
 since : Below w.heap.size w w'
 box : Boxed w' w.heap.size 89 u
 rows : OwnRows w' w.heap.size u (pre.length + 1) (PieceRows pre ++ [x.xs])
 sum : Boxed w' (w.heap.size + 1) 3 (.int .i64 ((usedN (PieceRows pre) : Nat) : Int))
theorem boxed_aside {W : World} {B t : Nat} {u : Value} (h : Boxed W B t u) (h5 : t ≠ 5) (h22 : t ≠ 22) : Aside W (some B) := by
 intro r e
 cases e
 exact ⟨fun cur hc => (by rw [show W.heap[B]? = _ from h] at hc; simp at hc; exact h5 hc.2), fun cur hc => (by rw [show W.heap[B]? = _ from h] at hc; simp at hc; exact h22 hc.2)⟩
theorem Mid2.stored {w W w1 : World} {pre : List (Piece w)} {v u : Value} {x : Piece w} (h : Mid2 w W pre v u x w1) : Mid3 w W pre u x (w1.setCell ⟨w.heap.size, 0, none⟩ u) where
 others := h.others.trans (KeepsOthers.setCell _ _ _)
 below := h.below.setCell (p := ⟨w.heap.size, 0, none⟩) (Nat.le_refl _) _
 since := h.since.setCell (p := ⟨w.heap.size, 0, none⟩) (Nat.le_refl _) _
 box := h.box.set u
 rows := h.rows.kept (grownBy_setCell' w1 _ u) (boxed_aside h.box (by decide) (by decide))
 sum := h.sum.kept (grownBy_setCell' w1 _ u) (by simp)
end Go.Proofs.YtibpfkcackdbgaaGreatDoor
namespace Go.Proofs.YtibpfkcackdbgaaGreatDoor
open Go.ChangeShapes Go.WideShapes Go.ChangeAt Go.RowKit
set_option linter.unusedVariables false
set_option maxRecDepth 100000
def EqUpto (f s : List Nat) (t k : Nat) : Prop := ∀ q, 2 ≤ q → q < k → f.getD q 0 = s.getD (t + q) 0
theorem EqUpto.next {f s : List Nat} {t k : Nat} (h : EqUpto f s t k) (e : f.getD k 0 = s.getD (t + k) 0) : EqUpto f s t (k + 1) := fun q h2 hq => by
 rcases Nat.lt_or_ge q k with h' | h'
 ·exact h q h2 h'
 ·obtain rfl : q = k := by omega
  exact e
end Go.Proofs.YtibpfkcackdbgaaGreatDoor
