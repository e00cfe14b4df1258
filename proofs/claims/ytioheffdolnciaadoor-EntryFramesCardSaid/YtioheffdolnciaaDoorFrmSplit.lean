/-
  The contracts of the iterator of frames (bodies, its closure) and of Split, of layer 4.
-/
import Derived.RangeFuncNested
import Derived.RangeFuncBound
import Derived.RangeFuncCalls
import Derived.RangeFuncLeaves
import Derived.RangeFuncBox
import Derived.Shelf.Abstract
import Derived.Shelf.RegionOpen
import Derived.WalkKit
import Derived.OwnWalkIn
import Derived.TacticsInMore
import Derived.LoopNIn
import Derived.LoopIn
import Derived.Maps.AppendAt
import Derived.Test.YtioheffdolnciaaDoorFrmCalls
import Derived.Test.YtioheffdolnciaaDoorSlRows
namespace Go.Proofs.YtioheffdolnciaaDoor
open Go.ChangeShapes Go.WideShapes Go.ChangeAt Go.RowKit Go.Shelf
set_option linter.unusedVariables false
attribute [local go_sem] Oper.semAt_some

theorem grown_drewN (w : World) (n : Nat) (row : Option Nat) : w.grownBy (w.drewN n) row := ⟨rfl, rfl, rfl, Nat.le_refl _, fun _ _ _ => rfl⟩
/-- Bytes of a frame, as they lie in the text. -/
structure Piece (w0 : World) where
  A : Addr
  len : Nat
  cap : Nat
  xs : List Nat
  lies : AtB w0 (some A) len xs
  small : len ≤ 65535
def Piece.enc {w0 : World} (x : Piece w0) : Array Value := #[.slice (some x.A) x.len x.cap]

def lenOf : Value → Nat | .slice _ n _ => n | _ => 0

/-- bodies(s): the slice value is boxed; the function value captures the box. -/
theorem bodies_in (n : Nat) (A : Option Addr) (len cap : Nat) (w : World) :
    CallsIn Fence.wide n Tryd.prog 18 #[.slice A len cap] w fun e w' => e = .returned (.func (.func 26) #[] #[.pointer (some ⟨w.heap.size, 0, none⟩)]) ∧ w' = w.alloc (.cells #[.slice A len cap] 24) := by
  refine callsIn_of_wp Tryd.func18 rfl trivial ?_ rfl
  simp only [Tryd.ntmps18, List.size_toArray, List.length_cons, List.length_nil, Nat.reduceAdd, Nat.reduceSub, Array.replicate_succ, Array.replicate_zero, List.push_toArray, List.append_toArray, List.nil_append, List.cons_append]
  gi_wp2
  go_ret
  exact ⟨rfl, rfl⟩

def BodiesPost {w0 : World} (xs : List Nat) (J Jx : List (Piece w0) → World → Prop) (e : Ending) (W' : World) : Prop :=
  (∃ v, e = .returned v) ∧ ((∃ ys, ys.map Piece.xs = splitN xs ∧ J ys W') ∨ (∃ pre, True ∧ Jx pre W'))
/-- What holds between two rounds. -/
def BodRel {w0 : World} (xs : List Nat) (J : List (Piece w0) → World → Prop) (p : Value) (wr : World) : Prop :=
  ∃ (pre : List (Piece w0)) (A : Option Addr) (len cap : Nat) (rest : List Nat), p = .slice A len cap ∧ splitN xs = pre.map Piece.xs ++ splitN rest ∧ AtB w0 A len rest ∧ len ≤ cap ∧ J pre wr ∧ Below w0.heap.size w0 wr

set_option maxRecDepth 100000 in
set_option maxHeartbeats 2000000 in
theorem bodies1_in (w0 : World) (n : Nat) (hn : 2 ≤ n) (hT : Hid (Tab w0)) (l Bn : Nat) (A : Option Addr) (len cap : Nat) (xs : List Nat) (hA : Hid (AtB w0 A len xs)) (hl : len ≤ cap) (J Jx : List (Piece w0) → World → Prop)
    (hJ : Hid (∀ pre W m, J pre W → J pre (W.drewN m)))
    (hY : Hid (∀ pre x W, J pre W → pre.length < (splitN xs).length → YieldAt Fence.wide (n - 1) Tryd.prog l (Piece.enc x) W fun e W' =>
      (e = .returned (.bool true) ∧ J (pre ++ [x]) W' ∧ Below w0.heap.size W W') ∨ (e = .returned (.bool false) ∧ Jx (pre ++ [x]) W')))
    (W : World) (hB : Hid (Below w0.heap.size w0 W)) (hBn : W.cell? ⟨Bn, 0, none⟩ = some (.slice A len cap)) (h0 : Hid (J [] W)) :
    CallsIn Fence.wide n Tryd.prog 26 #[.func (.yield l) #[] #[], .pointer (some ⟨Bn, 0, none⟩)] W (BodiesPost xs J Jx) := by
  refine callsIn_of_wp Tryd.func26 rfl trivial ?_ rfl
  simp only [Tryd.ntmps26, List.size_toArray, List.length_cons, List.length_nil, Nat.reduceAdd, Nat.reduceSub, Array.replicate_succ, Array.replicate_zero, List.push_toArray, List.append_toArray, List.nil_append, List.cons_append]
  gi_wp2
  gi_loopw [3] (fun p wr => BodRel xs J p wr) (fun p _ => lenOf p)
  case atStart => exact ⟨[], A, len, cap, xs, rfl, rfl, hA.out, hl, h0.out, hB.out⟩
  case round =>
    obtain ⟨pre, A1, len1, cap1, rest, rfl, hx, hA1, hl1, hJ1, hB1⟩ := hrel
    have HX := Lib.hid hx
    have HA1 := Lib.hid hA1
    have HJ1 := Lib.hid hJ1
    have HB1 := Lib.hid hB1
    have HT1 : Hid (Tab wr) := Lib.hid (hT.out.below hB1 hT.out.pos)
    have HAr : Hid (AtB wr A1 len1 rest) := Lib.hid (hA1.below hB1 (Nat.le_refl _))
    clear hx hA1 hJ1 hB1 h0 hB hBn hT
    by_cases hs : Stands rest
    · have h6 := hs.1
      have h1 := hs.2.1
      have h2 := hs.2.2.1
      have hlen := HA1.out.1
      have hbig := HA1.out.2.2.1
      have hcl := cnt_lt HA1.out.2.1
      have hatb : AtB w0 (bodyA A1 cap1) (cntN rest) (bodyN rest) := by
        have := (HA1.out.cutA hl1 6 len1 (by omega) (Nat.le_refl _)).cutA (cap := cap1 - 6) (by omega) 0 (cntN rest) (by omega) (by omega)
        rw [List.drop_zero, Nat.sub_zero, List.take_take, Nat.min_eq_left (by omega)] at this
        exact this
      obtain ⟨bb, ob, hba, hzz⟩ := hatb.2.2.2 (by omega)
      clear hzz
      have hrest := HA1.out.cutA hl1 (6 + cntN rest) len1 (by omega) (Nat.le_refl _)
      rw [List.take_of_length_le (by rw [List.length_drop]; omega)] at hrest
      have HC := Lib.hid (callsIn_wide (n := n - 1).2 (first_yes A1 len1 cap1 rest hl1 wr HT1 HAr hs))
      have HE := Lib.hid (split_yes hs)
      have R : ∀ W, (Instr.slice 24 (.slice A1 len1 cap1) (some (.int .i64 (6 + (cntN rest : Int)))) none none).run Tryd.prog W = .ok (.slice (cutA A1 cap1 (6 + cntN rest)) (len1 - (6 + cntN rest)) (cap1 - (6 + cntN rest))) W := fun W => by
        have := run_cut_l A1 len1 cap1 (6 + cntN rest) (by omega) W
        rwa [show ((6 + cntN rest : Nat) : Int) = 6 + (cntN rest : Int) by omega] at this
      have hRest := Lib.hid hrest
      have hAtb := Lib.hid hatb
      have HN : Hid (pre.length < (splitN xs).length) := Lib.hid (by rw [HX.out, HE.out]; simp)
      clear hs hatb hrest
      rw [hba] at HC hAtb
      obtain ⟨x, hxe, hxx⟩ : ∃ x : Piece w0, x.enc = #[.slice (some ⟨bb, ob, none⟩) (cntN rest) (cap1 - 6)] ∧ x.xs = bodyN rest := ⟨⟨⟨bb, ob, none⟩, cntN rest, cap1 - 6, bodyN rest, hAtb.out, by omega⟩, rfl, rfl⟩
      have HXX := Lib.hid hxx
      have HXE := Lib.hid hxe
      clear hxx hxe hba
      have hk12 : len1 - (6 + cntN rest) ≤ cap1 - (6 + cntN rest) := by omega
      have hk1l : len1 - (6 + cntN rest) < len1 := by omega
      generalize hcg : cntN rest = c at *
      clear hcg hlen
      generalize len1 - (6 + c) = k1 at *
      generalize cap1 - (6 + c) = k2 at *
      generalize cutA A1 cap1 (6 + c) = D at *
      gi_wp2_with fail
      refine ⟨trivial, fun _ => by omega, HC.out.mono ?_⟩
      rintro e w' ⟨rfl, m, rfl⟩
      obtain ⟨fn, tmps, assign, body, hy, hR⟩ := hY.out pre x (wr.drewN m) (hJ.out _ _ _ HJ1.out) HN.out
      rw [HXE.out] at hy
      gi_wp2_with fail
      refine ⟨fun _ => by omega, hR.mono ?_⟩
      rintro e W3 (⟨rfl, hJ3, hk3⟩ | ⟨rfl, hJx3⟩)
      · have HJ3 := Lib.hid hJ3
        have HK3 := Lib.hid hk3
        clear hJ3 hk3 hy hR
        gi_wp2_with fail
        go_roundw
        case rel => exact ⟨pre ++ [x], D, k1, k2, rest.drop (6 + c), rfl, by rw [HX.out, HE.out, List.map_append, List.append_assoc]; simp [HXX.out], hRest.out, hk12, HJ3.out, (below_quiet HB1.out m).trans HK3.out⟩
        case measure => exact hk1l
      · have HJx3 := Lib.hid hJx3
        clear hJx3 hy hR
        gi_wp2_with fail
        refine bodyPost_ret (results_none rfl _ _ _) rfl ?_
        exact ⟨⟨_, rfl⟩, .inr ⟨pre ++ [x], trivial, HJx3.out⟩⟩
    · have HC : Hid (CallsIn Fence.wide (n - 1) Tryd.prog 27 #[.slice A1 len1 cap1] wr (FirstPost wr (.slice none 0 0) false)) := Lib.hid (callsIn_wide.2 (first_no A1 len1 cap1 rest hl1 wr HT1 HAr hs))
      have HE : Hid (splitN rest = []) := Lib.hid (split_no hs)
      clear hs
      gi_wp2_with fail
      refine ⟨trivial, fun _ => by omega, HC.out.mono ?_⟩
      rintro e w' ⟨rfl, m, rfl⟩
      gi_wp2_with fail
      refine ⟨fun _ h => (by cases h), ?_⟩
      gi_wp2_with fail
      refine bodyPost_ret (results_none rfl _ _ _) rfl ?_
      exact ⟨⟨_, rfl⟩, .inl ⟨pre, by rw [HX.out, HE.out, List.append_nil], hJ.out _ _ _ HJ1.out⟩⟩

theorem bodies_stops (w0 : World) (n : Nat) (hn : 2 ≤ n) (hT : Hid (Tab w0)) (Bn : Nat) (A : Option Addr) (len cap : Nat) (xs : List Nat) (hA : Hid (AtB w0 A len xs)) (hl : len ≤ cap) (w : World) (hw : Below w0.heap.size w0 w) (hBn : Bn < w.heap.size)
    (hc : w.cell? ⟨Bn, 0, none⟩ = some (.slice A len cap)) :
    SeqStopsK Fence.wide n Tryd.prog 26 #[.pointer (some ⟨Bn, 0, none⟩)] (Piece.enc (w0 := w0)) (Below w0.heap.size) (fun ys => ys.map Piece.xs = splitN xs) (fun _ => True) (splitN xs).length w := fun l J Jx W hW hJ hJx hY h0 =>
  bodies1_in w0 n hn hT l Bn A len cap xs hA hl J Jx (Lib.hid fun pre W m h => hJ pre W _ none h (grown_drewN W m none) (fun r e => by cases e)) (Lib.hid hY) W (Lib.hid (hw.trans (hW.mono hw.size))) ((hW.cell (p := ⟨Bn, 0, none⟩) hBn).trans hc) (Lib.hid h0)

def PieceRows {w0 : World} (pre : List (Piece w0)) : List (List Nat) := pre.map Piece.xs
theorem used_small {w0 : World} (pre : List (Piece w0)) : usedN (PieceRows pre) ≤ 65541 * pre.length := by
  induction pre with
  | nil => exact Nat.le_refl _
  | cons x pre ih =>
    have h1 := x.lies.1
    have h2 := x.small
    show usedN (x.xs :: PieceRows pre) ≤ _
    rw [used_cons, List.length_cons]; omega
theorem rows_snoc {w0 : World} (pre : List (Piece w0)) (x : Piece w0) : PieceRows (pre ++ [x]) = PieceRows pre ++ [x.xs] := by simp [PieceRows]
/-- What holds between two rounds of Split's loop: of its two variables, and of all that lay. -/
def SplitI (w : World) (pre : List (Piece w)) (W : World) : Prop :=
  ((∃ v, Boxed W w.heap.size 33 v ∧ OwnRows W w.heap.size v pre.length (PieceRows pre)) ∧ Boxed W (w.heap.size + 1) 3 (.int .i64 ((usedN (PieceRows pre) : Nat) : Int))) ∧ Below w.heap.size w W
theorem splitI_own (w : World) (B : Nat) (hB : w.heap.size ≤ B) : OwnFrom B (SplitI w) := by
  refine OwnFrom.and (Own.from ?_ _) (ownFrom_below (Nat.le_refl _) hB)
  rintro pre X Y row ⟨⟨v, hv, hr⟩, hu⟩ hg hrow
  have hk : ∀ (b : Nat) (t : TypeId) (u : Value), Boxed X b t u → some b ≠ row := fun b t u h e => by
    obtain ⟨o, ho, hc⟩ := hrow b e.symm
    rw [show X.heap[b]? = _ from h] at ho; cases ho; cases hc
  refine ⟨⟨v, hv.kept hg (hk _ _ _ hv), hr.kept hg fun r e => ?_⟩, hu.kept hg (hk _ _ _ hu)⟩
  obtain ⟨o, ho, hc⟩ := hrow r e
  exact ⟨fun cur h => (by rw [h] at ho; cases ho; cases hc), fun cur h => (by rw [h] at ho; cases ho; cases hc)⟩
def SplitPost (w : World) (xs : List Nat) (e : Ending) (w' : World) : Prop :=
  ∃ v, e = .returned (.tuple #[v, .int .i64 ((usedN (splitN xs) : Nat) : Int)]) ∧ OwnRows w' w.heap.size v (splitN xs).length (splitN xs) ∧ Below w.heap.size w w'

/-- What the round still holds of the world where it began, on its way. -/
structure Mid (w W : World) (pre : List (Piece w)) (v : Value) (w' : World) : Prop where
  others : KeepsOthers W w'
  below : Below w.heap.size W w'
  since : Below w.heap.size w w'
  box : Boxed w' w.heap.size 33 v
  rows : OwnRows w' w.heap.size v pre.length (PieceRows pre)
  sum : Boxed w' (w.heap.size + 1) 3 (.int .i64 ((usedN (PieceRows pre) : Nat) : Int))
theorem Mid.start {w W : World} {pre : List (Piece w)} {v : Value} (hB : Below w.heap.size w W) (hv : Boxed W w.heap.size 33 v) (hr : OwnRows W w.heap.size v pre.length (PieceRows pre)) (hu : Boxed W (w.heap.size + 1) 3 (.int .i64 ((usedN (PieceRows pre) : Nat) : Int))) : Mid w W pre v W.drew :=
  ⟨KeepsOthers.drew _, (Below.refl _ _).drew, hB.drew, hv, hr, hu⟩
theorem Mid.later {w W w1 w2 : World} {pre : List (Piece w)} {v : Value} (h : Mid w W pre v w1) (hb : Below w1.heap.size w1 w2) : Mid w W pre v w2 where
  others := h.others.trans ⟨hb.size, fun k o hk _ => (hb.block k (Array.getElem?_eq_some_iff.1 hk).1).trans hk⟩
  below := h.below.trans (hb.mono h.since.size)
  since := h.since.trans (hb.mono h.since.size)
  box := (hb.block _ h.box.lt).trans h.box
  rows := h.rows.below hb
  sum := (hb.block _ h.sum.lt).trans h.sum
theorem Mid.alloc {w W w1 : World} {pre : List (Piece w)} {v : Value} (h : Mid w W pre v w1) (o : Obj) : Mid w W pre v (w1.alloc o) := h.later ((Below.refl _ _).alloc (Nat.le_refl _) o)
theorem not_rows {W : World} {B t base n : Nat} {u v : Value} {ll : List (List Nat)} (h : Boxed W B t u) (ht : t ≠ 24) (hr : OwnRows W base v n ll) : some B ≠ v.ownBlock := by
  obtain ⟨_, vs, hvs, _⟩ := hr
  exact h.not_row ht hvs
/-- Behind the append. -/
structure Mid2 (w W : World) (pre : List (Piece w)) (v u : Value) (x : Piece w) (w' : World) : Prop where
  others : KeepsOthers W w'
  below : Below w.heap.size W w'
  since : Below w.heap.size w w'
  box : Boxed w' w.heap.size 33 v
  rows : OwnRows w' w.heap.size u (pre.length + 1) (PieceRows pre ++ [x.xs])
  sum : Boxed w' (w.heap.size + 1) 3 (.int .i64 ((usedN (PieceRows pre) : Nat) : Int))
theorem Mid.appended {w W w1 w2 : World} {pre : List (Piece w)} {v u : Value} {x : Piece w} (h : Mid w W pre v w1) (hown : OwnRows w2 w.heap.size u (pre.length + 1) (PieceRows pre ++ [x.xs])) (hg : w1.grownBy w2 v.ownBlock) : Mid2 w W pre v u x w2 := by
  have hrow := h.rows
  obtain ⟨_, vs, hvs, _⟩ := hrow
  have hb : Below w.heap.size w1 w2 := (Below.refl _ _).grown hg h.since.size (fun k hk => (hvs.lt k hk).1)
  refine ⟨h.others.trans (KeepsOthers.of_grownBy hg fun j o ej hj => ?_), h.below.trans hb, h.since.trans hb, h.box.kept hg (not_rows h.box (by decide) h.rows), hown, h.sum.kept hg (not_rows h.sum (by decide) h.rows)⟩
  rcases hvs.2 with ⟨rfl, _⟩ | ⟨g, cap, cur, rfl, _, hgb, _⟩
  · simp [Value.ownBlock] at ej
  · obtain rfl : g = j := by simpa [Value.ownBlock] using ej
    rw [hgb] at hj; cases hj; rfl
/-- Behind the store of the longer row. -/
structure Mid3 (w W : World) (pre : List (Piece w)) (u : Value) (x : Piece w) (w' : World) : Prop where
  others : KeepsOthers W w'
  below : Below w.heap.size W w'
  since : Below w.heap.size w w'
  box : Boxed w' w.heap.size 33 u
  rows : OwnRows w' w.heap.size u (pre.length + 1) (PieceRows pre ++ [x.xs])
  sum : Boxed w' (w.heap.size + 1) 3 (.int .i64 ((usedN (PieceRows pre) : Nat) : Int))
theorem boxed_aside {W : World} {B t : Nat} {u : Value} (h : Boxed W B t u) (h5 : t ≠ 5) (h22 : t ≠ 24) : Aside W (some B) := by
  intro r e
  cases e
  exact ⟨fun cur hc => (by rw [show W.heap[B]? = _ from h] at hc; simp at hc; exact h5 hc.2), fun cur hc => (by rw [show W.heap[B]? = _ from h] at hc; simp at hc; exact h22 hc.2)⟩
theorem Mid2.stored {w W w1 : World} {pre : List (Piece w)} {v u : Value} {x : Piece w} (h : Mid2 w W pre v u x w1) : Mid3 w W pre u x (w1.setCell ⟨w.heap.size, 0, none⟩ u) where
  others := h.others.trans (KeepsOthers.setCell _ _ _)
  below := h.below.setCell (p := ⟨w.heap.size, 0, none⟩) (Nat.le_refl _) _
  since := h.since.setCell (p := ⟨w.heap.size, 0, none⟩) (Nat.le_refl _) _
  box := h.box.set u
  rows := h.rows.kept (grownBy_setCell' w1 _ u) (boxed_aside h.box (by decide) (by decide))
  sum := h.sum.kept (grownBy_setCell' w1 _ u) (by simp)
theorem Mid3.end_ {w W w1 : World} {pre : List (Piece w)} {u : Value} {x : Piece w} (h : Mid3 w W pre u x w1) (n : Int) (hn : n = ((usedN (PieceRows pre) : Nat) : Int) + (6 + (x.len : Int))) :
    KeepsOthers W (w1.setCell ⟨w.heap.size + 1, 0, none⟩ (.int .i64 n)) ∧ Below w.heap.size W (w1.setCell ⟨w.heap.size + 1, 0, none⟩ (.int .i64 n)) ∧ SplitI w (pre ++ [x]) (w1.setCell ⟨w.heap.size + 1, 0, none⟩ (.int .i64 n)) := by
  have e : usedN (PieceRows (pre ++ [x])) = usedN (PieceRows pre) + (6 + x.len) := by rw [rows_snoc, used_snoc, x.lies.1]
  refine ⟨h.others.trans (KeepsOthers.setCell _ _ _), h.below.setCell (p := ⟨w.heap.size + 1, 0, none⟩) (by simp) _, ⟨⟨u, h.box.kept (grownBy_setCell' w1 _ _) (by simp), ?_⟩, ?_⟩, h.since.setCell (p := ⟨w.heap.size + 1, 0, none⟩) (by simp) _⟩
  · rw [rows_snoc, List.length_append]
    exact h.rows.kept (grownBy_setCell' w1 _ _) (boxed_aside h.sum (by decide) (by decide))
  · rw [e]
    have := h.sum.set (.int .i64 n)
    rwa [hn, show ((usedN (PieceRows pre) : Nat) : Int) + (6 + (x.len : Int)) = ((usedN (PieceRows pre) + (6 + x.len) : Nat) : Int) by omega] at this ⊢

set_option maxRecDepth 100000 in
set_option maxHeartbeats 2000000 in
theorem split_in (A : Option Addr) (len cap : Nat) (xs : List Nat) (hl : len ≤ cap) (hb : len ≤ 999999999999) (w : World) (hT : Hid (Tab w)) (hA : Hid (AtB w A len xs)) :
    CallsIn Fence.wide 5 Tryd.prog 8 #[.slice A len cap] w (SplitPost w xs) := by
  have hcount : Hid ((splitN xs).length ≤ 999999999999) := Lib.hid (by have := count_le hA.out.2.1; have := hA.out.1; omega)
  refine callsIn_of_wp_marks Tryd.func8 rfl trivial ?_ rfl
  simp only [Tryd.ntmps8, List.size_toArray, List.length_cons, List.length_nil, Nat.reduceAdd, Nat.reduceSub, Array.replicate_succ, Array.replicate_zero, List.push_toArray, List.append_toArray, List.nil_append, List.cons_append]
  gi_wp2_with (refine ⟨trivial, ?_⟩; gi_at_call 18; refine (bodies_in _ _ _ _ _).mono ?_; rintro e w' ⟨rfl, rfl⟩)
  have hB0 : Below w.heap.size w (((w.alloc (.cells #[.slice none 0 0] 33)).alloc (.cells #[.int .i64 0] 3)).alloc (.cells #[.slice A len cap] 24)) := (((Below.refl _ w).alloc (Nat.le_refl _) _).alloc (by simp) _).alloc (by simp; omega) _
  have b0 := ((Boxed.new w 33 (.slice none 0 0)).alloc (.cells #[.int .i64 0] 3)).alloc (.cells #[.slice A len cap] 24)
  have b1 := (Boxed.new (w.alloc (.cells #[.slice none 0 0] 33)) 3 (.int .i64 0)).alloc (.cells #[.slice A len cap] 24)
  have b2 := Boxed.new ((w.alloc (.cells #[.slice none 0 0] 33)).alloc (.cells #[.int .i64 0] 3)) 24 (.slice A len cap)
  have hsz : (((w.alloc (.cells #[.slice none 0 0] 33)).alloc (.cells #[.int .i64 0] 3)).alloc (.cells #[.slice A len cap] 24)).heap.size = w.heap.size + 3 := by simp
  simp only [World.size_alloc] at b1 b2
  generalize ((w.alloc (.cells #[.slice none 0 0] 33)).alloc (.cells #[.int .i64 0] 3)).alloc (.cells #[.slice A len cap] 24) = W0 at *
  refine wpIn_rangeFunc_ownF rfl (by omega) (gf := 26) (lb := #[.pointer (some ⟨w.heap.size + 1 + 1, 0, none⟩)]) rfl trivial (enters_of Tryd.func26 (by kernel_rfl) rfl)
    (bodies_stops w (5 - 1) (by omega) hT (w.heap.size + 1 + 1) A len cap xs hA hl W0 hB0 (by omega) b2.cell) belowK_t (belowK_b (by omega)) (Below.refl _ _) (fun _ => rfl)
    (SplitI w) (fun _ _ _ => False) (splitI_own w _ (by omega)) (fun _ _ _ _ _ hs _ _ => hs) ⟨⟨⟨_, b0, OwnRows.nil _ _⟩, b1⟩, hB0⟩
    (fun x => { tmps := #[.slice A len cap, undef, .slice none 0 0, .int .i64 0, .pointer (some ⟨w.heap.size, 0, none⟩), .pointer (some ⟨w.heap.size + 1, 0, none⟩), .slice (some x.A) x.len x.cap, .slice A len cap, .func (.func 26) #[] #[.pointer (some ⟨w.heap.size + 1 + 1, 0, none⟩)], .slice (some x.A) x.len x.cap, undef, undef, undef, undef, undef, undef, undef, undef, undef, undef, undef, undef], defers := [] }) ?assign ?body ?done ?stop
  case assign =>
    intro l x W K hK
    simp only [Piece.enc]
    gi_wp2
    exact hK
  case body =>
    rintro l pre x W ⟨⟨⟨v, hv, hr⟩, hu⟩, hB⟩ hlt
    have hmx : Tryd.prog.follows .mixedOrders = true := by kernel_rfl
    have hN := hcount.out
    have HN : Hid (usedN (PieceRows pre) ≤ 65541 * pre.length) := Lib.hid (used_small pre)
    have HA := Lib.hid (x.lies.below hB (Nat.le_refl _))
    have HS := Lib.hid x.small
    have HM := Lib.hid (Mid.start hB hv hr hu)
    clear hv hr hu hB hB0 b0 b1 b2 hsz hl hA hT hb
    gi_wp2_with fail
    refine wpIn_region_any hmx ?_
    change wpAnyIn _ _ _ _ _ _ _ _ _ (World.drew _)
    replace HA : Hid (AtB W.drew (some x.A) x.len x.xs) := HA
    generalize W.drew = w1 at *
    have hc0 := HM.out.box.cell
    refine wpAnyIn_ready (rs := [0, 1]) (by kernel_rfl) (by simp) ?_
    refine AllReadyIn.cons rfl (fun K hK => ?_) ?_
    · skip
      go_simp
      refine hK _ _ ?_; clear hK K
      refine wpAnyIn_ready (rs := [1]) (by kernel_rfl) (by simp) ?_
      refine AllReadyIn.cons rfl (fun K hK => ?_) ?_
      · skip
        go_simp
        refine hK _ _ ?_; clear hK K
        refine wpAnyIn_ready (rs := [2]) (by kernel_rfl) (by simp) ?_
        refine AllReadyIn.cons rfl (fun K hK => ?_) ?_
        · skip
          go_simp
          refine ⟨trivial, (CallsIn.inRound l (callsIn_wide.2 (clone_at x.A x.len x.cap x.xs _ HA (by have := HS.out; omega)))).mono ?_⟩
          rintro e w2 ⟨u, rfl, hO, hB2⟩
          have hE := hO.elem (by have := HS.out; omega)
          obtain ⟨A2, n2, c2, rfl, hat2, hbl2⟩ := hE
          have HE := Lib.hid (show Elem w2 (.slice A2 n2 c2) x.xs from ⟨A2, n2, c2, rfl, hat2, hbl2⟩)
          replace HM := Lib.hid (HM.out.later hB2)
          replace hc0 := HM.out.box.cell
          clear hO hB2 hat2 hbl2
          gi_wp2_with fail
          refine wpAnyIn_ready (rs := [3]) (by kernel_rfl) (by simp) ?_
          refine AllReadyIn.cons rfl (fun K hK => ?_) ?_
          · skip
            go_simp
            refine hK _ _ ?_; clear hK K
            replace HM := Lib.hid (HM.out.alloc (.cells #[.slice A2 n2 c2] 24))
            replace HE := Lib.hid (HE.out.kept (World.grownBy_alloc w2 (.cells #[.slice A2 n2 c2] 24) none) (fun r e => by cases e))
            have HX := Lib.hid (Boxed.new w2 24 (.slice A2 n2 c2)).cell
            replace hc0 := HM.out.box.cell
            generalize w2.alloc (.cells #[.slice A2 n2 c2] 24) = w3 at *
            generalize w2.heap.size = H at *
            refine wpAnyIn_ready (rs := [4]) (by kernel_rfl) (by simp) ?_
            refine AllReadyIn.cons rfl (fun K hK => ?_) ?_
            · skip
              refine stepIn_append_row (by rfl) (.tmp 10) (.tmp 13) (by rfl) w.heap.size v pre.length (PieceRows pre) (by rfl) HM.out.rows ⟨H, 0, none⟩ 1 (.slice A2 n2 c2) x.xs (by rfl) HX.out HE.out (by omega) HM.out.since.size ?_
              intro g cp w4 hown hgrow
              have HM2 := Lib.hid (HM.out.appended hown hgrow)
              have c4 := HM2.out.box.cell
              have f4 := HM2.out.box.frozen
              clear hown hgrow HM HE HX hc0
              refine hK _ _ ?_; clear hK K
              refine wpAnyIn_ready (rs := [5]) (by kernel_rfl) (by simp) ?_
              refine AllReadyIn.cons rfl (fun K hK => ?_) ?_
              · skip
                go_simp
                refine hK _ _ ?_; clear hK K
                have HM3 := Lib.hid HM2.out.stored
                clear HM2 c4 f4
                generalize w4.setCell ⟨w.heap.size, 0, none⟩ (.slice (some ⟨g, 0, none⟩) (pre.length + 1) cp) = w5 at *
                refine wpAnyIn_done (by kernel_rfl) ?_ _
                have c5 := HM3.out.sum.cell
                have f5 := HM3.out.sum.frozen
                have hu := HN.out
                have hs := HS.out
                generalize hq : usedN (PieceRows pre) = q at *
                gi_wp2_with fail
                exact HM3.out.end_ _ (by rw [hq])
              exact AllReadyIn.nil
            exact AllReadyIn.nil
          exact AllReadyIn.nil
        exact AllReadyIn.nil
      exact AllReadyIn.nil
    refine AllReadyIn.cons rfl (fun K hK => ?_) ?_
    · skip
      go_simp
      refine hK _ _ ?_; clear hK K
      refine wpAnyIn_ready (rs := [0, 2]) (by kernel_rfl) (by simp) ?_
      refine AllReadyIn.cons rfl (fun K hK => ?_) ?_
      · skip
        go_simp
        refine hK _ _ ?_; clear hK K
        refine wpAnyIn_ready (rs := [2]) (by kernel_rfl) (by simp) ?_
        refine AllReadyIn.cons rfl (fun K hK => ?_) ?_
        · skip
          go_simp
          refine ⟨trivial, (CallsIn.inRound l (callsIn_wide.2 (clone_at x.A x.len x.cap x.xs _ HA (by have := HS.out; omega)))).mono ?_⟩
          rintro e w2 ⟨u, rfl, hO, hB2⟩
          have hE := hO.elem (by have := HS.out; omega)
          obtain ⟨A2, n2, c2, rfl, hat2, hbl2⟩ := hE
          have HE := Lib.hid (show Elem w2 (.slice A2 n2 c2) x.xs from ⟨A2, n2, c2, rfl, hat2, hbl2⟩)
          replace HM := Lib.hid (HM.out.later hB2)
          replace hc0 := HM.out.box.cell
          clear hO hB2 hat2 hbl2
          gi_wp2_with fail
          refine wpAnyIn_ready (rs := [3]) (by kernel_rfl) (by simp) ?_
          refine AllReadyIn.cons rfl (fun K hK => ?_) ?_
          · skip
            go_simp
            refine hK _ _ ?_; clear hK K
            replace HM := Lib.hid (HM.out.alloc (.cells #[.slice A2 n2 c2] 24))
            replace HE := Lib.hid (HE.out.kept (World.grownBy_alloc w2 (.cells #[.slice A2 n2 c2] 24) none) (fun r e => by cases e))
            have HX := Lib.hid (Boxed.new w2 24 (.slice A2 n2 c2)).cell
            replace hc0 := HM.out.box.cell
            generalize w2.alloc (.cells #[.slice A2 n2 c2] 24) = w3 at *
            generalize w2.heap.size = H at *
            refine wpAnyIn_ready (rs := [4]) (by kernel_rfl) (by simp) ?_
            refine AllReadyIn.cons rfl (fun K hK => ?_) ?_
            · skip
              refine stepIn_append_row (by rfl) (.tmp 10) (.tmp 13) (by rfl) w.heap.size v pre.length (PieceRows pre) (by rfl) HM.out.rows ⟨H, 0, none⟩ 1 (.slice A2 n2 c2) x.xs (by rfl) HX.out HE.out (by omega) HM.out.since.size ?_
              intro g cp w4 hown hgrow
              have HM2 := Lib.hid (HM.out.appended hown hgrow)
              have c4 := HM2.out.box.cell
              have f4 := HM2.out.box.frozen
              clear hown hgrow HM HE HX hc0
              refine hK _ _ ?_; clear hK K
              refine wpAnyIn_ready (rs := [5]) (by kernel_rfl) (by simp) ?_
              refine AllReadyIn.cons rfl (fun K hK => ?_) ?_
              · skip
                go_simp
                refine hK _ _ ?_; clear hK K
                have HM3 := Lib.hid HM2.out.stored
                clear HM2 c4 f4
                generalize w4.setCell ⟨w.heap.size, 0, none⟩ (.slice (some ⟨g, 0, none⟩) (pre.length + 1) cp) = w5 at *
                refine wpAnyIn_done (by kernel_rfl) ?_ _
                have c5 := HM3.out.sum.cell
                have f5 := HM3.out.sum.frozen
                have hu := HN.out
                have hs := HS.out
                generalize hq : usedN (PieceRows pre) = q at *
                gi_wp2_with fail
                exact HM3.out.end_ _ (by rw [hq])
              exact AllReadyIn.nil
            exact AllReadyIn.nil
          exact AllReadyIn.nil
        exact AllReadyIn.nil
      refine AllReadyIn.cons rfl (fun K hK => ?_) ?_
      · skip
        go_simp
        refine ⟨trivial, (CallsIn.inRound l (callsIn_wide.2 (clone_at x.A x.len x.cap x.xs _ HA (by have := HS.out; omega)))).mono ?_⟩
        rintro e w2 ⟨u, rfl, hO, hB2⟩
        have hE := hO.elem (by have := HS.out; omega)
        obtain ⟨A2, n2, c2, rfl, hat2, hbl2⟩ := hE
        have HE := Lib.hid (show Elem w2 (.slice A2 n2 c2) x.xs from ⟨A2, n2, c2, rfl, hat2, hbl2⟩)
        replace HM := Lib.hid (HM.out.later hB2)
        replace hc0 := HM.out.box.cell
        clear hO hB2 hat2 hbl2
        gi_wp2_with fail
        refine wpAnyIn_ready (rs := [0, 3]) (by kernel_rfl) (by simp) ?_
        refine AllReadyIn.cons rfl (fun K hK => ?_) ?_
        · skip
          go_simp
          refine hK _ _ ?_; clear hK K
          refine wpAnyIn_ready (rs := [3]) (by kernel_rfl) (by simp) ?_
          refine AllReadyIn.cons rfl (fun K hK => ?_) ?_
          · skip
            go_simp
            refine hK _ _ ?_; clear hK K
            replace HM := Lib.hid (HM.out.alloc (.cells #[.slice A2 n2 c2] 24))
            replace HE := Lib.hid (HE.out.kept (World.grownBy_alloc w2 (.cells #[.slice A2 n2 c2] 24) none) (fun r e => by cases e))
            have HX := Lib.hid (Boxed.new w2 24 (.slice A2 n2 c2)).cell
            replace hc0 := HM.out.box.cell
            generalize w2.alloc (.cells #[.slice A2 n2 c2] 24) = w3 at *
            generalize w2.heap.size = H at *
            refine wpAnyIn_ready (rs := [4]) (by kernel_rfl) (by simp) ?_
            refine AllReadyIn.cons rfl (fun K hK => ?_) ?_
            · skip
              refine stepIn_append_row (by rfl) (.tmp 10) (.tmp 13) (by rfl) w.heap.size v pre.length (PieceRows pre) (by rfl) HM.out.rows ⟨H, 0, none⟩ 1 (.slice A2 n2 c2) x.xs (by rfl) HX.out HE.out (by omega) HM.out.since.size ?_
              intro g cp w4 hown hgrow
              have HM2 := Lib.hid (HM.out.appended hown hgrow)
              have c4 := HM2.out.box.cell
              have f4 := HM2.out.box.frozen
              clear hown hgrow HM HE HX hc0
              refine hK _ _ ?_; clear hK K
              refine wpAnyIn_ready (rs := [5]) (by kernel_rfl) (by simp) ?_
              refine AllReadyIn.cons rfl (fun K hK => ?_) ?_
              · skip
                go_simp
                refine hK _ _ ?_; clear hK K
                have HM3 := Lib.hid HM2.out.stored
                clear HM2 c4 f4
                generalize w4.setCell ⟨w.heap.size, 0, none⟩ (.slice (some ⟨g, 0, none⟩) (pre.length + 1) cp) = w5 at *
                refine wpAnyIn_done (by kernel_rfl) ?_ _
                have c5 := HM3.out.sum.cell
                have f5 := HM3.out.sum.frozen
                have hu := HN.out
                have hs := HS.out
                generalize hq : usedN (PieceRows pre) = q at *
                gi_wp2_with fail
                exact HM3.out.end_ _ (by rw [hq])
              exact AllReadyIn.nil
            exact AllReadyIn.nil
          exact AllReadyIn.nil
        refine AllReadyIn.cons rfl (fun K hK => ?_) ?_
        · skip
          go_simp
          refine hK _ _ ?_; clear hK K
          replace HM := Lib.hid (HM.out.alloc (.cells #[.slice A2 n2 c2] 24))
          replace HE := Lib.hid (HE.out.kept (World.grownBy_alloc w2 (.cells #[.slice A2 n2 c2] 24) none) (fun r e => by cases e))
          have HX := Lib.hid (Boxed.new w2 24 (.slice A2 n2 c2)).cell
          replace hc0 := HM.out.box.cell
          generalize w2.alloc (.cells #[.slice A2 n2 c2] 24) = w3 at *
          generalize w2.heap.size = H at *
          refine wpAnyIn_ready (rs := [0]) (by kernel_rfl) (by simp) ?_
          refine AllReadyIn.cons rfl (fun K hK => ?_) ?_
          · skip
            go_simp
            refine hK _ _ ?_; clear hK K
            refine wpAnyIn_ready (rs := [4]) (by kernel_rfl) (by simp) ?_
            refine AllReadyIn.cons rfl (fun K hK => ?_) ?_
            · skip
              refine stepIn_append_row (by rfl) (.tmp 10) (.tmp 13) (by rfl) w.heap.size v pre.length (PieceRows pre) (by rfl) HM.out.rows ⟨H, 0, none⟩ 1 (.slice A2 n2 c2) x.xs (by rfl) HX.out HE.out (by omega) HM.out.since.size ?_
              intro g cp w4 hown hgrow
              have HM2 := Lib.hid (HM.out.appended hown hgrow)
              have c4 := HM2.out.box.cell
              have f4 := HM2.out.box.frozen
              clear hown hgrow HM HE HX hc0
              refine hK _ _ ?_; clear hK K
              refine wpAnyIn_ready (rs := [5]) (by kernel_rfl) (by simp) ?_
              refine AllReadyIn.cons rfl (fun K hK => ?_) ?_
              · skip
                go_simp
                refine hK _ _ ?_; clear hK K
                have HM3 := Lib.hid HM2.out.stored
                clear HM2 c4 f4
                generalize w4.setCell ⟨w.heap.size, 0, none⟩ (.slice (some ⟨g, 0, none⟩) (pre.length + 1) cp) = w5 at *
                refine wpAnyIn_done (by kernel_rfl) ?_ _
                have c5 := HM3.out.sum.cell
                have f5 := HM3.out.sum.frozen
                have hu := HN.out
                have hs := HS.out
                generalize hq : usedN (PieceRows pre) = q at *
                gi_wp2_with fail
                exact HM3.out.end_ _ (by rw [hq])
              exact AllReadyIn.nil
            exact AllReadyIn.nil
          exact AllReadyIn.nil
        exact AllReadyIn.nil
      exact AllReadyIn.nil
    exact AllReadyIn.nil
  case done =>
    rintro D ys W hD hys ⟨⟨⟨v, hv, hr⟩, hu⟩, hB⟩ hK
    have hc := hv.cell
    have hd := hu.cell
    have HE : Hid (PieceRows ys = splitN xs) := Lib.hid hys
    have HN : Hid (ys.length = (splitN xs).length) := Lib.hid (by rw [← hys, List.length_map])
    clear hys
    gi_wp2
    gi_region
    all_goals gi_wp2
    have hK' : W.drew.heap[D]? = some (.deferred (some [])) := hK
    refine ⟨by simp, .inl ⟨_, _, rfl, run_takeDeferred hK', ?_⟩⟩
    refine ⟨_, results_tmp2 rfl _ _ _, v, by rw [HE.out]; rfl, ?_, hB.drew.trans (belowK_b (w := w) (Nat.le_refl _) W.drew D _ _ (by omega) hK' rfl rfl)⟩
    rw [← HN.out, ← HE.out]
    have hr' : OwnRows W.drew w.heap.size v ys.length (PieceRows ys) := hr
    exact hr'.kept (grownBy_putObj' W.drew D _) (fun r e => by cases e; exact ⟨fun cur h => (by rw [hK'] at h; cases h), fun cur h => (by rw [hK'] at h; cases h)⟩)
  case stop =>
    rintro D c pre W _ _ h _
    exact h.elim

theorem split_at (A : Option Addr) (len cap : Nat) (xs : List Nat) (hl : len ≤ cap) (hb : len ≤ 999999999999) (w : World) (hT : Hid (Tab w)) (hA : Hid (AtB w A len xs)) :
    Calls Tryd.prog 8 #[.slice A len cap] w (SplitPost w xs) := callsIn_wide.1 (split_in A len cap xs hl hb w hT hA)
theorem split_own (v : Value) (base n : Nat) (xs : List Nat) (w : World) (hT : Hid (Tab w)) (h : Own w base v n xs) (hb : n ≤ 999999999999) : Calls Tryd.prog 8 #[v] w (SplitPost w xs) := by
  obtain ⟨A, cap, rfl, hc, hat⟩ := h.at_ (by omega)
  exact split_at A n cap xs hc hb w hT (Lib.hid hat)
end Go.Proofs.YtioheffdolnciaaDoor
