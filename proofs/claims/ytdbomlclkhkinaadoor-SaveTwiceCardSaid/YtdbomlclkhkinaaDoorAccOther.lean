/-
  The contracts of access.Right, and of the document's own Right, Small, Same (of two worlds that read alike), Told (of two results that read alike) and New.
-/
import Derived.Test.YtdbomlclkhkinaaDoorAccDo
import Derived.Test.YtdbomlclkhkinaaDoorCllA
import Derived.Test.YtdbomlclkhkinaaDoorBase
namespace Go.Proofs.YtdbomlclkhkinaaDoor
open Go.ChangeShapes Go.WideShapes Go.ChangeAt Go.RowKit
set_option linter.unusedVariables false
set_option maxRecDepth 100000

/-- Is a world right? -/
def rightW (t c : Int) (n : Nat) (l0 l1 : List Stm) : Bool := rightM t c n && (rightD l0 l1 && (((l0.length : Nat) : Int) == t))
section
variable (t c : Int) (A : Option Addr) (n k : Nat) (r : Nat) (R : Option Addr) (m0 ra : Nat) (S : Option Addr) (m1 sa : Nat) (l0 l1 : List Stm)
/-- Is a world right, and small, and a thread one of it? -/
def smallB (t c : Int) (n : Nat) (l0 l1 : List Stm) (me : Int) : Bool := fewD l0 l1 && (rightW t c n l0 l1 && (decide (n ≤ 600) && (decide (0 ≤ me) && decide (me < t))))
end
/-- Two worlds that read alike. -/
theorem sameW_at (t c : Int) (A B : Option Addr) (n ka kb : Nat) (G : Nat → Nat) (hn : n ≤ 140737488355328) (r : Nat) (R : Option Addr) (m0 ra : Nat) (S : Option Addr) (m1 sa : Nat) (R' : Option Addr) (ra' : Nat) (S' : Option Addr) (sa' : Nat) (l0 l1 : List Stm) (w : World)
    (hA : Hid (AtW w A n G)) (hB : Hid (AtW w B n G)) (h0 : Hid (StmsAt w R m0 l0)) (h1 : Hid (StmsAt w S m1 l1)) (h0' : Hid (StmsAt w R' m0 l0)) (h1' : Hid (StmsAt w S' m1 l1)) :
    Calls Tryd.prog 26 #[.agg #[.int .i64 t, .int .i64 c, .slice A n ka, .int .u64 (r : Int), .slice R m0 ra, .slice S m1 sa], .agg #[.int .i64 t, .int .i64 c, .slice B n kb, .int .u64 (r : Int), .slice R' m0 ra', .slice S' m1 sa']] w (Kept w (.bool true)) := by
  have K0 : Hid (Kp w [(1, [.int .i64 t, .int .i64 c, .slice B n kb, .int .u64 (r : Int), .slice R' m0 ra', .slice S' m1 sa']), (0, [.int .i64 t, .int .i64 c, .slice A n ka, .int .u64 (r : Int), .slice R m0 ra, .slice S m1 sa])] [] ((w.alloc (.cells #[.int .i64 t, .int .i64 c, .slice A n ka, .int .u64 (r : Int), .slice R m0 ra, .slice S m1 sa] 33)).alloc (.cells #[.int .i64 t, .int .i64 c, .slice B n kb, .int .u64 (r : Int), .slice R' m0 ra', .slice S' m1 sa'] 33))) :=
    Lib.hid (((Kp.nil w).var 0 rfl #[.int .i64 t, .int .i64 c, .slice A n ka, .int .u64 (r : Int), .slice R m0 ra, .slice S m1 sa] 33).var 1 (by simp) #[.int .i64 t, .int .i64 c, .slice B n kb, .int .u64 (r : Int), .slice R' m0 ra', .slice S' m1 sa'] 33)
  go_enter Tryd.func26, Tryd.ntmps26
  go_wp2_with fail
  refine (refSame_yes t c A B n ka kb G hn _ (Lib.hid (hA.out.later K0.out.bel)) (Lib.hid (hB.out.later K0.out.bel))).mono ?_
  rintro e w2 ⟨rfl, hb⟩
  have K2 := Lib.hid (K0.out.later hb)
  clear hb
  obtain ⟨_, ⟨c0, c1, c2, c3, c4, c5⟩, _⟩ := (K2.out.at_ (o := 0) (.tail _ (.head _))).six
  obtain ⟨_, ⟨d0, d1, d2, d3, d4, d5⟩, _⟩ := (K2.out.at_ (o := 1) (.head _)).six
  rw [Nat.add_zero] at c0 c1 c2 c3 c4 c5
  go_wp2_with fail
  refine (sameD_at (r : Int) R m0 ra S m1 sa R' ra' S' sa' l0 l1 _ (Lib.hid (h0.out.later K2.out.bel)) (Lib.hid (h1.out.later K2.out.bel)) (Lib.hid (h0'.out.later K2.out.bel)) (Lib.hid (h1'.out.later K2.out.bel))).mono ?_
  rintro e w3 ⟨rfl, hb⟩
  have K3 := Lib.hid (K2.out.later hb)
  clear hb
  go_wp2_with fail
  go_ret
  exact ⟨rfl, K3.out.bel⟩
/-- A new world. -/
def NewWd (w : World) (t c sz : Nat) (nf : Nat → Nat) (e : Ending) (w' : World) : Prop :=
  ∃ A k R ra S sa, e = .returned (.agg #[.int .i64 (t : Int), .int .i64 (c : Int), .slice A sz k, .int .u64 0, .slice R t ra, .slice S t sa]) ∧ AtW w' A sz nf ∧ StmsAt w' R t (zerosS t) ∧ StmsAt w' S t (zerosS t) ∧ Below w.heap.size w w' ∧
    ∀ P : Nat → Prop, (∀ b, w.heap.size ≤ b → P b) → OffW P A sz ∧ OffS P w' R t ∧ OffS P w' S t
set_option maxHeartbeats 2000000 in
theorem newWd_at (t c : Nat) (h1 : 1 ≤ t) (h2 : t ≤ 64) (h3 : c ≤ 65536) (w : World) : Calls Tryd.prog 8 #[.int .i64 (t : Int), .int .i64 (c : Int)] w (NewWd w t c (sizeN t c) (newF t c)) := by
  have HN := fun w => refNew_yes t c h1 h2 h3 w
  have HD := fun w => refNewD_yes t h1 h2 w
  go_enter Tryd.func8, Tryd.ntmps8
  go_wp2_with fail
  refine (HN _).mono ?_
  rintro e w2 ⟨g, rfl, hg, hrow, hb⟩
  obtain ⟨x2, hx2⟩ : ∃ x, w2.alloc (.cells #[.int .i64 (t : Int), .int .i64 (c : Int), .slice (some ⟨g, 0, none⟩) (sizeN t c) (sizeN t c)] 27) = x := ⟨_, rfl⟩
  have R0 : Hid (Room (w.alloc (.cells #[.int .i64 0, .int .i64 0, .slice none 0 0, .int .u64 0, .slice none 0 0, .slice none 0 0] 33)) w.heap.size 6) := Lib.hid (Room.made w _ _ 6 (by simp))
  have hz0 : (w.alloc (.cells #[.int .i64 0, .int .i64 0, .slice none 0 0, .int .u64 0, .slice none 0 0, .slice none 0 0] 33)).heap.size = w.heap.size + 1 := by simp
  have R2 : Hid (Room x2 w.heap.size 6) := Lib.hid (by rw [← hx2]; exact (R0.out.below hb).below (al_below _ _))
  have V2 : Hid (VarAt x2 w2.heap.size [.int .i64 (t : Int), .int .i64 (c : Int), .slice (some ⟨g, 0, none⟩) (sizeN t c) (sizeN t c)]) := Lib.hid (by rw [← hx2]; exact VarAt.made w2 _ _)
  have W2 : Hid (RowW x2 g (sizeN t c) (newF t c)) := Lib.hid (by rw [← hx2]; exact hrow.later (al_below _ _))
  have HG : Hid (w.heap.size + 1 ≤ g) := Lib.hid (by omega)
  have HZ2 : Hid (w.heap.size + 1 ≤ w2.heap.size) := Lib.hid (by have := hb.size; omega)
  have HZ2' : Hid (w2.heap.size ≤ x2.heap.size) := Lib.hid (by rw [← hx2]; simp)
  have HB2 : Hid (Below w.heap.size w x2) := Lib.hid (by rw [← hx2]; exact below_al ((al_below w _).trans (hb.mono (by simp))))
  clear hb hrow hg R0 HN hz0
  generalize sizeN t c = sz at *
  generalize newF t c = nf at *
  go_wp2_with fail
  refine (HD _).mono ?_
  rintro e w3 ⟨R', ra, S', sa, rfl, hs0, hs1, hb, hP⟩
  obtain ⟨x3, hx3⟩ : ∃ x, w3.alloc (.cells #[.int .u64 0, .slice R' t ra, .slice S' t sa] 31) = x := ⟨_, rfl⟩
  have hb3 : Below x2.heap.size x2 x3 := by rw [← hx3]; exact below_al hb
  have R3 := Lib.hid (R2.out.below hb3)
  have V3 := Lib.hid (V2.out.below hb3)
  have W3 := Lib.hid (W2.out.later hb3)
  have U3 : Hid (VarAt x3 w3.heap.size [.int .u64 0, .slice R' t ra, .slice S' t sa]) := Lib.hid (by rw [← hx3]; exact VarAt.made w3 _ _)
  have S3 : Hid (StmsAt x3 R' t (zerosS t)) := Lib.hid (by rw [← hx3]; exact hs0.later (al_below _ _))
  have T3 : Hid (StmsAt x3 S' t (zerosS t)) := Lib.hid (by rw [← hx3]; exact hs1.later (al_below _ _))
  have HB3 := Lib.hid (HB2.out.trans (hb3.mono HB2.out.size))
  have HP3 : Hid (∀ P : Nat → Prop, (∀ b, x2.heap.size ≤ b → P b) → OffS P x3 R' t ∧ OffS P x3 S' t) := Lib.hid (fun P hF => by
    have h := hP P hF (OffS.nowhere _ _ _) (OffS.nowhere _ _ _)
    rw [← hx3]
    exact ⟨h.1.later hs0 (al_below _ _), h.2.later hs1 (al_below _ _)⟩)
  have HZ3 : Hid (x2.heap.size ≤ w3.heap.size) := Lib.hid hb.size
  clear hs0 hs1 hb hP hb3
  obtain ⟨_, m0, m1, m2, _⟩ := V3.out.three
  obtain ⟨_, d0, d1, d2, _⟩ := U3.out.three
  obtain ⟨_, hr⟩ := R3.out
  obtain ⟨p0, q0⟩ := hr 0 (by decide)
  obtain ⟨p1, q1⟩ := hr 1 (by decide)
  obtain ⟨p2, q2⟩ := hr 2 (by decide)
  obtain ⟨p3, q3⟩ := hr 3 (by decide)
  obtain ⟨p4, q4⟩ := hr 4 (by decide)
  obtain ⟨p5, q5⟩ := hr 5 (by decide)
  obtain ⟨b0, p0⟩ := Option.isSome_iff_exists.1 p0
  obtain ⟨b1, p1⟩ := Option.isSome_iff_exists.1 p1
  obtain ⟨b2, p2⟩ := Option.isSome_iff_exists.1 p2
  obtain ⟨b3, p3⟩ := Option.isSome_iff_exists.1 p3
  obtain ⟨b4, p4⟩ := Option.isSome_iff_exists.1 p4
  obtain ⟨b5, p5⟩ := Option.isSome_iff_exists.1 p5
  rw [Nat.zero_add] at p0 p1 p2 p3 p4 p5 q0 q1 q2 q3 q4 q5
  clear hr
  have HB := HB3.out
  go_wp2_with fail
  obtain ⟨o0, o1⟩ := HP3.out (Out w.heap.size 1) (fun b hb => .inr (by have := HZ2.out; have := HZ2'.out; omega))
  exact bodyPost_ret (v := .agg #[.int .i64 (t : Int), .int .i64 (c : Int), .slice (some ⟨g, 0, none⟩) sz sz, .int .u64 0, .slice R' t ra, .slice S' t sa]) (by simp [results, Tryd.results8, go_sem, p0, p1, p2, p3, p4, p5]) rfl
    ⟨some ⟨g, 0, none⟩, sz, R', ra, S', sa, rfl, W3.out.at_.alike (N := w.heap.size) (k := 1) (by repeat (first | with_reducible exact Alike.refl _ _ _ | with_reducible refine Alike.drew ?_ | (with_reducible refine Alike.set ?_ _ _ _ (by omega) (by omega)))) (OffW.one _ (.inr HG.out)),
      S3.out.alike (N := w.heap.size) (k := 1) (by repeat (first | with_reducible exact Alike.refl _ _ _ | with_reducible refine Alike.drew ?_ | (with_reducible refine Alike.set ?_ _ _ _ (by omega) (by omega)))) o0,
      T3.out.alike (N := w.heap.size) (k := 1) (by repeat (first | with_reducible exact Alike.refl _ _ _ | with_reducible refine Alike.drew ?_ | (with_reducible refine Alike.set ?_ _ _ _ (by omega) (by omega)))) o1,
      (by repeat (first | with_reducible assumption | with_reducible refine Below.drew ?_ | (with_reducible refine below_set1 (by omega) _ ?_))),
      fun P hF => ⟨OffW.one _ (hF g (by have := HG.out; omega)), ((HP3.out P (fun b hb => hF b (by have := HZ2.out; have := HZ2'.out; omega))).1).alike (N := w.heap.size) (k := 1) (by repeat (first | with_reducible exact Alike.refl _ _ _ | with_reducible refine Alike.drew ?_ | (with_reducible refine Alike.set ?_ _ _ _ (by omega) (by omega)))) o0,
        ((HP3.out P (fun b hb => hF b (by have := HZ2.out; have := HZ2'.out; omega))).2).alike (N := w.heap.size) (k := 1) (by repeat (first | with_reducible exact Alike.refl _ _ _ | with_reducible refine Alike.drew ?_ | (with_reducible refine Alike.set ?_ _ _ _ (by omega) (by omega)))) o1⟩⟩
end Go.Proofs.YtdbomlclkhkinaaDoor
