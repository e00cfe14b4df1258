/-
  AccessTells: which worlds are right, what an access tells, and the world behind it, are as the document says; for every world of 600 words, 8 streams a row, 4000 bytes, every access of 500 bytes and 600 words. No condition beyond the statement's own.
-/
import Derived.Test.YtieepdpelkpfkaaAccShown
import Derived.Test.YtieepdpelkpfkaaAccLeaf
import Derived.Test.YtieepdpelkpfkaaAfter
import Derived.Test.YtieepdpelkpfkaaLaw
import Derived.Test.YtieepdpelkpfkaaFields
import Derived.Deep.Cut
namespace Go.Proofs.Ytieepdpelkpfkaa.accessTells
open Go.ChangeShapes Go.WideShapes Go.ChangeAt Go.RowKit Go.Deep Go.BigFrame
set_option linter.unusedVariables false
theorem own : ownKnob Try.prog.godebug = none := by kernel_rfl

set_option maxRecDepth 100000 in
set_option maxHeartbeats 8000000 in
theorem walkA (t c : Int) (A : Option Addr) (n k : Nat) (F : Nat → Nat) (r : Nat) (R : Option Addr) (m0 ra : Nat) (S : Option Addr) (m1 sa : Nat) (l0 l1 : List Stm) (me ki i : Int) (a b : Nat) (D : Option Addr) (dn dc : Nat) (ys : List Nat) (W : Option Addr) (wn wc : Nat) (ws : Nat → Nat) (fa : Bool) (g1 : decide ((600 : Int) < (n : Int)) = true) (w : World) (hP0 : Hid (ParmAt w A n F R m0 S m1 l0 l1 D dn ys W wn ws)) :
    Calls Try.prog 3 #[.agg #[.int .i64 t, .int .i64 c, .slice A n k, .int .u64 (r : Int), .slice R m0 ra, .slice S m1 sa, .int .i64 me, .int .i64 ki, .int .i64 i, .int .u64 (a : Int), .int .u64 (b : Int), .slice D dn dc, .slice W wn wc, .bool fa]] w fun e w' => e = .returned (.bool true) ∧ Below w.heap.size w w' := by
  have K : Hid (Kp w [(2, [.int .i64 ki, .int .i64 i, .int .u64 (a : Int), .int .u64 (b : Int), .slice D dn dc, .slice W wn wc]), (1, [.int .i64 t, .int .i64 c, .slice A n k, .int .u64 (r : Int), .slice R m0 ra, .slice S m1 sa])] [] (((w.alloc (.cells #[.int .i64 t, .int .i64 c, .slice A n k, .int .u64 (r : Int), .slice R m0 ra, .slice S m1 sa, .int .i64 me, .int .i64 ki, .int .i64 i, .int .u64 (a : Int), .int .u64 (b : Int), .slice D dn dc, .slice W wn wc, .bool fa] 36)).alloc (.cells #[.int .i64 t, .int .i64 c, .slice A n k, .int .u64 (r : Int), .slice R m0 ra, .slice S m1 sa] 31)).alloc (.cells #[.int .i64 ki, .int .i64 i, .int .u64 (a : Int), .int .u64 (b : Int), .slice D dn dc, .slice W wn wc] 34))) :=
    Lib.hid ((((Kp.nil w).alloc (.cells #[.int .i64 t, .int .i64 c, .slice A n k, .int .u64 (r : Int), .slice R m0 ra, .slice S m1 sa, .int .i64 me, .int .i64 ki, .int .i64 i, .int .u64 (a : Int), .int .u64 (b : Int), .slice D dn dc, .slice W wn wc, .bool fa] 36)).var 1 (by simp) #[.int .i64 t, .int .i64 c, .slice A n k, .int .u64 (r : Int), .slice R m0 ra, .slice S m1 sa] 31).var 2 (by simp) #[.int .i64 ki, .int .i64 i, .int .u64 (a : Int), .int .u64 (b : Int), .slice D dn dc, .slice W wn wc] 34)
  have PA := Lib.hid (hP0.out.later K.out.bel)
  go_enter Try.func3, Try.ntmps3
  go_wp2_with fail
  (with_reducible refine (shown_any _).mono ?_)
  rintro e w1 ⟨rfl, hb⟩
  have Kn := Lib.hid (K.out.later hb); clear K; have K := Kn; clear Kn
  have PAn := Lib.hid (PA.out.later hb); clear PA; have PA := PAn; clear PAn
  clear hb
  obtain ⟨_, ⟨c0, c1, c2, c3, c4, c5⟩, _⟩ := (K.out.at_ (o := 1) (.tail _ (.head _))).six
  obtain ⟨_, ⟨a0, a1, a2, a3, a4, a5⟩, _⟩ := (K.out.at_ (o := 2) (.head _)).six
  go_wp2_with fail
  go_ret
  exact ⟨rfl, K.out.bel⟩

set_option maxRecDepth 100000 in
set_option maxHeartbeats 8000000 in
theorem walkB (t c : Int) (A : Option Addr) (n k : Nat) (F : Nat → Nat) (r : Nat) (R : Option Addr) (m0 ra : Nat) (S : Option Addr) (m1 sa : Nat) (l0 l1 : List Stm) (me ki i : Int) (a b : Nat) (D : Option Addr) (dn dc : Nat) (ys : List Nat) (W : Option Addr) (wn wc : Nat) (ws : Nat → Nat) (fa : Bool) (g1 : decide ((600 : Int) < (n : Int)) = false) (hf : fewD l0 l1 = false) (w : World) (hP0 : Hid (ParmAt w A n F R m0 S m1 l0 l1 D dn ys W wn ws)) :
    Calls Try.prog 3 #[.agg #[.int .i64 t, .int .i64 c, .slice A n k, .int .u64 (r : Int), .slice R m0 ra, .slice S m1 sa, .int .i64 me, .int .i64 ki, .int .i64 i, .int .u64 (a : Int), .int .u64 (b : Int), .slice D dn dc, .slice W wn wc, .bool fa]] w fun e w' => e = .returned (.bool true) ∧ Below w.heap.size w w' := by
  have HFEW := fun w h h' => few_at (r : Int) R m0 ra S m1 sa l0 l1 w h h'
  rw [hf] at HFEW
  have K : Hid (Kp w [(2, [.int .i64 ki, .int .i64 i, .int .u64 (a : Int), .int .u64 (b : Int), .slice D dn dc, .slice W wn wc]), (1, [.int .i64 t, .int .i64 c, .slice A n k, .int .u64 (r : Int), .slice R m0 ra, .slice S m1 sa])] [] (((w.alloc (.cells #[.int .i64 t, .int .i64 c, .slice A n k, .int .u64 (r : Int), .slice R m0 ra, .slice S m1 sa, .int .i64 me, .int .i64 ki, .int .i64 i, .int .u64 (a : Int), .int .u64 (b : Int), .slice D dn dc, .slice W wn wc, .bool fa] 36)).alloc (.cells #[.int .i64 t, .int .i64 c, .slice A n k, .int .u64 (r : Int), .slice R m0 ra, .slice S m1 sa] 31)).alloc (.cells #[.int .i64 ki, .int .i64 i, .int .u64 (a : Int), .int .u64 (b : Int), .slice D dn dc, .slice W wn wc] 34))) :=
    Lib.hid ((((Kp.nil w).alloc (.cells #[.int .i64 t, .int .i64 c, .slice A n k, .int .u64 (r : Int), .slice R m0 ra, .slice S m1 sa, .int .i64 me, .int .i64 ki, .int .i64 i, .int .u64 (a : Int), .int .u64 (b : Int), .slice D dn dc, .slice W wn wc, .bool fa] 36)).var 1 (by simp) #[.int .i64 t, .int .i64 c, .slice A n k, .int .u64 (r : Int), .slice R m0 ra, .slice S m1 sa] 31).var 2 (by simp) #[.int .i64 ki, .int .i64 i, .int .u64 (a : Int), .int .u64 (b : Int), .slice D dn dc, .slice W wn wc] 34)
  have PA := Lib.hid (hP0.out.later K.out.bel)
  go_enter Try.func3, Try.ntmps3
  go_wp2_with fail
  (with_reducible refine (shown_any _).mono ?_)
  rintro e w1 ⟨rfl, hb⟩
  have Kn := Lib.hid (K.out.later hb); clear K; have K := Kn; clear Kn
  have PAn := Lib.hid (PA.out.later hb); clear PA; have PA := PAn; clear PAn
  clear hb
  obtain ⟨_, ⟨c0, c1, c2, c3, c4, c5⟩, _⟩ := (K.out.at_ (o := 1) (.tail _ (.head _))).six
  obtain ⟨_, ⟨a0, a1, a2, a3, a4, a5⟩, _⟩ := (K.out.at_ (o := 2) (.head _)).six
  go_wp2_with fail
  (with_reducible refine (HFEW _ PA.out.g0 PA.out.g1).mono ?_)
  rintro e w2 ⟨rfl, hb⟩
  have Kn := Lib.hid (K.out.later hb); clear K; have K := Kn; clear Kn
  have PAn := Lib.hid (PA.out.later hb); clear PA; have PA := PAn; clear PAn
  clear c0 c1 c2 c3 c4 c5 a0 a1 a2 a3 a4 a5
  clear hb
  obtain ⟨_, ⟨c0, c1, c2, c3, c4, c5⟩, _⟩ := (K.out.at_ (o := 1) (.tail _ (.head _))).six
  obtain ⟨_, ⟨a0, a1, a2, a3, a4, a5⟩, _⟩ := (K.out.at_ (o := 2) (.head _)).six
  go_wp2_with fail
  go_ret
  exact ⟨rfl, K.out.bel⟩

set_option maxRecDepth 100000 in
set_option maxHeartbeats 8000000 in
theorem walkC (t c : Int) (A : Option Addr) (n k : Nat) (F : Nat → Nat) (r : Nat) (R : Option Addr) (m0 ra : Nat) (S : Option Addr) (m1 sa : Nat) (l0 l1 : List Stm) (me ki i : Int) (a b : Nat) (D : Option Addr) (dn dc : Nat) (ys : List Nat) (W : Option Addr) (wn wc : Nat) (ws : Nat → Nat) (fa : Bool) (g1 : decide ((600 : Int) < (n : Int)) = false) (hf : fewD l0 l1 = true) (g2 : decide ((500 : Int) < (dn : Int)) = true) (w : World) (hP0 : Hid (ParmAt w A n F R m0 S m1 l0 l1 D dn ys W wn ws)) :
    Calls Try.prog 3 #[.agg #[.int .i64 t, .int .i64 c, .slice A n k, .int .u64 (r : Int), .slice R m0 ra, .slice S m1 sa, .int .i64 me, .int .i64 ki, .int .i64 i, .int .u64 (a : Int), .int .u64 (b : Int), .slice D dn dc, .slice W wn wc, .bool fa]] w fun e w' => e = .returned (.bool true) ∧ Below w.heap.size w w' := by
  have HFEW := fun w h h' => few_at (r : Int) R m0 ra S m1 sa l0 l1 w h h'
  rw [hf] at HFEW
  have K : Hid (Kp w [(2, [.int .i64 ki, .int .i64 i, .int .u64 (a : Int), .int .u64 (b : Int), .slice D dn dc, .slice W wn wc]), (1, [.int .i64 t, .int .i64 c, .slice A n k, .int .u64 (r : Int), .slice R m0 ra, .slice S m1 sa])] [] (((w.alloc (.cells #[.int .i64 t, .int .i64 c, .slice A n k, .int .u64 (r : Int), .slice R m0 ra, .slice S m1 sa, .int .i64 me, .int .i64 ki, .int .i64 i, .int .u64 (a : Int), .int .u64 (b : Int), .slice D dn dc, .slice W wn wc, .bool fa] 36)).alloc (.cells #[.int .i64 t, .int .i64 c, .slice A n k, .int .u64 (r : Int), .slice R m0 ra, .slice S m1 sa] 31)).alloc (.cells #[.int .i64 ki, .int .i64 i, .int .u64 (a : Int), .int .u64 (b : Int), .slice D dn dc, .slice W wn wc] 34))) :=
    Lib.hid ((((Kp.nil w).alloc (.cells #[.int .i64 t, .int .i64 c, .slice A n k, .int .u64 (r : Int), .slice R m0 ra, .slice S m1 sa, .int .i64 me, .int .i64 ki, .int .i64 i, .int .u64 (a : Int), .int .u64 (b : Int), .slice D dn dc, .slice W wn wc, .bool fa] 36)).var 1 (by simp) #[.int .i64 t, .int .i64 c, .slice A n k, .int .u64 (r : Int), .slice R m0 ra, .slice S m1 sa] 31).var 2 (by simp) #[.int .i64 ki, .int .i64 i, .int .u64 (a : Int), .int .u64 (b : Int), .slice D dn dc, .slice W wn wc] 34)
  have PA := Lib.hid (hP0.out.later K.out.bel)
  go_enter Try.func3, Try.ntmps3
  go_wp2_with fail
  (with_reducible refine (shown_any _).mono ?_)
  rintro e w1 ⟨rfl, hb⟩
  have Kn := Lib.hid (K.out.later hb); clear K; have K := Kn; clear Kn
  have PAn := Lib.hid (PA.out.later hb); clear PA; have PA := PAn; clear PAn
  clear hb
  obtain ⟨_, ⟨c0, c1, c2, c3, c4, c5⟩, _⟩ := (K.out.at_ (o := 1) (.tail _ (.head _))).six
  obtain ⟨_, ⟨a0, a1, a2, a3, a4, a5⟩, _⟩ := (K.out.at_ (o := 2) (.head _)).six
  go_wp2_with fail
  (with_reducible refine (HFEW _ PA.out.g0 PA.out.g1).mono ?_)
  rintro e w2 ⟨rfl, hb⟩
  have Kn := Lib.hid (K.out.later hb); clear K; have K := Kn; clear Kn
  have PAn := Lib.hid (PA.out.later hb); clear PA; have PA := PAn; clear PAn
  clear c0 c1 c2 c3 c4 c5 a0 a1 a2 a3 a4 a5
  clear hb
  obtain ⟨_, ⟨c0, c1, c2, c3, c4, c5⟩, _⟩ := (K.out.at_ (o := 1) (.tail _ (.head _))).six
  obtain ⟨_, ⟨a0, a1, a2, a3, a4, a5⟩, _⟩ := (K.out.at_ (o := 2) (.head _)).six
  go_wp2_with fail
  go_ret
  exact ⟨rfl, K.out.bel⟩

set_option maxRecDepth 100000 in
set_option maxHeartbeats 8000000 in
theorem walkD (t c : Int) (A : Option Addr) (n k : Nat) (F : Nat → Nat) (r : Nat) (R : Option Addr) (m0 ra : Nat) (S : Option Addr) (m1 sa : Nat) (l0 l1 : List Stm) (me ki i : Int) (a b : Nat) (D : Option Addr) (dn dc : Nat) (ys : List Nat) (W : Option Addr) (wn wc : Nat) (ws : Nat → Nat) (fa : Bool) (g1 : decide ((600 : Int) < (n : Int)) = false) (hf : fewD l0 l1 = true) (g2 : decide ((500 : Int) < (dn : Int)) = false) (g3 : decide ((600 : Int) < (wn : Int)) = true) (w : World) (hP0 : Hid (ParmAt w A n F R m0 S m1 l0 l1 D dn ys W wn ws)) :
    Calls Try.prog 3 #[.agg #[.int .i64 t, .int .i64 c, .slice A n k, .int .u64 (r : Int), .slice R m0 ra, .slice S m1 sa, .int .i64 me, .int .i64 ki, .int .i64 i, .int .u64 (a : Int), .int .u64 (b : Int), .slice D dn dc, .slice W wn wc, .bool fa]] w fun e w' => e = .returned (.bool true) ∧ Below w.heap.size w w' := by
  have HFEW := fun w h h' => few_at (r : Int) R m0 ra S m1 sa l0 l1 w h h'
  rw [hf] at HFEW
  have K : Hid (Kp w [(2, [.int .i64 ki, .int .i64 i, .int .u64 (a : Int), .int .u64 (b : Int), .slice D dn dc, .slice W wn wc]), (1, [.int .i64 t, .int .i64 c, .slice A n k, .int .u64 (r : Int), .slice R m0 ra, .slice S m1 sa])] [] (((w.alloc (.cells #[.int .i64 t, .int .i64 c, .slice A n k, .int .u64 (r : Int), .slice R m0 ra, .slice S m1 sa, .int .i64 me, .int .i64 ki, .int .i64 i, .int .u64 (a : Int), .int .u64 (b : Int), .slice D dn dc, .slice W wn wc, .bool fa] 36)).alloc (.cells #[.int .i64 t, .int .i64 c, .slice A n k, .int .u64 (r : Int), .slice R m0 ra, .slice S m1 sa] 31)).alloc (.cells #[.int .i64 ki, .int .i64 i, .int .u64 (a : Int), .int .u64 (b : Int), .slice D dn dc, .slice W wn wc] 34))) :=
    Lib.hid ((((Kp.nil w).alloc (.cells #[.int .i64 t, .int .i64 c, .slice A n k, .int .u64 (r : Int), .slice R m0 ra, .slice S m1 sa, .int .i64 me, .int .i64 ki, .int .i64 i, .int .u64 (a : Int), .int .u64 (b : Int), .slice D dn dc, .slice W wn wc, .bool fa] 36)).var 1 (by simp) #[.int .i64 t, .int .i64 c, .slice A n k, .int .u64 (r : Int), .slice R m0 ra, .slice S m1 sa] 31).var 2 (by simp) #[.int .i64 ki, .int .i64 i, .int .u64 (a : Int), .int .u64 (b : Int), .slice D dn dc, .slice W wn wc] 34)
  have PA := Lib.hid (hP0.out.later K.out.bel)
  go_enter Try.func3, Try.ntmps3
  go_wp2_with fail
  (with_reducible refine (shown_any _).mono ?_)
  rintro e w1 ⟨rfl, hb⟩
  have Kn := Lib.hid (K.out.later hb); clear K; have K := Kn; clear Kn
  have PAn := Lib.hid (PA.out.later hb); clear PA; have PA := PAn; clear PAn
  clear hb
  obtain ⟨_, ⟨c0, c1, c2, c3, c4, c5⟩, _⟩ := (K.out.at_ (o := 1) (.tail _ (.head _))).six
  obtain ⟨_, ⟨a0, a1, a2, a3, a4, a5⟩, _⟩ := (K.out.at_ (o := 2) (.head _)).six
  go_wp2_with fail
  (with_reducible refine (HFEW _ PA.out.g0 PA.out.g1).mono ?_)
  rintro e w2 ⟨rfl, hb⟩
  have Kn := Lib.hid (K.out.later hb); clear K; have K := Kn; clear Kn
  have PAn := Lib.hid (PA.out.later hb); clear PA; have PA := PAn; clear PAn
  clear c0 c1 c2 c3 c4 c5 a0 a1 a2 a3 a4 a5
  clear hb
  obtain ⟨_, ⟨c0, c1, c2, c3, c4, c5⟩, _⟩ := (K.out.at_ (o := 1) (.tail _ (.head _))).six
  obtain ⟨_, ⟨a0, a1, a2, a3, a4, a5⟩, _⟩ := (K.out.at_ (o := 2) (.head _)).six
  go_wp2_with fail
  go_ret
  exact ⟨rfl, K.out.bel⟩

set_option maxRecDepth 100000 in
set_option maxHeartbeats 8000000 in
theorem walkE1 (t c : Int) (A : Option Addr) (n k : Nat) (F : Nat → Nat) (r : Nat) (R : Option Addr) (m0 ra : Nat) (S : Option Addr) (m1 sa : Nat) (l0 l1 : List Stm) (me ki i : Int) (a b : Nat) (D : Option Addr) (dn dc : Nat) (ys : List Nat) (W : Option Addr) (wn wc : Nat) (ws : Nat → Nat) (fa : Bool) (g1 : decide ((600 : Int) < (n : Int)) = false) (hf : fewD l0 l1 = true) (g2 : decide ((500 : Int) < (dn : Int)) = false) (g3 : decide ((600 : Int) < (wn : Int)) = false) (pr pd : Bool) (hpr : rightW t c n l0 l1 = pr) (hdk : diskB ki = pd) (hnn : n ≤ 600) (h5 : decide (5 ≤ ki) = true) (h12 : decide (ki ≤ 12) = pd) (hcase : pr = false ∨ (pr = true ∧ decide (me < 0) = true) ∨ (pr = true ∧ decide (me < 0) = false ∧ decide (t ≤ me) = true)) (w : World) (hP0 : Hid (ParmAt w A n F R m0 S m1 l0 l1 D dn ys W wn ws)) :
    Calls Try.prog 3 #[.agg #[.int .i64 t, .int .i64 c, .slice A n k, .int .u64 (r : Int), .slice R m0 ra, .slice S m1 sa, .int .i64 me, .int .i64 ki, .int .i64 i, .int .u64 (a : Int), .int .u64 (b : Int), .slice D dn dc, .slice W wn wc, .bool fa]] w fun e w' => e = .returned (.bool true) ∧ Below w.heap.size w w' := by
  have HFEW := fun w h h' => few_at (r : Int) R m0 ra S m1 sa l0 l1 w h h'
  rw [hf] at HFEW
  have HRR := fun w h h' => refRightW_at t c A n k r R m0 ra S m1 sa l0 l1 (by omega) w h h'
  have HR := fun w h h' => accRight_at t c A n k r R m0 ra S m1 sa l0 l1 w h h'
  have HDK := fun w => disk_any ki w
  rw [hpr] at HRR HR
  rw [hdk] at HDK
  have HNN := Lib.hid hnn
  clear hpr hdk hf hnn
  have K : Hid (Kp w [(2, [.int .i64 ki, .int .i64 i, .int .u64 (a : Int), .int .u64 (b : Int), .slice D dn dc, .slice W wn wc]), (1, [.int .i64 t, .int .i64 c, .slice A n k, .int .u64 (r : Int), .slice R m0 ra, .slice S m1 sa])] [] (((w.alloc (.cells #[.int .i64 t, .int .i64 c, .slice A n k, .int .u64 (r : Int), .slice R m0 ra, .slice S m1 sa, .int .i64 me, .int .i64 ki, .int .i64 i, .int .u64 (a : Int), .int .u64 (b : Int), .slice D dn dc, .slice W wn wc, .bool fa] 36)).alloc (.cells #[.int .i64 t, .int .i64 c, .slice A n k, .int .u64 (r : Int), .slice R m0 ra, .slice S m1 sa] 31)).alloc (.cells #[.int .i64 ki, .int .i64 i, .int .u64 (a : Int), .int .u64 (b : Int), .slice D dn dc, .slice W wn wc] 34))) :=
    Lib.hid ((((Kp.nil w).alloc (.cells #[.int .i64 t, .int .i64 c, .slice A n k, .int .u64 (r : Int), .slice R m0 ra, .slice S m1 sa, .int .i64 me, .int .i64 ki, .int .i64 i, .int .u64 (a : Int), .int .u64 (b : Int), .slice D dn dc, .slice W wn wc, .bool fa] 36)).var 1 (by simp) #[.int .i64 t, .int .i64 c, .slice A n k, .int .u64 (r : Int), .slice R m0 ra, .slice S m1 sa] 31).var 2 (by simp) #[.int .i64 ki, .int .i64 i, .int .u64 (a : Int), .int .u64 (b : Int), .slice D dn dc, .slice W wn wc] 34)
  have PA := Lib.hid (hP0.out.later K.out.bel)
  go_enter Try.func3, Try.ntmps3
  go_wp2_with fail
  (with_reducible refine (shown_any _).mono ?_)
  rintro e w1 ⟨rfl, hb⟩
  have Kn := Lib.hid (K.out.later hb); clear K; have K := Kn; clear Kn
  have PAn := Lib.hid (PA.out.later hb); clear PA; have PA := PAn; clear PAn
  clear hb
  obtain ⟨_, ⟨c0, c1, c2, c3, c4, c5⟩, _⟩ := (K.out.at_ (o := 1) (.tail _ (.head _))).six
  obtain ⟨_, ⟨a0, a1, a2, a3, a4, a5⟩, _⟩ := (K.out.at_ (o := 2) (.head _)).six
  go_wp2_with fail
  (with_reducible refine (HFEW _ PA.out.g0 PA.out.g1).mono ?_)
  rintro e w2 ⟨rfl, hb⟩
  have Kn := Lib.hid (K.out.later hb); clear K; have K := Kn; clear Kn
  have PAn := Lib.hid (PA.out.later hb); clear PA; have PA := PAn; clear PAn
  clear c0 c1 c2 c3 c4 c5 a0 a1 a2 a3 a4 a5
  clear hb
  obtain ⟨_, ⟨c0, c1, c2, c3, c4, c5⟩, _⟩ := (K.out.at_ (o := 1) (.tail _ (.head _))).six
  obtain ⟨_, ⟨a0, a1, a2, a3, a4, a5⟩, _⟩ := (K.out.at_ (o := 2) (.head _)).six
  go_wp2_with fail
  (with_reducible refine (HRR _ PA.out.g0 PA.out.g1).mono ?_)
  rintro e w3 ⟨rfl, hb⟩
  have Kn := Lib.hid (K.out.later hb); clear K; have K := Kn; clear Kn
  have PAn := Lib.hid (PA.out.later hb); clear PA; have PA := PAn; clear PAn
  clear c0 c1 c2 c3 c4 c5 a0 a1 a2 a3 a4 a5
  clear hb
  obtain ⟨_, ⟨c0, c1, c2, c3, c4, c5⟩, _⟩ := (K.out.at_ (o := 1) (.tail _ (.head _))).six
  obtain ⟨_, ⟨a0, a1, a2, a3, a4, a5⟩, _⟩ := (K.out.at_ (o := 2) (.head _)).six
  go_upto_region 9 with fail
  have HRX : ∀ u : After w3, Calls Try.prog 12 #[.agg #[.int .i64 t, .int .i64 c, .slice A n k, .int .u64 (r : Int), .slice R m0 ra, .slice S m1 sa]] u.w (Kept u.w (.bool pr)) := fun u => HR u.w (PA.out.later u.below).g0 (PA.out.later u.below).g1
  have rC0 : ∀ u : After w3, u.w.cell? ⟨w.heap.size + 1, 0, none⟩ = some (.int .i64 t) := After.cells c0 rfl
  have rC1 : ∀ u : After w3, u.w.cell? ⟨w.heap.size + 1, 1, none⟩ = some (.int .i64 c) := After.cells c1 rfl
  have rC2 : ∀ u : After w3, u.w.cell? ⟨w.heap.size + 1, 2, none⟩ = some (.slice A n k) := After.cells c2 rfl
  have rC3 : ∀ u : After w3, u.w.cell? ⟨w.heap.size + 1, 3, none⟩ = some (.int .u64 (r : Int)) := After.cells c3 rfl
  have rC4 : ∀ u : After w3, u.w.cell? ⟨w.heap.size + 1, 4, none⟩ = some (.slice R m0 ra) := After.cells c4 rfl
  have rC5 : ∀ u : After w3, u.w.cell? ⟨w.heap.size + 1, 5, none⟩ = some (.slice S m1 sa) := After.cells c5 rfl
  have rA0 : ∀ u : After w3, u.w.cell? ⟨w.heap.size + 2, 0, none⟩ = some (.int .i64 ki) := After.cells a0 rfl
  have hpp : (pr != pr) = false := by cases pr <;> rfl
  have hqq : ∀ q : Bool, (q != q) = false := by intro q; cases q <;> rfl
  clear c0 c1 c2 c3 c4 c5 a0 a1 a2 a3 a4 a5
  refine wp_region_after _ (by kernel_rfl) (by kernel_rfl) rfl (by kernel_rfl) ?_
  repeat (go_big_quiet_step ((first | (go_at_call 12; with_reducible exact after_kept (HRX _)) | (go_at_call 13; with_reducible exact after_same (HDK _)))))
  refine wpQuiet_nil ?_
  intro w4 hw4
  obtain ⟨u4, hu4⟩ := hw4
  subst hu4
  have Kn := Lib.hid (K.out.later u4.below); clear K; have K := Kn; clear Kn
  have PAn := Lib.hid (PA.out.later u4.below); clear PA; have PA := PAn; clear PAn
  clear rC0 rC1 rC2 rC3 rC4 rC5 rA0 HRX HR HRR HDK HFEW
  obtain ⟨_, ⟨c0, c1, c2, c3, c4, c5⟩, _⟩ := (K.out.at_ (o := 1) (.tail _ (.head _))).six
  obtain ⟨_, ⟨a0, a1, a2, a3, a4, a5⟩, _⟩ := (K.out.at_ (o := 2) (.head _)).six
  rcases hcase with rfl | ⟨rfl, h1⟩ | ⟨rfl, h1, h2⟩
  · go_wp2_with fail
    go_ret
    exact ⟨rfl, K.out.bel⟩
  · go_wp2_with fail
    go_ret
    exact ⟨rfl, K.out.bel⟩
  · go_wp2_with fail
    go_ret
    exact ⟨rfl, K.out.bel⟩

set_option maxRecDepth 100000 in
set_option maxHeartbeats 8000000 in
theorem walkE2 (t c : Int) (A : Option Addr) (n k : Nat) (F : Nat → Nat) (r : Nat) (R : Option Addr) (m0 ra : Nat) (S : Option Addr) (m1 sa : Nat) (l0 l1 : List Stm) (me ki i : Int) (a b : Nat) (D : Option Addr) (dn dc : Nat) (ys : List Nat) (W : Option Addr) (wn wc : Nat) (ws : Nat → Nat) (fa : Bool) (g1 : decide ((600 : Int) < (n : Int)) = false) (hf : fewD l0 l1 = true) (g2 : decide ((500 : Int) < (dn : Int)) = false) (g3 : decide ((600 : Int) < (wn : Int)) = false) (pr pd : Bool) (hpr : rightW t c n l0 l1 = pr) (hdk : diskB ki = pd) (hnn : n ≤ 600) (h5 : decide (5 ≤ ki) = false) (hpd : pd = false) (hcase : pr = false ∨ (pr = true ∧ decide (me < 0) = true) ∨ (pr = true ∧ decide (me < 0) = false ∧ decide (t ≤ me) = true)) (w : World) (hP0 : Hid (ParmAt w A n F R m0 S m1 l0 l1 D dn ys W wn ws)) :
    Calls Try.prog 3 #[.agg #[.int .i64 t, .int .i64 c, .slice A n k, .int .u64 (r : Int), .slice R m0 ra, .slice S m1 sa, .int .i64 me, .int .i64 ki, .int .i64 i, .int .u64 (a : Int), .int .u64 (b : Int), .slice D dn dc, .slice W wn wc, .bool fa]] w fun e w' => e = .returned (.bool true) ∧ Below w.heap.size w w' := by
  subst hpd
  have HFEW := fun w h h' => few_at (r : Int) R m0 ra S m1 sa l0 l1 w h h'
  rw [hf] at HFEW
  have HRR := fun w h h' => refRightW_at t c A n k r R m0 ra S m1 sa l0 l1 (by omega) w h h'
  have HR := fun w h h' => accRight_at t c A n k r R m0 ra S m1 sa l0 l1 w h h'
  have HDK := fun w => disk_any ki w
  rw [hpr] at HRR HR
  rw [hdk] at HDK
  have HNN := Lib.hid hnn
  clear hpr hdk hf hnn
  have K : Hid (Kp w [(2, [.int .i64 ki, .int .i64 i, .int .u64 (a : Int), .int .u64 (b : Int), .slice D dn dc, .slice W wn wc]), (1, [.int .i64 t, .int .i64 c, .slice A n k, .int .u64 (r : Int), .slice R m0 ra, .slice S m1 sa])] [] (((w.alloc (.cells #[.int .i64 t, .int .i64 c, .slice A n k, .int .u64 (r : Int), .slice R m0 ra, .slice S m1 sa, .int .i64 me, .int .i64 ki, .int .i64 i, .int .u64 (a : Int), .int .u64 (b : Int), .slice D dn dc, .slice W wn wc, .bool fa] 36)).alloc (.cells #[.int .i64 t, .int .i64 c, .slice A n k, .int .u64 (r : Int), .slice R m0 ra, .slice S m1 sa] 31)).alloc (.cells #[.int .i64 ki, .int .i64 i, .int .u64 (a : Int), .int .u64 (b : Int), .slice D dn dc, .slice W wn wc] 34))) :=
    Lib.hid ((((Kp.nil w).alloc (.cells #[.int .i64 t, .int .i64 c, .slice A n k, .int .u64 (r : Int), .slice R m0 ra, .slice S m1 sa, .int .i64 me, .int .i64 ki, .int .i64 i, .int .u64 (a : Int), .int .u64 (b : Int), .slice D dn dc, .slice W wn wc, .bool fa] 36)).var 1 (by simp) #[.int .i64 t, .int .i64 c, .slice A n k, .int .u64 (r : Int), .slice R m0 ra, .slice S m1 sa] 31).var 2 (by simp) #[.int .i64 ki, .int .i64 i, .int .u64 (a : Int), .int .u64 (b : Int), .slice D dn dc, .slice W wn wc] 34)
  have PA := Lib.hid (hP0.out.later K.out.bel)
  go_enter Try.func3, Try.ntmps3
  go_wp2_with fail
  (with_reducible refine (shown_any _).mono ?_)
  rintro e w1 ⟨rfl, hb⟩
  have Kn := Lib.hid (K.out.later hb); clear K; have K := Kn; clear Kn
  have PAn := Lib.hid (PA.out.later hb); clear PA; have PA := PAn; clear PAn
  clear hb
  obtain ⟨_, ⟨c0, c1, c2, c3, c4, c5⟩, _⟩ := (K.out.at_ (o := 1) (.tail _ (.head _))).six
  obtain ⟨_, ⟨a0, a1, a2, a3, a4, a5⟩, _⟩ := (K.out.at_ (o := 2) (.head _)).six
  go_wp2_with fail
  (with_reducible refine (HFEW _ PA.out.g0 PA.out.g1).mono ?_)
  rintro e w2 ⟨rfl, hb⟩
  have Kn := Lib.hid (K.out.later hb); clear K; have K := Kn; clear Kn
  have PAn := Lib.hid (PA.out.later hb); clear PA; have PA := PAn; clear PAn
  clear c0 c1 c2 c3 c4 c5 a0 a1 a2 a3 a4 a5
  clear hb
  obtain ⟨_, ⟨c0, c1, c2, c3, c4, c5⟩, _⟩ := (K.out.at_ (o := 1) (.tail _ (.head _))).six
  obtain ⟨_, ⟨a0, a1, a2, a3, a4, a5⟩, _⟩ := (K.out.at_ (o := 2) (.head _)).six
  go_wp2_with fail
  (with_reducible refine (HRR _ PA.out.g0 PA.out.g1).mono ?_)
  rintro e w3 ⟨rfl, hb⟩
  have Kn := Lib.hid (K.out.later hb); clear K; have K := Kn; clear Kn
  have PAn := Lib.hid (PA.out.later hb); clear PA; have PA := PAn; clear PAn
  clear c0 c1 c2 c3 c4 c5 a0 a1 a2 a3 a4 a5
  clear hb
  obtain ⟨_, ⟨c0, c1, c2, c3, c4, c5⟩, _⟩ := (K.out.at_ (o := 1) (.tail _ (.head _))).six
  obtain ⟨_, ⟨a0, a1, a2, a3, a4, a5⟩, _⟩ := (K.out.at_ (o := 2) (.head _)).six
  go_upto_region 9 with fail
  have HRX : ∀ u : After w3, Calls Try.prog 12 #[.agg #[.int .i64 t, .int .i64 c, .slice A n k, .int .u64 (r : Int), .slice R m0 ra, .slice S m1 sa]] u.w (Kept u.w (.bool pr)) := fun u => HR u.w (PA.out.later u.below).g0 (PA.out.later u.below).g1
  have rC0 : ∀ u : After w3, u.w.cell? ⟨w.heap.size + 1, 0, none⟩ = some (.int .i64 t) := After.cells c0 rfl
  have rC1 : ∀ u : After w3, u.w.cell? ⟨w.heap.size + 1, 1, none⟩ = some (.int .i64 c) := After.cells c1 rfl
  have rC2 : ∀ u : After w3, u.w.cell? ⟨w.heap.size + 1, 2, none⟩ = some (.slice A n k) := After.cells c2 rfl
  have rC3 : ∀ u : After w3, u.w.cell? ⟨w.heap.size + 1, 3, none⟩ = some (.int .u64 (r : Int)) := After.cells c3 rfl
  have rC4 : ∀ u : After w3, u.w.cell? ⟨w.heap.size + 1, 4, none⟩ = some (.slice R m0 ra) := After.cells c4 rfl
  have rC5 : ∀ u : After w3, u.w.cell? ⟨w.heap.size + 1, 5, none⟩ = some (.slice S m1 sa) := After.cells c5 rfl
  have rA0 : ∀ u : After w3, u.w.cell? ⟨w.heap.size + 2, 0, none⟩ = some (.int .i64 ki) := After.cells a0 rfl
  have hpp : (pr != pr) = false := by cases pr <;> rfl
  have hqq : ∀ q : Bool, (q != q) = false := by intro q; cases q <;> rfl
  clear c0 c1 c2 c3 c4 c5 a0 a1 a2 a3 a4 a5
  refine wp_region_after _ (by kernel_rfl) (by kernel_rfl) rfl (by kernel_rfl) ?_
  repeat (go_big_quiet_step ((first | (go_at_call 12; with_reducible exact after_kept (HRX _)) | (go_at_call 13; with_reducible exact after_same (HDK _)))))
  refine wpQuiet_nil ?_
  intro w4 hw4
  obtain ⟨u4, hu4⟩ := hw4
  subst hu4
  have Kn := Lib.hid (K.out.later u4.below); clear K; have K := Kn; clear Kn
  have PAn := Lib.hid (PA.out.later u4.below); clear PA; have PA := PAn; clear PAn
  clear rC0 rC1 rC2 rC3 rC4 rC5 rA0 HRX HR HRR HDK HFEW
  obtain ⟨_, ⟨c0, c1, c2, c3, c4, c5⟩, _⟩ := (K.out.at_ (o := 1) (.tail _ (.head _))).six
  obtain ⟨_, ⟨a0, a1, a2, a3, a4, a5⟩, _⟩ := (K.out.at_ (o := 2) (.head _)).six
  rcases hcase with rfl | ⟨rfl, h1⟩ | ⟨rfl, h1, h2⟩
  · go_wp2_with fail
    go_ret
    exact ⟨rfl, K.out.bel⟩
  · go_wp2_with fail
    go_ret
    exact ⟨rfl, K.out.bel⟩
  · go_wp2_with fail
    go_ret
    exact ⟨rfl, K.out.bel⟩

set_option maxRecDepth 100000 in
set_option maxHeartbeats 8000000 in
theorem walkF1 (t c : Int) (A : Option Addr) (n k : Nat) (F : Nat → Nat) (r : Nat) (R : Option Addr) (m0 ra : Nat) (S : Option Addr) (sa : Nat) (l0 l1 : List Stm) (me ki i : Int) (a b : Nat) (D : Option Addr) (dn dc : Nat) (ys : List Nat) (W : Option Addr) (wn wc : Nat) (ws : Nat → Nat) (fa : Bool) (g1 : decide ((600 : Int) < (n : Int)) = false) (hf : fewD l0 l1 = true) (g2 : decide ((500 : Int) < (dn : Int)) = false) (g3 : decide ((600 : Int) < (wn : Int)) = false) (pr pd : Bool) (hpr : rightW t c n l0 l1 = pr) (hdk : diskB ki = pd) (hnn : n ≤ 600) (h5 : decide (5 ≤ ki) = true) (h12 : decide (ki ≤ 12) = pd) (hptrue : pr = true) (h1 : decide (me < 0) = false) (h2 : decide (t ≤ me) = false) (r1 : Nat) (G : Nat → Nat) (P0 P1 : List Stm) (N : Nat) (xs : List Nat) (fl : Bool) (HD1 : DoCalls t c A n k F r R S m0 ra sa l0 l1 me ki i a b D dn dc ys W wn wc ws fa 14 r1 G P0 P1 N xs fl) (HD2 : DoCalls t c A n k F r R S m0 ra sa l0 l1 me ki i a b D dn dc ys W wn wc ws fa 15 r1 G P0 P1 N xs fl) (w : World) (hP0 : Hid (ParmAt w A n F R m0 S m0 l0 l1 D dn ys W wn ws)) :
    Calls Try.prog 3 #[.agg #[.int .i64 t, .int .i64 c, .slice A n k, .int .u64 (r : Int), .slice R m0 ra, .slice S m0 sa, .int .i64 me, .int .i64 ki, .int .i64 i, .int .u64 (a : Int), .int .u64 (b : Int), .slice D dn dc, .slice W wn wc, .bool fa]] w fun e w' => e = .returned (.bool true) ∧ Below w.heap.size w w' := by
  have HFEW := fun w h h' => few_at (r : Int) R m0 ra S m0 sa l0 l1 w h h'
  rw [hf] at HFEW
  have HRR := fun w h h' => refRightW_at t c A n k r R m0 ra S m0 sa l0 l1 (by omega) w h h'
  have HR := fun w h h' => accRight_at t c A n k r R m0 ra S m0 sa l0 l1 w h h'
  have HDK := fun w => disk_any ki w
  rw [hpr] at HRR HR
  rw [hdk] at HDK
  have HNN := Lib.hid hnn
  clear hpr hdk hf hnn
  have K : Hid (Kp w [(2, [.int .i64 ki, .int .i64 i, .int .u64 (a : Int), .int .u64 (b : Int), .slice D dn dc, .slice W wn wc]), (1, [.int .i64 t, .int .i64 c, .slice A n k, .int .u64 (r : Int), .slice R m0 ra, .slice S m0 sa])] [] (((w.alloc (.cells #[.int .i64 t, .int .i64 c, .slice A n k, .int .u64 (r : Int), .slice R m0 ra, .slice S m0 sa, .int .i64 me, .int .i64 ki, .int .i64 i, .int .u64 (a : Int), .int .u64 (b : Int), .slice D dn dc, .slice W wn wc, .bool fa] 36)).alloc (.cells #[.int .i64 t, .int .i64 c, .slice A n k, .int .u64 (r : Int), .slice R m0 ra, .slice S m0 sa] 31)).alloc (.cells #[.int .i64 ki, .int .i64 i, .int .u64 (a : Int), .int .u64 (b : Int), .slice D dn dc, .slice W wn wc] 34))) :=
    Lib.hid ((((Kp.nil w).alloc (.cells #[.int .i64 t, .int .i64 c, .slice A n k, .int .u64 (r : Int), .slice R m0 ra, .slice S m0 sa, .int .i64 me, .int .i64 ki, .int .i64 i, .int .u64 (a : Int), .int .u64 (b : Int), .slice D dn dc, .slice W wn wc, .bool fa] 36)).var 1 (by simp) #[.int .i64 t, .int .i64 c, .slice A n k, .int .u64 (r : Int), .slice R m0 ra, .slice S m0 sa] 31).var 2 (by simp) #[.int .i64 ki, .int .i64 i, .int .u64 (a : Int), .int .u64 (b : Int), .slice D dn dc, .slice W wn wc] 34)
  have PA := Lib.hid (hP0.out.later K.out.bel)
  go_enter Try.func3, Try.ntmps3
  go_wp2_with fail
  (with_reducible refine (shown_any _).mono ?_)
  rintro e w1 ⟨rfl, hb⟩
  have Kn := Lib.hid (K.out.later hb); clear K; have K := Kn; clear Kn
  have PAn := Lib.hid (PA.out.later hb); clear PA; have PA := PAn; clear PAn
  clear hb
  obtain ⟨_, ⟨c0, c1, c2, c3, c4, c5⟩, _⟩ := (K.out.at_ (o := 1) (.tail _ (.head _))).six
  obtain ⟨_, ⟨a0, a1, a2, a3, a4, a5⟩, _⟩ := (K.out.at_ (o := 2) (.head _)).six
  go_wp2_with fail
  (with_reducible refine (HFEW _ PA.out.g0 PA.out.g1).mono ?_)
  rintro e w2 ⟨rfl, hb⟩
  have Kn := Lib.hid (K.out.later hb); clear K; have K := Kn; clear Kn
  have PAn := Lib.hid (PA.out.later hb); clear PA; have PA := PAn; clear PAn
  clear c0 c1 c2 c3 c4 c5 a0 a1 a2 a3 a4 a5
  clear hb
  obtain ⟨_, ⟨c0, c1, c2, c3, c4, c5⟩, _⟩ := (K.out.at_ (o := 1) (.tail _ (.head _))).six
  obtain ⟨_, ⟨a0, a1, a2, a3, a4, a5⟩, _⟩ := (K.out.at_ (o := 2) (.head _)).six
  go_wp2_with fail
  (with_reducible refine (HRR _ PA.out.g0 PA.out.g1).mono ?_)
  rintro e w3 ⟨rfl, hb⟩
  have Kn := Lib.hid (K.out.later hb); clear K; have K := Kn; clear Kn
  have PAn := Lib.hid (PA.out.later hb); clear PA; have PA := PAn; clear PAn
  clear c0 c1 c2 c3 c4 c5 a0 a1 a2 a3 a4 a5
  clear hb
  obtain ⟨_, ⟨c0, c1, c2, c3, c4, c5⟩, _⟩ := (K.out.at_ (o := 1) (.tail _ (.head _))).six
  obtain ⟨_, ⟨a0, a1, a2, a3, a4, a5⟩, _⟩ := (K.out.at_ (o := 2) (.head _)).six
  go_upto_region 9 with fail
  have HRX : ∀ u : After w3, Calls Try.prog 12 #[.agg #[.int .i64 t, .int .i64 c, .slice A n k, .int .u64 (r : Int), .slice R m0 ra, .slice S m0 sa]] u.w (Kept u.w (.bool pr)) := fun u => HR u.w (PA.out.later u.below).g0 (PA.out.later u.below).g1
  have rC0 : ∀ u : After w3, u.w.cell? ⟨w.heap.size + 1, 0, none⟩ = some (.int .i64 t) := After.cells c0 rfl
  have rC1 : ∀ u : After w3, u.w.cell? ⟨w.heap.size + 1, 1, none⟩ = some (.int .i64 c) := After.cells c1 rfl
  have rC2 : ∀ u : After w3, u.w.cell? ⟨w.heap.size + 1, 2, none⟩ = some (.slice A n k) := After.cells c2 rfl
  have rC3 : ∀ u : After w3, u.w.cell? ⟨w.heap.size + 1, 3, none⟩ = some (.int .u64 (r : Int)) := After.cells c3 rfl
  have rC4 : ∀ u : After w3, u.w.cell? ⟨w.heap.size + 1, 4, none⟩ = some (.slice R m0 ra) := After.cells c4 rfl
  have rC5 : ∀ u : After w3, u.w.cell? ⟨w.heap.size + 1, 5, none⟩ = some (.slice S m0 sa) := After.cells c5 rfl
  have rA0 : ∀ u : After w3, u.w.cell? ⟨w.heap.size + 2, 0, none⟩ = some (.int .i64 ki) := After.cells a0 rfl
  have hpp : (pr != pr) = false := by cases pr <;> rfl
  have hqq : ∀ q : Bool, (q != q) = false := by intro q; cases q <;> rfl
  clear c0 c1 c2 c3 c4 c5 a0 a1 a2 a3 a4 a5
  refine wp_region_after _ (by kernel_rfl) (by kernel_rfl) rfl (by kernel_rfl) ?_
  repeat (go_big_quiet_step ((first | (go_at_call 12; with_reducible exact after_kept (HRX _)) | (go_at_call 13; with_reducible exact after_same (HDK _)))))
  refine wpQuiet_nil ?_
  intro w4 hw4
  obtain ⟨u4, hu4⟩ := hw4
  subst hu4
  have Kn := Lib.hid (K.out.later u4.below); clear K; have K := Kn; clear Kn
  have PAn := Lib.hid (PA.out.later u4.below); clear PA; have PA := PAn; clear PAn
  clear rC0 rC1 rC2 rC3 rC4 rC5 rA0 HRX HR HRR HDK HFEW
  obtain ⟨_, ⟨c0, c1, c2, c3, c4, c5⟩, _⟩ := (K.out.at_ (o := 1) (.tail _ (.head _))).six
  obtain ⟨_, ⟨a0, a1, a2, a3, a4, a5⟩, _⟩ := (K.out.at_ (o := 2) (.head _)).six
  subst hptrue
  go_wp2_with fail
  have BB := Lib.hid K.out.bel
  clear c0 c1 c2 c3 c4 c5 a0 a1 a2 a3 a4 a5
  refine (HD1 _ PA.out.gA PA.out.g0 PA.out.g1 PA.out.gD PA.out.gW).mono ?_
  rintro e w6 ⟨A6, ka6, R6, ra6, S6, sa6, X6, kx6, rfl, ha, hs0, hs1, hk, hx, hb, hP⟩
  go_upto_region 14 with fail
  obtain ⟨x6, hx6⟩ : ∃ x, (w6.alloc (.cells #[.int .i64 t, .int .i64 c, .slice A6 n ka6, .int .u64 (r1 : Int), .slice R6 m0 ra6, .slice S6 m0 sa6] 31)).alloc (.cells #[.int .u64 (N : Int), .slice X6 xs.length kx6, .bool fl] 42) = x := ⟨_, rfl⟩
  have hbx : Below w6.heap.size w6 x6 := by rw [← hx6]; exact below_pair _ _ _
  have W6 : Hid (WdAt x6 w6.heap.size t c A6 n ka6 r1 R6 m0 ra6 S6 sa6 G P0 P1) := Lib.hid (by rw [← hx6]; exact WdAt.made w6 _ _ ha hs0 hs1)
  have V6 : Hid (ResAt x6 (w6.heap.size + 1) N X6 kx6 xs fl) := Lib.hid (by rw [← hx6]; exact ResAt.made w6 _ _ hx)
  have hbn := hb.trans (hbx.mono hb.size)
  have PAn := Lib.hid (PA.out.later hbn); clear PA; have PA := PAn; clear PAn
  have Kn := Lib.hid (K.out.later hbn); clear K; have K := Kn; clear Kn
  have BBn := Lib.hid (BB.out.trans (hbn.mono BB.out.size)); clear BB; have BB := BBn; clear BBn
  clear ha hs0 hs1 hk hx hb hP hbx hbn
  rw [hx6]
  clear hx6
  obtain ⟨_, ⟨c0, c1, c2, c3, c4, c5⟩, _⟩ := (K.out.at_ (o := 1) (.tail _ (.head _))).six
  obtain ⟨_, ⟨a0, a1, a2, a3, a4, a5⟩, _⟩ := (K.out.at_ (o := 2) (.head _)).six
  go_wp2_with fail
  clear c0 c1 c2 c3 c4 c5 a0 a1 a2 a3 a4 a5
  refine (HD2 _ PA.out.gA PA.out.g0 PA.out.g1 PA.out.gD PA.out.gW).mono ?_
  rintro e w7 ⟨A7, ka7, R7, ra7, S7, sa7, X7, kx7, rfl, ha, hs0, hs1, hk, hx, hb, hP⟩
  go_upto_region 15 with fail
  obtain ⟨x7, hx7⟩ : ∃ x, (w7.alloc (.cells #[.int .i64 t, .int .i64 c, .slice A7 n ka7, .int .u64 (r1 : Int), .slice R7 m0 ra7, .slice S7 m0 sa7] 31)).alloc (.cells #[.int .u64 (N : Int), .slice X7 xs.length kx7, .bool fl] 42) = x := ⟨_, rfl⟩
  have hbx : Below w7.heap.size w7 x7 := by rw [← hx7]; exact below_pair _ _ _
  have W7 : Hid (WdAt x7 w7.heap.size t c A7 n ka7 r1 R7 m0 ra7 S7 sa7 G P0 P1) := Lib.hid (by rw [← hx7]; exact WdAt.made w7 _ _ ha hs0 hs1)
  have V7 : Hid (ResAt x7 (w7.heap.size + 1) N X7 kx7 xs fl) := Lib.hid (by rw [← hx7]; exact ResAt.made w7 _ _ hx)
  have hbn := hb.trans (hbx.mono hb.size)
  have PAn := Lib.hid (PA.out.later hbn); clear PA; have PA := PAn; clear PAn
  have Kn := Lib.hid (K.out.later hbn); clear K; have K := Kn; clear Kn
  have W6n := Lib.hid (W6.out.later hbn); clear W6; have W6 := W6n; clear W6n
  have V6n := Lib.hid (V6.out.later hbn); clear V6; have V6 := V6n; clear V6n
  have BBn := Lib.hid (BB.out.trans (hbn.mono BB.out.size)); clear BB; have BB := BBn; clear BBn
  clear ha hs0 hs1 hk hx hb hP hbx hbn
  rw [hx7]
  clear hx7
  obtain ⟨c0, c1, c2, c3, c4, c5⟩ := W6.out.cells
  obtain ⟨d0, d1, d2, d3, d4, d5⟩ := W7.out.cells
  go_wp2_with fail
  clear c0 c1 c2 c3 c4 c5 d0 d1 d2 d3 d4 d5
  (with_reducible refine (sameW_at t c A6 A7 n ka6 ka7 G (by have := HNN.out; omega) r1 R6 m0 ra6 S6 m0 sa6 R7 ra7 S7 sa7 P0 P1 _ W6.out.gA W7.out.gA W6.out.g0 W6.out.g1 W7.out.g0 W7.out.g1).mono ?_)
  rintro e w8 ⟨rfl, hb⟩
  have V6n := Lib.hid (V6.out.later hb); clear V6; have V6 := V6n; clear V6n
  have V7n := Lib.hid (V7.out.later hb); clear V7; have V7 := V7n; clear V7n
  have BBn := Lib.hid (BB.out.trans (hb.mono BB.out.size)); clear BB; have BB := BBn; clear BBn
  clear hb W6 W7
  obtain ⟨c0, c1, c2⟩ := V6.out.cells
  obtain ⟨d0, d1, d2⟩ := V7.out.cells
  go_wp2_with fail
  (with_reducible refine (told_at N X6 X7 kx6 kx7 xs fl _ V6.out.gX V7.out.gX).mono ?_)
  rintro e w9 ⟨rfl, hb⟩
  have BBn := Lib.hid (BB.out.trans (hb.mono BB.out.size)); clear BB; have BB := BBn; clear BBn
  clear hb c0 c1 c2 d0 d1 d2
  go_wp2_with fail
  go_ret
  exact ⟨rfl, BB.out⟩

set_option maxRecDepth 100000 in
set_option maxHeartbeats 8000000 in
theorem walkF2 (t c : Int) (A : Option Addr) (n k : Nat) (F : Nat → Nat) (r : Nat) (R : Option Addr) (m0 ra : Nat) (S : Option Addr) (sa : Nat) (l0 l1 : List Stm) (me ki i : Int) (a b : Nat) (D : Option Addr) (dn dc : Nat) (ys : List Nat) (W : Option Addr) (wn wc : Nat) (ws : Nat → Nat) (fa : Bool) (g1 : decide ((600 : Int) < (n : Int)) = false) (hf : fewD l0 l1 = true) (g2 : decide ((500 : Int) < (dn : Int)) = false) (g3 : decide ((600 : Int) < (wn : Int)) = false) (pr pd : Bool) (hpr : rightW t c n l0 l1 = pr) (hdk : diskB ki = pd) (hnn : n ≤ 600) (h5 : decide (5 ≤ ki) = false) (hpd : pd = false) (hptrue : pr = true) (h1 : decide (me < 0) = false) (h2 : decide (t ≤ me) = false) (r1 : Nat) (G : Nat → Nat) (P0 P1 : List Stm) (N : Nat) (xs : List Nat) (fl : Bool) (HD1 : DoCalls t c A n k F r R S m0 ra sa l0 l1 me ki i a b D dn dc ys W wn wc ws fa 14 r1 G P0 P1 N xs fl) (HD2 : DoCalls t c A n k F r R S m0 ra sa l0 l1 me ki i a b D dn dc ys W wn wc ws fa 15 r1 G P0 P1 N xs fl) (w : World) (hP0 : Hid (ParmAt w A n F R m0 S m0 l0 l1 D dn ys W wn ws)) :
    Calls Try.prog 3 #[.agg #[.int .i64 t, .int .i64 c, .slice A n k, .int .u64 (r : Int), .slice R m0 ra, .slice S m0 sa, .int .i64 me, .int .i64 ki, .int .i64 i, .int .u64 (a : Int), .int .u64 (b : Int), .slice D dn dc, .slice W wn wc, .bool fa]] w fun e w' => e = .returned (.bool true) ∧ Below w.heap.size w w' := by
  subst hpd
  have HFEW := fun w h h' => few_at (r : Int) R m0 ra S m0 sa l0 l1 w h h'
  rw [hf] at HFEW
  have HRR := fun w h h' => refRightW_at t c A n k r R m0 ra S m0 sa l0 l1 (by omega) w h h'
  have HR := fun w h h' => accRight_at t c A n k r R m0 ra S m0 sa l0 l1 w h h'
  have HDK := fun w => disk_any ki w
  rw [hpr] at HRR HR
  rw [hdk] at HDK
  have HNN := Lib.hid hnn
  clear hpr hdk hf hnn
  have K : Hid (Kp w [(2, [.int .i64 ki, .int .i64 i, .int .u64 (a : Int), .int .u64 (b : Int), .slice D dn dc, .slice W wn wc]), (1, [.int .i64 t, .int .i64 c, .slice A n k, .int .u64 (r : Int), .slice R m0 ra, .slice S m0 sa])] [] (((w.alloc (.cells #[.int .i64 t, .int .i64 c, .slice A n k, .int .u64 (r : Int), .slice R m0 ra, .slice S m0 sa, .int .i64 me, .int .i64 ki, .int .i64 i, .int .u64 (a : Int), .int .u64 (b : Int), .slice D dn dc, .slice W wn wc, .bool fa] 36)).alloc (.cells #[.int .i64 t, .int .i64 c, .slice A n k, .int .u64 (r : Int), .slice R m0 ra, .slice S m0 sa] 31)).alloc (.cells #[.int .i64 ki, .int .i64 i, .int .u64 (a : Int), .int .u64 (b : Int), .slice D dn dc, .slice W wn wc] 34))) :=
    Lib.hid ((((Kp.nil w).alloc (.cells #[.int .i64 t, .int .i64 c, .slice A n k, .int .u64 (r : Int), .slice R m0 ra, .slice S m0 sa, .int .i64 me, .int .i64 ki, .int .i64 i, .int .u64 (a : Int), .int .u64 (b : Int), .slice D dn dc, .slice W wn wc, .bool fa] 36)).var 1 (by simp) #[.int .i64 t, .int .i64 c, .slice A n k, .int .u64 (r : Int), .slice R m0 ra, .slice S m0 sa] 31).var 2 (by simp) #[.int .i64 ki, .int .i64 i, .int .u64 (a : Int), .int .u64 (b : Int), .slice D dn dc, .slice W wn wc] 34)
  have PA := Lib.hid (hP0.out.later K.out.bel)
  go_enter Try.func3, Try.ntmps3
  go_wp2_with fail
  (with_reducible refine (shown_any _).mono ?_)
  rintro e w1 ⟨rfl, hb⟩
  have Kn := Lib.hid (K.out.later hb); clear K; have K := Kn; clear Kn
  have PAn := Lib.hid (PA.out.later hb); clear PA; have PA := PAn; clear PAn
  clear hb
  obtain ⟨_, ⟨c0, c1, c2, c3, c4, c5⟩, _⟩ := (K.out.at_ (o := 1) (.tail _ (.head _))).six
  obtain ⟨_, ⟨a0, a1, a2, a3, a4, a5⟩, _⟩ := (K.out.at_ (o := 2) (.head _)).six
  go_wp2_with fail
  (with_reducible refine (HFEW _ PA.out.g0 PA.out.g1).mono ?_)
  rintro e w2 ⟨rfl, hb⟩
  have Kn := Lib.hid (K.out.later hb); clear K; have K := Kn; clear Kn
  have PAn := Lib.hid (PA.out.later hb); clear PA; have PA := PAn; clear PAn
  clear c0 c1 c2 c3 c4 c5 a0 a1 a2 a3 a4 a5
  clear hb
  obtain ⟨_, ⟨c0, c1, c2, c3, c4, c5⟩, _⟩ := (K.out.at_ (o := 1) (.tail _ (.head _))).six
  obtain ⟨_, ⟨a0, a1, a2, a3, a4, a5⟩, _⟩ := (K.out.at_ (o := 2) (.head _)).six
  go_wp2_with fail
  (with_reducible refine (HRR _ PA.out.g0 PA.out.g1).mono ?_)
  rintro e w3 ⟨rfl, hb⟩
  have Kn := Lib.hid (K.out.later hb); clear K; have K := Kn; clear Kn
  have PAn := Lib.hid (PA.out.later hb); clear PA; have PA := PAn; clear PAn
  clear c0 c1 c2 c3 c4 c5 a0 a1 a2 a3 a4 a5
  clear hb
  obtain ⟨_, ⟨c0, c1, c2, c3, c4, c5⟩, _⟩ := (K.out.at_ (o := 1) (.tail _ (.head _))).six
  obtain ⟨_, ⟨a0, a1, a2, a3, a4, a5⟩, _⟩ := (K.out.at_ (o := 2) (.head _)).six
  go_upto_region 9 with fail
  have HRX : ∀ u : After w3, Calls Try.prog 12 #[.agg #[.int .i64 t, .int .i64 c, .slice A n k, .int .u64 (r : Int), .slice R m0 ra, .slice S m0 sa]] u.w (Kept u.w (.bool pr)) := fun u => HR u.w (PA.out.later u.below).g0 (PA.out.later u.below).g1
  have rC0 : ∀ u : After w3, u.w.cell? ⟨w.heap.size + 1, 0, none⟩ = some (.int .i64 t) := After.cells c0 rfl
  have rC1 : ∀ u : After w3, u.w.cell? ⟨w.heap.size + 1, 1, none⟩ = some (.int .i64 c) := After.cells c1 rfl
  have rC2 : ∀ u : After w3, u.w.cell? ⟨w.heap.size + 1, 2, none⟩ = some (.slice A n k) := After.cells c2 rfl
  have rC3 : ∀ u : After w3, u.w.cell? ⟨w.heap.size + 1, 3, none⟩ = some (.int .u64 (r : Int)) := After.cells c3 rfl
  have rC4 : ∀ u : After w3, u.w.cell? ⟨w.heap.size + 1, 4, none⟩ = some (.slice R m0 ra) := After.cells c4 rfl
  have rC5 : ∀ u : After w3, u.w.cell? ⟨w.heap.size + 1, 5, none⟩ = some (.slice S m0 sa) := After.cells c5 rfl
  have rA0 : ∀ u : After w3, u.w.cell? ⟨w.heap.size + 2, 0, none⟩ = some (.int .i64 ki) := After.cells a0 rfl
  have hpp : (pr != pr) = false := by cases pr <;> rfl
  have hqq : ∀ q : Bool, (q != q) = false := by intro q; cases q <;> rfl
  clear c0 c1 c2 c3 c4 c5 a0 a1 a2 a3 a4 a5
  refine wp_region_after _ (by kernel_rfl) (by kernel_rfl) rfl (by kernel_rfl) ?_
  repeat (go_big_quiet_step ((first | (go_at_call 12; with_reducible exact after_kept (HRX _)) | (go_at_call 13; with_reducible exact after_same (HDK _)))))
  refine wpQuiet_nil ?_
  intro w4 hw4
  obtain ⟨u4, hu4⟩ := hw4
  subst hu4
  have Kn := Lib.hid (K.out.later u4.below); clear K; have K := Kn; clear Kn
  have PAn := Lib.hid (PA.out.later u4.below); clear PA; have PA := PAn; clear PAn
  clear rC0 rC1 rC2 rC3 rC4 rC5 rA0 HRX HR HRR HDK HFEW
  obtain ⟨_, ⟨c0, c1, c2, c3, c4, c5⟩, _⟩ := (K.out.at_ (o := 1) (.tail _ (.head _))).six
  obtain ⟨_, ⟨a0, a1, a2, a3, a4, a5⟩, _⟩ := (K.out.at_ (o := 2) (.head _)).six
  subst hptrue
  go_wp2_with fail
  have BB := Lib.hid K.out.bel
  clear c0 c1 c2 c3 c4 c5 a0 a1 a2 a3 a4 a5
  refine (HD1 _ PA.out.gA PA.out.g0 PA.out.g1 PA.out.gD PA.out.gW).mono ?_
  rintro e w6 ⟨A6, ka6, R6, ra6, S6, sa6, X6, kx6, rfl, ha, hs0, hs1, hk, hx, hb, hP⟩
  go_upto_region 14 with fail
  obtain ⟨x6, hx6⟩ : ∃ x, (w6.alloc (.cells #[.int .i64 t, .int .i64 c, .slice A6 n ka6, .int .u64 (r1 : Int), .slice R6 m0 ra6, .slice S6 m0 sa6] 31)).alloc (.cells #[.int .u64 (N : Int), .slice X6 xs.length kx6, .bool fl] 42) = x := ⟨_, rfl⟩
  have hbx : Below w6.heap.size w6 x6 := by rw [← hx6]; exact below_pair _ _ _
  have W6 : Hid (WdAt x6 w6.heap.size t c A6 n ka6 r1 R6 m0 ra6 S6 sa6 G P0 P1) := Lib.hid (by rw [← hx6]; exact WdAt.made w6 _ _ ha hs0 hs1)
  have V6 : Hid (ResAt x6 (w6.heap.size + 1) N X6 kx6 xs fl) := Lib.hid (by rw [← hx6]; exact ResAt.made w6 _ _ hx)
  have hbn := hb.trans (hbx.mono hb.size)
  have PAn := Lib.hid (PA.out.later hbn); clear PA; have PA := PAn; clear PAn
  have Kn := Lib.hid (K.out.later hbn); clear K; have K := Kn; clear Kn
  have BBn := Lib.hid (BB.out.trans (hbn.mono BB.out.size)); clear BB; have BB := BBn; clear BBn
  clear ha hs0 hs1 hk hx hb hP hbx hbn
  rw [hx6]
  clear hx6
  obtain ⟨_, ⟨c0, c1, c2, c3, c4, c5⟩, _⟩ := (K.out.at_ (o := 1) (.tail _ (.head _))).six
  obtain ⟨_, ⟨a0, a1, a2, a3, a4, a5⟩, _⟩ := (K.out.at_ (o := 2) (.head _)).six
  go_wp2_with fail
  clear c0 c1 c2 c3 c4 c5 a0 a1 a2 a3 a4 a5
  refine (HD2 _ PA.out.gA PA.out.g0 PA.out.g1 PA.out.gD PA.out.gW).mono ?_
  rintro e w7 ⟨A7, ka7, R7, ra7, S7, sa7, X7, kx7, rfl, ha, hs0, hs1, hk, hx, hb, hP⟩
  go_upto_region 15 with fail
  obtain ⟨x7, hx7⟩ : ∃ x, (w7.alloc (.cells #[.int .i64 t, .int .i64 c, .slice A7 n ka7, .int .u64 (r1 : Int), .slice R7 m0 ra7, .slice S7 m0 sa7] 31)).alloc (.cells #[.int .u64 (N : Int), .slice X7 xs.length kx7, .bool fl] 42) = x := ⟨_, rfl⟩
  have hbx : Below w7.heap.size w7 x7 := by rw [← hx7]; exact below_pair _ _ _
  have W7 : Hid (WdAt x7 w7.heap.size t c A7 n ka7 r1 R7 m0 ra7 S7 sa7 G P0 P1) := Lib.hid (by rw [← hx7]; exact WdAt.made w7 _ _ ha hs0 hs1)
  have V7 : Hid (ResAt x7 (w7.heap.size + 1) N X7 kx7 xs fl) := Lib.hid (by rw [← hx7]; exact ResAt.made w7 _ _ hx)
  have hbn := hb.trans (hbx.mono hb.size)
  have PAn := Lib.hid (PA.out.later hbn); clear PA; have PA := PAn; clear PAn
  have Kn := Lib.hid (K.out.later hbn); clear K; have K := Kn; clear Kn
  have W6n := Lib.hid (W6.out.later hbn); clear W6; have W6 := W6n; clear W6n
  have V6n := Lib.hid (V6.out.later hbn); clear V6; have V6 := V6n; clear V6n
  have BBn := Lib.hid (BB.out.trans (hbn.mono BB.out.size)); clear BB; have BB := BBn; clear BBn
  clear ha hs0 hs1 hk hx hb hP hbx hbn
  rw [hx7]
  clear hx7
  obtain ⟨c0, c1, c2, c3, c4, c5⟩ := W6.out.cells
  obtain ⟨d0, d1, d2, d3, d4, d5⟩ := W7.out.cells
  go_wp2_with fail
  clear c0 c1 c2 c3 c4 c5 d0 d1 d2 d3 d4 d5
  (with_reducible refine (sameW_at t c A6 A7 n ka6 ka7 G (by have := HNN.out; omega) r1 R6 m0 ra6 S6 m0 sa6 R7 ra7 S7 sa7 P0 P1 _ W6.out.gA W7.out.gA W6.out.g0 W6.out.g1 W7.out.g0 W7.out.g1).mono ?_)
  rintro e w8 ⟨rfl, hb⟩
  have V6n := Lib.hid (V6.out.later hb); clear V6; have V6 := V6n; clear V6n
  have V7n := Lib.hid (V7.out.later hb); clear V7; have V7 := V7n; clear V7n
  have BBn := Lib.hid (BB.out.trans (hb.mono BB.out.size)); clear BB; have BB := BBn; clear BBn
  clear hb W6 W7
  obtain ⟨c0, c1, c2⟩ := V6.out.cells
  obtain ⟨d0, d1, d2⟩ := V7.out.cells
  go_wp2_with fail
  (with_reducible refine (told_at N X6 X7 kx6 kx7 xs fl _ V6.out.gX V7.out.gX).mono ?_)
  rintro e w9 ⟨rfl, hb⟩
  have BBn := Lib.hid (BB.out.trans (hb.mono BB.out.size)); clear BB; have BB := BBn; clear BBn
  clear hb c0 c1 c2 d0 d1 d2
  go_wp2_with fail
  go_ret
  exact ⟨rfl, BB.out⟩
section
set_option maxRecDepth 100000
set_option maxHeartbeats 2000000
variable {H : Type} {enc : TypeId × Value → H} {w : World}
theorem open_a {v : Value} {d : DataW H} {ps : List MemPlace} {base : Nat} (hval : Value.okWide Try.prog w .any base 36 v) (h : DataW.Trod enc Try.prog w 0 (fun _ => true) true 36 v d ps) (hs : Sized Try.prog 36 d) (hlt : ∀ z ∈ ps, z.block < w.heap.size) :
    ∃ (aWMemT : Int) (aWMemC : Int) (aWMemWordA : Option Addr) (aWMemWordL aWMemWordC : Nat) (aWMemWordf : Nat → Nat) (aWDiskRoot : Nat) (aWDiskRows0A : Option Addr) (aWDiskRows0L aWDiskRows0C : Nat) (aWDiskRows0l : List Stm) (aWDiskRows1A : Option Addr) (aWDiskRows1L aWDiskRows1C : Nat) (aWDiskRows1l : List Stm) (aMe : Int) (aAKind : Int) (aACell : Int) (aAA : Nat) (aAB : Nat) (aADataA : Option Addr) (aADataL aADataC : Nat) (aADatax : List Nat) (aAWordA : Option Addr) (aAWordL aAWordC : Nat) (aAWordf : Nat → Nat) (aFail : Bool), v = .agg #[.int .i64 aWMemT, .int .i64 aWMemC, .slice aWMemWordA aWMemWordL aWMemWordC, .int .u64 (aWDiskRoot : Int), .slice aWDiskRows0A aWDiskRows0L aWDiskRows0C, .slice aWDiskRows1A aWDiskRows1L aWDiskRows1C, .int .i64 aMe, .int .i64 aAKind, .int .i64 aACell, .int .u64 (aAA : Int), .int .u64 (aAB : Int), .slice aADataA aADataL aADataC, .slice aAWordA aAWordL aAWordC, .bool aFail] ∧ (-9223372036854775808 ≤ aWMemT ∧ aWMemT < 9223372036854775808) ∧ (-9223372036854775808 ≤ aWMemC ∧ aWMemC < 9223372036854775808) ∧ (aWMemWordL ≤ aWMemWordC ∧ aWMemWordL ≤ 140737488355328 ∧ AtW w aWMemWordA aWMemWordL aWMemWordf) ∧ aWDiskRoot < 18446744073709551616 ∧ (aWDiskRows0L ≤ aWDiskRows0C ∧ StmsAt w aWDiskRows0A aWDiskRows0L aWDiskRows0l) ∧ (aWDiskRows1L ≤ aWDiskRows1C ∧ StmsAt w aWDiskRows1A aWDiskRows1L aWDiskRows1l) ∧ (-9223372036854775808 ≤ aMe ∧ aMe < 9223372036854775808) ∧ (-9223372036854775808 ≤ aAKind ∧ aAKind < 9223372036854775808) ∧ (-9223372036854775808 ≤ aACell ∧ aACell < 9223372036854775808) ∧ aAA < 18446744073709551616 ∧ aAB < 18446744073709551616 ∧ (aADataL ≤ aADataC ∧ aADataL ≤ 140737488355328 ∧ AtB w aADataA aADataL aADatax) ∧ (aAWordL ≤ aAWordC ∧ aAWordL ≤ 140737488355328 ∧ AtW w aAWordA aAWordL aAWordf) := by
  obtain ⟨cs, rfl, hsz⟩ := okWide_struct Try.underlying36 hval
  obtain ⟨fuel, hf⟩ := h
  have hcs : (Value.agg cs).cells.toList = cs.toList := rfl
  rw [hcs] at hf
  have hcl : cs.toList.length = 14 := by rw [Array.length_toList, hsz]; kernel_rfl
  obtain ⟨c0, c1, c2, c3, c4, c5, c6, c7, c8, c9, c10, c11, c12, c13, hL⟩ : ∃ c0 c1 c2 c3 c4 c5 c6 c7 c8 c9 c10 c11 c12 c13, cs.toList = [c0, c1, c2, c3, c4, c5, c6, c7, c8, c9, c10, c11, c12, c13] := ⟨_, _, _, _, _, _, _, _, _, _, _, _, _, _, cells_of hcl .nilIface⟩
  rw [hL] at hf
  rw [list_agg hL]
  clear hcl hL hsz hcs
  obtain ⟨y0, n0, g0, s0, q0⟩ := field_at Try.underlying36 hf 0 _ rfl 31 0 6 [c0, c1, c2, c3, c4, c5] rfl rfl (by kernel_rfl) rfl hs hlt
  obtain ⟨y1, n1, g1, s1, q1⟩ := field_at Try.underlying31 g0 0 _ rfl 24 0 3 [c0, c1, c2] rfl rfl (by kernel_rfl) rfl s0 q0
  obtain ⟨y2, n2, g2, s2, q2⟩ := field_at Try.underlying24 g1 0 _ rfl 3 0 1 [c0] rfl rfl (by kernel_rfl) rfl s1 q1
  obtain ⟨aWMemT, e3, haWMemT⟩ := leaf_i64 Try.underlying3 g2
  cases e3
  obtain ⟨y4, n4, g4, s4, q4⟩ := field_at Try.underlying24 g1 1 _ rfl 3 1 1 [c1] rfl rfl (by kernel_rfl) rfl s1 q1
  obtain ⟨aWMemC, e5, haWMemC⟩ := leaf_i64 Try.underlying3 g4
  cases e5
  obtain ⟨y6, n6, g6, s6, q6⟩ := field_at Try.underlying24 g1 2 _ rfl 22 2 1 [c2] rfl rfl (by kernel_rfl) rfl s1 q1
  obtain ⟨aWMemWordA, aWMemWordL, aWMemWordC, aWMemWordf, e7, haWMemWord⟩ := leaf_words g6 s6 q6
  cases e7
  obtain ⟨y8, n8, g8, s8, q8⟩ := field_at Try.underlying31 g0 1 _ rfl 29 3 3 [c3, c4, c5] rfl rfl (by kernel_rfl) rfl s0 q0
  obtain ⟨y9, n9, g9, s9, q9⟩ := field_at Try.underlying29 g8 0 _ rfl 25 0 1 [c3] rfl rfl (by kernel_rfl) rfl s8 q8
  obtain ⟨aWDiskRoot, e10, haWDiskRoot⟩ := leaf_u64 Try.underlying25 g9
  cases e10
  obtain ⟨y11, n11, g11, s11, q11⟩ := field_at Try.underlying29 g8 1 _ rfl 27 1 2 [c4, c5] rfl rfl (by kernel_rfl) rfl s8 q8
  obtain ⟨y12, n12, g12, s12, q12⟩ := elem_at Try.underlying27 g11 0 (by decide) 1 [c4] (by kernel_rfl) rfl s11 q11
  obtain ⟨aWDiskRows0A, aWDiskRows0L, aWDiskRows0C, aWDiskRows0l, e13, haWDiskRows0⟩ := leaf_streams g12 s12 q12
  cases e13
  obtain ⟨y14, n14, g14, s14, q14⟩ := elem_at Try.underlying27 g11 1 (by decide) 1 [c5] (by kernel_rfl) rfl s11 q11
  obtain ⟨aWDiskRows1A, aWDiskRows1L, aWDiskRows1C, aWDiskRows1l, e15, haWDiskRows1⟩ := leaf_streams g14 s14 q14
  cases e15
  obtain ⟨y16, n16, g16, s16, q16⟩ := field_at Try.underlying36 hf 1 _ rfl 3 6 1 [c6] rfl rfl (by kernel_rfl) rfl hs hlt
  obtain ⟨aMe, e17, haMe⟩ := leaf_i64 Try.underlying3 g16
  cases e17
  obtain ⟨y18, n18, g18, s18, q18⟩ := field_at Try.underlying36 hf 2 _ rfl 34 7 6 [c7, c8, c9, c10, c11, c12] rfl rfl (by kernel_rfl) rfl hs hlt
  obtain ⟨y19, n19, g19, s19, q19⟩ := field_at Try.underlying34 g18 0 _ rfl 3 0 1 [c7] rfl rfl (by kernel_rfl) rfl s18 q18
  obtain ⟨aAKind, e20, haAKind⟩ := leaf_i64 Try.underlying3 g19
  cases e20
  obtain ⟨y21, n21, g21, s21, q21⟩ := field_at Try.underlying34 g18 1 _ rfl 3 1 1 [c8] rfl rfl (by kernel_rfl) rfl s18 q18
  obtain ⟨aACell, e22, haACell⟩ := leaf_i64 Try.underlying3 g21
  cases e22
  obtain ⟨y23, n23, g23, s23, q23⟩ := field_at Try.underlying34 g18 2 _ rfl 25 2 1 [c9] rfl rfl (by kernel_rfl) rfl s18 q18
  obtain ⟨aAA, e24, haAA⟩ := leaf_u64 Try.underlying25 g23
  cases e24
  obtain ⟨y25, n25, g25, s25, q25⟩ := field_at Try.underlying34 g18 3 _ rfl 25 3 1 [c10] rfl rfl (by kernel_rfl) rfl s18 q18
  obtain ⟨aAB, e26, haAB⟩ := leaf_u64 Try.underlying25 g25
  cases e26
  obtain ⟨y27, n27, g27, s27, q27⟩ := field_at Try.underlying34 g18 4 _ rfl 32 4 1 [c11] rfl rfl (by kernel_rfl) rfl s18 q18
  obtain ⟨aADataA, aADataL, aADataC, aADatax, e28, haAData⟩ := leaf_bytes g27 s27 q27
  cases e28
  obtain ⟨y29, n29, g29, s29, q29⟩ := field_at Try.underlying34 g18 5 _ rfl 22 5 1 [c12] rfl rfl (by kernel_rfl) rfl s18 q18
  obtain ⟨aAWordA, aAWordL, aAWordC, aAWordf, e30, haAWord⟩ := leaf_words g29 s29 q29
  cases e30
  obtain ⟨y31, n31, g31, s31, q31⟩ := field_at Try.underlying36 hf 3 _ rfl 4 13 1 [c13] rfl rfl (by kernel_rfl) rfl hs hlt
  obtain ⟨aFail, e32⟩ := leaf_bool Try.underlying4 g31
  cases e32
  exact ⟨aWMemT, aWMemC, aWMemWordA, aWMemWordL, aWMemWordC, aWMemWordf, aWDiskRoot, aWDiskRows0A, aWDiskRows0L, aWDiskRows0C, aWDiskRows0l, aWDiskRows1A, aWDiskRows1L, aWDiskRows1C, aWDiskRows1l, aMe, aAKind, aACell, aAA, aAB, aADataA, aADataL, aADataC, aADatax, aAWordA, aAWordL, aAWordC, aAWordf, aFail, rfl, haWMemT, haWMemC, haWMemWord, haWDiskRoot, haWDiskRows0, haWDiskRows1, haMe, haAKind, haACell, haAA, haAB, haAData, haAWord⟩
end

set_option maxRecDepth 100000 in
set_option maxHeartbeats 8000000 in
theorem lifted (os : Os) (started : os.Started) (H : Type) (enc : TypeId × Value → H) :
    ReturnsInHanded {} Try.checked os 3 .any (Rows.accessTellsSpec.pre6 enc Try.prog Try.f3 Rows.accessTellsRow.domain false) (Rows.accessTellsSpec.post enc Try.prog Try.f3 false true false false) := by
  refine law_lifted (C := Try.checked) own started (by kernel_rfl) Try.func3
    (ChangeSpec.witness6 (enc := enc) (C := Try.checked) false ⟨#[], #[.agg #[.int .i64 0, .int .i64 0, .slice none 0 0, .int .u64 0, .slice none 0 0, .slice none 0 0, .int .i64 0, .int .i64 0, .int .i64 0, .int .u64 0, .int .u64 0, .slice none 0 0, .slice none 0 0, .bool false]], []⟩ 8 (by kernel_rfl) (by kernel_rfl) (by kernel_rfl) (by kernel_rfl))
    (by kernel_rfl) (by kernel_rfl) Try.underlying4 rfl (by kernel_rfl) ?_
  intro W base args ds before hval hA hwt hlt
  have hA' : DataW.TrodAll enc Try.prog W 0 (fun _ => true) true Try.f3.params.toList args.toList ds before := hA
  have hval' : ∀ (j : Nat) t v, Try.f3.params[j]? = some t → args[j]? = some v → Value.okWide Try.prog W .any base t v := hval
  have hwt' : (DataW.weightsEach Try.prog Try.f3.params.toList ds).all (· ≤ reachBytes) = true := hwt
  rw [Try.params3] at hA' hval' hwt'
  obtain ⟨v0, vs0, d0, ds0, p0, q0, hargs, rfl, rfl, k0, r0⟩ := trodAll_cons hA'
  obtain ⟨rfl, rfl, rfl⟩ := trodAll_nil r0
  obtain rfl : args = #[v0] := by cases args; simp_all
  obtain ⟨aWMemT, aWMemC, aWMemWordA, aWMemWordL, aWMemWordC, aWMemWordf, aWDiskRoot, aWDiskRows0A, aWDiskRows0L, aWDiskRows0C, aWDiskRows0l, aWDiskRows1A, aWDiskRows1L, aWDiskRows1C, aWDiskRows1l, aMe, aAKind, aACell, aAA, aAB, aADataA, aADataL, aADataC, aADatax, aAWordA, aAWordL, aAWordC, aAWordf, aFail, rfl, haWMemT, haWMemC, haWMemWord, haWDiskRoot, haWDiskRows0, haWDiskRows1, haMe, haAKind, haACell, haAA, haAB, haAData, haAWord⟩ := open_a (hval' 0 36 v0 rfl rfl) k0 (sized_of hwt' (j := 0) (t := 36) rfl rfl) (fun x hx => hlt x (by simp [hx]))
  refine ⟨rfl, ?_⟩
  obtain ⟨hlc, hlm, hA⟩ := haWMemWord
  obtain ⟨_, h0⟩ := haWDiskRows0
  obtain ⟨_, h1⟩ := haWDiskRows1
  obtain ⟨_, hdm, hD⟩ := haAData
  obtain ⟨_, hwm, hW⟩ := haAWord
  have PA : Hid (ParmAt W aWMemWordA aWMemWordL aWMemWordf aWDiskRows0A aWDiskRows0L aWDiskRows1A aWDiskRows1L aWDiskRows0l aWDiskRows1l aADataA aADataL aADatax aAWordA aAWordL aAWordf) := Lib.hid ⟨hA, h0, h1, hD, hW⟩
  by_cases g1 : 600 < aWMemWordL
  · exact walkA aWMemT aWMemC aWMemWordA aWMemWordL aWMemWordC aWMemWordf aWDiskRoot aWDiskRows0A aWDiskRows0L aWDiskRows0C aWDiskRows1A aWDiskRows1L aWDiskRows1C aWDiskRows0l aWDiskRows1l aMe aAKind aACell aAA aAB aADataA aADataL aADataC aADatax aAWordA aAWordL aAWordC aAWordf aFail (decide_eq_true (by omega)) W PA
  have d1 : decide ((600 : Int) < (aWMemWordL : Int)) = false := decide_eq_false (by omega)
  by_cases hf : fewD aWDiskRows0l aWDiskRows1l = true
  · by_cases g2 : 500 < aADataL
    · exact walkC aWMemT aWMemC aWMemWordA aWMemWordL aWMemWordC aWMemWordf aWDiskRoot aWDiskRows0A aWDiskRows0L aWDiskRows0C aWDiskRows1A aWDiskRows1L aWDiskRows1C aWDiskRows0l aWDiskRows1l aMe aAKind aACell aAA aAB aADataA aADataL aADataC aADatax aAWordA aAWordL aAWordC aAWordf aFail d1 hf (decide_eq_true (by omega)) W PA
    have d2 : decide ((500 : Int) < (aADataL : Int)) = false := decide_eq_false (by omega)
    by_cases g3 : 600 < aAWordL
    · exact walkD aWMemT aWMemC aWMemWordA aWMemWordL aWMemWordC aWMemWordf aWDiskRoot aWDiskRows0A aWDiskRows0L aWDiskRows0C aWDiskRows1A aWDiskRows1L aWDiskRows1C aWDiskRows0l aWDiskRows1l aMe aAKind aACell aAA aAB aADataA aADataL aADataC aADatax aAWordA aAWordL aAWordC aAWordf aFail d1 hf d2 (decide_eq_true (by omega)) W PA
    have d3 : decide ((600 : Int) < (aAWordL : Int)) = false := decide_eq_false (by omega)
    by_cases hbad : rightW aWMemT aWMemC aWMemWordL aWDiskRows0l aWDiskRows1l = false ∨ aMe < 0 ∨ aWMemT ≤ aMe
    · have hcase : rightW aWMemT aWMemC aWMemWordL aWDiskRows0l aWDiskRows1l = false ∨ (rightW aWMemT aWMemC aWMemWordL aWDiskRows0l aWDiskRows1l = true ∧ decide (aMe < 0) = true) ∨ (rightW aWMemT aWMemC aWMemWordL aWDiskRows0l aWDiskRows1l = true ∧ decide (aMe < 0) = false ∧ decide (aWMemT ≤ aMe) = true) := by
        by_cases hr : rightW aWMemT aWMemC aWMemWordL aWDiskRows0l aWDiskRows1l = false
        · exact .inl hr
        have hr' : rightW aWMemT aWMemC aWMemWordL aWDiskRows0l aWDiskRows1l = true := by simpa using hr
        by_cases hm : aMe < 0
        · exact .inr (.inl ⟨hr', decide_eq_true hm⟩)
        · refine .inr (.inr ⟨hr', decide_eq_false hm, decide_eq_true ?_⟩)
          rcases hbad with h | h | h
          · exact absurd h hr
          · exact absurd h hm
          · exact h
      by_cases h5 : 5 ≤ aAKind
      · exact walkE1 aWMemT aWMemC aWMemWordA aWMemWordL aWMemWordC aWMemWordf aWDiskRoot aWDiskRows0A aWDiskRows0L aWDiskRows0C aWDiskRows1A aWDiskRows1L aWDiskRows1C aWDiskRows0l aWDiskRows1l aMe aAKind aACell aAA aAB aADataA aADataL aADataC aADatax aAWordA aAWordL aAWordC aAWordf aFail d1 hf d2 d3 _ _ rfl rfl (by omega) (decide_eq_true h5) (by unfold diskB; rw [decide_eq_true h5, Bool.true_and]) hcase W PA
      · exact walkE2 aWMemT aWMemC aWMemWordA aWMemWordL aWMemWordC aWMemWordf aWDiskRoot aWDiskRows0A aWDiskRows0L aWDiskRows0C aWDiskRows1A aWDiskRows1L aWDiskRows1C aWDiskRows0l aWDiskRows1l aMe aAKind aACell aAA aAB aADataA aADataL aADataC aADatax aAWordA aAWordL aAWordC aAWordf aFail d1 hf d2 d3 _ _ rfl rfl (by omega) (decide_eq_false h5) (by unfold diskB; rw [decide_eq_false h5, Bool.false_and]) hcase W PA
    · have hr : rightW aWMemT aWMemC aWMemWordL aWDiskRows0l aWDiskRows1l = true := by
        cases hx : rightW aWMemT aWMemC aWMemWordL aWDiskRows0l aWDiskRows1l
        · exact absurd (.inl hx) hbad
        · rfl
      have hme : ¬ aMe < 0 := fun h => hbad (.inr (.inl h))
      have hmt : ¬ aWMemT ≤ aMe := fun h => hbad (.inr (.inr h))
      obtain ⟨hn0, hm1, hm8, hgd, hx0, hx1, hlen⟩ := right_parts hr hf h0.1 h1.1
      obtain ⟨r1, G, P0, P1, N, xs, fl, _, HD1, HD2⟩ := doBoth aWMemT aWMemC aWMemWordA aWMemWordL aWMemWordC aWMemWordf aWDiskRoot aWDiskRows0A aWDiskRows1A aWDiskRows0L aWDiskRows0C aWDiskRows1C aWDiskRows0l aWDiskRows1l aMe aAKind aACell aAA aAB aADataA aADataL aADataC aADatax aAWordA aAWordL aAWordC aAWordf aFail haWDiskRoot (by omega) hn0 hA.1 haAA haAB hm1 hm8 hgd hx0 hx1 (by omega)
      have hl' := hlen.symm
      subst hl'
      by_cases h5 : 5 ≤ aAKind
      · exact walkF1 aWMemT aWMemC aWMemWordA aWMemWordL aWMemWordC aWMemWordf aWDiskRoot aWDiskRows0A aWDiskRows0L aWDiskRows0C aWDiskRows1A aWDiskRows1C aWDiskRows0l aWDiskRows1l aMe aAKind aACell aAA aAB aADataA aADataL aADataC aADatax aAWordA aAWordL aAWordC aAWordf aFail d1 hf d2 d3 _ _ rfl rfl (by omega) (decide_eq_true h5) (by unfold diskB; rw [decide_eq_true h5, Bool.true_and]) hr (decide_eq_false hme) (decide_eq_false hmt) r1 G P0 P1 N xs fl HD1 HD2 W PA
      · exact walkF2 aWMemT aWMemC aWMemWordA aWMemWordL aWMemWordC aWMemWordf aWDiskRoot aWDiskRows0A aWDiskRows0L aWDiskRows0C aWDiskRows1A aWDiskRows1C aWDiskRows0l aWDiskRows1l aMe aAKind aACell aAA aAB aADataA aADataL aADataC aADatax aAWordA aAWordL aAWordC aAWordf aFail d1 hf d2 d3 _ _ rfl rfl (by omega) (decide_eq_false h5) (by unfold diskB; rw [decide_eq_false h5, Bool.false_and]) hr (decide_eq_false hme) (decide_eq_false hmt) r1 G P0 P1 N xs fl HD1 HD2 W PA
  · exact walkB aWMemT aWMemC aWMemWordA aWMemWordL aWMemWordC aWMemWordf aWDiskRoot aWDiskRows0A aWDiskRows0L aWDiskRows0C aWDiskRows1A aWDiskRows1L aWDiskRows1C aWDiskRows0l aWDiskRows1l aMe aAKind aACell aAA aAB aADataA aADataL aADataC aADatax aAWordA aAWordL aAWordC aAWordf aFail d1 (by simpa using hf) W PA

theorem over : Rows.accessTellsRow.holds Try.pinned (OpenSpec.ofChange Rows.accessTellsSpec) :=
  OpenClaim.holds_of_wide 3 Try.f3 rfl rfl rfl rfl rfl rfl rfl ⟨rfl, rfl, rfl, rfl, rfl⟩ rfl rfl rfl rfl rfl (by kernel_rfl) Try.func3 (by kernel_rfl)
    (of_decide_eq_true (by kernel_rfl)) (by unfold Func.isWrapper; first | (rw [if_pos (by decide +kernel)]; kernel_rfl) | (rw [if_neg (by decide +kernel)]; exact ⟨rfl, rfl⟩))
    (fun os started H enc _ => lifted os started H enc)

/-- The statement. -/
theorem proved : Rows.AccessTellsSaid :=
  over
#print axioms proved
end Go.Proofs.Ytieepdpelkpfkaa.accessTells
