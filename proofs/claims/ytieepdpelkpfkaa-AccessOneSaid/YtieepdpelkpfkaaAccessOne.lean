/-
  AccessOne: an access turns one word at most, and that at its cell, or the disk alone; what fails turns nothing; a world that was stays as it was; for every small world, every access but AInstall. No condition beyond the statement's own.
-/
import Derived.Test.YtieepdpelkpfkaaAccShown
import Derived.Test.YtieepdpelkpfkaaAccLeaf
import Derived.Test.YtieepdpelkpfkaaAfter
import Derived.Test.YtieepdpelkpfkaaAccSame
import Derived.Test.YtieepdpelkpfkaaLaw
import Derived.Test.YtieepdpelkpfkaaFields
import Derived.Deep.Cut
namespace Go.Proofs.Ytieepdpelkpfkaa.accessOne
open Go.ChangeShapes Go.WideShapes Go.ChangeAt Go.RowKit Go.Deep Go.BigFrame
set_option linter.unusedVariables false
theorem own : ownKnob Try.prog.godebug = none := by kernel_rfl

theorem sameL_self (l : List Stm) : ∀ n, sameL l l n = true
  | 0 => rfl
  | n + 1 => by unfold sameL; rw [sameL_self l n, sameS_self]; rfl
theorem sameD_self (r : Int) (n m : Nat) (l0 l1 : List Stm) : sameD r r n m l0 l1 l0 l1 = true := by unfold sameD; rw [sameL_self, sameL_self]; simp
/-- While the words are compared: the variables and the rows lie there, whatever was drawn. -/
structure OneRel (w : World) (v1 v2 v9 v10 : List Value) (b9 b10 : Nat) (A A9 : Option Addr) (g n : Nat) (F G : Nat → Nat) (R S R9 S9 : Option Addr) (m : Nat) (l0 l1 P0 P1 : List Stm) (x : World) : Prop where
  below : Below w.heap.size w x
  k1 : VarAt x (w.heap.size + 1) v1
  k2 : VarAt x (w.heap.size + 2) v2
  k9 : VarAt x b9 v9
  k10 : VarAt x b10 v10
  hA : AtW x A n F
  hG : AtW x A9 n G
  hW : RowW x g n F
  s0 : StmsAt x R m l0
  s1 : StmsAt x S m l1
  t0 : StmsAt x R9 m P0
  t1 : StmsAt x S9 m P1
theorem OneRel.drewN {w x : World} {v1 v2 v9 v10 : List Value} {b9 b10 : Nat} {A A9 : Option Addr} {g n : Nat} {F G : Nat → Nat} {R S R9 S9 : Option Addr} {m : Nat} {l0 l1 P0 P1 : List Stm} (h : OneRel w v1 v2 v9 v10 b9 b10 A A9 g n F G R S R9 S9 m l0 l1 P0 P1 x) (q : Nat) : OneRel w v1 v2 v9 v10 b9 b10 A A9 g n F G R S R9 S9 m l0 l1 P0 P1 (x.drewN q) :=
  ⟨below_draw h.below q, h.k1, h.k2, h.k9, h.k10, h.hA, h.hG, h.hW.drewN q, h.s0.same rfl, h.s1.same rfl, h.t0.same rfl, h.t1.same rfl⟩

set_option maxRecDepth 100000 in
set_option maxHeartbeats 8000000 in
theorem walkNo (t c : Int) (A : Option Addr) (n k : Nat) (F : Nat → Nat) (r : Nat) (R : Option Addr) (m0 ra : Nat) (S : Option Addr) (m1 sa : Nat) (l0 l1 : List Stm) (me ki i : Int) (a b : Nat) (D : Option Addr) (dn dc : Nat) (ys : List Nat) (W : Option Addr) (wn wc : Nat) (ws : Nat → Nat) (fa : Bool) (hsm : smallB t c n l0 l1 me = false) (hnn : n ≤ 140737488355328) (w : World) (hP0 : Hid (ParmAt w A n F R m0 S m1 l0 l1 D dn ys W wn ws)) :
    Calls Try.prog 4 #[.agg #[.int .i64 t, .int .i64 c, .slice A n k, .int .u64 (r : Int), .slice R m0 ra, .slice S m1 sa, .int .i64 me, .int .i64 ki, .int .i64 i, .int .u64 (a : Int), .int .u64 (b : Int), .slice D dn dc, .slice W wn wc, .bool fa]] w fun e w' => e = .returned (.bool true) ∧ Below w.heap.size w w' := by
  have HSM := fun w h h' => small_at t c A n k r R m0 ra S m1 sa l0 l1 me (by omega) w h h'
  rw [hsm] at HSM
  clear hsm hnn
  have K : Hid (Kp w [(2, [.int .i64 ki, .int .i64 i, .int .u64 (a : Int), .int .u64 (b : Int), .slice D dn dc, .slice W wn wc]), (1, [.int .i64 t, .int .i64 c, .slice A n k, .int .u64 (r : Int), .slice R m0 ra, .slice S m1 sa])] [] (((w.alloc (.cells #[.int .i64 t, .int .i64 c, .slice A n k, .int .u64 (r : Int), .slice R m0 ra, .slice S m1 sa, .int .i64 me, .int .i64 ki, .int .i64 i, .int .u64 (a : Int), .int .u64 (b : Int), .slice D dn dc, .slice W wn wc, .bool fa] 48)).alloc (.cells #[.int .i64 t, .int .i64 c, .slice A n k, .int .u64 (r : Int), .slice R m0 ra, .slice S m1 sa] 31)).alloc (.cells #[.int .i64 ki, .int .i64 i, .int .u64 (a : Int), .int .u64 (b : Int), .slice D dn dc, .slice W wn wc] 34))) :=
    Lib.hid ((((Kp.nil w).alloc (.cells #[.int .i64 t, .int .i64 c, .slice A n k, .int .u64 (r : Int), .slice R m0 ra, .slice S m1 sa, .int .i64 me, .int .i64 ki, .int .i64 i, .int .u64 (a : Int), .int .u64 (b : Int), .slice D dn dc, .slice W wn wc, .bool fa] 48)).var 1 (by simp) #[.int .i64 t, .int .i64 c, .slice A n k, .int .u64 (r : Int), .slice R m0 ra, .slice S m1 sa] 31).var 2 (by simp) #[.int .i64 ki, .int .i64 i, .int .u64 (a : Int), .int .u64 (b : Int), .slice D dn dc, .slice W wn wc] 34)
  have PA := Lib.hid (hP0.out.later K.out.bel)
  go_enter Try.func4, Try.ntmps4
  go_wp2_with fail
  (with_reducible refine (shown_any _).mono ?_)
  rintro e w1 ⟨rfl, hb⟩
  have Kn := Lib.hid (K.out.later hb); clear K; have K := Kn; clear Kn
  have PAn := Lib.hid (PA.out.later hb); clear PA; have PA := PAn; clear PAn
  clear hb
  obtain ⟨_, ⟨c0, c1, c2, c3, c4, c5⟩, _⟩ := (K.out.at_ (o := 1) (.tail _ (.head _))).six
  obtain ⟨_, ⟨a0, a1, a2, a3, a4, a5⟩, _⟩ := (K.out.at_ (o := 2) (.head _)).six
  go_wp2_with fail
  (with_reducible refine (HSM _ PA.out.g0 PA.out.g1).mono ?_)
  rintro e w2 ⟨rfl, hb⟩
  have Kn := Lib.hid (K.out.later hb); clear K; have K := Kn; clear Kn
  have PAn := Lib.hid (PA.out.later hb); clear PA; have PA := PAn; clear PAn
  clear c0 c1 c2 c3 c4 c5 a0 a1 a2 a3 a4 a5
  clear hb HSM
  obtain ⟨_, ⟨c0, c1, c2, c3, c4, c5⟩, _⟩ := (K.out.at_ (o := 1) (.tail _ (.head _))).six
  obtain ⟨_, ⟨a0, a1, a2, a3, a4, a5⟩, _⟩ := (K.out.at_ (o := 2) (.head _)).six
  go_wp2_with fail
  go_ret
  exact ⟨rfl, K.out.bel⟩

set_option maxRecDepth 100000 in
set_option maxHeartbeats 8000000 in
theorem walkBad (t c : Int) (A : Option Addr) (n k : Nat) (F : Nat → Nat) (r : Nat) (R : Option Addr) (m0 ra : Nat) (S : Option Addr) (m1 sa : Nat) (l0 l1 : List Stm) (me ki i : Int) (a b : Nat) (D : Option Addr) (dn dc : Nat) (ys : List Nat) (W : Option Addr) (wn wc : Nat) (ws : Nat → Nat) (fa : Bool) (hsm : smallB t c n l0 l1 me = true) (hnn : n ≤ 140737488355328) (hcase : (decide ((500 : Int) < (dn : Int)) = true) ∨ (decide ((500 : Int) < (dn : Int)) = false ∧ (ki == 13) = true)) (w : World) (hP0 : Hid (ParmAt w A n F R m0 S m1 l0 l1 D dn ys W wn ws)) :
    Calls Try.prog 4 #[.agg #[.int .i64 t, .int .i64 c, .slice A n k, .int .u64 (r : Int), .slice R m0 ra, .slice S m1 sa, .int .i64 me, .int .i64 ki, .int .i64 i, .int .u64 (a : Int), .int .u64 (b : Int), .slice D dn dc, .slice W wn wc, .bool fa]] w fun e w' => e = .returned (.bool true) ∧ Below w.heap.size w w' := by
  have HSM := fun w h h' => small_at t c A n k r R m0 ra S m1 sa l0 l1 me (by omega) w h h'
  rw [hsm] at HSM
  clear hsm hnn
  have K : Hid (Kp w [(2, [.int .i64 ki, .int .i64 i, .int .u64 (a : Int), .int .u64 (b : Int), .slice D dn dc, .slice W wn wc]), (1, [.int .i64 t, .int .i64 c, .slice A n k, .int .u64 (r : Int), .slice R m0 ra, .slice S m1 sa])] [] (((w.alloc (.cells #[.int .i64 t, .int .i64 c, .slice A n k, .int .u64 (r : Int), .slice R m0 ra, .slice S m1 sa, .int .i64 me, .int .i64 ki, .int .i64 i, .int .u64 (a : Int), .int .u64 (b : Int), .slice D dn dc, .slice W wn wc, .bool fa] 48)).alloc (.cells #[.int .i64 t, .int .i64 c, .slice A n k, .int .u64 (r : Int), .slice R m0 ra, .slice S m1 sa] 31)).alloc (.cells #[.int .i64 ki, .int .i64 i, .int .u64 (a : Int), .int .u64 (b : Int), .slice D dn dc, .slice W wn wc] 34))) :=
    Lib.hid ((((Kp.nil w).alloc (.cells #[.int .i64 t, .int .i64 c, .slice A n k, .int .u64 (r : Int), .slice R m0 ra, .slice S m1 sa, .int .i64 me, .int .i64 ki, .int .i64 i, .int .u64 (a : Int), .int .u64 (b : Int), .slice D dn dc, .slice W wn wc, .bool fa] 48)).var 1 (by simp) #[.int .i64 t, .int .i64 c, .slice A n k, .int .u64 (r : Int), .slice R m0 ra, .slice S m1 sa] 31).var 2 (by simp) #[.int .i64 ki, .int .i64 i, .int .u64 (a : Int), .int .u64 (b : Int), .slice D dn dc, .slice W wn wc] 34)
  have PA := Lib.hid (hP0.out.later K.out.bel)
  go_enter Try.func4, Try.ntmps4
  go_wp2_with fail
  (with_reducible refine (shown_any _).mono ?_)
  rintro e w1 ⟨rfl, hb⟩
  have Kn := Lib.hid (K.out.later hb); clear K; have K := Kn; clear Kn
  have PAn := Lib.hid (PA.out.later hb); clear PA; have PA := PAn; clear PAn
  clear hb
  obtain ⟨_, ⟨c0, c1, c2, c3, c4, c5⟩, _⟩ := (K.out.at_ (o := 1) (.tail _ (.head _))).six
  obtain ⟨_, ⟨a0, a1, a2, a3, a4, a5⟩, _⟩ := (K.out.at_ (o := 2) (.head _)).six
  go_wp2_with fail
  (with_reducible refine (HSM _ PA.out.g0 PA.out.g1).mono ?_)
  rintro e w2 ⟨rfl, hb⟩
  have Kn := Lib.hid (K.out.later hb); clear K; have K := Kn; clear Kn
  have PAn := Lib.hid (PA.out.later hb); clear PA; have PA := PAn; clear PAn
  clear c0 c1 c2 c3 c4 c5 a0 a1 a2 a3 a4 a5
  clear hb HSM
  obtain ⟨_, ⟨c0, c1, c2, c3, c4, c5⟩, _⟩ := (K.out.at_ (o := 1) (.tail _ (.head _))).six
  obtain ⟨_, ⟨a0, a1, a2, a3, a4, a5⟩, _⟩ := (K.out.at_ (o := 2) (.head _)).six
  rcases hcase with h1 | ⟨h1, h2⟩
  · go_wp2_with fail
    go_ret
    exact ⟨rfl, K.out.bel⟩
  · go_wp2_with fail
    go_ret
    exact ⟨rfl, K.out.bel⟩

set_option maxRecDepth 100000 in
set_option maxHeartbeats 8000000 in
theorem walk (t c : Int) (A : Option Addr) (n k : Nat) (F : Nat → Nat) (r : Nat) (R : Option Addr) (m0 ra : Nat) (S : Option Addr) (sa : Nat) (l0 l1 : List Stm) (me ki i : Int) (a b : Nat) (D : Option Addr) (dn dc : Nat) (ys : List Nat) (W : Option Addr) (wn wc : Nat) (ws : Nat → Nat) (fa : Bool) (hsm : smallB t c n l0 l1 me = true) (hnn : n ≤ 140737488355328) (hn6 : n ≤ 600) (hn0 : 0 < n) (h1 : decide ((500 : Int) < (dn : Int)) = false) (h2 : (ki == 13) = false) (r1 : Nat) (G : Nat → Nat) (P0 P1 : List Stm) (N : Nat) (xs : List Nat) (fl : Bool) (HD1 : DoCalls t c A n k F r R S m0 ra sa l0 l1 me ki i a b D dn dc ys W wn wc ws fa 14 r1 G P0 P1 N xs fl) (hG : ∀ j : Nat, j < n → G j = F j ∨ (G j ≠ F j ∧ ((j : Int) != i) = false ∧ decide (4 < ki) = false)) (p pd : Bool) (hpp : sameD (r1 : Int) (r : Int) m0 m0 P0 P1 l0 l1 = p) (hpd : diskB ki = pd) (hright : rightW t c n P0 P1 = true) (hcase : (pd = false ∧ fl = false ∧ p = true) ∨ (pd = true ∧ fa = false ∧ fl = false) ∨ (pd = true ∧ fa = true ∧ fl = true ∧ p = true ∧ ((N : Int) == 0) = true ∧ ((xs.length : Int) == 0) = true)) (w : World) (hP0 : Hid (ParmAt w A n F R m0 S m0 l0 l1 D dn ys W wn ws)) :
    Calls Try.prog 4 #[.agg #[.int .i64 t, .int .i64 c, .slice A n k, .int .u64 (r : Int), .slice R m0 ra, .slice S m0 sa, .int .i64 me, .int .i64 ki, .int .i64 i, .int .u64 (a : Int), .int .u64 (b : Int), .slice D dn dc, .slice W wn wc, .bool fa]] w fun e w' => e = .returned (.bool true) ∧ Below w.heap.size w w' := by
  have HC := Lib.hid hcase
  have HGG := Lib.hid hG
  have HDK := fun w => disk_any ki w
  rw [hpd] at HDK
  have HSD := fun (R9 : Option Addr) (ra9 : Nat) (S9 : Option Addr) (sa9 : Nat) w g0 g1 g2 g3 => sameD_any (r1 : Int) (r : Int) R9 m0 ra9 S9 m0 sa9 R ra S sa P0 P1 l0 l1 w g0 g1 g2 g3
  rw [hpp] at HSD
  clear hpp
  have HN := Lib.hid hn6
  have HN0 := Lib.hid hn0
  have HRT := Lib.hid hright
  clear hcase hG hpd hn6 hn0 hright
  have HSM := fun w h h' => small_at t c A n k r R m0 ra S m0 sa l0 l1 me (by omega) w h h'
  rw [hsm] at HSM
  clear hsm hnn
  have K : Hid (Kp w [(2, [.int .i64 ki, .int .i64 i, .int .u64 (a : Int), .int .u64 (b : Int), .slice D dn dc, .slice W wn wc]), (1, [.int .i64 t, .int .i64 c, .slice A n k, .int .u64 (r : Int), .slice R m0 ra, .slice S m0 sa])] [] (((w.alloc (.cells #[.int .i64 t, .int .i64 c, .slice A n k, .int .u64 (r : Int), .slice R m0 ra, .slice S m0 sa, .int .i64 me, .int .i64 ki, .int .i64 i, .int .u64 (a : Int), .int .u64 (b : Int), .slice D dn dc, .slice W wn wc, .bool fa] 48)).alloc (.cells #[.int .i64 t, .int .i64 c, .slice A n k, .int .u64 (r : Int), .slice R m0 ra, .slice S m0 sa] 31)).alloc (.cells #[.int .i64 ki, .int .i64 i, .int .u64 (a : Int), .int .u64 (b : Int), .slice D dn dc, .slice W wn wc] 34))) :=
    Lib.hid ((((Kp.nil w).alloc (.cells #[.int .i64 t, .int .i64 c, .slice A n k, .int .u64 (r : Int), .slice R m0 ra, .slice S m0 sa, .int .i64 me, .int .i64 ki, .int .i64 i, .int .u64 (a : Int), .int .u64 (b : Int), .slice D dn dc, .slice W wn wc, .bool fa] 48)).var 1 (by simp) #[.int .i64 t, .int .i64 c, .slice A n k, .int .u64 (r : Int), .slice R m0 ra, .slice S m0 sa] 31).var 2 (by simp) #[.int .i64 ki, .int .i64 i, .int .u64 (a : Int), .int .u64 (b : Int), .slice D dn dc, .slice W wn wc] 34)
  have PA := Lib.hid (hP0.out.later K.out.bel)
  go_enter Try.func4, Try.ntmps4
  go_wp2_with fail
  (with_reducible refine (shown_any _).mono ?_)
  rintro e w1 ⟨rfl, hb⟩
  have Kn := Lib.hid (K.out.later hb); clear K; have K := Kn; clear Kn
  have PAn := Lib.hid (PA.out.later hb); clear PA; have PA := PAn; clear PAn
  clear hb
  obtain ⟨_, ⟨c0, c1, c2, c3, c4, c5⟩, _⟩ := (K.out.at_ (o := 1) (.tail _ (.head _))).six
  obtain ⟨_, ⟨a0, a1, a2, a3, a4, a5⟩, _⟩ := (K.out.at_ (o := 2) (.head _)).six
  go_wp2_with fail
  (with_reducible refine (HSM _ PA.out.g0 PA.out.g1).mono ?_)
  rintro e w2 ⟨rfl, hb⟩
  have Kn := Lib.hid (K.out.later hb); clear K; have K := Kn; clear Kn
  have PAn := Lib.hid (PA.out.later hb); clear PA; have PA := PAn; clear PAn
  clear c0 c1 c2 c3 c4 c5 a0 a1 a2 a3 a4 a5
  clear hb HSM
  obtain ⟨_, ⟨c0, c1, c2, c3, c4, c5⟩, _⟩ := (K.out.at_ (o := 1) (.tail _ (.head _))).six
  obtain ⟨_, ⟨a0, a1, a2, a3, a4, a5⟩, _⟩ := (K.out.at_ (o := 2) (.head _)).six
  go_upto_region 8 with fail
  have n1 : ¬ (w.heap.size + 1 = w2.heap.size) := by have := (K.out.at_ (o := 1) (.tail _ (.head _))).1; omega
  have n2 : ¬ (w2.heap.size = w.heap.size + 1) := fun e => n1 e.symm
  have n3 : w.heap.size + 1 < w2.heap.size := (K.out.at_ (o := 1) (.tail _ (.head _))).1
  go_wp2_with (at_builtin; (obtain ⟨bb0, off, rfl, _, _⟩ := PA.out.gA.out.2 HN0.out); (refine wpList_append_wds (by rfl) (.tmp 38) (.tmp 41) (by rfl) w2.heap.size (by rfl) ⟨bb0, off, none⟩ n k F (by rfl) PA.out.gA.out HN0.out (by have := HN.out; omega) (by rfl) ?_); (intro g cap w3 hrow hg hcap hb; have HROW := Lib.hid hrow; have Kn := Lib.hid (K.out.later hb); clear K; have K := Kn; clear Kn; have PAn := Lib.hid (PA.out.later hb); clear PA; have PA := PAn; clear PAn; clear c0 c1 c2 c3 c4 c5 a0 a1 a2 a3 a4 a5; obtain ⟨_, ⟨c0, c1, c2, c3, c4, c5⟩, _⟩ := (K.out.at_ (o := 1) (.tail _ (.head _))).six; obtain ⟨_, ⟨a0, a1, a2, a3, a4, a5⟩, _⟩ := (K.out.at_ (o := 2) (.head _)).six; clear hrow hg hcap hb))
  have BB := Lib.hid K.out.bel
  clear c0 c1 c2 c3 c4 c5 a0 a1 a2 a3 a4 a5
  refine (HD1 _ PA.out.gA PA.out.g0 PA.out.g1 PA.out.gD PA.out.gW).mono ?_
  rintro e w9 ⟨A9, ka9, R9, ra9, S9, sa9, X9, kx9, rfl, ha, hs0, hs1, hk, hx, hb, hP⟩
  go_upto_region 10 with fail
  obtain ⟨x9, hx9⟩ : ∃ x, (w9.alloc (.cells #[.int .i64 t, .int .i64 c, .slice A9 n ka9, .int .u64 (r1 : Int), .slice R9 m0 ra9, .slice S9 m0 sa9] 31)).alloc (.cells #[.int .u64 (N : Int), .slice X9 xs.length kx9, .bool fl] 42) = x := ⟨_, rfl⟩
  have hbx : Below w9.heap.size w9 x9 := by rw [← hx9]; exact below_pair _ _ _
  have W9 : Hid (WdAt x9 w9.heap.size t c A9 n ka9 r1 R9 m0 ra9 S9 sa9 G P0 P1) := Lib.hid (by rw [← hx9]; exact WdAt.made w9 _ _ ha hs0 hs1)
  have V9 : Hid (ResAt x9 (w9.heap.size + 1) N X9 kx9 xs fl) := Lib.hid (by rw [← hx9]; exact ResAt.made w9 _ _ hx)
  have hbn := hb.trans (hbx.mono hb.size)
  have Kn := Lib.hid (K.out.later hbn); clear K; have K := Kn; clear Kn
  have PAn := Lib.hid (PA.out.later hbn); clear PA; have PA := PAn; clear PAn
  have HROWn := Lib.hid (HROW.out.later hbn); clear HROW; have HROW := HROWn; clear HROWn
  have BBn := Lib.hid (BB.out.trans (hbn.mono BB.out.size)); clear BB; have BB := BBn; clear BBn
  clear ha hs0 hs1 hk hx hb hP hbx hbn
  rw [hx9]
  clear hx9
  obtain ⟨_, ⟨c0, c1, c2, c3, c4, c5⟩, _⟩ := (K.out.at_ (o := 1) (.tail _ (.head _))).six
  obtain ⟨_, ⟨a0, a1, a2, a3, a4, a5⟩, _⟩ := (K.out.at_ (o := 2) (.head _)).six
  obtain ⟨e0, e1, e2, e3, e4, e5⟩ := W9.out.cells
  go_upto_region 12 with fail
  clear c0 c1 c2 c3 c4 c5 a0 a1 a2 a3 a4 a5 e0 e1 e2 e3 e4 e5
  obtain ⟨b9, o9, rfl, _, _⟩ := W9.out.gA.out.2 HN0.out
  go_wp2_with fail
  go_loopw [11] (fun u11 wr => ∃ q : Nat, q ≤ n ∧ u11 = .int .i64 (q : Int) ∧ OneRel w [.int .i64 t, .int .i64 c, .slice (some ⟨bb0, off, none⟩) n k, .int .u64 (r : Int), .slice R m0 ra, .slice S m0 sa] [.int .i64 ki, .int .i64 i, .int .u64 (a : Int), .int .u64 (b : Int), .slice D dn dc, .slice W wn wc] [.int .i64 t, .int .i64 c, .slice (some ⟨b9, o9, none⟩) n ka9, .int .u64 (r1 : Int), .slice R9 m0 ra9, .slice S9 m0 sa9] [.int .u64 (N : Int), .slice X9 xs.length kx9, .bool fl] w9.heap.size (w9.heap.size + 1) (some ⟨bb0, off, none⟩) (some ⟨b9, o9, none⟩) g n F G R S R9 S9 m0 l0 l1 P0 P1 wr) (fun u11 _ => n - (intOf u11).toNat)
  case atStart => exact ⟨0, Nat.zero_le _, rfl, ⟨BB.out, K.out.at_ (o := 1) (.tail _ (.head _)), K.out.at_ (o := 2) (.head _), W9.out.1, V9.out.1, PA.out.gA.out, W9.out.gA.out, HROW.out, PA.out.g0.out, PA.out.g1.out, W9.out.g0.out, W9.out.g1.out⟩⟩
  case round =>
    obtain ⟨q, hq, rfl, hrel⟩ := hrel
    have HR := Lib.hid hrel
    obtain ⟨_, ⟨c0, c1, c2, c3, c4, c5⟩, _⟩ := hrel.k1.six
    obtain ⟨_, ⟨a0, a1, a2, a3, a4, a5⟩, _⟩ := hrel.k2.six
    obtain ⟨_, ⟨e0, e1, e2, e3, e4, e5⟩, _⟩ := hrel.k9.six
    by_cases hlt : q < n
    · obtain ⟨b, o, e, _, y0⟩ := hrel.hA.2 (by omega)
      cases e
      obtain ⟨b, o, e, _, y1⟩ := hrel.hG.2 (by omega)
      cases e
      have z0 := y0 q hlt
      have z1 := y1 q hlt
      have z2 := hrel.hW.2.2.1 q hlt
      have i0 : (0 : Int) ≤ (q : Int) := by omega
      have i1 : (q : Int) < (n : Int) := by omega
      have hgg := HGG.out q hlt
      have hn600 := HN.out
      clear y0 y1 hrel HGG K PA W9 V9 HROW
      rcases hgg with hg | ⟨hg, hi, hk⟩
      · rw [hg] at z1
        generalize F q = fq at *
        clear hg
        go_wp2_with fail
        go_quiet (fail)
        go_wp2_with fail
        go_roundw
        case rel => exact ⟨q + 1, by omega, by go_num, HR.out.drewN nq⟩
        case measure => simp [intOf]; omega
      · have hne : ((G q : Int) != (F q : Int)) = true := by rw [bne_iff_ne]; omega
        generalize F q = fq at *
        generalize G q = gq at *
        clear hg
        go_wp2_with fail
        go_quiet (fail)
        go_wp2_with fail
        go_roundw
        case rel => exact ⟨q + 1, by omega, by go_num, HR.out.drewN nq⟩
        case measure => simp [intOf]; omega
    · obtain rfl : q = n := by omega
      clear hrel K PA W9 V9 HROW HGG
      go_wp2_with fail
      (with_reducible refine (HSD R9 ra9 S9 sa9 _ (Lib.hid HR.out.t0) (Lib.hid HR.out.t1) (Lib.hid HR.out.s0) (Lib.hid HR.out.s1)).mono ?_)
      rintro e w10 ⟨rfl, hb⟩
      have B10 := Lib.hid (HR.out.below.trans (hb.mono HR.out.below.size))
      have K2 := Lib.hid (HR.out.k2.below hb)
      have K9 := Lib.hid (HR.out.k9.below hb)
      have K10 := Lib.hid (HR.out.k10.below hb)
      have T0 := Lib.hid (HR.out.t0.later hb)
      have T1 := Lib.hid (HR.out.t1.later hb)
      clear hb c0 c1 c2 c3 c4 c5 a0 a1 a2 a3 a4 a5 e0 e1 e2 e3 e4 e5
      go_upto_region 18 with fail
      obtain ⟨_, ⟨a0, a1, a2, a3, a4, a5⟩, _⟩ := K2.out.six
      obtain ⟨_, ⟨e0, e1, e2, e3, e4, e5⟩, _⟩ := K9.out.six
      obtain ⟨_, v0, v1, v2, _⟩ := K10.out.three
      have HRX : ∀ u : After w10, Calls Try.prog 12 #[.agg #[.int .i64 t, .int .i64 c, .slice (some ⟨b9, o9, none⟩) q ka9, .int .u64 (r1 : Int), .slice R9 m0 ra9, .slice S9 m0 sa9]] u.w (Kept u.w (.bool true)) := fun u => by
        have h := accRight_at t c (some ⟨b9, o9, none⟩) q ka9 r1 R9 m0 ra9 S9 m0 sa9 P0 P1 u.w (Lib.hid (T0.out.later u.below)) (Lib.hid (T1.out.later u.below))
        rw [HRT.out] at h
        exact h
      have rA0 : ∀ u : After w10, u.w.cell? ⟨w.heap.size + 2, 0, none⟩ = some (.int .i64 ki) := After.cells a0 rfl
      have rE0 : ∀ u : After w10, u.w.cell? ⟨w9.heap.size, 0, none⟩ = some (.int .i64 t) := After.cells e0 rfl
      have rE1 : ∀ u : After w10, u.w.cell? ⟨w9.heap.size, 1, none⟩ = some (.int .i64 c) := After.cells e1 rfl
      have rE2 : ∀ u : After w10, u.w.cell? ⟨w9.heap.size, 2, none⟩ = some (.slice (some ⟨b9, o9, none⟩) q ka9) := After.cells e2 rfl
      have rE3 : ∀ u : After w10, u.w.cell? ⟨w9.heap.size, 3, none⟩ = some (.int .u64 (r1 : Int)) := After.cells e3 rfl
      have rE4 : ∀ u : After w10, u.w.cell? ⟨w9.heap.size, 4, none⟩ = some (.slice R9 m0 ra9) := After.cells e4 rfl
      have rE5 : ∀ u : After w10, u.w.cell? ⟨w9.heap.size, 5, none⟩ = some (.slice S9 m0 sa9) := After.cells e5 rfl
      have rV0 : ∀ u : After w10, u.w.cell? ⟨w9.heap.size + 1, 0, none⟩ = some (.int .u64 (N : Int)) := After.cells v0 rfl
      have rV1 : ∀ u : After w10, u.w.cell? ⟨w9.heap.size + 1, 1, none⟩ = some (.slice X9 xs.length kx9) := After.cells v1 rfl
      have rV2 : ∀ u : After w10, u.w.cell? ⟨w9.heap.size + 1, 2, none⟩ = some (.bool fl) := After.cells v2 rfl
      clear a0 a1 a2 a3 a4 a5 e0 e1 e2 e3 e4 e5 v0 v1 v2
      rcases HC.out with ⟨rfl, rfl, rfl⟩ | ⟨rfl, rfl, rfl⟩ | ⟨rfl, rfl, rfl, rfl, q1, q2⟩
      · clear HC
        cases fa
        · skip
          refine wp_region_after _ (by kernel_rfl) (by kernel_rfl) rfl (by kernel_rfl) ?_
          repeat (go_big_quiet_step ((first | (go_at_call 12; with_reducible exact after_kept (HRX _)) | (go_at_call 13; with_reducible exact after_same (HDK _)))))
          refine wpQuiet_nil ?_
          intro w11 hw11
          obtain ⟨u11, hu11⟩ := hw11
          subst hu11
          go_wp2_with fail
          go_ret
          exact ⟨rfl, B10.out.trans (Below.mono u11.below B10.out.size)⟩
        · skip
          refine wp_region_after _ (by kernel_rfl) (by kernel_rfl) rfl (by kernel_rfl) ?_
          repeat (go_big_quiet_step ((first | (go_at_call 12; with_reducible exact after_kept (HRX _)) | (go_at_call 13; with_reducible exact after_same (HDK _)))))
          refine wpQuiet_nil ?_
          intro w11 hw11
          obtain ⟨u11, hu11⟩ := hw11
          subst hu11
          go_wp2_with fail
          go_ret
          exact ⟨rfl, B10.out.trans (Below.mono u11.below B10.out.size)⟩
      · clear HC
        refine wp_region_after _ (by kernel_rfl) (by kernel_rfl) rfl (by kernel_rfl) ?_
        repeat (go_big_quiet_step ((first | (go_at_call 12; with_reducible exact after_kept (HRX _)) | (go_at_call 13; with_reducible exact after_same (HDK _)))))
        refine wpQuiet_nil ?_
        intro w11 hw11
        obtain ⟨u11, hu11⟩ := hw11
        subst hu11
        go_wp2_with fail
        go_ret
        exact ⟨rfl, B10.out.trans (Below.mono u11.below B10.out.size)⟩
      · clear HC
        refine wp_region_after _ (by kernel_rfl) (by kernel_rfl) rfl (by kernel_rfl) ?_
        repeat (go_big_quiet_step ((first | (go_at_call 12; with_reducible exact after_kept (HRX _)) | (go_at_call 13; with_reducible exact after_same (HDK _)))))
        refine wpQuiet_nil ?_
        intro w11 hw11
        obtain ⟨u11, hu11⟩ := hw11
        subst hu11
        go_wp2_with fail
        go_ret
        exact ⟨rfl, B10.out.trans (Below.mono u11.below B10.out.size)⟩
section
set_option maxRecDepth 100000
set_option maxHeartbeats 2000000
variable {H : Type} {enc : TypeId × Value → H} {w : World}
theorem open_a {v : Value} {d : DataW H} {ps : List MemPlace} {base : Nat} (hval : Value.okWide Try.prog w .any base 48 v) (h : DataW.Trod enc Try.prog w 0 (fun _ => true) true 48 v d ps) (hs : Sized Try.prog 48 d) (hlt : ∀ z ∈ ps, z.block < w.heap.size) :
    ∃ (aWMemT : Int) (aWMemC : Int) (aWMemWordA : Option Addr) (aWMemWordL aWMemWordC : Nat) (aWMemWordf : Nat → Nat) (aWDiskRoot : Nat) (aWDiskRows0A : Option Addr) (aWDiskRows0L aWDiskRows0C : Nat) (aWDiskRows0l : List Stm) (aWDiskRows1A : Option Addr) (aWDiskRows1L aWDiskRows1C : Nat) (aWDiskRows1l : List Stm) (aMe : Int) (aAKind : Int) (aACell : Int) (aAA : Nat) (aAB : Nat) (aADataA : Option Addr) (aADataL aADataC : Nat) (aADatax : List Nat) (aAWordA : Option Addr) (aAWordL aAWordC : Nat) (aAWordf : Nat → Nat) (aFail : Bool), v = .agg #[.int .i64 aWMemT, .int .i64 aWMemC, .slice aWMemWordA aWMemWordL aWMemWordC, .int .u64 (aWDiskRoot : Int), .slice aWDiskRows0A aWDiskRows0L aWDiskRows0C, .slice aWDiskRows1A aWDiskRows1L aWDiskRows1C, .int .i64 aMe, .int .i64 aAKind, .int .i64 aACell, .int .u64 (aAA : Int), .int .u64 (aAB : Int), .slice aADataA aADataL aADataC, .slice aAWordA aAWordL aAWordC, .bool aFail] ∧ (-9223372036854775808 ≤ aWMemT ∧ aWMemT < 9223372036854775808) ∧ (-9223372036854775808 ≤ aWMemC ∧ aWMemC < 9223372036854775808) ∧ (aWMemWordL ≤ aWMemWordC ∧ aWMemWordL ≤ 140737488355328 ∧ AtW w aWMemWordA aWMemWordL aWMemWordf) ∧ aWDiskRoot < 18446744073709551616 ∧ (aWDiskRows0L ≤ aWDiskRows0C ∧ StmsAt w aWDiskRows0A aWDiskRows0L aWDiskRows0l) ∧ (aWDiskRows1L ≤ aWDiskRows1C ∧ StmsAt w aWDiskRows1A aWDiskRows1L aWDiskRows1l) ∧ (-9223372036854775808 ≤ aMe ∧ aMe < 9223372036854775808) ∧ (-9223372036854775808 ≤ aAKind ∧ aAKind < 9223372036854775808) ∧ (-9223372036854775808 ≤ aACell ∧ aACell < 9223372036854775808) ∧ aAA < 18446744073709551616 ∧ aAB < 18446744073709551616 ∧ (aADataL ≤ aADataC ∧ aADataL ≤ 140737488355328 ∧ AtB w aADataA aADataL aADatax) ∧ (aAWordL ≤ aAWordC ∧ aAWordL ≤ 140737488355328 ∧ AtW w aAWordA aAWordL aAWordf) := by
  obtain ⟨cs, rfl, hsz⟩ := okWide_struct Try.underlying48 hval
  obtain ⟨fuel, hf⟩ := h
  have hcs : (Value.agg cs).cells.toList = cs.toList := rfl
  rw [hcs] at hf
  have hcl : cs.toList.length = 14 := by rw [Array.length_toList, hsz]; kernel_rfl
  obtain ⟨c0, c1, c2, c3, c4, c5, c6, c7, c8, c9, c10, c11, c12, c13, hL⟩ : ∃ c0 c1 c2 c3 c4 c5 c6 c7 c8 c9 c10 c11 c12 c13, cs.toList = [c0, c1, c2, c3, c4, c5, c6, c7, c8, c9, c10, c11, c12, c13] := ⟨_, _, _, _, _, _, _, _, _, _, _, _, _, _, cells_of hcl .nilIface⟩
  rw [hL] at hf
  rw [list_agg hL]
  clear hcl hL hsz hcs
  obtain ⟨y0, n0, g0, s0, q0⟩ := field_at Try.underlying48 hf 0 _ rfl 31 0 6 [c0, c1, c2, c3, c4, c5] rfl rfl (by kernel_rfl) rfl hs hlt
  obtain ⟨y1, n1, g1, s1, q1⟩ := field_at Try.underlying31 g0 0 _ rfl 24 0 3 [c0, c1, c2] rfl rfl (by kernel_rfl) rfl s0 q0
  obtain ⟨y2, n2, g2, s2, q2⟩ := field_at Try.underlying24 g1 0 _ rfl 3 0 1 [c0] rfl rfl (by kernel_rfl) rfl s1 q1
  obtain ⟨aWMemT, e3, haWMemT⟩ := leaf_i64 Try.underlying3 g2
  cases e3
  obtain ⟨y4, n4, g4, s4, q4⟩ := field_at Try.underlying24 g1 1 _ rfl 3 1 1 [c1] rfl rfl (by kernel_rfl) rfl s1 q1
  obtain ⟨aWMemC, e5, haWMemC⟩ := leaf_i64 Try.underlying3 g4
  cases e5
  obtain ⟨y6, n6, g6, s6, q6⟩ := field_at Try.underlying24 g1 2 _ rfl 22 2 1 [c2] rfl rfl (by kernel_rfl) rfl s1 q1
  obtain ⟨aWMemWordA, aWMemWordL, aWMemWordC, aWMemWordf, e7, haWMemWord⟩ := leaf_words g6 s6 q6
  cases e7
  obtain ⟨y8, n8, g8, s8, q8⟩ := field_at Try.underlying31 g0 1 _ rfl 29 3 3 [c3, c4, c5] rfl rfl (by kernel_rfl) rfl s0 q0
  obtain ⟨y9, n9, g9, s9, q9⟩ := field_at Try.underlying29 g8 0 _ rfl 25 0 1 [c3] rfl rfl (by kernel_rfl) rfl s8 q8
  obtain ⟨aWDiskRoot, e10, haWDiskRoot⟩ := leaf_u64 Try.underlying25 g9
  cases e10
  obtain ⟨y11, n11, g11, s11, q11⟩ := field_at Try.underlying29 g8 1 _ rfl 27 1 2 [c4, c5] rfl rfl (by kernel_rfl) rfl s8 q8
  obtain ⟨y12, n12, g12, s12, q12⟩ := elem_at Try.underlying27 g11 0 (by decide) 1 [c4] (by kernel_rfl) rfl s11 q11
  obtain ⟨aWDiskRows0A, aWDiskRows0L, aWDiskRows0C, aWDiskRows0l, e13, haWDiskRows0⟩ := leaf_streams g12 s12 q12
  cases e13
  obtain ⟨y14, n14, g14, s14, q14⟩ := elem_at Try.underlying27 g11 1 (by decide) 1 [c5] (by kernel_rfl) rfl s11 q11
  obtain ⟨aWDiskRows1A, aWDiskRows1L, aWDiskRows1C, aWDiskRows1l, e15, haWDiskRows1⟩ := leaf_streams g14 s14 q14
  cases e15
  obtain ⟨y16, n16, g16, s16, q16⟩ := field_at Try.underlying48 hf 1 _ rfl 3 6 1 [c6] rfl rfl (by kernel_rfl) rfl hs hlt
  obtain ⟨aMe, e17, haMe⟩ := leaf_i64 Try.underlying3 g16
  cases e17
  obtain ⟨y18, n18, g18, s18, q18⟩ := field_at Try.underlying48 hf 2 _ rfl 34 7 6 [c7, c8, c9, c10, c11, c12] rfl rfl (by kernel_rfl) rfl hs hlt
  obtain ⟨y19, n19, g19, s19, q19⟩ := field_at Try.underlying34 g18 0 _ rfl 3 0 1 [c7] rfl rfl (by kernel_rfl) rfl s18 q18
  obtain ⟨aAKind, e20, haAKind⟩ := leaf_i64 Try.underlying3 g19
  cases e20
  obtain ⟨y21, n21, g21, s21, q21⟩ := field_at Try.underlying34 g18 1 _ rfl 3 1 1 [c8] rfl rfl (by kernel_rfl) rfl s18 q18
  obtain ⟨aACell, e22, haACell⟩ := leaf_i64 Try.underlying3 g21
  cases e22
  obtain ⟨y23, n23, g23, s23, q23⟩ := field_at Try.underlying34 g18 2 _ rfl 25 2 1 [c9] rfl rfl (by kernel_rfl) rfl s18 q18
  obtain ⟨aAA, e24, haAA⟩ := leaf_u64 Try.underlying25 g23
  cases e24
  obtain ⟨y25, n25, g25, s25, q25⟩ := field_at Try.underlying34 g18 3 _ rfl 25 3 1 [c10] rfl rfl (by kernel_rfl) rfl s18 q18
  obtain ⟨aAB, e26, haAB⟩ := leaf_u64 Try.underlying25 g25
  cases e26
  obtain ⟨y27, n27, g27, s27, q27⟩ := field_at Try.underlying34 g18 4 _ rfl 32 4 1 [c11] rfl rfl (by kernel_rfl) rfl s18 q18
  obtain ⟨aADataA, aADataL, aADataC, aADatax, e28, haAData⟩ := leaf_bytes g27 s27 q27
  cases e28
  obtain ⟨y29, n29, g29, s29, q29⟩ := field_at Try.underlying34 g18 5 _ rfl 22 5 1 [c12] rfl rfl (by kernel_rfl) rfl s18 q18
  obtain ⟨aAWordA, aAWordL, aAWordC, aAWordf, e30, haAWord⟩ := leaf_words g29 s29 q29
  cases e30
  obtain ⟨y31, n31, g31, s31, q31⟩ := field_at Try.underlying48 hf 3 _ rfl 4 13 1 [c13] rfl rfl (by kernel_rfl) rfl hs hlt
  obtain ⟨aFail, e32⟩ := leaf_bool Try.underlying4 g31
  cases e32
  exact ⟨aWMemT, aWMemC, aWMemWordA, aWMemWordL, aWMemWordC, aWMemWordf, aWDiskRoot, aWDiskRows0A, aWDiskRows0L, aWDiskRows0C, aWDiskRows0l, aWDiskRows1A, aWDiskRows1L, aWDiskRows1C, aWDiskRows1l, aMe, aAKind, aACell, aAA, aAB, aADataA, aADataL, aADataC, aADatax, aAWordA, aAWordL, aAWordC, aAWordf, aFail, rfl, haWMemT, haWMemC, haWMemWord, haWDiskRoot, haWDiskRows0, haWDiskRows1, haMe, haAKind, haACell, haAA, haAB, haAData, haAWord⟩
end

set_option maxRecDepth 100000 in
set_option maxHeartbeats 8000000 in
theorem lifted (os : Os) (started : os.Started) (H : Type) (enc : TypeId × Value → H) :
    ReturnsInHanded {} Try.checked os 4 .any (Rows.accessOneSpec.pre6 enc Try.prog Try.f4 Rows.accessOneRow.domain false) (Rows.accessOneSpec.post enc Try.prog Try.f4 false true false false) := by
  refine law_lifted (C := Try.checked) own started (by kernel_rfl) Try.func4
    (ChangeSpec.witness6 (enc := enc) (C := Try.checked) false ⟨#[], #[.agg #[.int .i64 0, .int .i64 0, .slice none 0 0, .int .u64 0, .slice none 0 0, .slice none 0 0, .int .i64 0, .int .i64 0, .int .i64 0, .int .u64 0, .int .u64 0, .slice none 0 0, .slice none 0 0, .bool false]], []⟩ 8 (by kernel_rfl) (by kernel_rfl) (by kernel_rfl) (by kernel_rfl))
    (by kernel_rfl) (by kernel_rfl) Try.underlying4 rfl (by kernel_rfl) ?_
  intro W base args ds before hval hA hwt hlt
  have hA' : DataW.TrodAll enc Try.prog W 0 (fun _ => true) true Try.f4.params.toList args.toList ds before := hA
  have hval' : ∀ (j : Nat) t v, Try.f4.params[j]? = some t → args[j]? = some v → Value.okWide Try.prog W .any base t v := hval
  have hwt' : (DataW.weightsEach Try.prog Try.f4.params.toList ds).all (· ≤ reachBytes) = true := hwt
  rw [Try.params4] at hA' hval' hwt'
  obtain ⟨v0, vs0, d0, ds0, p0, q0, hargs, rfl, rfl, k0, r0⟩ := trodAll_cons hA'
  obtain ⟨rfl, rfl, rfl⟩ := trodAll_nil r0
  obtain rfl : args = #[v0] := by cases args; simp_all
  obtain ⟨aWMemT, aWMemC, aWMemWordA, aWMemWordL, aWMemWordC, aWMemWordf, aWDiskRoot, aWDiskRows0A, aWDiskRows0L, aWDiskRows0C, aWDiskRows0l, aWDiskRows1A, aWDiskRows1L, aWDiskRows1C, aWDiskRows1l, aMe, aAKind, aACell, aAA, aAB, aADataA, aADataL, aADataC, aADatax, aAWordA, aAWordL, aAWordC, aAWordf, aFail, rfl, haWMemT, haWMemC, haWMemWord, haWDiskRoot, haWDiskRows0, haWDiskRows1, haMe, haAKind, haACell, haAA, haAB, haAData, haAWord⟩ := open_a (hval' 0 48 v0 rfl rfl) k0 (sized_of hwt' (j := 0) (t := 48) rfl rfl) (fun x hx => hlt x (by simp [hx]))
  refine ⟨rfl, ?_⟩
  obtain ⟨hlc, hlm, hAW⟩ := haWMemWord
  obtain ⟨_, h0⟩ := haWDiskRows0
  obtain ⟨_, h1⟩ := haWDiskRows1
  obtain ⟨_, hdm, hD⟩ := haAData
  obtain ⟨_, hwm, hW⟩ := haAWord
  have PA : Hid (ParmAt W aWMemWordA aWMemWordL aWMemWordf aWDiskRows0A aWDiskRows0L aWDiskRows1A aWDiskRows1L aWDiskRows0l aWDiskRows1l aADataA aADataL aADatax aAWordA aAWordL aAWordf) := Lib.hid ⟨hAW, h0, h1, hD, hW⟩
  by_cases hsm : smallB aWMemT aWMemC aWMemWordL aWDiskRows0l aWDiskRows1l aMe = true
  · by_cases g2 : 500 < aADataL
    · exact walkBad aWMemT aWMemC aWMemWordA aWMemWordL aWMemWordC aWMemWordf aWDiskRoot aWDiskRows0A aWDiskRows0L aWDiskRows0C aWDiskRows1A aWDiskRows1L aWDiskRows1C aWDiskRows0l aWDiskRows1l aMe aAKind aACell aAA aAB aADataA aADataL aADataC aADatax aAWordA aAWordL aAWordC aAWordf aFail hsm hlm (.inl (decide_eq_true (by omega))) W PA
    have d2 : decide ((500 : Int) < (aADataL : Int)) = false := decide_eq_false (by omega)
    by_cases g3 : aAKind = 13
    · exact walkBad aWMemT aWMemC aWMemWordA aWMemWordL aWMemWordC aWMemWordf aWDiskRoot aWDiskRows0A aWDiskRows0L aWDiskRows0C aWDiskRows1A aWDiskRows1L aWDiskRows1C aWDiskRows0l aWDiskRows1l aMe aAKind aACell aAA aAB aADataA aADataL aADataC aADatax aAWordA aAWordL aAWordC aAWordf aFail hsm hlm (.inr ⟨d2, by rw [beq_iff_eq]; exact g3⟩) W PA
    have d3 : (aAKind == 13) = false := by rw [beq_eq_false_iff_ne]; exact g3
    have hs := hsm
    unfold smallB at hs
    simp only [Bool.and_eq_true, decide_eq_true_eq] at hs
    obtain ⟨hf, hr, hn6, _, _⟩ := hs
    obtain ⟨hn0, hm1, hm8, hgd, hx0, hx1, hlen⟩ := right_parts hr hf h0.1 h1.1
    obtain ⟨r1, G, P0, P1, N, xs, fl, hgood, HD1, _⟩ := doBoth aWMemT aWMemC aWMemWordA aWMemWordL aWMemWordC aWMemWordf aWDiskRoot aWDiskRows0A aWDiskRows1A aWDiskRows0L aWDiskRows0C aWDiskRows1C aWDiskRows0l aWDiskRows1l aMe aAKind aACell aAA aAB aADataA aADataL aADataC aADatax aAWordA aAWordL aAWordC aAWordf aFail haWDiskRoot (by omega) hn0 hAW.1 haAA haAB hm1 hm8 hgd hx0 hx1 (by omega)
    have hl' := hlen.symm
    subst hl'
    have hG : ∀ j : Nat, j < aWMemWordL → G j = aWMemWordf j ∨ (G j ≠ aWMemWordf j ∧ ((j : Int) != aACell) = false ∧ decide (4 < aAKind) = false) := by
      intro j hj
      rcases hgood.one g3 with e | ⟨q, v, e1, e2, e3, e4, e5⟩
      · exact .inl (by rw [e])
      · by_cases hjq : j = q
        · by_cases hv : G j = aWMemWordf j
          · exact .inl hv
          · exact .inr ⟨hv, by rw [bne_eq_false_iff_eq, e1, hjq], decide_eq_false (by omega)⟩
        · exact .inl (by rw [e5]; unfold setW; rw [if_neg hjq])
    have hright : rightW aWMemT aWMemC aWMemWordL P0 P1 = true := by
      obtain ⟨k0, k1, k2, k3⟩ := hgood.good
      have hd := right_of k0 k1 k2 k3 hm1 (by omega)
      unfold rightW at hr ⊢
      rw [hd, k0]
      simp only [Bool.and_eq_true] at hr ⊢
      obtain ⟨hr1, _, hr3⟩ := hr
      rw [h0.1] at hr3
      exact ⟨hr1, trivial, hr3⟩
    have hcase : (diskB aAKind = false ∧ fl = false ∧ sameD (r1 : Int) (aWDiskRoot : Int) aWDiskRows0L aWDiskRows0L P0 P1 aWDiskRows0l aWDiskRows1l = true) ∨ (diskB aAKind = true ∧ aFail = false ∧ fl = false) ∨
        (diskB aAKind = true ∧ aFail = true ∧ fl = true ∧ sameD (r1 : Int) (aWDiskRoot : Int) aWDiskRows0L aWDiskRows0L P0 P1 aWDiskRows0l aWDiskRows1l = true ∧ ((N : Int) == 0) = true ∧ ((xs.length : Int) == 0) = true) := by
      have hfl := hgood.fails
      cases hd : diskB aAKind with
      | false =>
        obtain ⟨e1, e2, e3⟩ := hgood.words hd
        rw [hd, Bool.and_false] at hfl
        exact .inl ⟨rfl, hfl, by rw [e1, e2, e3]; exact sameD_self _ _ _ _ _⟩
      | true =>
        rw [hd, Bool.and_true] at hfl
        cases hfa : aFail with
        | false => exact .inr (.inl ⟨rfl, rfl, by rw [hfl, hfa]⟩)
        | true =>
          obtain ⟨e1, e2, e3, e4, e5⟩ := hgood.failed (by rw [hfl, hfa])
          exact .inr (.inr ⟨rfl, rfl, by rw [hfl, hfa], by rw [e1, e2, e3]; exact sameD_self _ _ _ _ _, by rw [e4]; rfl, by rw [e5]; rfl⟩)
    exact walk aWMemT aWMemC aWMemWordA aWMemWordL aWMemWordC aWMemWordf aWDiskRoot aWDiskRows0A aWDiskRows0L aWDiskRows0C aWDiskRows1A aWDiskRows1C aWDiskRows0l aWDiskRows1l aMe aAKind aACell aAA aAB aADataA aADataL aADataC aADatax aAWordA aAWordL aAWordC aAWordf aFail hsm hlm hn6 hn0 d2 d3 r1 G P0 P1 N xs fl HD1 hG _ _ rfl rfl hright hcase W PA
  · exact walkNo aWMemT aWMemC aWMemWordA aWMemWordL aWMemWordC aWMemWordf aWDiskRoot aWDiskRows0A aWDiskRows0L aWDiskRows0C aWDiskRows1A aWDiskRows1L aWDiskRows1C aWDiskRows0l aWDiskRows1l aMe aAKind aACell aAA aAB aADataA aADataL aADataC aADatax aAWordA aAWordL aAWordC aAWordf aFail (by simpa using hsm) hlm W PA

theorem over : Rows.accessOneRow.holds Try.pinned (OpenSpec.ofChange Rows.accessOneSpec) :=
  OpenClaim.holds_of_wide 4 Try.f4 rfl rfl rfl rfl rfl rfl rfl ⟨rfl, rfl, rfl, rfl, rfl⟩ rfl rfl rfl rfl rfl (by kernel_rfl) Try.func4 (by kernel_rfl)
    (of_decide_eq_true (by kernel_rfl)) (by unfold Func.isWrapper; first | (rw [if_pos (by decide +kernel)]; kernel_rfl) | (rw [if_neg (by decide +kernel)]; exact ⟨rfl, rfl⟩))
    (fun os started H enc _ => lifted os started H enc)

/-- The statement. -/
theorem proved : Rows.AccessOneSaid :=
  over
#print axioms proved
end Go.Proofs.Ytieepdpelkpfkaa.accessOne
