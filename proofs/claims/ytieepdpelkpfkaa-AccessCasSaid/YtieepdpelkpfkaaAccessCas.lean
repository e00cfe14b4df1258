/-
  AccessCas: a word is turned just if it is what was told, and then it is what was told for it; of two, one behind the other, told alike, the second one does nothing, unless both words are the same; a load behind tells the word; for every small world. No condition beyond the statement's own.
-/
import Derived.Test.YtieepdpelkpfkaaAccShown
import Derived.Test.YtieepdpelkpfkaaAccLeaf
import Derived.Test.YtieepdpelkpfkaaLaw
import Derived.Test.YtieepdpelkpfkaaFields
import Derived.Deep.Cut
namespace Go.Proofs.Ytieepdpelkpfkaa.accessCas
open Go.ChangeShapes Go.WideShapes Go.ChangeAt Go.RowKit Go.Deep Go.BigFrame
set_option linter.unusedVariables false
theorem own : ownKnob Try.prog.godebug = none := by kernel_rfl

section
variable (t c : Int) (n : Nat) (F : Nat → Nat) (r m : Nat) (l0 l1 : List Stm) (me : Int) (q a b v : Nat)
theorem cas_hit (hq : q < n) (hn : n ≤ 1000000) (hF : ∀ j, F j < 18446744073709551616) (hb : b < 18446744073709551616) (hv : F q = v) (A : Option Addr) (k : Nat) (R : Option Addr) (ra : Nat) (S : Option Addr) (sa : Nat) (w : World) (hA : Hid (AtW w A n F)) (h0 : Hid (StmsAt w R m l0)) (h1 : Hid (StmsAt w S m l1)) :
    Calls Try.prog 14 #[.agg #[.int .i64 t, .int .i64 c, .slice A n k, .int .u64 (r : Int), .slice R m ra, .slice S m sa], .int .i64 me, .agg #[.int .i64 2, .int .i64 (q : Int), .int .u64 (v : Int), .int .u64 (b : Int), .slice none 0 0, .slice none 0 0], .bool false] w (DoW w t c A n r R S m (setW F q b) l0 l1 1 [] false) := by
  have h := doWord t c A n k F r R S m ra sa l0 l1 me v b none 0 0 none 0 0 2 q (by decide) hq hn hF (by rw [← hv]; exact hF q) hb false w hA h0 h1
  have e1 : isN 2 v b (F q) = b := if_pos hv
  have e2 : toldN 2 v b (F q) = 1 := if_pos hv
  rw [e1, e2] at h
  exact h
theorem cas_miss (hq : q < n) (hn : n ≤ 1000000) (hF : ∀ j, F j < 18446744073709551616) (ha : a < 18446744073709551616) (hb : b < 18446744073709551616) (hv : F q ≠ a) (A : Option Addr) (k : Nat) (R : Option Addr) (ra : Nat) (S : Option Addr) (sa : Nat) (w : World) (hA : Hid (AtW w A n F)) (h0 : Hid (StmsAt w R m l0)) (h1 : Hid (StmsAt w S m l1)) :
    Calls Try.prog 14 #[.agg #[.int .i64 t, .int .i64 c, .slice A n k, .int .u64 (r : Int), .slice R m ra, .slice S m sa], .int .i64 me, .agg #[.int .i64 2, .int .i64 (q : Int), .int .u64 (a : Int), .int .u64 (b : Int), .slice none 0 0, .slice none 0 0], .bool false] w (DoW w t c A n r R S m F l0 l1 0 [] false) := by
  have h := doWord t c A n k F r R S m ra sa l0 l1 me a b none 0 0 none 0 0 2 q (by decide) hq hn hF ha hb false w hA h0 h1
  have e1 : isN 2 a b (F q) = F q := if_neg hv
  have e2 : toldN 2 a b (F q) = 0 := if_neg hv
  rw [e1, e2, setW_self rfl] at h
  exact h
theorem load_word (hq : q < n) (hn : n ≤ 1000000) (hF : ∀ j, F j < 18446744073709551616) (hv : F q = v) (A : Option Addr) (k : Nat) (R : Option Addr) (ra : Nat) (S : Option Addr) (sa : Nat) (w : World) (hA : Hid (AtW w A n F)) (h0 : Hid (StmsAt w R m l0)) (h1 : Hid (StmsAt w S m l1)) :
    Calls Try.prog 14 #[.agg #[.int .i64 t, .int .i64 c, .slice A n k, .int .u64 (r : Int), .slice R m ra, .slice S m sa], .int .i64 me, .agg #[.int .i64 0, .int .i64 (q : Int), .int .u64 0, .int .u64 0, .slice none 0 0, .slice none 0 0], .bool true] w (DoW w t c A n r R S m F l0 l1 v [] false) := by
  have h := doWord t c A n k F r R S m ra sa l0 l1 me 0 0 none 0 0 none 0 0 0 q (by decide) hq hn hF (by decide) (by decide) true w hA h0 h1
  have e1 : isN 0 0 0 (F q) = F q := rfl
  have e2 : toldN 0 0 0 (F q) = F q := rfl
  rw [e1, e2, setW_self rfl, hv] at h
  exact h
end
theorem set_at {F : Nat → Nat} {q v : Nat} : setW F q v q = v := by unfold setW; rw [if_pos rfl]
theorem eqT {x y : Nat} (h : x = y) : ((x : Int) == (y : Int)) = true := by rw [beq_iff_eq]; omega
theorem eqF {x y : Nat} (h : x ≠ y) : ((x : Int) == (y : Int)) = false := by rw [beq_eq_false_iff_ne]; omega

set_option maxRecDepth 100000 in
set_option maxHeartbeats 8000000 in
theorem walkNo (t c : Int) (A : Option Addr) (n k : Nat) (F : Nat → Nat) (r : Nat) (R : Option Addr) (m0 ra : Nat) (S : Option Addr) (m1 sa : Nat) (l0 l1 : List Stm) (me : Int) (i a b : Nat) (own : Bool) (hsm : smallB t c n l0 l1 me = false) (hnn : n ≤ 140737488355328) (w : World) (hA : Hid (AtW w A n F)) (h0 : Hid (StmsAt w R m0 l0)) (h1 : Hid (StmsAt w S m1 l1)) :
    Calls Try.prog 5 #[.agg #[.int .i64 t, .int .i64 c, .slice A n k, .int .u64 (r : Int), .slice R m0 ra, .slice S m1 sa, .int .i64 me, .int .u16 (i : Int), .int .u64 (a : Int), .int .u64 (b : Int), .bool own]] w fun e w' => e = .returned (.bool true) ∧ Below w.heap.size w w' := by
  have HSM := fun w h h' => small_at t c A n k r R m0 ra S m1 sa l0 l1 me (by omega) w h h'
  rw [hsm] at HSM
  clear hsm hnn
  have K : Hid (Kp w [(1, [.int .i64 t, .int .i64 c, .slice A n k, .int .u64 (r : Int), .slice R m0 ra, .slice S m1 sa])] [] ((w.alloc (.cells #[.int .i64 t, .int .i64 c, .slice A n k, .int .u64 (r : Int), .slice R m0 ra, .slice S m1 sa, .int .i64 me, .int .u16 (i : Int), .int .u64 (a : Int), .int .u64 (b : Int), .bool own] 54)).alloc (.cells #[.int .i64 t, .int .i64 c, .slice A n k, .int .u64 (r : Int), .slice R m0 ra, .slice S m1 sa] 31))) :=
    Lib.hid (((Kp.nil w).alloc (.cells #[.int .i64 t, .int .i64 c, .slice A n k, .int .u64 (r : Int), .slice R m0 ra, .slice S m1 sa, .int .i64 me, .int .u16 (i : Int), .int .u64 (a : Int), .int .u64 (b : Int), .bool own] 54)).var 1 (by simp) #[.int .i64 t, .int .i64 c, .slice A n k, .int .u64 (r : Int), .slice R m0 ra, .slice S m1 sa] 31)
  go_enter Try.func5, Try.ntmps5
  go_wp2_with fail
  (with_reducible refine (shown_any _).mono ?_)
  rintro e w1 ⟨rfl, hb⟩
  have Kn := Lib.hid (K.out.later hb); clear K; have K := Kn; clear Kn
  clear hb
  obtain ⟨_, ⟨c0, c1, c2, c3, c4, c5⟩, _⟩ := (K.out.at_ (o := 1) (.head _)).six
  go_wp2_with fail
  (with_reducible refine (HSM _ (Lib.hid (h0.out.later K.out.bel)) (Lib.hid (h1.out.later K.out.bel))).mono ?_)
  rintro e w2 ⟨rfl, hb⟩
  have Kn := Lib.hid (K.out.later hb); clear K; have K := Kn; clear Kn
  clear c0 c1 c2 c3 c4 c5
  clear hb HSM
  obtain ⟨_, ⟨c0, c1, c2, c3, c4, c5⟩, _⟩ := (K.out.at_ (o := 1) (.head _)).six
  go_wp2_with fail
  go_ret
  exact ⟨rfl, K.out.bel⟩

set_option maxRecDepth 100000 in
set_option maxHeartbeats 8000000 in
theorem walk_true_true (t c : Int) (A : Option Addr) (n k : Nat) (F : Nat → Nat) (r : Nat) (R : Option Addr) (m0 ra : Nat) (S : Option Addr) (sa : Nat) (l0 l1 : List Stm) (me : Int) (i a b : Nat) (hsm : smallB t c n l0 l1 me = true) (hnn : n ≤ 140737488355328) (q v : Nat) (hq : q < n) (hFq : F q = v) (hmod : (i : Int).tmod (n : Int) = (q : Int)) (hmod2 : (i : Int) % (n : Int) = (q : Int)) (hi16 : i < 65536) (p pb : Bool) (hp : p = true) (e0 : ((v : Int) == (v : Int)) = p) (G1 G2 G3 : Nat → Nat) (N1 N2 N3 : Nat) (e1 : ((N1 : Int) == 1) = p) (e2 : ((N1 : Int) == 0) = !p) (e3 : ((N2 : Int) == 1) = pb) (e4 : ((v : Int) == (b : Int)) = pb) (e5 : ((N3 : Int) == (b : Int)) = true) (k1 : ∀ (A : Option Addr) (k : Nat) (R : Option Addr) (ra : Nat) (S : Option Addr) (sa : Nat) (w : World), Hid (AtW w A n F) → Hid (StmsAt w R m0 l0) → Hid (StmsAt w S m0 l1) → Calls Try.prog 14 #[.agg #[.int .i64 t, .int .i64 c, .slice A n k, .int .u64 (r : Int), .slice R m0 ra, .slice S m0 sa], .int .i64 me, .agg #[.int .i64 2, .int .i64 (q : Int), .int .u64 (v : Int), .int .u64 (b : Int), .slice none 0 0, .slice none 0 0], .bool false] w (DoW w t c A n r R S m0 G1 l0 l1 N1 [] false)) (k2 : ∀ (A : Option Addr) (k : Nat) (R : Option Addr) (ra : Nat) (S : Option Addr) (sa : Nat) (w : World), Hid (AtW w A n G1) → Hid (StmsAt w R m0 l0) → Hid (StmsAt w S m0 l1) → Calls Try.prog 14 #[.agg #[.int .i64 t, .int .i64 c, .slice A n k, .int .u64 (r : Int), .slice R m0 ra, .slice S m0 sa], .int .i64 me, .agg #[.int .i64 2, .int .i64 (q : Int), .int .u64 (v : Int), .int .u64 (b : Int), .slice none 0 0, .slice none 0 0], .bool false] w (DoW w t c A n r R S m0 G2 l0 l1 N2 [] false)) (k3 : ∀ (A : Option Addr) (k : Nat) (R : Option Addr) (ra : Nat) (S : Option Addr) (sa : Nat) (w : World), Hid (AtW w A n G2) → Hid (StmsAt w R m0 l0) → Hid (StmsAt w S m0 l1) → Calls Try.prog 14 #[.agg #[.int .i64 t, .int .i64 c, .slice A n k, .int .u64 (r : Int), .slice R m0 ra, .slice S m0 sa], .int .i64 me, .agg #[.int .i64 0, .int .i64 (q : Int), .int .u64 0, .int .u64 0, .slice none 0 0, .slice none 0 0], .bool true] w (DoW w t c A n r R S m0 G3 l0 l1 N3 [] false)) (w : World) (hA : Hid (AtW w A n F)) (h0 : Hid (StmsAt w R m0 l0)) (h1 : Hid (StmsAt w S m0 l1)) :
    Calls Try.prog 5 #[.agg #[.int .i64 t, .int .i64 c, .slice A n k, .int .u64 (r : Int), .slice R m0 ra, .slice S m0 sa, .int .i64 me, .int .u16 (i : Int), .int .u64 (a : Int), .int .u64 (b : Int), .bool true]] w fun e w' => e = .returned (.bool true) ∧ Below w.heap.size w w' := by
  subst hp
  obtain ⟨bb0, off, rfl, hlt, hcell⟩ := hA.out.2 (by omega)
  have hx0 := hcell q hq
  rw [hFq] at hx0
  have HX0 := Lib.hid hx0
  have HLT := Lib.hid hlt
  have i0 : (0 : Int) ≤ (q : Int) := by omega
  have i1 : (q : Int) < (n : Int) := by omega
  have hn0 : ¬ ((n : Int) = 0) := by omega
  have hn1 : ((n : Int) == 0) = false := by rw [beq_eq_false_iff_ne]; omega
  have HFQ := Lib.hid hFq
  clear hcell hlt hx0 hFq
  have HSM := fun w h h' => small_at t c (some ⟨bb0, off, none⟩) n k r R m0 ra S m0 sa l0 l1 me (by omega) w h h'
  rw [hsm] at HSM
  clear hsm hnn
  have K : Hid (Kp w [(1, [.int .i64 t, .int .i64 c, .slice (some ⟨bb0, off, none⟩) n k, .int .u64 (r : Int), .slice R m0 ra, .slice S m0 sa])] [] ((w.alloc (.cells #[.int .i64 t, .int .i64 c, .slice (some ⟨bb0, off, none⟩) n k, .int .u64 (r : Int), .slice R m0 ra, .slice S m0 sa, .int .i64 me, .int .u16 (i : Int), .int .u64 (a : Int), .int .u64 (b : Int), .bool true] 54)).alloc (.cells #[.int .i64 t, .int .i64 c, .slice (some ⟨bb0, off, none⟩) n k, .int .u64 (r : Int), .slice R m0 ra, .slice S m0 sa] 31))) :=
    Lib.hid (((Kp.nil w).alloc (.cells #[.int .i64 t, .int .i64 c, .slice (some ⟨bb0, off, none⟩) n k, .int .u64 (r : Int), .slice R m0 ra, .slice S m0 sa, .int .i64 me, .int .u16 (i : Int), .int .u64 (a : Int), .int .u64 (b : Int), .bool true] 54)).var 1 (by simp) #[.int .i64 t, .int .i64 c, .slice (some ⟨bb0, off, none⟩) n k, .int .u64 (r : Int), .slice R m0 ra, .slice S m0 sa] 31)
  go_enter Try.func5, Try.ntmps5
  go_wp2_with fail
  (with_reducible refine (shown_any _).mono ?_)
  rintro e w1 ⟨rfl, hb⟩
  have Kn := Lib.hid (K.out.later hb); clear K; have K := Kn; clear Kn
  clear hb
  obtain ⟨_, ⟨c0, c1, c2, c3, c4, c5⟩, _⟩ := (K.out.at_ (o := 1) (.head _)).six
  go_wp2_with fail
  (with_reducible refine (HSM _ (Lib.hid (h0.out.later K.out.bel)) (Lib.hid (h1.out.later K.out.bel))).mono ?_)
  rintro e w2 ⟨rfl, hb⟩
  have Kn := Lib.hid (K.out.later hb); clear K; have K := Kn; clear Kn
  clear c0 c1 c2 c3 c4 c5
  clear hb HSM
  obtain ⟨_, ⟨c0, c1, c2, c3, c4, c5⟩, _⟩ := (K.out.at_ (o := 1) (.head _)).six
  have x0 : w2.cell? ⟨bb0, off + q, none⟩ = some (.int .u64 (v : Int)) := (K.out.bel.cell (p := ⟨bb0, off + q, none⟩) HLT.out).trans HX0.out
  go_wp2_with fail
  clear c0 c1 c2 c3 c4 c5
  clear x0
  have BB := Lib.hid K.out.bel
  refine (k1 _ _ _ _ _ _ _ (Lib.hid (hA.out.later BB.out)) (Lib.hid (h0.out.later BB.out)) (Lib.hid (h1.out.later BB.out))).mono ?_
  rintro e w3 ⟨A3, ka3, R3, ra3, S3, sa3, X3, kx3, rfl, ha, hs0, hs1, hk, hx, hb, hP⟩
  go_upto_region 14 with fail
  obtain ⟨x3, hx3⟩ : ∃ x, (w3.alloc (.cells #[.int .i64 t, .int .i64 c, .slice A3 n ka3, .int .u64 (r : Int), .slice R3 m0 ra3, .slice S3 m0 sa3] 31)).alloc (.cells #[.int .u64 (N1 : Int), .slice X3 0 kx3, .bool false] 42) = x := ⟨_, rfl⟩
  have hbx : Below w3.heap.size w3 x3 := by rw [← hx3]; exact below_pair _ _ _
  have W3 : Hid (WdAt x3 w3.heap.size t c A3 n ka3 r R3 m0 ra3 S3 sa3 G1 l0 l1) := Lib.hid (by rw [← hx3]; exact WdAt.made w3 _ _ ha hs0 hs1)
  have V3 : Hid (ResAt x3 (w3.heap.size + 1) N1 X3 kx3 ([] : List Nat) false) := Lib.hid (by rw [← hx3]; exact ResAt.made w3 _ _ hx)
  have hbn := hb.trans (hbx.mono hb.size)
  have Kn := Lib.hid (K.out.later hbn); clear K; have K := Kn; clear Kn
  have BBn := Lib.hid (BB.out.trans (hbn.mono BB.out.size)); clear BB; have BB := BBn; clear BBn
  clear ha hs0 hs1 hk hx hb hP hbx hbn
  rw [hx3]
  clear hx3
  obtain ⟨c0, c1, c2, c3, c4, c5⟩ := W3.out.cells
  go_wp2_with fail
  clear c0 c1 c2 c3 c4 c5
  refine (k2 _ _ _ _ _ _ _ W3.out.gA W3.out.g0 W3.out.g1).mono ?_
  rintro e w4 ⟨A4, ka4, R4, ra4, S4, sa4, X4, kx4, rfl, ha, hs0, hs1, hk, hx, hb, hP⟩
  go_upto_region 15 with fail
  obtain ⟨x4, hx4⟩ : ∃ x, (w4.alloc (.cells #[.int .i64 t, .int .i64 c, .slice A4 n ka4, .int .u64 (r : Int), .slice R4 m0 ra4, .slice S4 m0 sa4] 31)).alloc (.cells #[.int .u64 (N2 : Int), .slice X4 0 kx4, .bool false] 42) = x := ⟨_, rfl⟩
  have hbx : Below w4.heap.size w4 x4 := by rw [← hx4]; exact below_pair _ _ _
  have W4 : Hid (WdAt x4 w4.heap.size t c A4 n ka4 r R4 m0 ra4 S4 sa4 G2 l0 l1) := Lib.hid (by rw [← hx4]; exact WdAt.made w4 _ _ ha hs0 hs1)
  have V4 : Hid (ResAt x4 (w4.heap.size + 1) N2 X4 kx4 ([] : List Nat) false) := Lib.hid (by rw [← hx4]; exact ResAt.made w4 _ _ hx)
  have hbn := hb.trans (hbx.mono hb.size)
  have Kn := Lib.hid (K.out.later hbn); clear K; have K := Kn; clear Kn
  have V3n := Lib.hid (V3.out.later hbn); clear V3; have V3 := V3n; clear V3n
  have BBn := Lib.hid (BB.out.trans (hbn.mono BB.out.size)); clear BB; have BB := BBn; clear BBn
  clear ha hs0 hs1 hk hx hb hP hbx hbn
  rw [hx4]
  clear hx4
  obtain ⟨c0, c1, c2, c3, c4, c5⟩ := W4.out.cells
  go_wp2_with fail
  clear c0 c1 c2 c3 c4 c5
  refine (k3 _ _ _ _ _ _ _ W4.out.gA W4.out.g0 W4.out.g1).mono ?_
  rintro e w5 ⟨A5, ka5, R5, ra5, S5, sa5, X5, kx5, rfl, ha, hs0, hs1, hk, hx, hb, hP⟩
  go_upto_region 16 with fail
  obtain ⟨x5, hx5⟩ : ∃ x, (w5.alloc (.cells #[.int .i64 t, .int .i64 c, .slice A5 n ka5, .int .u64 (r : Int), .slice R5 m0 ra5, .slice S5 m0 sa5] 31)).alloc (.cells #[.int .u64 (N3 : Int), .slice X5 0 kx5, .bool false] 42) = x := ⟨_, rfl⟩
  have hbx : Below w5.heap.size w5 x5 := by rw [← hx5]; exact below_pair _ _ _
  have W5 : Hid (WdAt x5 w5.heap.size t c A5 n ka5 r R5 m0 ra5 S5 sa5 G3 l0 l1) := Lib.hid (by rw [← hx5]; exact WdAt.made w5 _ _ ha hs0 hs1)
  have V5 : Hid (ResAt x5 (w5.heap.size + 1) N3 X5 kx5 ([] : List Nat) false) := Lib.hid (by rw [← hx5]; exact ResAt.made w5 _ _ hx)
  have hbn := hb.trans (hbx.mono hb.size)
  have Kn := Lib.hid (K.out.later hbn); clear K; have K := Kn; clear Kn
  have V3n := Lib.hid (V3.out.later hbn); clear V3; have V3 := V3n; clear V3n
  have V4n := Lib.hid (V4.out.later hbn); clear V4; have V4 := V4n; clear V4n
  have BBn := Lib.hid (BB.out.trans (hbn.mono BB.out.size)); clear BB; have BB := BBn; clear BBn
  clear ha hs0 hs1 hk hx hb hP hbx hbn
  rw [hx5]
  clear hx5
  obtain ⟨_, ⟨c0, c1, c2, c3, c4, c5⟩, _⟩ := (K.out.at_ (o := 1) (.head _)).six
  have x0 : x5.cell? ⟨bb0, off + q, none⟩ = some (.int .u64 (v : Int)) := (BB.out.cell (p := ⟨bb0, off + q, none⟩) HLT.out).trans HX0.out
  obtain ⟨d0, d1, d2⟩ := V3.out.cells
  obtain ⟨f0, f1, f2⟩ := V4.out.cells
  obtain ⟨g0, g1, g2⟩ := V5.out.cells
  go_wp2_with fail
  go_ret
  exact ⟨rfl, BB.out⟩

set_option maxRecDepth 100000 in
set_option maxHeartbeats 8000000 in
theorem walk_false_true (t c : Int) (A : Option Addr) (n k : Nat) (F : Nat → Nat) (r : Nat) (R : Option Addr) (m0 ra : Nat) (S : Option Addr) (sa : Nat) (l0 l1 : List Stm) (me : Int) (i a b : Nat) (hsm : smallB t c n l0 l1 me = true) (hnn : n ≤ 140737488355328) (q v : Nat) (hq : q < n) (hFq : F q = v) (hmod : (i : Int).tmod (n : Int) = (q : Int)) (hmod2 : (i : Int) % (n : Int) = (q : Int)) (hi16 : i < 65536) (p pb : Bool) (hp : p = true) (e0 : ((v : Int) == (a : Int)) = p) (G1 G2 G3 : Nat → Nat) (N1 N2 N3 : Nat) (e1 : ((N1 : Int) == 1) = p) (e2 : ((N1 : Int) == 0) = !p) (e3 : ((N2 : Int) == 1) = pb) (e4 : ((a : Int) == (b : Int)) = pb) (e5 : ((N3 : Int) == (b : Int)) = true) (k1 : ∀ (A : Option Addr) (k : Nat) (R : Option Addr) (ra : Nat) (S : Option Addr) (sa : Nat) (w : World), Hid (AtW w A n F) → Hid (StmsAt w R m0 l0) → Hid (StmsAt w S m0 l1) → Calls Try.prog 14 #[.agg #[.int .i64 t, .int .i64 c, .slice A n k, .int .u64 (r : Int), .slice R m0 ra, .slice S m0 sa], .int .i64 me, .agg #[.int .i64 2, .int .i64 (q : Int), .int .u64 (a : Int), .int .u64 (b : Int), .slice none 0 0, .slice none 0 0], .bool false] w (DoW w t c A n r R S m0 G1 l0 l1 N1 [] false)) (k2 : ∀ (A : Option Addr) (k : Nat) (R : Option Addr) (ra : Nat) (S : Option Addr) (sa : Nat) (w : World), Hid (AtW w A n G1) → Hid (StmsAt w R m0 l0) → Hid (StmsAt w S m0 l1) → Calls Try.prog 14 #[.agg #[.int .i64 t, .int .i64 c, .slice A n k, .int .u64 (r : Int), .slice R m0 ra, .slice S m0 sa], .int .i64 me, .agg #[.int .i64 2, .int .i64 (q : Int), .int .u64 (a : Int), .int .u64 (b : Int), .slice none 0 0, .slice none 0 0], .bool false] w (DoW w t c A n r R S m0 G2 l0 l1 N2 [] false)) (k3 : ∀ (A : Option Addr) (k : Nat) (R : Option Addr) (ra : Nat) (S : Option Addr) (sa : Nat) (w : World), Hid (AtW w A n G2) → Hid (StmsAt w R m0 l0) → Hid (StmsAt w S m0 l1) → Calls Try.prog 14 #[.agg #[.int .i64 t, .int .i64 c, .slice A n k, .int .u64 (r : Int), .slice R m0 ra, .slice S m0 sa], .int .i64 me, .agg #[.int .i64 0, .int .i64 (q : Int), .int .u64 0, .int .u64 0, .slice none 0 0, .slice none 0 0], .bool true] w (DoW w t c A n r R S m0 G3 l0 l1 N3 [] false)) (w : World) (hA : Hid (AtW w A n F)) (h0 : Hid (StmsAt w R m0 l0)) (h1 : Hid (StmsAt w S m0 l1)) :
    Calls Try.prog 5 #[.agg #[.int .i64 t, .int .i64 c, .slice A n k, .int .u64 (r : Int), .slice R m0 ra, .slice S m0 sa, .int .i64 me, .int .u16 (i : Int), .int .u64 (a : Int), .int .u64 (b : Int), .bool false]] w fun e w' => e = .returned (.bool true) ∧ Below w.heap.size w w' := by
  subst hp
  obtain ⟨bb0, off, rfl, hlt, hcell⟩ := hA.out.2 (by omega)
  have hx0 := hcell q hq
  rw [hFq] at hx0
  have HX0 := Lib.hid hx0
  have HLT := Lib.hid hlt
  have i0 : (0 : Int) ≤ (q : Int) := by omega
  have i1 : (q : Int) < (n : Int) := by omega
  have hn0 : ¬ ((n : Int) = 0) := by omega
  have hn1 : ((n : Int) == 0) = false := by rw [beq_eq_false_iff_ne]; omega
  have HFQ := Lib.hid hFq
  clear hcell hlt hx0 hFq
  have HSM := fun w h h' => small_at t c (some ⟨bb0, off, none⟩) n k r R m0 ra S m0 sa l0 l1 me (by omega) w h h'
  rw [hsm] at HSM
  clear hsm hnn
  have K : Hid (Kp w [(1, [.int .i64 t, .int .i64 c, .slice (some ⟨bb0, off, none⟩) n k, .int .u64 (r : Int), .slice R m0 ra, .slice S m0 sa])] [] ((w.alloc (.cells #[.int .i64 t, .int .i64 c, .slice (some ⟨bb0, off, none⟩) n k, .int .u64 (r : Int), .slice R m0 ra, .slice S m0 sa, .int .i64 me, .int .u16 (i : Int), .int .u64 (a : Int), .int .u64 (b : Int), .bool false] 54)).alloc (.cells #[.int .i64 t, .int .i64 c, .slice (some ⟨bb0, off, none⟩) n k, .int .u64 (r : Int), .slice R m0 ra, .slice S m0 sa] 31))) :=
    Lib.hid (((Kp.nil w).alloc (.cells #[.int .i64 t, .int .i64 c, .slice (some ⟨bb0, off, none⟩) n k, .int .u64 (r : Int), .slice R m0 ra, .slice S m0 sa, .int .i64 me, .int .u16 (i : Int), .int .u64 (a : Int), .int .u64 (b : Int), .bool false] 54)).var 1 (by simp) #[.int .i64 t, .int .i64 c, .slice (some ⟨bb0, off, none⟩) n k, .int .u64 (r : Int), .slice R m0 ra, .slice S m0 sa] 31)
  go_enter Try.func5, Try.ntmps5
  go_wp2_with fail
  (with_reducible refine (shown_any _).mono ?_)
  rintro e w1 ⟨rfl, hb⟩
  have Kn := Lib.hid (K.out.later hb); clear K; have K := Kn; clear Kn
  clear hb
  obtain ⟨_, ⟨c0, c1, c2, c3, c4, c5⟩, _⟩ := (K.out.at_ (o := 1) (.head _)).six
  go_wp2_with fail
  (with_reducible refine (HSM _ (Lib.hid (h0.out.later K.out.bel)) (Lib.hid (h1.out.later K.out.bel))).mono ?_)
  rintro e w2 ⟨rfl, hb⟩
  have Kn := Lib.hid (K.out.later hb); clear K; have K := Kn; clear Kn
  clear c0 c1 c2 c3 c4 c5
  clear hb HSM
  obtain ⟨_, ⟨c0, c1, c2, c3, c4, c5⟩, _⟩ := (K.out.at_ (o := 1) (.head _)).six
  have x0 : w2.cell? ⟨bb0, off + q, none⟩ = some (.int .u64 (v : Int)) := (K.out.bel.cell (p := ⟨bb0, off + q, none⟩) HLT.out).trans HX0.out
  go_wp2_with fail
  clear c0 c1 c2 c3 c4 c5
  clear x0
  have BB := Lib.hid K.out.bel
  refine (k1 _ _ _ _ _ _ _ (Lib.hid (hA.out.later BB.out)) (Lib.hid (h0.out.later BB.out)) (Lib.hid (h1.out.later BB.out))).mono ?_
  rintro e w3 ⟨A3, ka3, R3, ra3, S3, sa3, X3, kx3, rfl, ha, hs0, hs1, hk, hx, hb, hP⟩
  go_upto_region 14 with fail
  obtain ⟨x3, hx3⟩ : ∃ x, (w3.alloc (.cells #[.int .i64 t, .int .i64 c, .slice A3 n ka3, .int .u64 (r : Int), .slice R3 m0 ra3, .slice S3 m0 sa3] 31)).alloc (.cells #[.int .u64 (N1 : Int), .slice X3 0 kx3, .bool false] 42) = x := ⟨_, rfl⟩
  have hbx : Below w3.heap.size w3 x3 := by rw [← hx3]; exact below_pair _ _ _
  have W3 : Hid (WdAt x3 w3.heap.size t c A3 n ka3 r R3 m0 ra3 S3 sa3 G1 l0 l1) := Lib.hid (by rw [← hx3]; exact WdAt.made w3 _ _ ha hs0 hs1)
  have V3 : Hid (ResAt x3 (w3.heap.size + 1) N1 X3 kx3 ([] : List Nat) false) := Lib.hid (by rw [← hx3]; exact ResAt.made w3 _ _ hx)
  have hbn := hb.trans (hbx.mono hb.size)
  have Kn := Lib.hid (K.out.later hbn); clear K; have K := Kn; clear Kn
  have BBn := Lib.hid (BB.out.trans (hbn.mono BB.out.size)); clear BB; have BB := BBn; clear BBn
  clear ha hs0 hs1 hk hx hb hP hbx hbn
  rw [hx3]
  clear hx3
  obtain ⟨c0, c1, c2, c3, c4, c5⟩ := W3.out.cells
  go_wp2_with fail
  clear c0 c1 c2 c3 c4 c5
  refine (k2 _ _ _ _ _ _ _ W3.out.gA W3.out.g0 W3.out.g1).mono ?_
  rintro e w4 ⟨A4, ka4, R4, ra4, S4, sa4, X4, kx4, rfl, ha, hs0, hs1, hk, hx, hb, hP⟩
  go_upto_region 15 with fail
  obtain ⟨x4, hx4⟩ : ∃ x, (w4.alloc (.cells #[.int .i64 t, .int .i64 c, .slice A4 n ka4, .int .u64 (r : Int), .slice R4 m0 ra4, .slice S4 m0 sa4] 31)).alloc (.cells #[.int .u64 (N2 : Int), .slice X4 0 kx4, .bool false] 42) = x := ⟨_, rfl⟩
  have hbx : Below w4.heap.size w4 x4 := by rw [← hx4]; exact below_pair _ _ _
  have W4 : Hid (WdAt x4 w4.heap.size t c A4 n ka4 r R4 m0 ra4 S4 sa4 G2 l0 l1) := Lib.hid (by rw [← hx4]; exact WdAt.made w4 _ _ ha hs0 hs1)
  have V4 : Hid (ResAt x4 (w4.heap.size + 1) N2 X4 kx4 ([] : List Nat) false) := Lib.hid (by rw [← hx4]; exact ResAt.made w4 _ _ hx)
  have hbn := hb.trans (hbx.mono hb.size)
  have Kn := Lib.hid (K.out.later hbn); clear K; have K := Kn; clear Kn
  have V3n := Lib.hid (V3.out.later hbn); clear V3; have V3 := V3n; clear V3n
  have BBn := Lib.hid (BB.out.trans (hbn.mono BB.out.size)); clear BB; have BB := BBn; clear BBn
  clear ha hs0 hs1 hk hx hb hP hbx hbn
  rw [hx4]
  clear hx4
  obtain ⟨c0, c1, c2, c3, c4, c5⟩ := W4.out.cells
  go_wp2_with fail
  clear c0 c1 c2 c3 c4 c5
  refine (k3 _ _ _ _ _ _ _ W4.out.gA W4.out.g0 W4.out.g1).mono ?_
  rintro e w5 ⟨A5, ka5, R5, ra5, S5, sa5, X5, kx5, rfl, ha, hs0, hs1, hk, hx, hb, hP⟩
  go_upto_region 16 with fail
  obtain ⟨x5, hx5⟩ : ∃ x, (w5.alloc (.cells #[.int .i64 t, .int .i64 c, .slice A5 n ka5, .int .u64 (r : Int), .slice R5 m0 ra5, .slice S5 m0 sa5] 31)).alloc (.cells #[.int .u64 (N3 : Int), .slice X5 0 kx5, .bool false] 42) = x := ⟨_, rfl⟩
  have hbx : Below w5.heap.size w5 x5 := by rw [← hx5]; exact below_pair _ _ _
  have W5 : Hid (WdAt x5 w5.heap.size t c A5 n ka5 r R5 m0 ra5 S5 sa5 G3 l0 l1) := Lib.hid (by rw [← hx5]; exact WdAt.made w5 _ _ ha hs0 hs1)
  have V5 : Hid (ResAt x5 (w5.heap.size + 1) N3 X5 kx5 ([] : List Nat) false) := Lib.hid (by rw [← hx5]; exact ResAt.made w5 _ _ hx)
  have hbn := hb.trans (hbx.mono hb.size)
  have Kn := Lib.hid (K.out.later hbn); clear K; have K := Kn; clear Kn
  have V3n := Lib.hid (V3.out.later hbn); clear V3; have V3 := V3n; clear V3n
  have V4n := Lib.hid (V4.out.later hbn); clear V4; have V4 := V4n; clear V4n
  have BBn := Lib.hid (BB.out.trans (hbn.mono BB.out.size)); clear BB; have BB := BBn; clear BBn
  clear ha hs0 hs1 hk hx hb hP hbx hbn
  rw [hx5]
  clear hx5
  obtain ⟨_, ⟨c0, c1, c2, c3, c4, c5⟩, _⟩ := (K.out.at_ (o := 1) (.head _)).six
  have x0 : x5.cell? ⟨bb0, off + q, none⟩ = some (.int .u64 (v : Int)) := (BB.out.cell (p := ⟨bb0, off + q, none⟩) HLT.out).trans HX0.out
  obtain ⟨d0, d1, d2⟩ := V3.out.cells
  obtain ⟨f0, f1, f2⟩ := V4.out.cells
  obtain ⟨g0, g1, g2⟩ := V5.out.cells
  go_wp2_with fail
  go_ret
  exact ⟨rfl, BB.out⟩

set_option maxRecDepth 100000 in
set_option maxHeartbeats 8000000 in
theorem walk_false_false (t c : Int) (A : Option Addr) (n k : Nat) (F : Nat → Nat) (r : Nat) (R : Option Addr) (m0 ra : Nat) (S : Option Addr) (sa : Nat) (l0 l1 : List Stm) (me : Int) (i a b : Nat) (hsm : smallB t c n l0 l1 me = true) (hnn : n ≤ 140737488355328) (q v : Nat) (hq : q < n) (hFq : F q = v) (hmod : (i : Int).tmod (n : Int) = (q : Int)) (hmod2 : (i : Int) % (n : Int) = (q : Int)) (hi16 : i < 65536) (p pb : Bool) (hp : p = false) (e0 : ((v : Int) == (a : Int)) = p) (G1 G2 G3 : Nat → Nat) (N1 N2 N3 : Nat) (e1 : ((N1 : Int) == 1) = p) (e2 : ((N1 : Int) == 0) = !p) (e3 : ((N2 : Int) == 1) = false) (e4 : ((a : Int) == (b : Int)) = pb) (e5 : ((N3 : Int) == (v : Int)) = true) (k1 : ∀ (A : Option Addr) (k : Nat) (R : Option Addr) (ra : Nat) (S : Option Addr) (sa : Nat) (w : World), Hid (AtW w A n F) → Hid (StmsAt w R m0 l0) → Hid (StmsAt w S m0 l1) → Calls Try.prog 14 #[.agg #[.int .i64 t, .int .i64 c, .slice A n k, .int .u64 (r : Int), .slice R m0 ra, .slice S m0 sa], .int .i64 me, .agg #[.int .i64 2, .int .i64 (q : Int), .int .u64 (a : Int), .int .u64 (b : Int), .slice none 0 0, .slice none 0 0], .bool false] w (DoW w t c A n r R S m0 G1 l0 l1 N1 [] false)) (k2 : ∀ (A : Option Addr) (k : Nat) (R : Option Addr) (ra : Nat) (S : Option Addr) (sa : Nat) (w : World), Hid (AtW w A n G1) → Hid (StmsAt w R m0 l0) → Hid (StmsAt w S m0 l1) → Calls Try.prog 14 #[.agg #[.int .i64 t, .int .i64 c, .slice A n k, .int .u64 (r : Int), .slice R m0 ra, .slice S m0 sa], .int .i64 me, .agg #[.int .i64 2, .int .i64 (q : Int), .int .u64 (a : Int), .int .u64 (b : Int), .slice none 0 0, .slice none 0 0], .bool false] w (DoW w t c A n r R S m0 G2 l0 l1 N2 [] false)) (k3 : ∀ (A : Option Addr) (k : Nat) (R : Option Addr) (ra : Nat) (S : Option Addr) (sa : Nat) (w : World), Hid (AtW w A n G2) → Hid (StmsAt w R m0 l0) → Hid (StmsAt w S m0 l1) → Calls Try.prog 14 #[.agg #[.int .i64 t, .int .i64 c, .slice A n k, .int .u64 (r : Int), .slice R m0 ra, .slice S m0 sa], .int .i64 me, .agg #[.int .i64 0, .int .i64 (q : Int), .int .u64 0, .int .u64 0, .slice none 0 0, .slice none 0 0], .bool true] w (DoW w t c A n r R S m0 G3 l0 l1 N3 [] false)) (w : World) (hA : Hid (AtW w A n F)) (h0 : Hid (StmsAt w R m0 l0)) (h1 : Hid (StmsAt w S m0 l1)) :
    Calls Try.prog 5 #[.agg #[.int .i64 t, .int .i64 c, .slice A n k, .int .u64 (r : Int), .slice R m0 ra, .slice S m0 sa, .int .i64 me, .int .u16 (i : Int), .int .u64 (a : Int), .int .u64 (b : Int), .bool false]] w fun e w' => e = .returned (.bool true) ∧ Below w.heap.size w w' := by
  subst hp
  obtain ⟨bb0, off, rfl, hlt, hcell⟩ := hA.out.2 (by omega)
  have hx0 := hcell q hq
  rw [hFq] at hx0
  have HX0 := Lib.hid hx0
  have HLT := Lib.hid hlt
  have i0 : (0 : Int) ≤ (q : Int) := by omega
  have i1 : (q : Int) < (n : Int) := by omega
  have hn0 : ¬ ((n : Int) = 0) := by omega
  have hn1 : ((n : Int) == 0) = false := by rw [beq_eq_false_iff_ne]; omega
  have HFQ := Lib.hid hFq
  clear hcell hlt hx0 hFq
  have HSM := fun w h h' => small_at t c (some ⟨bb0, off, none⟩) n k r R m0 ra S m0 sa l0 l1 me (by omega) w h h'
  rw [hsm] at HSM
  clear hsm hnn
  have K : Hid (Kp w [(1, [.int .i64 t, .int .i64 c, .slice (some ⟨bb0, off, none⟩) n k, .int .u64 (r : Int), .slice R m0 ra, .slice S m0 sa])] [] ((w.alloc (.cells #[.int .i64 t, .int .i64 c, .slice (some ⟨bb0, off, none⟩) n k, .int .u64 (r : Int), .slice R m0 ra, .slice S m0 sa, .int .i64 me, .int .u16 (i : Int), .int .u64 (a : Int), .int .u64 (b : Int), .bool false] 54)).alloc (.cells #[.int .i64 t, .int .i64 c, .slice (some ⟨bb0, off, none⟩) n k, .int .u64 (r : Int), .slice R m0 ra, .slice S m0 sa] 31))) :=
    Lib.hid (((Kp.nil w).alloc (.cells #[.int .i64 t, .int .i64 c, .slice (some ⟨bb0, off, none⟩) n k, .int .u64 (r : Int), .slice R m0 ra, .slice S m0 sa, .int .i64 me, .int .u16 (i : Int), .int .u64 (a : Int), .int .u64 (b : Int), .bool false] 54)).var 1 (by simp) #[.int .i64 t, .int .i64 c, .slice (some ⟨bb0, off, none⟩) n k, .int .u64 (r : Int), .slice R m0 ra, .slice S m0 sa] 31)
  go_enter Try.func5, Try.ntmps5
  go_wp2_with fail
  (with_reducible refine (shown_any _).mono ?_)
  rintro e w1 ⟨rfl, hb⟩
  have Kn := Lib.hid (K.out.later hb); clear K; have K := Kn; clear Kn
  clear hb
  obtain ⟨_, ⟨c0, c1, c2, c3, c4, c5⟩, _⟩ := (K.out.at_ (o := 1) (.head _)).six
  go_wp2_with fail
  (with_reducible refine (HSM _ (Lib.hid (h0.out.later K.out.bel)) (Lib.hid (h1.out.later K.out.bel))).mono ?_)
  rintro e w2 ⟨rfl, hb⟩
  have Kn := Lib.hid (K.out.later hb); clear K; have K := Kn; clear Kn
  clear c0 c1 c2 c3 c4 c5
  clear hb HSM
  obtain ⟨_, ⟨c0, c1, c2, c3, c4, c5⟩, _⟩ := (K.out.at_ (o := 1) (.head _)).six
  have x0 : w2.cell? ⟨bb0, off + q, none⟩ = some (.int .u64 (v : Int)) := (K.out.bel.cell (p := ⟨bb0, off + q, none⟩) HLT.out).trans HX0.out
  go_wp2_with fail
  clear c0 c1 c2 c3 c4 c5
  clear x0
  have BB := Lib.hid K.out.bel
  refine (k1 _ _ _ _ _ _ _ (Lib.hid (hA.out.later BB.out)) (Lib.hid (h0.out.later BB.out)) (Lib.hid (h1.out.later BB.out))).mono ?_
  rintro e w3 ⟨A3, ka3, R3, ra3, S3, sa3, X3, kx3, rfl, ha, hs0, hs1, hk, hx, hb, hP⟩
  go_upto_region 14 with fail
  obtain ⟨x3, hx3⟩ : ∃ x, (w3.alloc (.cells #[.int .i64 t, .int .i64 c, .slice A3 n ka3, .int .u64 (r : Int), .slice R3 m0 ra3, .slice S3 m0 sa3] 31)).alloc (.cells #[.int .u64 (N1 : Int), .slice X3 0 kx3, .bool false] 42) = x := ⟨_, rfl⟩
  have hbx : Below w3.heap.size w3 x3 := by rw [← hx3]; exact below_pair _ _ _
  have W3 : Hid (WdAt x3 w3.heap.size t c A3 n ka3 r R3 m0 ra3 S3 sa3 G1 l0 l1) := Lib.hid (by rw [← hx3]; exact WdAt.made w3 _ _ ha hs0 hs1)
  have V3 : Hid (ResAt x3 (w3.heap.size + 1) N1 X3 kx3 ([] : List Nat) false) := Lib.hid (by rw [← hx3]; exact ResAt.made w3 _ _ hx)
  have hbn := hb.trans (hbx.mono hb.size)
  have Kn := Lib.hid (K.out.later hbn); clear K; have K := Kn; clear Kn
  have BBn := Lib.hid (BB.out.trans (hbn.mono BB.out.size)); clear BB; have BB := BBn; clear BBn
  clear ha hs0 hs1 hk hx hb hP hbx hbn
  rw [hx3]
  clear hx3
  obtain ⟨c0, c1, c2, c3, c4, c5⟩ := W3.out.cells
  go_wp2_with fail
  clear c0 c1 c2 c3 c4 c5
  refine (k2 _ _ _ _ _ _ _ W3.out.gA W3.out.g0 W3.out.g1).mono ?_
  rintro e w4 ⟨A4, ka4, R4, ra4, S4, sa4, X4, kx4, rfl, ha, hs0, hs1, hk, hx, hb, hP⟩
  go_upto_region 15 with fail
  obtain ⟨x4, hx4⟩ : ∃ x, (w4.alloc (.cells #[.int .i64 t, .int .i64 c, .slice A4 n ka4, .int .u64 (r : Int), .slice R4 m0 ra4, .slice S4 m0 sa4] 31)).alloc (.cells #[.int .u64 (N2 : Int), .slice X4 0 kx4, .bool false] 42) = x := ⟨_, rfl⟩
  have hbx : Below w4.heap.size w4 x4 := by rw [← hx4]; exact below_pair _ _ _
  have W4 : Hid (WdAt x4 w4.heap.size t c A4 n ka4 r R4 m0 ra4 S4 sa4 G2 l0 l1) := Lib.hid (by rw [← hx4]; exact WdAt.made w4 _ _ ha hs0 hs1)
  have V4 : Hid (ResAt x4 (w4.heap.size + 1) N2 X4 kx4 ([] : List Nat) false) := Lib.hid (by rw [← hx4]; exact ResAt.made w4 _ _ hx)
  have hbn := hb.trans (hbx.mono hb.size)
  have Kn := Lib.hid (K.out.later hbn); clear K; have K := Kn; clear Kn
  have V3n := Lib.hid (V3.out.later hbn); clear V3; have V3 := V3n; clear V3n
  have BBn := Lib.hid (BB.out.trans (hbn.mono BB.out.size)); clear BB; have BB := BBn; clear BBn
  clear ha hs0 hs1 hk hx hb hP hbx hbn
  rw [hx4]
  clear hx4
  obtain ⟨c0, c1, c2, c3, c4, c5⟩ := W4.out.cells
  go_wp2_with fail
  clear c0 c1 c2 c3 c4 c5
  refine (k3 _ _ _ _ _ _ _ W4.out.gA W4.out.g0 W4.out.g1).mono ?_
  rintro e w5 ⟨A5, ka5, R5, ra5, S5, sa5, X5, kx5, rfl, ha, hs0, hs1, hk, hx, hb, hP⟩
  go_upto_region 16 with fail
  obtain ⟨x5, hx5⟩ : ∃ x, (w5.alloc (.cells #[.int .i64 t, .int .i64 c, .slice A5 n ka5, .int .u64 (r : Int), .slice R5 m0 ra5, .slice S5 m0 sa5] 31)).alloc (.cells #[.int .u64 (N3 : Int), .slice X5 0 kx5, .bool false] 42) = x := ⟨_, rfl⟩
  have hbx : Below w5.heap.size w5 x5 := by rw [← hx5]; exact below_pair _ _ _
  have W5 : Hid (WdAt x5 w5.heap.size t c A5 n ka5 r R5 m0 ra5 S5 sa5 G3 l0 l1) := Lib.hid (by rw [← hx5]; exact WdAt.made w5 _ _ ha hs0 hs1)
  have V5 : Hid (ResAt x5 (w5.heap.size + 1) N3 X5 kx5 ([] : List Nat) false) := Lib.hid (by rw [← hx5]; exact ResAt.made w5 _ _ hx)
  have hbn := hb.trans (hbx.mono hb.size)
  have Kn := Lib.hid (K.out.later hbn); clear K; have K := Kn; clear Kn
  have V3n := Lib.hid (V3.out.later hbn); clear V3; have V3 := V3n; clear V3n
  have V4n := Lib.hid (V4.out.later hbn); clear V4; have V4 := V4n; clear V4n
  have BBn := Lib.hid (BB.out.trans (hbn.mono BB.out.size)); clear BB; have BB := BBn; clear BBn
  clear ha hs0 hs1 hk hx hb hP hbx hbn
  rw [hx5]
  clear hx5
  obtain ⟨_, ⟨c0, c1, c2, c3, c4, c5⟩, _⟩ := (K.out.at_ (o := 1) (.head _)).six
  have x0 : x5.cell? ⟨bb0, off + q, none⟩ = some (.int .u64 (v : Int)) := (BB.out.cell (p := ⟨bb0, off + q, none⟩) HLT.out).trans HX0.out
  obtain ⟨d0, d1, d2⟩ := V3.out.cells
  obtain ⟨f0, f1, f2⟩ := V4.out.cells
  obtain ⟨g0, g1, g2⟩ := V5.out.cells
  go_wp2_with fail
  go_ret
  exact ⟨rfl, BB.out⟩
section
set_option maxRecDepth 100000
set_option maxHeartbeats 2000000
variable {H : Type} {enc : TypeId × Value → H} {w : World}
theorem open_a {v : Value} {d : DataW H} {ps : List MemPlace} {base : Nat} (hval : Value.okWide Try.prog w .any base 54 v) (h : DataW.Trod enc Try.prog w 0 (fun _ => true) true 54 v d ps) (hs : Sized Try.prog 54 d) (hlt : ∀ z ∈ ps, z.block < w.heap.size) :
    ∃ (aWMemT : Int) (aWMemC : Int) (aWMemWordA : Option Addr) (aWMemWordL aWMemWordC : Nat) (aWMemWordf : Nat → Nat) (aWDiskRoot : Nat) (aWDiskRows0A : Option Addr) (aWDiskRows0L aWDiskRows0C : Nat) (aWDiskRows0l : List Stm) (aWDiskRows1A : Option Addr) (aWDiskRows1L aWDiskRows1C : Nat) (aWDiskRows1l : List Stm) (aMe : Int) (aI : Nat) (aA : Nat) (aB : Nat) (aOwn : Bool), v = .agg #[.int .i64 aWMemT, .int .i64 aWMemC, .slice aWMemWordA aWMemWordL aWMemWordC, .int .u64 (aWDiskRoot : Int), .slice aWDiskRows0A aWDiskRows0L aWDiskRows0C, .slice aWDiskRows1A aWDiskRows1L aWDiskRows1C, .int .i64 aMe, .int .u16 (aI : Int), .int .u64 (aA : Int), .int .u64 (aB : Int), .bool aOwn] ∧ (-9223372036854775808 ≤ aWMemT ∧ aWMemT < 9223372036854775808) ∧ (-9223372036854775808 ≤ aWMemC ∧ aWMemC < 9223372036854775808) ∧ (aWMemWordL ≤ aWMemWordC ∧ aWMemWordL ≤ 140737488355328 ∧ AtW w aWMemWordA aWMemWordL aWMemWordf) ∧ aWDiskRoot < 18446744073709551616 ∧ (aWDiskRows0L ≤ aWDiskRows0C ∧ StmsAt w aWDiskRows0A aWDiskRows0L aWDiskRows0l) ∧ (aWDiskRows1L ≤ aWDiskRows1C ∧ StmsAt w aWDiskRows1A aWDiskRows1L aWDiskRows1l) ∧ (-9223372036854775808 ≤ aMe ∧ aMe < 9223372036854775808) ∧ aI < 65536 ∧ aA < 18446744073709551616 ∧ aB < 18446744073709551616 := by
  obtain ⟨cs, rfl, hsz⟩ := okWide_struct Try.underlying54 hval
  obtain ⟨fuel, hf⟩ := h
  have hcs : (Value.agg cs).cells.toList = cs.toList := rfl
  rw [hcs] at hf
  have hcl : cs.toList.length = 11 := by rw [Array.length_toList, hsz]; kernel_rfl
  obtain ⟨c0, c1, c2, c3, c4, c5, c6, c7, c8, c9, c10, hL⟩ : ∃ c0 c1 c2 c3 c4 c5 c6 c7 c8 c9 c10, cs.toList = [c0, c1, c2, c3, c4, c5, c6, c7, c8, c9, c10] := ⟨_, _, _, _, _, _, _, _, _, _, _, cells_of hcl .nilIface⟩
  rw [hL] at hf
  rw [list_agg hL]
  clear hcl hL hsz hcs
  obtain ⟨y0, n0, g0, s0, q0⟩ := field_at Try.underlying54 hf 0 _ rfl 31 0 6 [c0, c1, c2, c3, c4, c5] rfl rfl (by kernel_rfl) rfl hs hlt
  obtain ⟨y1, n1, g1, s1, q1⟩ := field_at Try.underlying31 g0 0 _ rfl 24 0 3 [c0, c1, c2] rfl rfl (by kernel_rfl) rfl s0 q0
  obtain ⟨y2, n2, g2, s2, q2⟩ := field_at Try.underlying24 g1 0 _ rfl 3 0 1 [c0] rfl rfl (by kernel_rfl) rfl s1 q1
  obtain ⟨aWMemT, e3, haWMemT⟩ := leaf_i64 Try.underlying3 g2
  cases e3
  obtain ⟨y4, n4, g4, s4, q4⟩ := field_at Try.underlying24 g1 1 _ rfl 3 1 1 [c1] rfl rfl (by kernel_rfl) rfl s1 q1
  obtain ⟨aWMemC, e5, haWMemC⟩ := leaf_i64 Try.underlying3 g4
  cases e5
  obtain ⟨y6, n6, g6, s6, q6⟩ := field_at Try.underlying24 g1 2 _ rfl 22 2 1 [c2] rfl rfl (by kernel_rfl) rfl s1 q1
  obtain ⟨aWMemWordA, aWMemWordL, aWMemWordC, aWMemWordf, e7, haWMemWord⟩ := leaf_words g6 s6 q6
  cases e7
  obtain ⟨y8, n8, g8, s8, q8⟩ := field_at Try.underlying31 g0 1 _ rfl 29 3 3 [c3, c4, c5] rfl rfl (by kernel_rfl) rfl s0 q0
  obtain ⟨y9, n9, g9, s9, q9⟩ := field_at Try.underlying29 g8 0 _ rfl 25 0 1 [c3] rfl rfl (by kernel_rfl) rfl s8 q8
  obtain ⟨aWDiskRoot, e10, haWDiskRoot⟩ := leaf_u64 Try.underlying25 g9
  cases e10
  obtain ⟨y11, n11, g11, s11, q11⟩ := field_at Try.underlying29 g8 1 _ rfl 27 1 2 [c4, c5] rfl rfl (by kernel_rfl) rfl s8 q8
  obtain ⟨y12, n12, g12, s12, q12⟩ := elem_at Try.underlying27 g11 0 (by decide) 1 [c4] (by kernel_rfl) rfl s11 q11
  obtain ⟨aWDiskRows0A, aWDiskRows0L, aWDiskRows0C, aWDiskRows0l, e13, haWDiskRows0⟩ := leaf_streams g12 s12 q12
  cases e13
  obtain ⟨y14, n14, g14, s14, q14⟩ := elem_at Try.underlying27 g11 1 (by decide) 1 [c5] (by kernel_rfl) rfl s11 q11
  obtain ⟨aWDiskRows1A, aWDiskRows1L, aWDiskRows1C, aWDiskRows1l, e15, haWDiskRows1⟩ := leaf_streams g14 s14 q14
  cases e15
  obtain ⟨y16, n16, g16, s16, q16⟩ := field_at Try.underlying54 hf 1 _ rfl 3 6 1 [c6] rfl rfl (by kernel_rfl) rfl hs hlt
  obtain ⟨aMe, e17, haMe⟩ := leaf_i64 Try.underlying3 g16
  cases e17
  obtain ⟨y18, n18, g18, s18, q18⟩ := field_at Try.underlying54 hf 2 _ rfl 52 7 1 [c7] rfl rfl (by kernel_rfl) rfl hs hlt
  obtain ⟨aI, e19, haI⟩ := leaf_u16 Try.underlying52 g18
  cases e19
  obtain ⟨y20, n20, g20, s20, q20⟩ := field_at Try.underlying54 hf 3 _ rfl 25 8 1 [c8] rfl rfl (by kernel_rfl) rfl hs hlt
  obtain ⟨aA, e21, haA⟩ := leaf_u64 Try.underlying25 g20
  cases e21
  obtain ⟨y22, n22, g22, s22, q22⟩ := field_at Try.underlying54 hf 4 _ rfl 25 9 1 [c9] rfl rfl (by kernel_rfl) rfl hs hlt
  obtain ⟨aB, e23, haB⟩ := leaf_u64 Try.underlying25 g22
  cases e23
  obtain ⟨y24, n24, g24, s24, q24⟩ := field_at Try.underlying54 hf 5 _ rfl 4 10 1 [c10] rfl rfl (by kernel_rfl) rfl hs hlt
  obtain ⟨aOwn, e25⟩ := leaf_bool Try.underlying4 g24
  cases e25
  exact ⟨aWMemT, aWMemC, aWMemWordA, aWMemWordL, aWMemWordC, aWMemWordf, aWDiskRoot, aWDiskRows0A, aWDiskRows0L, aWDiskRows0C, aWDiskRows0l, aWDiskRows1A, aWDiskRows1L, aWDiskRows1C, aWDiskRows1l, aMe, aI, aA, aB, aOwn, rfl, haWMemT, haWMemC, haWMemWord, haWDiskRoot, haWDiskRows0, haWDiskRows1, haMe, haI, haA, haB⟩
end

set_option maxRecDepth 100000 in
set_option maxHeartbeats 8000000 in
theorem lifted (os : Os) (started : os.Started) (H : Type) (enc : TypeId × Value → H) :
    ReturnsInHanded {} Try.checked os 5 .any (Rows.accessCasSpec.pre6 enc Try.prog Try.f5 Rows.accessCasRow.domain false) (Rows.accessCasSpec.post enc Try.prog Try.f5 false true false false) := by
  refine law_lifted (C := Try.checked) own started (by kernel_rfl) Try.func5
    (ChangeSpec.witness6 (enc := enc) (C := Try.checked) false ⟨#[], #[.agg #[.int .i64 0, .int .i64 0, .slice none 0 0, .int .u64 0, .slice none 0 0, .slice none 0 0, .int .i64 0, .int .u16 0, .int .u64 0, .int .u64 0, .bool false]], []⟩ 8 (by kernel_rfl) (by kernel_rfl) (by kernel_rfl) (by kernel_rfl))
    (by kernel_rfl) (by kernel_rfl) Try.underlying4 rfl (by kernel_rfl) ?_
  intro W base args ds before hval hA hwt hlt
  have hA' : DataW.TrodAll enc Try.prog W 0 (fun _ => true) true Try.f5.params.toList args.toList ds before := hA
  have hval' : ∀ (j : Nat) t v, Try.f5.params[j]? = some t → args[j]? = some v → Value.okWide Try.prog W .any base t v := hval
  have hwt' : (DataW.weightsEach Try.prog Try.f5.params.toList ds).all (· ≤ reachBytes) = true := hwt
  rw [Try.params5] at hA' hval' hwt'
  obtain ⟨v0, vs0, d0, ds0, p0, q0, hargs, rfl, rfl, k0, r0⟩ := trodAll_cons hA'
  obtain ⟨rfl, rfl, rfl⟩ := trodAll_nil r0
  obtain rfl : args = #[v0] := by cases args; simp_all
  obtain ⟨aWMemT, aWMemC, aWMemWordA, aWMemWordL, aWMemWordC, aWMemWordf, aWDiskRoot, aWDiskRows0A, aWDiskRows0L, aWDiskRows0C, aWDiskRows0l, aWDiskRows1A, aWDiskRows1L, aWDiskRows1C, aWDiskRows1l, aMe, aI, aA, aB, aOwn, rfl, haWMemT, haWMemC, haWMemWord, haWDiskRoot, haWDiskRows0, haWDiskRows1, haMe, haI, haA, haB⟩ := open_a (hval' 0 54 v0 rfl rfl) k0 (sized_of hwt' (j := 0) (t := 54) rfl rfl) (fun x hx => hlt x (by simp [hx]))
  refine ⟨rfl, ?_⟩
  obtain ⟨hlc, hlm, hAW⟩ := haWMemWord
  obtain ⟨_, h0⟩ := haWDiskRows0
  obtain ⟨_, h1⟩ := haWDiskRows1
  by_cases hsm : smallB aWMemT aWMemC aWMemWordL aWDiskRows0l aWDiskRows1l aMe = true
  · have hs := hsm
    unfold smallB at hs
    simp only [Bool.and_eq_true, decide_eq_true_eq] at hs
    obtain ⟨hf, hr, hn6, _, _⟩ := hs
    obtain ⟨hn0, hm1, hm8, hgd, hx0, hx1, hlen⟩ := right_parts hr hf h0.1 h1.1
    have hl' := hlen.symm
    subst hl'
    have hF := hAW.1
    obtain ⟨q, hqe⟩ : ∃ q, aI % aWMemWordL = q := ⟨_, rfl⟩
    have hq : q < aWMemWordL := by rw [← hqe]; exact Nat.mod_lt _ hn0
    have hmod2 : (aI : Int) % (aWMemWordL : Int) = (q : Int) := by rw [← hqe]; rfl
    have hmod : (aI : Int).tmod (aWMemWordL : Int) = (q : Int) := by rw [Int.tmod_eq_emod_of_nonneg (by omega)]; exact hmod2
    clear hqe
    cases aOwn with
    | true =>
      have hva : aWMemWordf q = aWMemWordf q := rfl
      by_cases hvb : aWMemWordf q = aB
      · exact walk_true_true aWMemT aWMemC aWMemWordA aWMemWordL aWMemWordC aWMemWordf aWDiskRoot aWDiskRows0A aWDiskRows0L aWDiskRows0C aWDiskRows1A aWDiskRows1C aWDiskRows0l aWDiskRows1l aMe aI aA aB hsm hlm q _ hq rfl hmod hmod2 haI true true rfl (eqT hva) (setW aWMemWordf q aB) (setW (setW aWMemWordf q aB) q aB) (setW (setW aWMemWordf q aB) q aB) 1 1 aB rfl rfl rfl (eqT (by omega)) (eqT rfl)
          (fun A k R ra S sa w g g0 g1 => by have h := cas_hit aWMemT aWMemC aWMemWordL aWMemWordf aWDiskRoot _ aWDiskRows0l aWDiskRows1l aMe q aB (aWMemWordf q) hq (by omega) hF haB hva A k R ra S sa w g g0 g1; exact h)
          (fun A k R ra S sa w g g0 g1 => by have h := cas_hit aWMemT aWMemC aWMemWordL (setW aWMemWordf q aB) aWDiskRoot _ aWDiskRows0l aWDiskRows1l aMe q aB (aWMemWordf q) hq (by omega) (setW_lt hF haB) haB (by rw [set_at]; omega) A k R ra S sa w g g0 g1; exact h)
          (fun A k R ra S sa w g g0 g1 => load_word aWMemT aWMemC aWMemWordL (setW (setW aWMemWordf q aB) q aB) aWDiskRoot _ aWDiskRows0l aWDiskRows1l aMe q aB hq (by omega) (setW_lt (setW_lt hF haB) haB) set_at A k R ra S sa w g g0 g1) W (Lib.hid hAW) (Lib.hid h0) (Lib.hid h1)
      · exact walk_true_true aWMemT aWMemC aWMemWordA aWMemWordL aWMemWordC aWMemWordf aWDiskRoot aWDiskRows0A aWDiskRows0L aWDiskRows0C aWDiskRows1A aWDiskRows1C aWDiskRows0l aWDiskRows1l aMe aI aA aB hsm hlm q _ hq rfl hmod hmod2 haI true false rfl (eqT hva) (setW aWMemWordf q aB) (setW aWMemWordf q aB) (setW aWMemWordf q aB) 1 0 aB rfl rfl rfl (eqF (by omega)) (eqT rfl)
          (fun A k R ra S sa w g g0 g1 => by have h := cas_hit aWMemT aWMemC aWMemWordL aWMemWordf aWDiskRoot _ aWDiskRows0l aWDiskRows1l aMe q aB (aWMemWordf q) hq (by omega) hF haB hva A k R ra S sa w g g0 g1; exact h)
          (fun A k R ra S sa w g g0 g1 => by have h := cas_miss aWMemT aWMemC aWMemWordL (setW aWMemWordf q aB) aWDiskRoot _ aWDiskRows0l aWDiskRows1l aMe q (aWMemWordf q) aB hq (by omega) (setW_lt hF haB) (by have := hF q; omega) haB (by rw [set_at]; omega) A k R ra S sa w g g0 g1; exact h)
          (fun A k R ra S sa w g g0 g1 => load_word aWMemT aWMemC aWMemWordL (setW aWMemWordf q aB) aWDiskRoot _ aWDiskRows0l aWDiskRows1l aMe q aB hq (by omega) (setW_lt hF haB) set_at A k R ra S sa w g g0 g1) W (Lib.hid hAW) (Lib.hid h0) (Lib.hid h1)

    | false =>
      by_cases hva : aWMemWordf q = aA
      · by_cases hvb : aWMemWordf q = aB
        · exact walk_false_true aWMemT aWMemC aWMemWordA aWMemWordL aWMemWordC aWMemWordf aWDiskRoot aWDiskRows0A aWDiskRows0L aWDiskRows0C aWDiskRows1A aWDiskRows1C aWDiskRows0l aWDiskRows1l aMe aI aA aB hsm hlm q _ hq rfl hmod hmod2 haI true true rfl (eqT hva) (setW aWMemWordf q aB) (setW (setW aWMemWordf q aB) q aB) (setW (setW aWMemWordf q aB) q aB) 1 1 aB rfl rfl rfl (eqT (by omega)) (eqT rfl)
            (fun A k R ra S sa w g g0 g1 => by have h := cas_hit aWMemT aWMemC aWMemWordL aWMemWordf aWDiskRoot _ aWDiskRows0l aWDiskRows1l aMe q aB aA hq (by omega) hF haB hva A k R ra S sa w g g0 g1; exact h)
            (fun A k R ra S sa w g g0 g1 => by have h := cas_hit aWMemT aWMemC aWMemWordL (setW aWMemWordf q aB) aWDiskRoot _ aWDiskRows0l aWDiskRows1l aMe q aB aA hq (by omega) (setW_lt hF haB) haB (by rw [set_at]; omega) A k R ra S sa w g g0 g1; exact h)
            (fun A k R ra S sa w g g0 g1 => load_word aWMemT aWMemC aWMemWordL (setW (setW aWMemWordf q aB) q aB) aWDiskRoot _ aWDiskRows0l aWDiskRows1l aMe q aB hq (by omega) (setW_lt (setW_lt hF haB) haB) set_at A k R ra S sa w g g0 g1) W (Lib.hid hAW) (Lib.hid h0) (Lib.hid h1)
        · exact walk_false_true aWMemT aWMemC aWMemWordA aWMemWordL aWMemWordC aWMemWordf aWDiskRoot aWDiskRows0A aWDiskRows0L aWDiskRows0C aWDiskRows1A aWDiskRows1C aWDiskRows0l aWDiskRows1l aMe aI aA aB hsm hlm q _ hq rfl hmod hmod2 haI true false rfl (eqT hva) (setW aWMemWordf q aB) (setW aWMemWordf q aB) (setW aWMemWordf q aB) 1 0 aB rfl rfl rfl (eqF (by omega)) (eqT rfl)
            (fun A k R ra S sa w g g0 g1 => by have h := cas_hit aWMemT aWMemC aWMemWordL aWMemWordf aWDiskRoot _ aWDiskRows0l aWDiskRows1l aMe q aB aA hq (by omega) hF haB hva A k R ra S sa w g g0 g1; exact h)
            (fun A k R ra S sa w g g0 g1 => by have h := cas_miss aWMemT aWMemC aWMemWordL (setW aWMemWordf q aB) aWDiskRoot _ aWDiskRows0l aWDiskRows1l aMe q aA aB hq (by omega) (setW_lt hF haB) (by have := hF q; omega) haB (by rw [set_at]; omega) A k R ra S sa w g g0 g1; exact h)
            (fun A k R ra S sa w g g0 g1 => load_word aWMemT aWMemC aWMemWordL (setW aWMemWordf q aB) aWDiskRoot _ aWDiskRows0l aWDiskRows1l aMe q aB hq (by omega) (setW_lt hF haB) set_at A k R ra S sa w g g0 g1) W (Lib.hid hAW) (Lib.hid h0) (Lib.hid h1)

      · exact walk_false_false aWMemT aWMemC aWMemWordA aWMemWordL aWMemWordC aWMemWordf aWDiskRoot aWDiskRows0A aWDiskRows0L aWDiskRows0C aWDiskRows1A aWDiskRows1C aWDiskRows0l aWDiskRows1l aMe aI aA aB hsm hlm q _ hq rfl hmod hmod2 haI false _ rfl (eqF hva) aWMemWordf aWMemWordf aWMemWordf 0 0 (aWMemWordf q) rfl rfl rfl rfl (eqT rfl)
          (fun A k R ra S sa w g g0 g1 => cas_miss aWMemT aWMemC aWMemWordL aWMemWordf aWDiskRoot _ aWDiskRows0l aWDiskRows1l aMe q aA aB hq (by omega) hF haA haB hva A k R ra S sa w g g0 g1)
          (fun A k R ra S sa w g g0 g1 => cas_miss aWMemT aWMemC aWMemWordL aWMemWordf aWDiskRoot _ aWDiskRows0l aWDiskRows1l aMe q aA aB hq (by omega) hF haA haB hva A k R ra S sa w g g0 g1)
          (fun A k R ra S sa w g g0 g1 => load_word aWMemT aWMemC aWMemWordL aWMemWordf aWDiskRoot _ aWDiskRows0l aWDiskRows1l aMe q (aWMemWordf q) hq (by omega) hF rfl A k R ra S sa w g g0 g1) W (Lib.hid hAW) (Lib.hid h0) (Lib.hid h1)
  · exact walkNo aWMemT aWMemC aWMemWordA aWMemWordL aWMemWordC aWMemWordf aWDiskRoot aWDiskRows0A aWDiskRows0L aWDiskRows0C aWDiskRows1A aWDiskRows1L aWDiskRows1C aWDiskRows0l aWDiskRows1l aMe aI aA aB aOwn (by simpa using hsm) hlm W (Lib.hid hAW) (Lib.hid h0) (Lib.hid h1)

theorem over : Rows.accessCasRow.holds Try.pinned (OpenSpec.ofChange Rows.accessCasSpec) :=
  OpenClaim.holds_of_wide 5 Try.f5 rfl rfl rfl rfl rfl rfl rfl ⟨rfl, rfl, rfl, rfl, rfl⟩ rfl rfl rfl rfl rfl (by kernel_rfl) Try.func5 (by kernel_rfl)
    (of_decide_eq_true (by kernel_rfl)) (by unfold Func.isWrapper; first | (rw [if_pos (by decide +kernel)]; kernel_rfl) | (rw [if_neg (by decide +kernel)]; exact ⟨rfl, rfl⟩))
    (fun os started H enc _ => lifted os started H enc)

/-- The statement. -/
theorem proved : Rows.AccessCasSaid :=
  over
#print axioms proved
end Go.Proofs.Ytieepdpelkpfkaa.accessCas
