/-
  The contract of the document's examples.
-/
import Derived.Test.YtjbhichgojjakaaAccAt
import Derived.Deep.Cut
import Derived.Lib.SlBytesConst
namespace Go.Proofs.Ytjbhichgojjakaa
open Go.ChangeShapes Go.WideShapes Go.ChangeAt Go.RowKit
set_option linter.unusedVariables false
set_option maxRecDepth 100000

def shG0 : Nat → Nat := newF 2 1
def shG1 : Nat → Nat := setW shG0 3 5
def shG2 : Nat → Nat := setW shG1 3 7
def shP : List Stm := (zerosS 2).set 1 (Stm.zero.app [120])
theorem shG0_lt (j : Nat) : shG0 j < 18446744073709551616 := newF_lt (by decide) j
theorem shG1_lt (j : Nat) : shG1 j < 18446744073709551616 := setW_lt shG0_lt (by decide) j
theorem sh_size : sizeN 2 1 = 18 := rfl
theorem sh_new (w : World) : Calls Try.prog 9 #[.int .i64 2, .int .i64 1] w (NewWd w 2 1 18 shG0) := newWd_at 2 1 (by decide) (by decide) (by decide) w
section
variable (A : Option Addr) (k r ra : Nat) (R S : Option Addr) (sa : Nat) (D : Option Addr) (dc : Nat) (w : World)
theorem sh_store (pf : Bool) (hpf : pf = false) (hA : Hid (AtW w A 18 shG0)) (h0 : Hid (StmsAt w R 2 (zerosS 2))) (h1 : Hid (StmsAt w S 2 (zerosS 2))) :
    Calls Try.prog 10 #[.agg #[.int .i64 2, .int .i64 1, .slice A 18 k, .int .u64 0, .slice R 2 ra, .slice S 2 sa], .int .i64 0, .agg #[.int .i64 1, .int .i64 3, .int .u64 5, .int .u64 0, .slice none 0 0, .slice none 0 0], .bool true] w (DoW w 2 1 A 18 0 R S 2 shG1 (zerosS 2) (zerosS 2) 0 [] pf) := by
  subst hpf
  exact doWord 2 1 A 18 k shG0 0 R S 2 ra sa (zerosS 2) (zerosS 2) 0 5 0 none 0 0 none 0 0 1 3 (by decide) (by decide) (by decide) shG0_lt (by decide) (by decide) true w hA h0 h1
theorem sh_cas (pf : Bool) (hpf : pf = false) (hA : Hid (AtW w A 18 shG1)) (h0 : Hid (StmsAt w R 2 (zerosS 2))) (h1 : Hid (StmsAt w S 2 (zerosS 2))) :
    Calls Try.prog 10 #[.agg #[.int .i64 2, .int .i64 1, .slice A 18 k, .int .u64 0, .slice R 2 ra, .slice S 2 sa], .int .i64 1, .agg #[.int .i64 2, .int .i64 3, .int .u64 5, .int .u64 7, .slice none 0 0, .slice none 0 0], .bool false] w (DoW w 2 1 A 18 0 R S 2 shG2 (zerosS 2) (zerosS 2) 1 [] pf) := by
  subst hpf
  exact doWord 2 1 A 18 k shG1 0 R S 2 ra sa (zerosS 2) (zerosS 2) 1 5 7 none 0 0 none 0 0 2 3 (by decide) (by decide) (by decide) shG1_lt (by decide) (by decide) false w hA h0 h1
theorem sh_fails (pf : Bool) (hpf : pf = true) (hA : Hid (AtW w A 18 shG2)) (h0 : Hid (StmsAt w R 2 (zerosS 2))) (h1 : Hid (StmsAt w S 2 (zerosS 2))) :
    Calls Try.prog 10 #[.agg #[.int .i64 2, .int .i64 1, .slice A 18 k, .int .u64 0, .slice R 2 ra, .slice S 2 sa], .int .i64 1, .agg #[.int .i64 5, .int .i64 0, .int .u64 0, .int .u64 0, .slice D 1 dc, .slice none 0 0], .bool true] w (DoW w 2 1 A 18 0 R S 2 shG2 (zerosS 2) (zerosS 2) 0 [] pf) := by
  subst hpf
  exact do_fails 2 1 A 18 k shG2 0 R S 2 ra sa (zerosS 2) (zerosS 2) 1 5 0 0 0 D 1 dc none 0 0 rfl w hA h0 h1
theorem sh_append (pf : Bool) (hpf : pf = false) (hA : Hid (AtW w A 18 shG2)) (h0 : Hid (StmsAt w R 2 (zerosS 2))) (h1 : Hid (StmsAt w S 2 (zerosS 2))) (hD : Hid (AtB w D 1 [120])) :
    Calls Try.prog 10 #[.agg #[.int .i64 2, .int .i64 1, .slice A 18 k, .int .u64 0, .slice R 2 ra, .slice S 2 sa], .int .i64 1, .agg #[.int .i64 5, .int .i64 0, .int .u64 0, .int .u64 0, .slice D 1 dc, .slice none 0 0], .bool false] w (DoW w 2 1 A 18 0 R S 2 shG2 shP (zerosS 2) 0 [] pf) := by
  subst hpf
  exact do_disk 2 1 A 18 k shG2 0 R S 2 ra sa (zerosS 2) (zerosS 2) 1 5 0 0 0 D 1 dc none 0 0 rfl false rfl [120] 0 0 shP (zerosS 2) [] (fun w g0 g1 g2 => ofDisk_append 0 (by decide) R S 2 ra sa (zerosS 2) (zerosS 2) 0 1 rfl rfl 1 0 0 0 D 1 dc none 0 0 shP (zerosS 2) 0 [120]
    (fun w g0 g1 g2 => dskAppend0_at 0 R 2 ra S 2 sa (zerosS 2) (zerosS 2) 1 (by decide) (by decide) Stm.zero rfl D dc 1 [120] (by decide) w g0 g1 g2) w g0 g1 g2) w hA h0 h1 hD
theorem sh_right (hA : Hid (AtW w A 18 shG2)) (h0 : Hid (StmsAt w R 2 shP)) (h1 : Hid (StmsAt w S 2 (zerosS 2))) :
    Calls Try.prog 29 #[.agg #[.int .i64 2, .int .i64 1, .slice A 18 k, .int .u64 0, .slice R 2 ra, .slice S 2 sa]] w (Kept w (.bool true)) :=
  accRight_at 2 1 A 18 k 0 R 2 ra S 2 sa shP (zerosS 2) w h0 h1
theorem sh_wrong : Calls Try.prog 29 #[.agg #[.int .i64 0, .int .i64 0, .slice none 0 0, .int .u64 0, .slice none 0 0, .slice none 0 0]] w (Kept w (.bool false)) :=
  accRight_at 0 0 none 0 0 0 none 0 0 none 0 0 [] [] w (Lib.hid (StmsAt.nil _ _)) (Lib.hid (StmsAt.nil _ _))
theorem sh_disk5 : Calls Try.prog 30 #[.int .i64 5] w (fun e w' => e = .returned (.bool true) ∧ w = w') := disk_any 5 w
theorem sh_disk13 : Calls Try.prog 30 #[.int .i64 13] w (fun e w' => e = .returned (.bool false) ∧ w = w') := disk_any 13 w
end
theorem one_at (w : World) (mk : Nat × Nat) : AtB (w.alloc (.cells #[.int .u8 120] 5 mk)) (some ⟨w.heap.size, 0, none⟩) 1 [120] :=
  AtB.one (by decide) (by rw [World.cell?_alloc_mark]; rfl)
theorem run_lit (w : World) (C : Array Value) (n c : Nat) : (convert 24 24 (.slice (some ⟨w.heap.size, 0, none⟩) n c)).run Try.prog (w.alloc (.cells C 5)) = .ok (.slice (some ⟨w.heap.size, 0, none⟩) n c) (w.alloc (.cells C 5 (C.size, C.size + 1))) :=
  Lib.run_convert_bytes_const (P := Try.prog) w 24 5 C n c Try.underlying24 Try.underlying5
set_option maxHeartbeats 4000000 in
theorem shown_any (w : World) : Calls Try.prog 8 #[] w (Kept w (.bool true)) := by
  have BB := Lib.hid (Below.refl w.heap.size w)
  obtain ⟨p2, hp2⟩ : ∃ p : Bool, p = false := ⟨_, rfl⟩
  obtain ⟨p3, hp3⟩ : ∃ p : Bool, p = false := ⟨_, rfl⟩
  obtain ⟨p4, hp4⟩ : ∃ p : Bool, p = true := ⟨_, rfl⟩
  obtain ⟨p5, hp5⟩ : ∃ p : Bool, p = false := ⟨_, rfl⟩
  have HP2 := Lib.hid hp2
  have HP3 := Lib.hid hp3
  have HP4 := Lib.hid hp4
  have HP5 := Lib.hid hp5
  clear hp2 hp3 hp4 hp5
  have kc := run_lit
  go_enter Try.func8, Try.ntmps8
  go_wp2_with fail
  refine (sh_new _).mono ?_
  rintro e w1 ⟨A1, ka1, R1, ra1, S1, sa1, rfl, ha, hs0, hs1, hb, hP⟩
  go_upto_region 2 with fail
  obtain ⟨x1, hx1⟩ : ∃ x, w1.alloc (.cells #[.int .i64 2, .int .i64 1, .slice A1 18 ka1, .int .u64 0, .slice R1 2 ra1, .slice S1 2 sa1] 35) = x := ⟨_, rfl⟩
  have W1 : Hid (WdAt x1 w1.heap.size 2 1 A1 18 ka1 0 R1 2 ra1 S1 sa1 shG0 (zerosS 2) (zerosS 2)) := Lib.hid (by rw [← hx1]; exact WdAt.made0 w1 _ ha hs0 hs1)
  have BBn := Lib.hid (BB.out.trans (((hb.trans (by rw [← hx1]; exact (al_below w1 _).mono hb.size)) : Below w.heap.size w x1)))
  clear BB ha hs0 hs1 hb hP
  have BB := BBn
  clear BBn
  rw [hx1]
  clear hx1
  obtain ⟨c0, c1, c2, c3, c4, c5⟩ := W1.out.cells
  go_wp2_with fail
  refine (sh_store A1 ka1 ra1 R1 S1 sa1 _ p2 HP2.out (Lib.hid W1.out.2.1) (Lib.hid W1.out.2.2.1) (Lib.hid W1.out.2.2.2)).mono ?_
  rintro e w2 ⟨A2, ka2, R2, ra2, S2, sa2, X2, kx2, rfl, ha, hs0, hs1, hk, hx, hb, hP⟩
  go_upto_region 3 with fail
  obtain ⟨x2, hx2⟩ : ∃ x, (w2.alloc (.cells #[.int .i64 2, .int .i64 1, .slice A2 18 ka2, .int .u64 (0 : Int), .slice R2 2 ra2, .slice S2 2 sa2] 35)).alloc (.cells #[.int .u64 (0 : Int), .slice X2 0 kx2, .bool p2] 39) = x := ⟨_, rfl⟩
  have hbx : Below w2.heap.size w2 x2 := by rw [← hx2]; exact below_pair _ _ _
  have W2 : Hid (WdAt x2 w2.heap.size 2 1 A2 18 ka2 0 R2 2 ra2 S2 sa2 shG1 (zerosS 2) (zerosS 2)) := Lib.hid (by rw [← hx2]; exact WdAt.made w2 _ _ ha hs0 hs1)
  have V2 : Hid (ResAt x2 (w2.heap.size + 1) 0 X2 kx2 ([] : List Nat) p2) := Lib.hid (by rw [← hx2]; exact ResAt.made w2 _ _ hx)
  have hbn := hb.trans (hbx.mono hb.size)
  have BBn := Lib.hid (BB.out.trans (hbn.mono BB.out.size)); clear BB; have BB := BBn; clear BBn
  clear ha hs0 hs1 hk hx hb hP hbx hbn
  rw [hx2]
  clear hx2
  clear c0 c1 c2 c3 c4 c5 W1
  obtain ⟨_, ⟨c0, c1, c2, c3, c4, c5⟩, q0, q1, q2, q3, q4, q5⟩ := W2.out.1.six
  obtain ⟨_, v0, v1, v2, u0, u1, u2⟩ := V2.out.1.three
  go_wp2_with fail
  refine (sh_cas A2 ka2 ra2 R2 S2 sa2 _ p3 HP3.out (Lib.hid W2.out.2.1) (Lib.hid W2.out.2.2.1) (Lib.hid W2.out.2.2.2)).mono ?_
  rintro e w3 ⟨A3, ka3, R3, ra3, S3, sa3, X3, kx3, rfl, ha, hs0, hs1, hk, hx, hb, hP⟩
  go_upto_region 4 with fail
  obtain ⟨x3, hx3⟩ : ∃ x, (w3.alloc (.cells #[.int .i64 2, .int .i64 1, .slice A3 18 ka3, .int .u64 (0 : Int), .slice R3 2 ra3, .slice S3 2 sa3] 35)).alloc (.cells #[.int .u64 (1 : Int), .slice X3 0 kx3, .bool p3] 39) = x := ⟨_, rfl⟩
  have hbx : Below w3.heap.size w3 x3 := by rw [← hx3]; exact below_pair _ _ _
  have W3 : Hid (WdAt x3 w3.heap.size 2 1 A3 18 ka3 0 R3 2 ra3 S3 sa3 shG2 (zerosS 2) (zerosS 2)) := Lib.hid (by rw [← hx3]; exact WdAt.made w3 _ _ ha hs0 hs1)
  have V3 : Hid (ResAt x3 (w3.heap.size + 1) 1 X3 kx3 ([] : List Nat) p3) := Lib.hid (by rw [← hx3]; exact ResAt.made w3 _ _ hx)
  have hbn := hb.trans (hbx.mono hb.size)
  have W2n := Lib.hid (W2.out.later hbn); clear W2; have W2 := W2n; clear W2n
  have V2n := Lib.hid (V2.out.later hbn); clear V2; have V2 := V2n; clear V2n
  have BBn := Lib.hid (BB.out.trans (hbn.mono BB.out.size)); clear BB; have BB := BBn; clear BBn
  clear ha hs0 hs1 hk hx hb hP hbx hbn
  rw [hx3]
  clear hx3
  clear c0 c1 c2 c3 c4 c5 q0 q1 q2 q3 q4 q5 v0 v1 v2 u0 u1 u2
  obtain ⟨_, ⟨c0, c1, c2, c3, c4, c5⟩, q0, q1, q2, q3, q4, q5⟩ := W3.out.1.six
  obtain ⟨_, v0, v1, v2, u0, u1, u2⟩ := V3.out.1.three
  go_wp2_with fail
  obtain ⟨y3, hy3⟩ : ∃ y, x3.alloc (.cells #[.int .u8 120] 5 (1, 2)) = y := ⟨_, rfl⟩
  have hxy : Below x3.heap.size x3 y3 := by rw [← hy3]; exact al_below _ _
  have D3 : Hid (AtB y3 (some ⟨x3.heap.size, 0, none⟩) 1 [120]) := Lib.hid (by rw [← hy3]; exact one_at x3 _)
  have U3 := Lib.hid (W3.out.later hxy)
  have W2n := Lib.hid (W2.out.later hxy)
  have V2n := Lib.hid (V2.out.later hxy)
  have V3n := Lib.hid (V3.out.later hxy)
  have BBn := Lib.hid (BB.out.trans (hxy.mono BB.out.size))
  clear W2 V2 V3 BB hxy W3
  have W2 := W2n; have V2 := V2n; have V3 := V3n; have BB := BBn; have W3 := U3
  clear W2n V2n V3n BBn U3
  rw [hy3]
  refine (sh_fails A3 ka3 ra3 R3 S3 sa3 (some ⟨x3.heap.size, 0, none⟩) 1 _ p4 HP4.out (Lib.hid W3.out.2.1) (Lib.hid W3.out.2.2.1) (Lib.hid W3.out.2.2.2)).mono ?_
  rintro e w4 ⟨A4, ka4, R4, ra4, S4, sa4, X4, kx4, rfl, ha, hs0, hs1, hk, hx, hb, hP⟩
  go_upto_region 5 with fail
  obtain ⟨x4, hx4⟩ : ∃ x, (w4.alloc (.cells #[.int .i64 2, .int .i64 1, .slice A4 18 ka4, .int .u64 (0 : Int), .slice R4 2 ra4, .slice S4 2 sa4] 35)).alloc (.cells #[.int .u64 (0 : Int), .slice X4 0 kx4, .bool p4] 39) = x := ⟨_, rfl⟩
  have hbx : Below w4.heap.size w4 x4 := by rw [← hx4]; exact below_pair _ _ _
  have W4 : Hid (WdAt x4 w4.heap.size 2 1 A4 18 ka4 0 R4 2 ra4 S4 sa4 shG2 (zerosS 2) (zerosS 2)) := Lib.hid (by rw [← hx4]; exact WdAt.made w4 _ _ ha hs0 hs1)
  have V4 : Hid (ResAt x4 (w4.heap.size + 1) 0 X4 kx4 ([] : List Nat) p4) := Lib.hid (by rw [← hx4]; exact ResAt.made w4 _ _ hx)
  have hbn := hb.trans (hbx.mono hb.size)
  have W2n := Lib.hid (W2.out.later hbn); clear W2; have W2 := W2n; clear W2n
  have V2n := Lib.hid (V2.out.later hbn); clear V2; have V2 := V2n; clear V2n
  have W3n := Lib.hid (W3.out.later hbn); clear W3; have W3 := W3n; clear W3n
  have V3n := Lib.hid (V3.out.later hbn); clear V3; have V3 := V3n; clear V3n
  have BBn := Lib.hid (BB.out.trans (hbn.mono BB.out.size)); clear BB; have BB := BBn; clear BBn
  clear ha hs0 hs1 hk hx hb hP hbx hbn
  rw [hx4]
  clear hx4
  clear c0 c1 c2 c3 c4 c5 q0 q1 q2 q3 q4 q5 v0 v1 v2 u0 u1 u2 D3
  try clear hy3
  obtain ⟨_, ⟨c0, c1, c2, c3, c4, c5⟩, q0, q1, q2, q3, q4, q5⟩ := W4.out.1.six
  obtain ⟨_, v0, v1, v2, u0, u1, u2⟩ := V4.out.1.three
  go_wp2_with fail
  obtain ⟨y4, hy4⟩ : ∃ y, x4.alloc (.cells #[.int .u8 120] 5 (1, 2)) = y := ⟨_, rfl⟩
  have hxy : Below x4.heap.size x4 y4 := by rw [← hy4]; exact al_below _ _
  have D4 : Hid (AtB y4 (some ⟨x4.heap.size, 0, none⟩) 1 [120]) := Lib.hid (by rw [← hy4]; exact one_at x4 _)
  have U4 := Lib.hid (W4.out.later hxy)
  have W2n := Lib.hid (W2.out.later hxy)
  have V2n := Lib.hid (V2.out.later hxy)
  have W3n := Lib.hid (W3.out.later hxy)
  have V3n := Lib.hid (V3.out.later hxy)
  have V4n := Lib.hid (V4.out.later hxy)
  have BBn := Lib.hid (BB.out.trans (hxy.mono BB.out.size))
  clear W2 V2 V3 W3 V4 BB hxy W4
  have W2 := W2n; have V2 := V2n; have W3 := W3n; have V3 := V3n; have V4 := V4n; have BB := BBn; have W4 := U4
  clear W2n V2n W3n V3n V4n BBn U4
  rw [hy4]
  refine (sh_append A4 ka4 ra4 R4 S4 sa4 (some ⟨x4.heap.size, 0, none⟩) 1 _ p5 HP5.out (Lib.hid W4.out.2.1) (Lib.hid W4.out.2.2.1) (Lib.hid W4.out.2.2.2) D4).mono ?_
  rintro e w5 ⟨A5, ka5, R5, ra5, S5, sa5, X5, kx5, rfl, ha, hs0, hs1, hk, hx, hb, hP⟩
  go_upto_region 6 with fail
  obtain ⟨x5, hx5⟩ : ∃ x, (w5.alloc (.cells #[.int .i64 2, .int .i64 1, .slice A5 18 ka5, .int .u64 (0 : Int), .slice R5 2 ra5, .slice S5 2 sa5] 35)).alloc (.cells #[.int .u64 (0 : Int), .slice X5 0 kx5, .bool p5] 39) = x := ⟨_, rfl⟩
  have hbx : Below w5.heap.size w5 x5 := by rw [← hx5]; exact below_pair _ _ _
  have W5 : Hid (WdAt x5 w5.heap.size 2 1 A5 18 ka5 0 R5 2 ra5 S5 sa5 shG2 shP (zerosS 2)) := Lib.hid (by rw [← hx5]; exact WdAt.made w5 _ _ ha hs0 hs1)
  have V5 : Hid (ResAt x5 (w5.heap.size + 1) 0 X5 kx5 ([] : List Nat) p5) := Lib.hid (by rw [← hx5]; exact ResAt.made w5 _ _ hx)
  have hbn := hb.trans (hbx.mono hb.size)
  have W2n := Lib.hid (W2.out.later hbn); clear W2; have W2 := W2n; clear W2n
  have V2n := Lib.hid (V2.out.later hbn); clear V2; have V2 := V2n; clear V2n
  have W3n := Lib.hid (W3.out.later hbn); clear W3; have W3 := W3n; clear W3n
  have V3n := Lib.hid (V3.out.later hbn); clear V3; have V3 := V3n; clear V3n
  have W4n := Lib.hid (W4.out.later hbn); clear W4; have W4 := W4n; clear W4n
  have V4n := Lib.hid (V4.out.later hbn); clear V4; have V4 := V4n; clear V4n
  have BBn := Lib.hid (BB.out.trans (hbn.mono BB.out.size)); clear BB; have BB := BBn; clear BBn
  clear ha hs0 hs1 hk hx hb hP hbx hbn
  rw [hx5]
  clear hx5
  clear c0 c1 c2 c3 c4 c5 q0 q1 q2 q3 q4 q5 v0 v1 v2 u0 u1 u2 D4
  try clear hy4
  obtain ⟨c0, c1, c2, c3, c4, c5⟩ := W2.out.cells
  obtain ⟨d0, d1, d2, d3, d4, d5⟩ := W3.out.cells
  obtain ⟨e0, e1, e2, e3, e4, e5⟩ := W4.out.cells
  obtain ⟨_, ⟨f0, f1, f2, f3, f4, f5⟩, q0, q1, q2, q3, q4, q5⟩ := W5.out.1.six
  obtain ⟨c6, _, c8⟩ := V2.out.cells
  obtain ⟨d6, _, d8⟩ := V3.out.cells
  obtain ⟨e6, _, e8⟩ := V4.out.cells
  obtain ⟨_, f6, f7, f8, u0, u1, u2⟩ := V5.out.1.three
  have HWF : Hid (Hid (AtW x5 A5 18 shG2) ∧ Hid (StmsAt x5 R5 2 shP) ∧ Hid (StmsAt x5 S5 2 (zerosS 2))) := Lib.hid ⟨Lib.hid W5.out.2.1, Lib.hid W5.out.2.2.1, Lib.hid W5.out.2.2.2⟩
  obtain ⟨b2, o2, rfl, hc2⟩ := W2.out.2.1.word (by decide)
  obtain ⟨b3, o3, rfl, hc3⟩ := W3.out.2.1.word (by decide)
  have g2 : x5.cell? ⟨b2, o2 + 3, none⟩ = some (.int .u64 5) := hc2 3 (by decide)
  have g3 : x5.cell? ⟨b3, o3 + 3, none⟩ = some (.int .u64 7) := hc3 3 (by decide)
  obtain ⟨y, b5, o5, D5, k5, hy5, e5', _, h50, h51, _, _, hat5, _⟩ := W5.out.2.2.1.at_ 1 (by decide)
  obtain rfl : y = Stm.zero.app [120] := Option.some.inj (hy5.symm.trans rfl)
  obtain ⟨z, b6, o6, D6, k6, hz6, e6', _, h60, h61, _, _, hat6, _⟩ := W4.out.2.2.1.at_ 1 (by decide)
  obtain rfl : z = Stm.zero := Option.some.inj (hz6.symm.trans rfl)
  subst e5' e6'
  have hS : strN (Stm.zero.app [120]).bytes = ByteArray.mk #[120] := by decide
  have s5 : (convert 24 9 (.slice D5 1 k5)).run Try.prog x5 = .ok (.string (ByteArray.mk #[120])) x5 := by
    have h := run_str hat5 k5
    rw [hS] at h
    exact h
  clear hS
  have p50 : x5.cell? ⟨b5, o5 + 2, none⟩ = some (.slice D5 1 k5) := h50
  have p60 : x5.cell? ⟨b6, o6 + 2, none⟩ = some (.slice D6 0 k6) := h60
  have hp2 := HP2.out
  have hp3 := HP3.out
  have hp4 := HP4.out
  have hp5 := HP5.out
  subst hp2 hp3 hp4 hp5
  clear HP2 HP3 HP4 HP5
  clear hc2 hc3 h50 h51 h60 h61 hat5 hat6 hy5 hz6
  go_wp2_with fail
  (with_reducible refine (sh_right _ _ _ _ _ _ _ HWF.out.1 HWF.out.2.1 HWF.out.2.2).mono ?_)
  rintro e w6 ⟨rfl, hb⟩
  have BBn := Lib.hid (BB.out.trans (hb.mono BB.out.size)); clear BB; have BB := BBn; clear BBn
  clear hb
  go_wp2_with fail
  (with_reducible refine (sh_wrong _).mono ?_)
  rintro e w7 ⟨rfl, hb⟩
  have BBn := Lib.hid (BB.out.trans (hb.mono BB.out.size)); clear BB; have BB := BBn; clear BBn
  clear hb
  go_wp2_with fail
  (with_reducible refine (sh_disk5 _).mono ?_)
  rintro e w' ⟨rfl, rfl⟩
  go_wp2_with fail
  (with_reducible refine (sh_disk13 _).mono ?_)
  rintro e w' ⟨rfl, rfl⟩
  go_wp2_with fail
  go_ret
  exact ⟨rfl, BB.out⟩
end Go.Proofs.Ytjbhichgojjakaa
