/- SavMake -/
import Derived.Test.YtibpfkcackdbgaaGreatDoorSavCalls
namespace Go.Proofs.YtibpfkcackdbgaaGreatDoor
open Go.ChangeShapes Go.WideShapes Go.ChangeAt Go.RowKit Go.BigFrame
set_option linter.unusedVariables false
set_option maxRecDepth 100000
section
variable {dv : Value} {S : Type} (V : SrvD dv S)
set_option maxHeartbeats 4000000 in
set_option maxRecDepth 100000 in
theorem make_prg (t r : Nat) (ek : Int) (es y u v x n : Nat) (ht : t ≤ 64) (h1 : 1 ≤ r) (hr : r < 1048576) (hy : y < 18446744073709551616) (hu : u < 18446744073709551616) (hv : v < 18446744073709551616) (hx : x < 18446744073709551616) (hn : n < 18446744073709551616) (s : S) (hb : (Prd.make t r y u v x n).run V.tell s ≠ .bad) (w : World) (hI : V.M.I s w) :
  Calls Tryz.prog 146 #[dv, .int .i64 (t : Int), .int .i64 (r : Int), .agg #[.int .i64 ek, .int .u64 (es : Int), .int .u64 (y : Int), .int .u64 (u : Int), .int .u64 (v : Int), .int .u64 (x : Int)], .int .u64 (n : Int)] w (RunD14 V w (fun d => .int .u64 (d : Int)) ((Prd.make t r y u v x n).run V.tell s)) := by
 generalize hR : (Prd.make t r y u v x n).run V.tell s = R at hb ⊢
 unfold Prd.make at hR
 have HK1 : ∀ w, Calls Tryz.prog 87 #[.int .i64 (t : Int), .int .i64 (r : Int), .int .i64 1] w fun e w' => e = .returned (.int .i64 (fieldN t r 1 : Nat)) ∧ w = w' := fun w => field_any t r 1 (by omega) h1 (by omega) (by omega) w
 have HK2 : ∀ w, Calls Tryz.prog 87 #[.int .i64 (t : Int), .int .i64 (r : Int), .int .i64 2] w fun e w' => e = .returned (.int .i64 (fieldN t r 2 : Nat)) ∧ w = w' := fun w => field_any t r 2 (by omega) h1 (by omega) (by omega) w
 have HK3 : ∀ w, Calls Tryz.prog 87 #[.int .i64 (t : Int), .int .i64 (r : Int), .int .i64 3] w fun e w' => e = .returned (.int .i64 (fieldN t r 3 : Nat)) ∧ w = w' := fun w => field_any t r 3 (by omega) h1 (by omega) (by omega) w
 have HK4 : ∀ w, Calls Tryz.prog 87 #[.int .i64 (t : Int), .int .i64 (r : Int), .int .i64 4] w fun e w' => e = .returned (.int .i64 (fieldN t r 4 : Nat)) ∧ w = w' := fun w => field_any t r 4 (by omega) h1 (by omega) (by omega) w
 have HK5 : ∀ w, Calls Tryz.prog 87 #[.int .i64 (t : Int), .int .i64 (r : Int), .int .i64 5] w fun e w' => e = .returned (.int .i64 (fieldN t r 5 : Nat)) ∧ w = w' := fun w => field_any t r 5 (by omega) h1 (by omega) (by omega) w
 have HK6 : ∀ w, Calls Tryz.prog 87 #[.int .i64 (t : Int), .int .i64 (r : Int), .int .i64 6] w fun e w' => e = .returned (.int .i64 (fieldN t r 6 : Nat)) ∧ w = w' := fun w => field_any t r 6 (by omega) h1 (by omega) (by omega) w
 have HF1 := Lib.hid (fieldI ht hr (f := 1) (by omega))
 have HF2 := Lib.hid (fieldI ht hr (f := 2) (by omega))
 have HF3 := Lib.hid (fieldI ht hr (f := 3) (by omega))
 have HF4 := Lib.hid (fieldI ht hr (f := 4) (by omega))
 have HF5 := Lib.hid (fieldI ht hr (f := 5) (by omega))
 have HF6 := Lib.hid (fieldI ht hr (f := 6) (by omega))
 generalize fieldN t r 1 = p1 at *
 generalize fieldN t r 2 = p2 at *
 generalize fieldN t r 3 = p3 at *
 generalize fieldN t r 4 = p4 at *
 generalize fieldN t r 5 = p5 at *
 generalize fieldN t r 6 = p6 at *
 have HL : ∀ w, V.M.I s w → Calls Tryz.prog 184 #[dv, .int .i64 2, .int .u64 1] w (GoD V R w (fun n => .int .u64 (n : Int)) _) := fun w h => addD V hb (i := 2) (by decide) (a := 1) (by decide) hR w h
 have HB := Lib.hid hb
 have HI := Lib.hid hI
 have hgw := V.lt hI
 have HY := Lib.hid hy
 have HU := Lib.hid hu
 have HV := Lib.hid hv
 have HX := Lib.hid hx
 have HN := Lib.hid hn
 obtain ⟨gv, hgv⟩ : ∃ g, V.M.g = g := ⟨_, rfl⟩
 clear hI hR ht h1 hr hb hy hu hv hx hn
 go_enter Tryz.func146, Tryz.ntmps146
 go_wp2_with fail
 have hal := al_below w (.cells #[.int .i64 ek, .int .u64 (es : Int), .int .u64 (y : Int), .int .u64 (u : Int), .int .u64 (v : Int), .int .u64 (x : Int)] 95)
 have hbx := VarAt.made w #[.int .i64 ek, .int .u64 (es : Int), .int .u64 (y : Int), .int .u64 (u : Int), .int .u64 (v : Int), .int .u64 (x : Int)] 95
 generalize (w.alloc (.cells #[.int .i64 ek, .int .u64 (es : Int), .int .u64 (y : Int), .int .u64 (u : Int), .int .u64 (v : Int), .int .u64 (x : Int)] 95)) = z at hal hbx ⊢
 have HI1 := Lib.hid (V.M.later HI.out hal)
 have HB1 : Hid (But V.M.g w z) := Lib.hid (But.of hal (Nat.le_of_lt hgw))
 have hne : w.heap.size ≠ V.M.g := by omega
 obtain ⟨bx, hbe⟩ : ∃ b, w.heap.size = b := ⟨_, rfl⟩
 rw [hbe] at hbx hne ⊢
 have HBX := Lib.hid hbx
 have HNE := Lib.hid hne
 clear hal hbx hgw hgv HI hbe hne
 (with_reducible refine (HL _ HI1.out).mono ?_)
 clear HL HI1
 rintro e w2 (⟨c, s2, rfl, hn, hi, hbt, hr⟩ | ⟨k, j, a, b, d, hr, rfl, hl⟩)
 case inr => exact ⟨rfl, RunD14.quit V ⟨k, j, a, b, d, hr, rfl, hl⟩⟩
 dsimp only at hr
 have hw : IntKind.u64.wrap ((c : Int) + 1) = (((c + 1) % 18446744073709551616 : Nat) : Int) := by rw [IntKind.wrap_u64]; omega
 have hcl : (c + 1) % 18446744073709551616 < 18446744073709551616 := Nat.mod_lt _ (by decide)
 have HFL := fun w => flag_any ((c + 1) % 18446744073709551616) 0 w
 have HS := fun w => storeD V HB.out HF2.out (flag_lt _ _) hr w
 have HI2 := Lib.hid hi
 have HB2 := Lib.hid (HB1.out.trans hbt)
 have HX2 := Lib.hid (HBX.out.but hbt HNE.out)
 clear hn hi hbt hr HB1 HBX
 generalize (c + 1) % 18446744073709551616 = st at *
 generalize flagN st 0 = fl at *
 go_wp2_with (first | (go_at_call 87; (with_reducible refine (HK2 _).mono ?_); rintro e w' ⟨rfl, rfl⟩) | (go_at_call 138; (with_reducible refine (HFL _).mono ?_); rintro e w' ⟨rfl, rfl⟩))
 (with_reducible refine (HS _ HI2.out).mono ?_)
 clear HS HI2
 rintro e w3 (⟨c3, s3, rfl, hn, hi, hbt, hr⟩ | ⟨k, j, a, b, d, hr, rfl, hl⟩)
 case inr => exact ⟨rfl, RunD14.quit V ⟨k, j, a, b, d, hr, rfl, hl⟩⟩
 dsimp only at hr
 have HS := fun w => storeD V HB.out HF1.out HY.out hr w
 have HB3 := Lib.hid (HB2.out.trans hbt)
 have HX3 := Lib.hid (HX2.out.but hbt HNE.out)
 have HI3 := Lib.hid (V.M.later hi (Below.refl w3.heap.size w3).drew)
 have HD3 := Lib.hid ((But.refl V.M.g w3).drew)
 obtain ⟨_, ⟨a0, a1, a2, a3, a4, a5⟩, _⟩ := HX3.out.six
 clear hn hi hbt hr HB2 HX2
 go_upto_region 3 with fail
 go_region_with (first | (go_at_call 87; (with_reducible refine (HK1 _).mono ?_); rintro e w' ⟨rfl, rfl⟩) | (go_at_call 49; (with_reducible refine (HS _ HI3.out).mono ?_); rintro e w4 (⟨c4, s4, rfl, hn, hi, hbt, hr⟩ | ⟨k, j, a, b, d, hr, rfl, hl⟩); rotate_left; · exact ⟨rfl, RunD14.quit V ⟨k, j, a, b, d, hr, rfl, hl⟩⟩))
 all_goals
  try dsimp only at hr
  have hbt := HD3.out.trans hbt
  clear HS HI3 HD3 a0 a1 a2 a3 a4 a5
  have HS := fun w => storeD V HB.out HF3.out HN.out hr w
  have HB4 := Lib.hid (HB3.out.trans hbt)
  have HX4 := Lib.hid (HX3.out.but hbt HNE.out)
  have HI4 := Lib.hid hi
  clear hn hi hbt hr HB3 HX3
  go_wp2_with (go_at_call 87; (with_reducible refine (HK3 _).mono ?_); rintro e w' ⟨rfl, rfl⟩)
  (with_reducible refine (HS _ HI4.out).mono ?_)
  clear HS HI4
  rintro e w5 (⟨c5, s5, rfl, hn, hi, hbt, hr⟩ | ⟨k, j, a, b, d, hr, rfl, hl⟩)
  case inr => exact ⟨rfl, RunD14.quit V ⟨k, j, a, b, d, hr, rfl, hl⟩⟩
  dsimp only at hr
  have HS := fun w => storeD V HB.out HF4.out HU.out hr w
  have HB5 := Lib.hid (HB4.out.trans hbt)
  have HX5 := Lib.hid (HX4.out.but hbt HNE.out)
  have HI5 := Lib.hid (V.M.later hi (Below.refl w5.heap.size w5).drew)
  have HD5 := Lib.hid ((But.refl V.M.g w5).drew)
  obtain ⟨_, ⟨a0, a1, a2, a3, a4, a5⟩, _⟩ := HX5.out.six
  clear hn hi hbt hr HB4 HX4
  go_upto_region 5 with fail
  go_region_with (first | (go_at_call 87; (with_reducible refine (HK4 _).mono ?_); rintro e w' ⟨rfl, rfl⟩) | (go_at_call 49; (with_reducible refine (HS _ HI5.out).mono ?_); rintro e w6 (⟨c6, s6, rfl, hn, hi, hbt, hr⟩ | ⟨k, j, a, b, d, hr, rfl, hl⟩); rotate_left; · exact ⟨rfl, RunD14.quit V ⟨k, j, a, b, d, hr, rfl, hl⟩⟩))
  all_goals
   try dsimp only at hr
   have hbt := HD5.out.trans hbt
   clear HS HI5 HD5 a0 a1 a2 a3 a4 a5
   have HS := fun w => storeD V HB.out HF5.out HV.out hr w
   have HB6 := Lib.hid (HB5.out.trans hbt)
   have HX6 := Lib.hid (HX5.out.but hbt HNE.out)
   have HI6 := Lib.hid (V.M.later hi (Below.refl w6.heap.size w6).drew)
   have HD6 := Lib.hid ((But.refl V.M.g w6).drew)
   obtain ⟨_, ⟨a0, a1, a2, a3, a4, a5⟩, _⟩ := HX6.out.six
   clear hn hi hbt hr HB5 HX5
   go_upto_region 6 with fail
   go_region_with (first | (go_at_call 87; (with_reducible refine (HK5 _).mono ?_); rintro e w' ⟨rfl, rfl⟩) | (go_at_call 49; (with_reducible refine (HS _ HI6.out).mono ?_); rintro e w7 (⟨c7, s7, rfl, hn, hi, hbt, hr⟩ | ⟨k, j, a, b, d, hr, rfl, hl⟩); rotate_left; · exact ⟨rfl, RunD14.quit V ⟨k, j, a, b, d, hr, rfl, hl⟩⟩))
   all_goals
    try dsimp only at hr
    have hbt := HD6.out.trans hbt
    clear HS HI6 HD6 a0 a1 a2 a3 a4 a5
    have HS := fun w => storeD V HB.out HF6.out HX.out hr w
    have HB7 := Lib.hid (HB6.out.trans hbt)
    have HX7 := Lib.hid (HX6.out.but hbt HNE.out)
    have HI7 := Lib.hid (V.M.later hi (Below.refl w7.heap.size w7).drew)
    have HD7 := Lib.hid ((But.refl V.M.g w7).drew)
    obtain ⟨_, ⟨a0, a1, a2, a3, a4, a5⟩, _⟩ := HX7.out.six
    clear hn hi hbt hr HB6 HX6
    go_upto_region 7 with fail
    go_region_with (first | (go_at_call 87; (with_reducible refine (HK6 _).mono ?_); rintro e w' ⟨rfl, rfl⟩) | (go_at_call 49; (with_reducible refine (HS _ HI7.out).mono ?_); rintro e w8 (⟨c8, s8, rfl, hn, hi, hbt, hr⟩ | ⟨k, j, a, b, d, hr, rfl, hl⟩); rotate_left; · exact ⟨rfl, RunD14.quit V ⟨k, j, a, b, d, hr, rfl, hl⟩⟩))
    all_goals
     try dsimp only at hr
     have hbt := HD7.out.trans hbt
     clear HS HI7 HD7 a0 a1 a2 a3 a4 a5
     have HE := Lib.hid (RunD14.fin V (w := w) (ret := fun d => .int .u64 (d : Int)) hr hi (HB7.out.trans hbt))
     clear hn hi hbt hr
     go_wp2_with fail
     go_ret
     exact HE.out
end
end Go.Proofs.YtibpfkcackdbgaaGreatDoor
