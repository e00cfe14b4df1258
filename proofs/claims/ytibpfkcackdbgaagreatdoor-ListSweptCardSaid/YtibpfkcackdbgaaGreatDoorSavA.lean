/- SavA -/
import Derived.Test.YtibpfkcackdbgaaGreatDoorSavSave
import Derived.Test.YtibpfkcackdbgaaGreatDoorSavMake
import Derived.Test.YtibpfkcackdbgaaGreatDoorPolB
namespace Go.Proofs.YtibpfkcackdbgaaGreatDoor
open Go.ChangeShapes Go.WideShapes Go.ChangeAt Go.RowKit Go.BigFrame
set_option linter.unusedVariables false
set_option maxRecDepth 100000
section
variable {dv : Value} {S : Type} (V : SrvD dv S)
end
end Go.Proofs.YtibpfkcackdbgaaGreatDoor
namespace Go.Proofs.YtibpfkcackdbgaaGreatDoor
open Go.ChangeShapes Go.WideShapes Go.ChangeAt Go.RowKit Go.BigFrame Go.Deep
set_option linter.unusedVariables false
set_option maxRecDepth 100000
set_option maxHeartbeats 1000000 in
theorem do_leftX (g : Nat) (A : Option Addr) (cap : Nat) (p : Bool) (q0 q1 q2 q3 q4 q5 : Value) (x : Acc) (hm : x.m ≤ 1000000) (D : Option Addr) (dc : Nat) (E : Option Addr) (ec : Nat) (w : World)
  (hT : Hid (VarAt w g (tapeV A 0 cap p false q0 q1 q2 q3 q4 q5))) (hX : Hid (∀ y, But g w y → AccP y x D dc E ec)) :
  Calls Tryz.prog 142 #[.pointer (some ⟨g, 0, none⟩), .agg #[.int .i64 x.k, .int .i64 x.c, .int .u64 (x.a : Int), .int .u64 (x.b : Int), .slice D x.d.length dc, .slice E x.m ec]] w (LeftPost w g x p) := by
 have HM := Lib.hid hm
 obtain ⟨hgz, ⟨c0, c1, c2, c3, c4, c5, c6, c7, c8⟩, f0, f1, f2, f3, f4, f5, f6, f7, f8⟩ := hT.out.nine
 have g1 : g < w.heap.size + 1 := by omega
 have g2 : g < w.heap.size + 1 + 1 := by omega
 have g3 : ¬ (g = w.heap.size) := by omega
 have g4 : ¬ (g = w.heap.size + 1) := by omega
 have g6 : ¬ (w.heap.size = g) := by omega
 have g7 : ¬ (w.heap.size + 1 = g) := by omega
 clear hm
 go_enter Tryz.func142, Tryz.ntmps142
 go_upto_region 8 with fail
 refine gen_w (P := fun W => Code.wp _ _ _ _ W) (fun y => But g w y ∧ y.heap.size = w.heap.size + 1 + 1 ∧ VarAt y g (tapeV A 0 cap p true q0 q1 q2 q3 q4 q5) ∧ VarAt y w.heap.size (accA x D dc E ec)) ⟨butA, by simp, VarAt.mk9 (by simp; omega), VarAt.mk6 (by simp; omega)⟩ ?_
 rintro y ⟨k0, k1, k2, k3⟩
 obtain ⟨N, hN⟩ : ∃ N, w.heap.size = N := ⟨_, rfl⟩
 rw [hN] at k1 k3 g1 g2 g3 g4 g6 g7 hgz ⊢
 have hxy := hX.out y k0
 have K0 := Lib.hid k0
 have K1 := Lib.hid k1
 have K2 := Lib.hid k2
 have K3 := Lib.hid k3
 have HD := Lib.hid hxy.d
 have HF := Lib.hid hxy.f
 have HL := Lib.hid hxy.dl.2
 have HNN := Lib.hid hN
 obtain ⟨z, ⟨b0, b1, b2, b3, b4, b5⟩, h0', h1', h2', h3', h4', h5'⟩ := k3.six
 clear c0 c1 c2 c3 c4 c5 c6 c7 c8 f0 f1 f2 f3 f4 f5 f6 f7 f8 k0 k1 k2 k3 hxy hN
 go_region_with (first
  | (go_at_call 169; (with_reducible refine (cloneBC_at D _ dc x.d HL.out _ (Lib.hid (HD.out.below (B := y.heap.size) (by repeat (first | with_reducible assumption | with_reducible exact Below.refl _ _ | with_reducible refine Below.drew ?_ | with_reducible refine below_al ?_)) (Nat.le_refl _)))).mono ?_); rintro e w2 ⟨B2, bc2, rfl, hc2, hat2, hb2, hn2⟩; have hy2 : Below y.heap.size y w2 := below_step hb2 (by repeat (first | with_reducible assumption | with_reducible exact Below.refl _ _ | with_reducible refine Below.drew ?_ | with_reducible refine below_al ?_)); have HN2 := Lib.hid hn2; have HC2 := Lib.hid hc2; have HAT := Lib.hid hat2; have HY2 := Lib.hid hy2; obtain ⟨z2, ⟨e0, e1, e2, e3, e4, e5⟩, i0, i1, i2, i3, i4, i5⟩ := (K3.out.below hy2).six; clear hc2 hat2 hb2 hn2 hy2)
  | (go_at_call 127; have hw2 := HY2.out; (with_reducible refine (cloneWs_at E _ ec x.f HM.out _ (Lib.hid (HF.out.below (B := y.heap.size) (by repeat (first | with_reducible assumption | with_reducible exact Below.refl _ _ | with_reducible refine Below.drew ?_ | with_reducible refine below_al ?_)) (Nat.le_refl _)))).mono ?_); rintro e w3 ⟨B3, bc3, rfl, hc3, hat3, hb3, hn3⟩; have hy3 : Below y.heap.size y w3 := below_step hb3 (by repeat (first | with_reducible assumption | with_reducible exact Below.refl _ _ | with_reducible refine Below.drew ?_ | with_reducible refine below_al ?_)); have HN3 := Lib.hid hn3; have HC3 := Lib.hid hc3; have HAT3 := Lib.hid hat3; have HB3 := Lib.hid hb3; have HY3 := Lib.hid hy3; obtain ⟨z3, ⟨j0, j1, j2, j3, j4, j5⟩, l0, l1, l2, l3, l4, l5⟩ := (K3.out.below hy3).six; obtain ⟨z4, ⟨t0, t1, t2, t3, t4, t5, t6, t7, t8⟩, s0, s1, s2, s3, s4, s5, s6, s7, s8⟩ := (K2.out.below hy3).nine; clear hc3 hat3 hb3 hn3 hy3 hw2))
 all_goals
  go_wp2_with fail
  have k0 := K0.out
  have k1 := K1.out
  have y3 := HY3.out
  have kN := HNN.out
  have kx := hX.out w (But.refl g w)
  have ko := HB3.out.size
  have hbw : But g w w3 := k0.later y3 (by omega)
  have hy2s := HY2.out.size
  refine ⟨rfl, B2, bc2, B3, bc3, A, cap, rfl, VarAt.mk9 (by simp; omega), ⟨kx.k, kx.c, kx.a, kx.b, ⟨HC2.out, kx.dl.2⟩, ⟨HC3.out, kx.ml.2⟩, AtB.svd (Q := fun b => b ≠ N ∧ b ≠ g) (AtB.later HAT HB3.out) (by repeat (first | with_reducible exact Svd.refl _ _ | with_reducible refine Svd.drew ?_ | (with_reducible refine Svd.set ?_ _ _ _ (by omega)))) (fun _ b off e => by have h1 : y.heap.size ≤ b := HN2.out b off e; omega), AtW.svd (Q := fun b => b ≠ N ∧ b ≠ g) HAT3.out (by repeat (first | with_reducible exact Svd.refl _ _ | with_reducible refine Svd.drew ?_ | (with_reducible refine Svd.set ?_ _ _ _ (by omega)))) (HN3.out.mono fun b h => by omega)⟩, butA, (fun _ b off e => by have h1 : y.heap.size ≤ b := HN2.out b off e; omega), HN3.out.mono fun b h => by omega⟩
theorem field_fl (a b c : Value) (W : World) : (Instr.field 81 (.agg #[a, b, c]) 2).run Tryz.prog W = .ok c W := by kernel_rfl
def accD (k i : Int) (a b : Nat) (d : List Nat) : Acc := ⟨k, i, a, b, d, 0, fun _ => 0⟩
theorem accD_P {g : Nat} {w : World} {k : Int} {d : List Nat} {D : Option Addr} {dc : Nat} (hk : -9223372036854775808 ≤ k ∧ k < 9223372036854775808) (hd : AtB w D d.length d) (ho : OffW (fun c => c ≠ g) D d.length) (hl : d.length ≤ dc) (hm : d.length ≤ 100000) : ∀ y, But g w y → AccP y (accD k 0 0 0 d) D dc none 0 := fun y h =>
 ⟨hk, (by decide : (-9223372036854775808 : Int) ≤ 0 ∧ (0 : Int) < 9223372036854775808), (by decide : 0 < 18446744073709551616), (by decide : 0 < 18446744073709551616), ⟨hl, show d.length ≤ 140737488355328 by omega⟩, ⟨Nat.le_refl 0, Nat.zero_le _⟩, hd.but h ho, AtW.nil _ _⟩
def leftD (g : Nat) (wb : World) (k i : Int) (a b : Nat) (d : List Nat) (w' : World) : Prop := ∃ e, LeftPost wb g (accD k i a b d) true e w'
def Prd.stp (d : List Nat) : Nat → Prd
 | 0 => Prd.both d
 | 1 => Prd.sync
 | _ => .ret 1
def StepI (g : Nat) (w0 wb w : World) (d : List Nat) (R : RanD (List Res)) (j : Nat) (x : World) : Prop := ∃ s, TapeI g w0 wb s x ∧ But g w x ∧ (Prd.stp d j).run tapeTellD s = R
theorem LeftPost.wider {g : Nat} {wb w : World} {x : Acc} {p : Bool} {e : Ending} {w' : World} (h : LeftPost w g x p e w') (hb : But g wb w) : LeftPost wb g x p e w' := by
 obtain ⟨D, dc, E, ec, A, cap, h1, h2, h3, h4, h5, h6⟩ := h
 have hs := hb.size
 exact ⟨D, dc, E, ec, A, cap, h1, h2, h3, hb.trans h4, h5.mono fun b h => by omega, h6.mono fun b h => by omega⟩
set_option maxHeartbeats 4000000 in
set_option maxRecDepth 100000 in
theorem steps_tape (g : Nat) (w0 wb : World) (hg : w0.heap.size ≤ g) (hgw : g < wb.heap.size) (hb : Below w0.heap.size w0 wb) {s : List Res} {R : RanD (List Res)} (d : List Nat) (hR : (Prd.both d).run tapeTellD s = R) (hd : d.length ≤ 100000) (D : Option Addr) (dc b : Nat) (w : World) (hI : TapeI g w0 wb s w) (hbg : b ≠ g) (ho : OffW (fun c => c ≠ g) D d.length) (hl : d.length ≤ dc) (hat : AtB w D d.length d) (htw : TwoAt w b d D dc) :
  Calls Tryz.prog 196 #[doV g, .slice (some ⟨b, 0, none⟩) 2 2] w (RunO (TapeI g w0 wb) g (.iface 157 (.pointer (some ⟨g, 0, none⟩))) (leftD g wb) w (fun r => .bool ((r : Int) == 1)) R) := by
 have HXP := Lib.hid (accD_P (g := g) (w := w) (k := 5) (d := d) (by decide) hat ho hl hd)
 have hsm := eql_do 142 #[.pointer (some ⟨g, 0, none⟩)] #[]
 obtain ⟨nd, hnd⟩ : ∃ m, d.length = m := ⟨_, rfl⟩
 have HTW : Hid (VarAt w b [.int .i64 5, .int .i64 0, .int .u64 0, .int .u64 0, .slice D nd dc, .slice none 0 0, .int .i64 6, .int .i64 0, .int .u64 0, .int .u64 0, .slice none 0 0, .slice none 0 0]) := Lib.hid (by have h := htw; unfold TwoAt at h; rw [hnd] at h; exact h)
 have HND := Lib.hid hnd
 have HG := Lib.hid hgw
 have H0 := Lib.hid (And.intro hg hb)
 have HST := Lib.hid (show StepI g w0 wb w d R 0 w from ⟨s, hI, But.refl _ _, hR⟩)
 have HBG := Lib.hid hbg
 clear hI hR hgw hg hb hat ho hl hd htw hnd hbg
 go_enter Tryz.func196, Tryz.ntmps196
 go_wp2_with fail
 go_loopw [11] (fun u11 wr => ∃ j : Nat, j ≤ 2 ∧ u11 = .int .i64 (j : Int) ∧ StepI g w0 wb w d R j wr) (fun i _ => 2 - (intOf i).toNat)
 case atStart => exact ⟨0, by omega, rfl, HST.out⟩
 case round =>
  clear HST s
  obtain ⟨j, hj, rfl, s, hti, hbt, hr⟩ := hrel
  have htw := HTW.out.but hbt HBG.out
  obtain rfl | rfl | rfl : j = 0 ∨ j = 1 ∨ j = 2 := by omega
  ·clear hj
   obtain ⟨c0, c1, c2, c3, c4, c5⟩ : wr.cell? ⟨b, 0, none⟩ = some (.int .i64 5) ∧ wr.cell? ⟨b, 1, none⟩ = some (.int .i64 0) ∧ wr.cell? ⟨b, 2, none⟩ = some (.int .u64 0) ∧ wr.cell? ⟨b, 3, none⟩ = some (.int .u64 0) ∧ wr.cell? ⟨b, 4, none⟩ = some (.slice D nd dc) ∧ wr.cell? ⟨b, 5, none⟩ = some (.slice none 0 0) := ⟨htw.2.1 0 _ rfl, htw.2.1 1 _ rfl, htw.2.1 2 _ rfl, htw.2.1 3 _ rfl, htw.2.1 4 _ rfl, htw.2.1 5 _ rfl⟩
   have hblt := htw.1
   have HTI := Lib.hid hti
   have HBW := Lib.hid hbt
   have HRR := Lib.hid hr
   clear hti hbt hr htw
   go_upto_region 6 with fail
   refine gen_w (P := fun W => Code.wp _ _ _ _ W) (fun z => Below wr.heap.size wr z ∧ z.heap.size = wr.heap.size + 1 ∧ VarAt z wr.heap.size [.int .i64 5, .int .i64 0, .int .u64 0, .int .u64 0, .slice D nd dc, .slice none 0 0]) ⟨belA, by simp, VarAt.mk6 (by simp)⟩ ?_
   rintro z ⟨k0, k1, k2⟩
   obtain ⟨_, ⟨a0, a1, a2, a3, a4, a5⟩, _⟩ := k2.six
   have hgr := Nat.lt_of_lt_of_le HG.out HTI.out.2.size
   have hbz : But g w z := HBW.out.trans (But.of k0 (Nat.le_of_lt hgr))
   have hti : TapeI g w0 wb _ z := (tapeSrv g w0 wb H0.out.1 HG.out H0.out.2).later HTI.out k0
   have HBZ := Lib.hid hbz
   clear k0 k1 k2 c0 c1 c2 c3 c4 c5 hblt HTI HBW
   cases s with
   | nil =>
    have hr' : RanD.left 5 0 0 0 d = R := HRR.out
    obtain ⟨⟨A, cap, hv, hl, hc⟩, hB⟩ := hti
    have HXZ : ∀ y, But g z y → AccP y (accD 5 0 0 0 d) D dc none 0 := fun y h => HXP.out y (HBZ.out.trans h)
    have HDO := do_leftX g A cap true (.int .i64 0) (.int .i64 0) (.int .u64 0) (.int .u64 0) (.slice none 0 0) (.slice none 0 0) (accD 5 0 0 0 d) (Nat.zero_le _) D dc none 0 z (Lib.hid hv) (Lib.hid HXZ)
    have HDO2 : Calls Tryz.prog 142 #[.pointer (some ⟨g, 0, none⟩), .agg #[.int .i64 5, .int .i64 0, .int .u64 0, .int .u64 0, .slice D nd dc, .slice none 0 0]] z (LeftPost z g (accD 5 0 0 0 d) true) := by rw [← HND.out]; exact HDO
    have HBB := Lib.hid hB
    have HRL := Lib.hid hr'
    clear HDO HXZ hv hl hc hB hr'
    go_wp2_with fail
    (with_reducible refine HDO2.mono ?_)
    rintro e w4 h
    have hx := h.wider HBB.out
    obtain ⟨_, _, _, _, _, _, rfl, _⟩ := h
    exact ⟨rfl, by rw [← HRL.out]; exact ⟨rfl, _, hx⟩⟩
   | cons rr rest =>
    obtain ⟨⟨A, cap, hv, hl, hc⟩, hB⟩ := hti
    have HDO := do_told g A (rr :: rest).length rest.length cap rfl rr rest true false (.int .i64 0) (.int .i64 0) (.int .u64 0) (.int .u64 0) (.slice none 0 0) (.slice none 0 0) 5 0 0 0 D nd dc none 0 0 w0 z (Lib.hid hv) (Lib.hid hl) hc (Lib.hid (H0.out.2.trans (hB.below.mono H0.out.1))) H0.out.1
    have HDO2 : Calls Tryz.prog 142 #[.pointer (some ⟨g, 0, none⟩), .agg #[.int .i64 5, .int .i64 0, .int .u64 0, .int .u64 0, .slice D nd dc, .slice none 0 0]] z _ := HDO
    have HBB := Lib.hid hB
    have hfl := field_fl
    clear HDO hv hl hc hB
    go_wp2_with fail
    (with_reducible refine HDO2.mono ?_)
    clear HDO2
    rintro e w4 ⟨B, bc, A', cap', rfl, hr4, hv4, hl4, hc4, hb4⟩
    have HT4 : Hid (TapeI g w0 wb rest w4) := Lib.hid ⟨⟨A', cap', hv4, hl4, hc4⟩, HBB.out.trans hb4⟩
    have HB4 := Lib.hid (HBZ.out.trans hb4)
    clear hr4 hv4 hl4 hc4 hb4
    cases hfa : rr.fl with
    | true =>
     have hr' : RanD.done 0 rest = R := by
      have := HRR.out
      simpa [Prd.stp, Prd.both, Prd.sync, Prd.run, tapeTellD, toldR, hfa] using this
     have HRL := Lib.hid hr'
     clear hr' hfa
     go_wp2_with fail
     go_ret
     rw [← HRL.out]
     exact ⟨rfl, HT4.out, HB4.out⟩
    | false =>
     have hr' : (Prd.stp d 1).run tapeTellD rest = R := by
      have := HRR.out
      simpa [Prd.stp, Prd.both, Prd.sync, Prd.run, tapeTellD, toldR, hfa] using this
     have HRL := Lib.hid hr'
     clear hr' hfa
     go_wp2_with fail
     go_roundw
     case rel => exact ⟨1, by omega, by go_num, rest, HT4.out, HB4.out, HRL.out⟩
     case measure => simp [intOf]
  ·clear hj
   obtain ⟨c0, c1, c2, c3, c4, c5⟩ : wr.cell? ⟨b, 6, none⟩ = some (.int .i64 6) ∧ wr.cell? ⟨b, 7, none⟩ = some (.int .i64 0) ∧ wr.cell? ⟨b, 8, none⟩ = some (.int .u64 0) ∧ wr.cell? ⟨b, 9, none⟩ = some (.int .u64 0) ∧ wr.cell? ⟨b, 10, none⟩ = some (.slice none 0 0) ∧ wr.cell? ⟨b, 11, none⟩ = some (.slice none 0 0) := ⟨htw.2.1 6 _ rfl, htw.2.1 7 _ rfl, htw.2.1 8 _ rfl, htw.2.1 9 _ rfl, htw.2.1 10 _ rfl, htw.2.1 11 _ rfl⟩
   have hblt := htw.1
   have HTI := Lib.hid hti
   have HBW := Lib.hid hbt
   have HRR := Lib.hid hr
   clear hti hbt hr htw
   go_upto_region 6 with fail
   refine gen_w (P := fun W => Code.wp _ _ _ _ W) (fun z => Below wr.heap.size wr z ∧ z.heap.size = wr.heap.size + 1 ∧ VarAt z wr.heap.size [.int .i64 6, .int .i64 0, .int .u64 0, .int .u64 0, .slice none 0 0, .slice none 0 0]) ⟨belA, by simp, VarAt.mk6 (by simp)⟩ ?_
   rintro z ⟨k0, k1, k2⟩
   obtain ⟨_, ⟨a0, a1, a2, a3, a4, a5⟩, _⟩ := k2.six
   have hgr := Nat.lt_of_lt_of_le HG.out HTI.out.2.size
   have hbz : But g w z := HBW.out.trans (But.of k0 (Nat.le_of_lt hgr))
   have hti : TapeI g w0 wb _ z := (tapeSrv g w0 wb H0.out.1 HG.out H0.out.2).later HTI.out k0
   have HBZ := Lib.hid hbz
   clear k0 k1 k2 c0 c1 c2 c3 c4 c5 hblt HTI HBW
   cases s with
   | nil =>
    have hr' : RanD.left 6 0 0 0 [] = R := HRR.out
    obtain ⟨⟨A, cap, hv, hl, hc⟩, hB⟩ := hti
    have HXZ : ∀ y, But g z y → AccP y (accD 6 0 0 0 []) none 0 none 0 := accD_P (d := []) (by decide) (AtB.nil _ _) (OffW.nil _ _) (Nat.le_refl 0) (by decide)
    have HDO := do_leftX g A cap true (.int .i64 0) (.int .i64 0) (.int .u64 0) (.int .u64 0) (.slice none 0 0) (.slice none 0 0) (accD 6 0 0 0 []) (Nat.zero_le _) none 0 none 0 z (Lib.hid hv) (Lib.hid HXZ)
    have HDO2 : Calls Tryz.prog 142 #[.pointer (some ⟨g, 0, none⟩), .agg #[.int .i64 6, .int .i64 0, .int .u64 0, .int .u64 0, .slice none 0 0, .slice none 0 0]] z (LeftPost z g (accD 6 0 0 0 []) true) := by exact HDO
    have HBB := Lib.hid hB
    have HRL := Lib.hid hr'
    clear HDO HXZ hv hl hc hB hr'
    go_wp2_with fail
    (with_reducible refine HDO2.mono ?_)
    rintro e w4 h
    have hx := h.wider HBB.out
    obtain ⟨_, _, _, _, _, _, rfl, _⟩ := h
    exact ⟨rfl, by rw [← HRL.out]; exact ⟨rfl, _, hx⟩⟩
   | cons rr rest =>
    obtain ⟨⟨A, cap, hv, hl, hc⟩, hB⟩ := hti
    have HDO := do_told g A (rr :: rest).length rest.length cap rfl rr rest true false (.int .i64 0) (.int .i64 0) (.int .u64 0) (.int .u64 0) (.slice none 0 0) (.slice none 0 0) 6 0 0 0 none 0 0 none 0 0 w0 z (Lib.hid hv) (Lib.hid hl) hc (Lib.hid (H0.out.2.trans (hB.below.mono H0.out.1))) H0.out.1
    have HDO2 : Calls Tryz.prog 142 #[.pointer (some ⟨g, 0, none⟩), .agg #[.int .i64 6, .int .i64 0, .int .u64 0, .int .u64 0, .slice none 0 0, .slice none 0 0]] z _ := HDO
    have HBB := Lib.hid hB
    have hfl := field_fl
    clear HDO hv hl hc hB
    go_wp2_with fail
    (with_reducible refine HDO2.mono ?_)
    clear HDO2
    rintro e w4 ⟨B, bc, A', cap', rfl, hr4, hv4, hl4, hc4, hb4⟩
    have HT4 : Hid (TapeI g w0 wb rest w4) := Lib.hid ⟨⟨A', cap', hv4, hl4, hc4⟩, HBB.out.trans hb4⟩
    have HB4 := Lib.hid (HBZ.out.trans hb4)
    clear hr4 hv4 hl4 hc4 hb4
    cases hfa : rr.fl with
    | true =>
     have hr' : RanD.done 0 rest = R := by
      have := HRR.out
      simpa [Prd.stp, Prd.both, Prd.sync, Prd.run, tapeTellD, toldR, hfa] using this
     have HRL := Lib.hid hr'
     clear hr' hfa
     go_wp2_with fail
     go_ret
     rw [← HRL.out]
     exact ⟨rfl, HT4.out, HB4.out⟩
    | false =>
     have hr' : (Prd.stp d 2).run tapeTellD rest = R := by
      have := HRR.out
      simpa [Prd.stp, Prd.both, Prd.sync, Prd.run, tapeTellD, toldR, hfa] using this
     have HRL := Lib.hid hr'
     clear hr' hfa
     go_wp2_with fail
     go_roundw
     case rel => exact ⟨2, by omega, by go_num, rest, HT4.out, HB4.out, HRL.out⟩
     case measure => simp [intOf]
  ·have hr' : RanD.done 1 s = R := hr
   have HE := Lib.hid (And.intro hti hbt)
   have HRL := Lib.hid hr'
   clear hti hbt hr hr' htw hj
   go_wp2_with fail
   go_ret
   rw [← HRL.out]
   exact ⟨rfl, HE.out.1, HE.out.2⟩
def tapeD (g : Nat) (w0 wb : World) (hg : w0.heap.size ≤ g) (hgw : g < wb.heap.size) (hb : Below w0.heap.size w0 wb) (hT : Tab w0) : SrvD (doV g) (List Res) where
 M := tapeSrv g w0 wb hg hgw hb
 tell := tapeTellD
 L := leftD g wb
 mem := by
  intro s k i a b h0 h5
  cases s with
  | nil => rfl
  | cons r rest =>
   show Tell.told (toldR k r) rest = Tell.told (r.n % 18446744073709551616) rest
   unfold toldR
   rw [if_pos h5]
 lmem := fun _ _ h => h
 lt := fun h => Nat.lt_of_lt_of_le hgw h.2.size
 tab := fun h => by
  have h1 : Tab _ := hT.below hb hT.pos
  have hp := hT.pos
  exact h1.but h.2 (by omega)
 steps := fun d hR _ hd D dc b w hI hbg ho hl hat htw => steps_tape g w0 wb hg hgw hb d hR hd D dc b w hI hbg ho hl hat htw
end Go.Proofs.YtibpfkcackdbgaaGreatDoor
