/- SavSave -/
import Derived.Test.YtibpfkcackdbgaaGreatDoorSavRaise
namespace Go.Proofs.YtibpfkcackdbgaaGreatDoor
open Go.ChangeShapes Go.WideShapes Go.ChangeAt Go.RowKit Go.BigFrame Go.Deep
set_option linter.unusedVariables false
set_option maxRecDepth 100000
def Prd.entP (t r b st : Nat) (q : Ent → Prd) : Prd :=
 if b = 2 then q ⟨2, st, 0, 0, 0, 0⟩
 else Prd.ask 0 ((fieldN t r 1 : Nat) : Int) 0 0 [] fun y => Prd.ask 0 ((fieldN t r 4 : Nat) : Int) 0 0 [] fun u => Prd.ask 0 ((fieldN t r 5 : Nat) : Int) 0 0 [] fun v => Prd.ask 0 ((fieldN t r 6 : Nat) : Int) 0 0 [] fun x => q ⟨1, st, y, u, v, x⟩
def entA (e : Ent) : Value := .agg #[.int .i64 e.k, .int .u64 (e.s : Int), .int .u64 (e.y : Int), .int .u64 (e.u : Int), .int .u64 (e.v : Int), .int .u64 (e.x : Int)]
section
variable {dv : Value} {S : Type} (V : SrvD dv S)
def EntGo (R : RanD S) (w : World) (q : Ent → Prd) (e : Ending) (w' : World) : Prop :=
 (∃ en s', e = .returned (entA en) ∧ en.fit ∧ V.M.I s' w' ∧ But V.M.g w w' ∧ (q en).run V.tell s' = R) ∨ QuitD V R e w'
set_option maxHeartbeats 4000000 in
set_option maxRecDepth 100000 in
theorem entryOf_go (t r b st : Nat) (ht : t ≤ 64) (h1 : 1 ≤ r) (hr : r < 1048576) (hbit : b = 1 ∨ b = 2) (hst : st < 18446744073709551616) (q : Ent → Prd) (R : RanD S) (hb : R ≠ .bad) (s : S) (hR : (Prd.entP t r b st q).run V.tell s = R) (w : World) (hI : V.M.I s w) (hBw : ∀ y, V.M.B y ≤ w.heap.size) :
  Calls Tryz.prog 195 #[dv, .int .i64 (t : Int), .int .i64 (r : Int), .int .i64 (b : Int), .int .u64 (st : Int)] w (EntGo V R w q) := by
 have hgw := V.lt hI
 have HBW := Lib.hid hBw
 have HI := Lib.hid hI
 rcases hbit with rfl | rfl
 ·have hR1 : (Prd.ask 0 ((fieldN t r 1 : Nat) : Int) 0 0 [] fun y => Prd.ask 0 ((fieldN t r 4 : Nat) : Int) 0 0 [] fun u => Prd.ask 0 ((fieldN t r 5 : Nat) : Int) 0 0 [] fun v => Prd.ask 0 ((fieldN t r 6 : Nat) : Int) 0 0 [] fun x => q ⟨1, st, y, u, v, x⟩).run V.tell s = R := hR
  have HX := Lib.hid (And.intro ht (And.intro h1 hr))
  have HST := Lib.hid hst
  have HB := Lib.hid hb
  have HG := Lib.hid hgw
  have HL := sload_go V HB.out t r 1 1 rfl HX.out.1 HX.out.2.1 HX.out.2.2 (by omega) hR1
  clear hI hBw hR hR1 ht h1 hr hst hb
  go_enter Tryz.func195, Tryz.ntmps195
  go_wp2_with fail
  refine gen_w (P := fun W => Calls _ _ _ W _) (fun y => V.M.I s y ∧ But V.M.g w y ∧ VarAt y w.heap.size [.int .i64 0, .int .u64 0, .int .u64 0, .int .u64 0, .int .u64 0, .int .u64 0] ∧ VarAt y (w.heap.size + 1) [.int .i64 1, .int .u64 (st : Int), .int .u64 0, .int .u64 0, .int .u64 0, .int .u64 0]) ⟨V.M.later HI.out belA, But.of belA (Nat.le_of_lt HG.out), VarAt.of6 (by simp <;> omega) (by go_simp) (by go_simp) (by go_simp) (by go_simp) (by go_simp) (by go_simp) (by go_simp) (by go_simp) (by go_simp) (by go_simp) (by go_simp) (by go_simp), VarAt.of6 (by simp <;> omega) (by go_simp) (by go_simp) (by go_simp) (by go_simp) (by go_simp) (by go_simp) (by go_simp) (by go_simp) (by go_simp) (by go_simp) (by go_simp) (by go_simp)⟩ ?_
  rintro z0 ⟨hi, hbt, v0, v1⟩
  have HI0 := Lib.hid hi
  have HB0 := Lib.hid hbt
  have HV0 := Lib.hid (And.intro v0 v1)
  clear hi hbt v0 v1
  (with_reducible refine (HL _ HI0.out).mono ?_)
  clear HL HI0 HI
  rintro e w1 (⟨ny, s1, rfl, hn, hi, hbt, hr⟩ | ⟨k, j, a, b, d, hr, rfl, hl⟩)
  case inr => exact ⟨rfl, .inr ⟨k, j, a, b, d, hr, rfl, hl⟩⟩
  have hgw := HG.out
  have g0 : w.heap.size ≠ V.M.g := by omega
  have g1 : w.heap.size + 1 ≠ V.M.g := by omega
  have h0 := HV0.out.1.but hbt g0
  have h1 := HV0.out.2.but hbt g1
  have HN0 := Lib.hid hn
  have hbt := HB0.out.trans hbt
  have HBT := Lib.hid hbt
  have HII := Lib.hid hi
  have HH0 := Lib.hid h0
  have HH1 := Lib.hid h1
  obtain ⟨zz, ⟨c0, c1, c2, c3, c4, c5⟩, f0, f1, f2, f3, f4, f5⟩ := h1.six
  have hsz := hbt.size
  dsimp only at hr
  have HL := sload_go V HB.out t r 4 4 rfl HX.out.1 HX.out.2.1 HX.out.2.2 (by omega) hr
  clear hn hi hbt hr h0 h1 HB0 HV0
  go_wp2_with fail
  refine gen_w (P := fun W => Calls _ _ _ W _) (fun y => V.M.I s1 y ∧ But V.M.g w y ∧ VarAt y w.heap.size [.int .i64 0, .int .u64 0, .int .u64 0, .int .u64 0, .int .u64 0, .int .u64 0] ∧ VarAt y (w.heap.size + 1) [.int .i64 1, .int .u64 (st : Int), .int .u64 (ny : Int), .int .u64 0, .int .u64 0, .int .u64 0]) ⟨V.M.stay HII.out (Below.mono (B := w.heap.size) (by repeat (first | with_reducible exact Below.refl _ _ | with_reducible refine Below.drew ?_ | with_reducible refine below_al ?_ | (refine Below.setCell ?_ (show w.heap.size ≤ _ by (try simp only []); omega) _))) (HBW.out _)), HBT.out.new _ _ _ (Nat.le_of_lt HG.out) (by omega), HH0.out.apart _ _ (by omega), HH1.out.setAt 2 _ (by simp)⟩ ?_
  clear zz c0 c1 c2 c3 c4 c5 f0 f1 f2 f3 f4 f5 hsz g0 g1 HBT HII HH0 HH1 hgw
  rintro z1 ⟨hi, hbt, v0, v1⟩
  have HI1 := Lib.hid hi
  have HB1 := Lib.hid hbt
  have HV1 := Lib.hid (And.intro v0 v1)
  clear hi hbt v0 v1
  (with_reducible refine (HL _ HI1.out).mono ?_)
  clear HL HI1
  rintro e w2 (⟨nu, s2, rfl, hn, hi, hbt, hr⟩ | ⟨k, j, a, b, d, hr, rfl, hl⟩)
  case inr => exact ⟨rfl, .inr ⟨k, j, a, b, d, hr, rfl, hl⟩⟩
  have hgw := HG.out
  have g0 : w.heap.size ≠ V.M.g := by omega
  have g1 : w.heap.size + 1 ≠ V.M.g := by omega
  have h0 := HV1.out.1.but hbt g0
  have h1 := HV1.out.2.but hbt g1
  have HN1 := Lib.hid hn
  have hbt := HB1.out.trans hbt
  have HBT := Lib.hid hbt
  have HII := Lib.hid hi
  have HH0 := Lib.hid h0
  have HH1 := Lib.hid h1
  obtain ⟨zz, ⟨c0, c1, c2, c3, c4, c5⟩, f0, f1, f2, f3, f4, f5⟩ := h1.six
  have hsz := hbt.size
  dsimp only at hr
  have HL := sload_go V HB.out t r 5 5 rfl HX.out.1 HX.out.2.1 HX.out.2.2 (by omega) hr
  clear hn hi hbt hr h0 h1 HB1 HV1
  go_wp2_with fail
  refine gen_w (P := fun W => Calls _ _ _ W _) (fun y => V.M.I s2 y ∧ But V.M.g w y ∧ VarAt y w.heap.size [.int .i64 0, .int .u64 0, .int .u64 0, .int .u64 0, .int .u64 0, .int .u64 0] ∧ VarAt y (w.heap.size + 1) [.int .i64 1, .int .u64 (st : Int), .int .u64 (ny : Int), .int .u64 (nu : Int), .int .u64 0, .int .u64 0]) ⟨V.M.stay HII.out (Below.mono (B := w.heap.size) (by repeat (first | with_reducible exact Below.refl _ _ | with_reducible refine Below.drew ?_ | with_reducible refine below_al ?_ | (refine Below.setCell ?_ (show w.heap.size ≤ _ by (try simp only []); omega) _))) (HBW.out _)), HBT.out.new _ _ _ (Nat.le_of_lt HG.out) (by omega), HH0.out.apart _ _ (by omega), HH1.out.setAt 3 _ (by simp)⟩ ?_
  clear zz c0 c1 c2 c3 c4 c5 f0 f1 f2 f3 f4 f5 hsz g0 g1 HBT HII HH0 HH1 hgw
  rintro z2 ⟨hi, hbt, v0, v1⟩
  have HI2 := Lib.hid hi
  have HB2 := Lib.hid hbt
  have HV2 := Lib.hid (And.intro v0 v1)
  clear hi hbt v0 v1
  (with_reducible refine (HL _ HI2.out).mono ?_)
  clear HL HI2
  rintro e w3 (⟨nv, s3, rfl, hn, hi, hbt, hr⟩ | ⟨k, j, a, b, d, hr, rfl, hl⟩)
  case inr => exact ⟨rfl, .inr ⟨k, j, a, b, d, hr, rfl, hl⟩⟩
  have hgw := HG.out
  have g0 : w.heap.size ≠ V.M.g := by omega
  have g1 : w.heap.size + 1 ≠ V.M.g := by omega
  have h0 := HV2.out.1.but hbt g0
  have h1 := HV2.out.2.but hbt g1
  have HN2 := Lib.hid hn
  have hbt := HB2.out.trans hbt
  have HBT := Lib.hid hbt
  have HII := Lib.hid hi
  have HH0 := Lib.hid h0
  have HH1 := Lib.hid h1
  obtain ⟨zz, ⟨c0, c1, c2, c3, c4, c5⟩, f0, f1, f2, f3, f4, f5⟩ := h1.six
  have hsz := hbt.size
  dsimp only at hr
  have HL := sload_go V HB.out t r 6 6 rfl HX.out.1 HX.out.2.1 HX.out.2.2 (by omega) hr
  clear hn hi hbt hr h0 h1 HB2 HV2
  go_wp2_with fail
  refine gen_w (P := fun W => Calls _ _ _ W _) (fun y => V.M.I s3 y ∧ But V.M.g w y ∧ VarAt y w.heap.size [.int .i64 0, .int .u64 0, .int .u64 0, .int .u64 0, .int .u64 0, .int .u64 0] ∧ VarAt y (w.heap.size + 1) [.int .i64 1, .int .u64 (st : Int), .int .u64 (ny : Int), .int .u64 (nu : Int), .int .u64 (nv : Int), .int .u64 0]) ⟨V.M.stay HII.out (Below.mono (B := w.heap.size) (by repeat (first | with_reducible exact Below.refl _ _ | with_reducible refine Below.drew ?_ | with_reducible refine below_al ?_ | (refine Below.setCell ?_ (show w.heap.size ≤ _ by (try simp only []); omega) _))) (HBW.out _)), HBT.out.new _ _ _ (Nat.le_of_lt HG.out) (by omega), HH0.out.apart _ _ (by omega), HH1.out.setAt 4 _ (by simp)⟩ ?_
  clear zz c0 c1 c2 c3 c4 c5 f0 f1 f2 f3 f4 f5 hsz g0 g1 HBT HII HH0 HH1 hgw
  rintro z3 ⟨hi, hbt, v0, v1⟩
  have HI3 := Lib.hid hi
  have HB3 := Lib.hid hbt
  have HV3 := Lib.hid (And.intro v0 v1)
  clear hi hbt v0 v1
  (with_reducible refine (HL _ HI3.out).mono ?_)
  clear HL HI3
  rintro e w4 (⟨nx, s4, rfl, hn, hi, hbt, hr⟩ | ⟨k, j, a, b, d, hr, rfl, hl⟩)
  case inr => exact ⟨rfl, .inr ⟨k, j, a, b, d, hr, rfl, hl⟩⟩
  have hgw := HG.out
  have g0 : w.heap.size ≠ V.M.g := by omega
  have g1 : w.heap.size + 1 ≠ V.M.g := by omega
  have h0 := HV3.out.1.but hbt g0
  have h1 := HV3.out.2.but hbt g1
  have HN3 := Lib.hid hn
  have hbt := HB3.out.trans hbt
  have HBT := Lib.hid hbt
  have HII := Lib.hid hi
  have HH0 := Lib.hid h0
  have HH1 := Lib.hid h1
  obtain ⟨zz, ⟨c0, c1, c2, c3, c4, c5⟩, f0, f1, f2, f3, f4, f5⟩ := h1.six
  have hsz := hbt.size
  dsimp only at hr
  have HR := Lib.hid hr
  clear hn hi hbt hr h0 h1 HB3 HV3
  go_upto_region 8 with fail
  refine gen_w (P := fun W => Code.wp _ _ _ _ W) (fun y => V.M.I s4 y ∧ But V.M.g w y ∧ VarAt y w.heap.size [.int .i64 0, .int .u64 0, .int .u64 0, .int .u64 0, .int .u64 0, .int .u64 0] ∧ VarAt y (w.heap.size + 1) [.int .i64 1, .int .u64 (st : Int), .int .u64 (ny : Int), .int .u64 (nu : Int), .int .u64 (nv : Int), .int .u64 (nx : Int)]) ⟨V.M.stay HII.out (Below.mono (B := w.heap.size) (by repeat (first | with_reducible exact Below.refl _ _ | with_reducible refine Below.drew ?_ | with_reducible refine below_al ?_ | (refine Below.setCell ?_ (show w.heap.size ≤ _ by (try simp only []); omega) _))) (HBW.out _)), HBT.out.new _ _ _ (Nat.le_of_lt HG.out) (by omega), HH0.out.apart _ _ (by omega), HH1.out.setAt 5 _ (by simp)⟩ ?_
  clear zz c0 c1 c2 c3 c4 c5 f0 f1 f2 f3 f4 f5 hsz g0 g1 HBT HII HH0 HH1 hgw
  rintro z4 ⟨hi, hbt, v0, v1⟩
  have HI4 := Lib.hid hi
  have HB4 := Lib.hid hbt
  obtain ⟨za, ⟨a0, a1, a2, a3, a4, a5⟩, b0, b1, b2, b3, b4, b5⟩ := v0.six
  obtain ⟨zc, ⟨c0, c1, c2, c3, c4, c5⟩, f0, f1, f2, f3, f4, f5⟩ := v1.six
  clear hi hbt v0 v1
  go_wp2_with fail
  have hgw := HG.out
  have hbw := HB4.out
  exact bodyPost_ret (v := .agg #[.int .i64 1, .int .u64 (st : Int), .int .u64 (ny : Int), .int .u64 (nu : Int), .int .u64 (nv : Int), .int .u64 (nx : Int)]) (by simp [results, Tryz.results195, go_sem, a0, a1, a2, a3, a4, a5]) rfl (.inl ⟨⟨1, st, ny, nu, nv, nx⟩, s4, rfl, ⟨HST.out, HN0.out, HN1.out, HN2.out, HN3.out⟩, V.M.stay HI4.out (Below.mono (B := w.heap.size) (by repeat (first | with_reducible exact Below.refl _ _ | with_reducible refine Below.drew ?_ | with_reducible refine below_al ?_ | (refine Below.setCell ?_ (show w.heap.size ≤ _ by (try simp only []); omega) _))) (HBW.out _)), butA, HR.out⟩)
 ·have hR1 : (q ⟨2, st, 0, 0, 0, 0⟩).run V.tell s = R := hR
  have HR := Lib.hid hR1
  have HST := Lib.hid hst
  have HG := Lib.hid hgw
  clear hI hBw hR hR1 ht h1 hr hst hb
  go_enter Tryz.func195, Tryz.ntmps195
  go_wp2_with fail
  have hgw := HG.out
  have hbw : But V.M.g w w := But.refl _ _
  exact bodyPost_ret (v := .agg #[.int .i64 2, .int .u64 (st : Int), .int .u64 0, .int .u64 0, .int .u64 0, .int .u64 0]) (by simp [results, Tryz.results195, go_sem]) rfl (.inl ⟨⟨2, st, 0, 0, 0, 0⟩, s, rfl, ⟨HST.out, (show (0 : Nat) < _ by decide), (show (0 : Nat) < _ by decide), (show (0 : Nat) < _ by decide), (show (0 : Nat) < _ by decide)⟩, V.M.stay HI.out (Below.mono (B := w.heap.size) (by repeat (first | with_reducible exact Below.refl _ _ | with_reducible refine Below.drew ?_ | with_reducible refine below_al ?_ | (refine Below.setCell ?_ (show w.heap.size ≤ _ by (try simp only []); omega) _))) (HBW.out _)), butA, HR.out⟩)
theorem Own.off {w : World} {base : Nat} {A : Option Addr} {n k : Nat} {xs : List Nat} (h : Own w base (.slice A n k) n xs) : OffW (fun b => base ≤ b) A n := by
 intro hp b off e
 obtain ⟨g, cap, e2, hb, _, _⟩ := h.form hp
 cases e
 cases e2
 exact hb
def OverAt (p q st b : Nat) (w : World) : Prop := VarAt w p [.int .u64 (st : Int)] ∧ VarAt w q [.int .i64 (b : Int)]
theorem over_call (args : Array Value) (W : World) : (callFunc 197 args).run Tryz.prog W = .ok (.enter 197 args) W := by kernel_rfl
theorem set_call (args : Array Value) (W : World) : (callFunc 92 args).run Tryz.prog W = .ok (.enter 92 args) W := by kernel_rfl
set_option maxHeartbeats 4000000 in
set_option maxRecDepth 100000 in
theorem saveOf_prg (t r b f n : Nat) (ht : t ≤ 64) (h1 : 1 ≤ r) (hr : r < 1048576) (hbit : b = 1 ∨ b = 2) (hf : f < 18446744073709551616) (s : S) (hb : (Prd.rest t r b f n).run V.tell s ≠ .bad) (w : World) (hI : V.M.I s w) (hBw : ∀ y, V.M.B y ≤ w.heap.size) :
  Calls Tryz.prog 178 #[dv, .int .i64 (t : Int), .int .i64 (r : Int), .int .i64 (b : Int), .int .u64 (f : Int)] w (RunD14 V w (fun d => .bool ((d : Int) == 1)) ((Prd.rest t r b f n).run V.tell s)) := by
 have HH := fun w => has_any f (b : Int) hf w
 have HS := fun w => stamp_any f w
 have hgw := V.lt hI
 generalize hR : (Prd.rest t r b f n).run V.tell s = R at hb ⊢
 unfold Prd.rest at hR
 cases hh : hasF f (b : Int) with
 | true =>
  rw [hh] at HH
  rw [if_pos hh] at hR
  have hbx := al_below w (.cells #[.int .i64 (b : Int)] 3)
  have HE := Lib.hid (RunD14.fin V (w := w) (ret := fun d => .bool ((d : Int) == 1)) hR (V.M.later hI hbx) (But.of hbx (Nat.le_of_lt hgw)))
  clear hI hBw hR ht h1 hr hb hh hf hgw hbx
  go_enter Tryz.func178, Tryz.ntmps178
  go_wp2_with (go_at_call 93; (with_reducible refine (HH _).mono ?_); rintro e w' ⟨rfl, rfl⟩)
  go_ret
  exact HE.out
 | false =>
  rw [hh] at HH
  rw [if_neg (by rw [hh]; decide)] at hR
  have hst : stampN f < 18446744073709551616 := by unfold stampN; omega
  have hR1 : (Prd.entP t r b (stampN f) fun en => Prd.saved t r b (stampN f) n (dataN en)).run V.tell s = R := hR
  have HEN := fun w (h : ∀ y, V.M.B y ≤ w.heap.size) hI => entryOf_go V t r b (stampN f) ht h1 hr hbit hst _ R hb s hR1 w hI h
  have HB := Lib.hid hb
  have HI := Lib.hid hI
  have HG := Lib.hid hgw
  have HBW := Lib.hid hBw
  have HX := Lib.hid (And.intro ht (And.intro h1 (And.intro hr hbit)))
  clear hI hBw hR hR1 ht h1 hr hb hh hf hst hgw hbit
  generalize stampN f = st at *
  go_enter Tryz.func178, Tryz.ntmps178
  go_wp2_with (first | (go_at_call 93; (with_reducible refine (HH _).mono ?_); rintro e w' ⟨rfl, rfl⟩) | (go_at_call 148; (with_reducible refine (HS _).mono ?_); rintro e w' ⟨rfl, rfl⟩))
  refine gen_w (P := fun W => Calls _ _ _ W _) (fun y => V.M.I s y ∧ But V.M.g w y ∧ w.heap.size ≤ y.heap.size ∧ OverAt (w.heap.size + 1) w.heap.size st b y) ⟨V.M.later HI.out belA, But.of belA (Nat.le_of_lt HG.out), by simp <;> omega, VarAt.mk1 (by simp <;> omega), VarAt.mk1 (by simp <;> omega)⟩ ?_
  rintro z ⟨hi, hbt, hz, ho⟩
  have HI1 := Lib.hid hi
  have HB1 := Lib.hid hbt
  have HO1 := Lib.hid ho
  have HZ1 := Lib.hid hz
  have hE := HEN z (fun y => Nat.le_trans (HBW.out y) hz) hi
  obtain ⟨_, he2⟩ := ho.2
  clear hi hbt ho hz HI HEN HH HS he2
  (with_reducible refine hE.mono ?_)
  clear hE
  rintro e w2 (⟨en, s2, rfl, hfit, hi, hbt, hr⟩ | ⟨k, j, a, b, d, hr, rfl, hl⟩)
  case inr => exact ⟨rfl, RunD14.quit V ⟨k, j, a, b, d, hr, rfl, hl⟩⟩
  have hg1 : w.heap.size + 1 ≠ V.M.g := by have := HG.out; omega
  have hg0 : w.heap.size ≠ V.M.g := by have := HG.out; omega
  have HO2 : Hid (OverAt (w.heap.size + 1) w.heap.size st b w2) := Lib.hid ⟨HO1.out.1.but hbt hg1, HO1.out.2.but hbt hg0⟩
  have HB2 := Lib.hid (HB1.out.trans hbt)
  have HI2 := Lib.hid hi
  have HT2 := Lib.hid (V.tab hi)
  obtain ⟨ek, es, ey, eu, ev, ex⟩ := en
  have HD := bytesOf_any ek es ey eu ev ex hfit w2 HT2
  have hdl := data_len ⟨ek, es, ey, eu, ev, ex⟩
  have hev : entA ⟨ek, es, ey, eu, ev, ex⟩ = .agg #[.int .i64 ek, .int .u64 (es : Int), .int .u64 (ey : Int), .int .u64 (eu : Int), .int .u64 (ev : Int), .int .u64 (ex : Int)] := rfl
  rw [hev]
  dsimp only at hr
  clear hi hbt HI1 HB1 HO1 HT2 hfit hg0 hg1 hev
  generalize dataN ⟨ek, es, ey, eu, ev, ex⟩ = dd at *
  have HR := Lib.hid hr
  clear hr
  obtain ⟨_, k1, k2⟩ := HO2.out.1
  obtain ⟨_, k3, k4⟩ := HO2.out.2
  clear k1 k2 k3 k4
  go_wp2_with fail
  (with_reducible refine HD.mono ?_)
  clear HD
  rintro e w3 ⟨v, rfl, hown, hb3⟩
  obtain ⟨D, dc, rfl, hdc, hat⟩ := hown.at_ (by omega)
  have HOF := Lib.hid hown.off
  have HAT := Lib.hid hat
  have hgw2 := V.lt HI2.out
  have HI3 := Lib.hid (V.M.later HI2.out hb3)
  have HB3 := Lib.hid (HB2.out.trans (But.of hb3 (Nat.le_of_lt hgw2)))
  have HO3 : Hid (OverAt (w.heap.size + 1) w.heap.size st b w3) := Lib.hid ⟨HO2.out.1.below hb3, HO2.out.2.below hb3⟩
  have HSZ := Lib.hid (And.intro hgw2 hb3.size)
  obtain ⟨nd, hnd⟩ : ∃ m, dd.length = m := ⟨_, rfl⟩
  rw [hnd] at hdc HOF HAT hdl
  have HND := Lib.hid hnd
  clear hown hat hb3 HI2 HB2 HO2 hgw2
  rw [hnd]
  clear hnd
  go_wp2_with fail
  have hal := al_below w3 (.cells #[.int .i64 5, .int .i64 0, .int .u64 0, .int .u64 0, .slice D nd dc, .slice none 0 0, .int .i64 6, .int .i64 0, .int .u64 0, .int .u64 0, .slice none 0 0, .slice none 0 0] 70)
  have htw := VarAt.made w3 #[.int .i64 5, .int .i64 0, .int .u64 0, .int .u64 0, .slice D nd dc, .slice none 0 0, .int .i64 6, .int .i64 0, .int .u64 0, .int .u64 0, .slice none 0 0, .slice none 0 0] 70
  generalize w3.alloc (.cells #[.int .i64 5, .int .i64 0, .int .u64 0, .int .u64 0, .slice D nd dc, .slice none 0 0, .int .i64 6, .int .i64 0, .int .u64 0, .int .u64 0, .slice none 0 0, .slice none 0 0] 70) = w4 at hal htw ⊢
  obtain ⟨bl, hbl⟩ : ∃ x, w3.heap.size = x := ⟨_, rfl⟩
  have HI4 := Lib.hid (V.M.later HI3.out hal)
  have hg3 := V.lt HI3.out
  have HB4 := Lib.hid (HB3.out.trans (But.of hal (Nat.le_of_lt hg3)))
  have HO4 : Hid (OverAt (w.heap.size + 1) w.heap.size st b w4) := Lib.hid ⟨HO3.out.1.below hal, HO3.out.2.below hal⟩
  have hAT4 : AtB w4 D dd.length dd := by rw [HND.out]; exact AtB.later HAT hal
  have hst : (Prd.both dd).run V.tell s2 ≠ .bad → Calls Tryz.prog 196 #[dv, .slice (some ⟨bl, 0, none⟩) 2 2] w4 (RunD14 V w4 (fun r => .bool ((r : Int) == 1)) ((Prd.both dd).run V.tell s2)) := fun hbd => by
   subst hbl
   refine V.steps dd rfl hbd (by rw [HND.out]; omega) D dc w3.heap.size w4 HI4.out (by omega) ?_ (by rw [HND.out]; exact hdc) hAT4 ?_
   ·rw [HND.out]
    exact HOF.out.mono fun b h => by have := HSZ.out.1; omega
   ·unfold TwoAt
    rw [HND.out]
    exact htw
  have HP := partD V HB.out (p := Prd.both dd) HR.out w4 hst
  rw [hbl] at hg3 ⊢
  clear hal htw HI3 HB3 HO3 hst hAT4 HAT HOF hdc hdl HSZ HND hg3 hbl HR
  (with_reducible refine HP.mono ?_)
  clear HP
  rintro e w5 (⟨d5, s5, rfl, hi, hbt, hr⟩ | ⟨k, j, a, b, d, hr, rfl, hl⟩)
  case inr => exact ⟨rfl, RunD14.quit V ⟨k, j, a, b, d, hr, rfl, hl⟩⟩
  dsimp only at hr
  have hg1 : w.heap.size + 1 ≠ V.M.g := by have := HG.out; omega
  have hg0 : w.heap.size ≠ V.M.g := by have := HG.out; omega
  have HO5 : Hid (OverAt (w.heap.size + 1) w.heap.size st b w5) := Lib.hid ⟨HO4.out.1.but hbt hg1, HO4.out.2.but hbt hg0⟩
  have HB5 := Lib.hid (HB4.out.trans hbt)
  have HI5 := Lib.hid hi
  clear hi hbt HI4 HB4 HO4 hg1 hg0
  by_cases hd : d5 = 1
  ·rw [if_pos hd] at hr
   have dd5 : ((d5 : Int) == 1) = true := eq1 hd
   clear hd
   have HR5 := Lib.hid hr
   clear hr
   have hp : (Prd.raise (fieldN t r 2) b (Prd.over st b) n).run V.tell s5 ≠ .bad → Calls Tryz.prog 91 #[dv, .int .i64 (t : Int), .int .i64 (r : Int), .int .i64 (b : Int), .func (.func 197) #[] #[.pointer (some ⟨w.heap.size + 1, 0, none⟩), .pointer (some ⟨w.heap.size, 0, none⟩)]] w5 (RunD14 V w5 (fun _ => .tuple #[]) ((Prd.raise (fieldN t r 2) b (Prd.over st b) n).run V.tell s5)) := fun hbd =>
    raise_prg V t r b HX.out.1 HX.out.2.1 HX.out.2.2.1 HX.out.2.2.2 (Prd.over st b) (fun g h => by unfold Prd.over at h; simp only [Bool.or_eq_false_iff] at h; exact h.2) 197 #[.pointer (some ⟨w.heap.size + 1, 0, none⟩), .pointer (some ⟨w.heap.size, 0, none⟩)] (OverAt (w.heap.size + 1) w.heap.size st b)
     (fun x y h hxy => ⟨h.1.but hxy (by have := HG.out; omega), h.2.but hxy (by have := HG.out; omega)⟩) over_call
     (fun g x hg h => over1_any (w.heap.size + 1) w.heap.size b st g hg x (h.1.2.1 0 _ rfl) (h.2.2.1 0 _ rfl)) n s5 hbd w5 HI5.out HO5.out
   have HP := partD V HB.out HR5.out w5 hp
   have c1 := HO5.out.2.2.1 0 _ rfl
   have z1 := HO5.out.2.1
   clear hp HR5
   go_wp2_with fail
   (with_reducible refine HP.mono ?_)
   clear HP
   rintro e w6 (⟨d6, s6, rfl, hi, hbt, hr⟩ | ⟨k, j, a, b, d, hr, rfl, hl⟩)
   case inr => exact ⟨rfl, RunD14.quit V ⟨k, j, a, b, d, hr, rfl, hl⟩⟩
   have HE := Lib.hid (RunD14.fin V (w := w) (ret := fun d => .bool ((d : Int) == 1)) hr hi (HB5.out.trans hbt))
   clear hi hbt hr
   go_wp2_with fail
   go_ret
   exact HE.out
  ·rw [if_neg hd] at hr
   have dd5 : ((d5 : Int) == 1) = false := ne1 hd
   clear hd
   have HE := Lib.hid (RunD14.fin V (w := w) (ret := fun d => .bool ((d : Int) == 1)) hr HI5.out HB5.out)
   clear hr
   go_wp2_with fail
   go_ret
   exact HE.out
set_option maxHeartbeats 1000000 in
theorem save_prg (t r b n : Nat) (ht : t ≤ 64) (h1 : 1 ≤ r) (hr : r < 1048576) (hbit : b = 1 ∨ b = 2) (s : S) (hb : (Prd.save t r b n).run V.tell s ≠ .bad) (w : World) (hI : V.M.I s w) (hBw : ∀ y, V.M.B y ≤ w.heap.size) :
  Calls Tryz.prog 134 #[dv, .int .i64 (t : Int), .int .i64 (r : Int), .int .i64 (b : Int)] w (RunD14 V w (fun d => .bool ((d : Int) == 1)) ((Prd.save t r b n).run V.tell s)) := by
 generalize hR : (Prd.save t r b n).run V.tell s = R at hb ⊢
 have HL := sload_go V hb t r 2 2 rfl ht h1 hr (by omega) hR
 have HX := Lib.hid (And.intro ht (And.intro h1 (And.intro hr hbit)))
 have HB := Lib.hid hb
 have HI := Lib.hid hI
 have HBW := Lib.hid hBw
 clear hI hBw hR ht h1 hr hb hbit
 go_enter Tryz.func134, Tryz.ntmps134
 go_wp2_with fail
 (with_reducible refine (HL _ HI.out).mono ?_)
 clear HL
 rintro e w2 (⟨f, s2, rfl, hn, hi, hbt, hr⟩ | ⟨k, j, a, b, d, hr, rfl, hl⟩)
 case inr => exact ⟨rfl, RunD14.quit V ⟨k, j, a, b, d, hr, rfl, hl⟩⟩
 dsimp only at hr
 have hsz := hbt.size
 have HS := saveOf_prg V t r b f n HX.out.1 HX.out.2.1 HX.out.2.2.1 HX.out.2.2.2 hn s2 (by rw [hr]; exact HB.out) w2 hi (fun y => Nat.le_trans (HBW.out y) hsz)
 rw [hr] at HS
 have HB2 := Lib.hid hbt
 clear hn hi hbt hr hsz
 go_wp2_with fail
 (with_reducible refine HS.mono ?_)
 clear HS
 cases R with
 | bad => exact absurd rfl HB.out
 | left k i a b d =>
  rintro e w3 ⟨rfl, hl⟩
  exact ⟨rfl, rfl, hl⟩
 | done d s3 =>
  rintro e w3 ⟨rfl, hi, hb3⟩
  have HE := Lib.hid (And.intro hi (HB2.out.trans hb3))
  clear hi hb3
  go_wp2_with fail
  go_ret
  exact ⟨rfl, HE.out.1, HE.out.2⟩
set_option maxHeartbeats 1000000 in
theorem set_prg (t r b n : Nat) (ht : t ≤ 64) (h1 : 1 ≤ r) (hr : r < 1048576) (hbit : b = 1 ∨ b = 2) (s : S) (hb : (Prd.set t r b n).run V.tell s ≠ .bad) (w : World) (hI : V.M.I s w) :
  Calls Tryz.prog 58 #[dv, .int .i64 (t : Int), .int .i64 (r : Int), .int .i64 (b : Int)] w (RunD14 V w (fun _ => .tuple #[]) ((Prd.set t r b n).run V.tell s)) := by
 generalize hR : (Prd.set t r b n).run V.tell s = R at hb ⊢
 have hgw := V.lt hI
 have hal := al_below w (.cells #[.int .i64 (b : Int)] 3)
 have hvb := VarAt.made w #[.int .i64 (b : Int)] 3
 have hI2 := V.M.later hI hal
 have HRA := raise_prg V t r b ht h1 hr hbit (fun g => hasF g (b : Int)) (fun g h => h) 92 #[.pointer (some ⟨w.heap.size, 0, none⟩)] (fun x => VarAt x w.heap.size [.int .i64 (b : Int)])
  (fun x y h hxy => h.but hxy (by omega)) set_call (fun g x hg h => set1_any w.heap.size b g hg x (h.2.1 0 _ rfl)) n s (by rw [show (Prd.raise (fieldN t r 2) b (fun g => hasF g (b : Int)) n).run V.tell s = R from hR]; exact hb) _ hI2 hvb
 rw [show (Prd.raise (fieldN t r 2) b (fun g => hasF g (b : Int)) n).run V.tell s = R from hR] at HRA
 have HB2 := Lib.hid (But.of (g := V.M.g) hal (Nat.le_of_lt hgw))
 have HB := Lib.hid hb
 clear hI hI2 hvb hal hgw hR ht h1 hr hb hbit
 go_enter Tryz.func58, Tryz.ntmps58
 go_wp2_with fail
 (with_reducible refine HRA.mono ?_)
 clear HRA
 cases R with
 | bad => exact absurd rfl HB.out
 | left k i a b d =>
  rintro e w3 ⟨rfl, hl⟩
  exact ⟨rfl, rfl, hl⟩
 | done d s3 =>
  rintro e w3 ⟨rfl, hi, hb3⟩
  have HE := Lib.hid (And.intro hi (HB2.out.trans hb3))
  clear hi hb3
  go_wp2_with fail
  go_end0
  exact ⟨rfl, HE.out.1, HE.out.2⟩
end
end Go.Proofs.YtibpfkcackdbgaaGreatDoor
