/- EpcRefU, VrtRefA, VrtRefAdd, VrtRefRem, VrtRefHas, VrtRefIn, VrtRefNext -/
import Derived.Test.YtibpfkcackdbgaaGreatDoorLstB
import Derived.Test.YtibpfkcackdbgaaGreatDoorVrtA
namespace Go.Proofs.YtibpfkcackdbgaaGreatDoor
set_option linter.unusedVariables false
set_option maxRecDepth 100000
set_option linter.unusedSectionVars false
open Go.ChangeShapes Go.WideShapes Go.ChangeAt Go.RowKit Go.BigFrame
section
variable {g : Nat} {A : Option Addr} {n cap : Nat} {log : List Res} {w0 wb : World}
def RefDB (g : Nat) (A : Option Addr) (n cap : Nat) (log : List Res) (w0 wb : World) (P : Nat → Prop) (ret : Nat → Value) (R : RanD (List Res)) (e : Ending) (w' : World) : Prop :=
 ∃ d c', e = .returned (ret d) ∧ CurID g A n cap log w0 wb c' w' ∧ (Prd.ret d).runCD c' = R ∧ P d
theorem RefDB.fin {P : Nat → Prop} {R : RanD (List Res)} {d : Nat} {c : CSD} {w' : World} {ret : Nat → Value} (h : (Prd.ret d).runCD c = R) (hI : CurID g A n cap log w0 wb c w') (hP : P d) : RefDB g A n cap log w0 wb P ret R (.returned (ret d)) w' := ⟨d, c, rfl, hI, h, hP⟩
theorem RefDB.to {P : Nat → Prop} {R : RanD (List Res)} {ret : Nat → Value} {e : Ending} {w' : World} (h : RefDB g A n cap log w0 wb P ret R e w') : RefD g A n cap log w0 wb ret R e w' := by
 obtain ⟨d, c, h1, h2, h3, _⟩ := h
 exact ⟨d, c, h1, h2, h3⟩
theorem rPartB {P : Nat → Prop} {R : RanD (List Res)} (hb : R ≠ .bad) {p : Prd} {q : Nat → Prd} {c : CSD} {F : FuncId} {args : Array Value} {ret : Nat → Value} (hR : (p.bind q).runCD c = R) (w : World)
  (h : p.runCD c ≠ .bad → Calls Tryz.prog F args w (RefDB g A n cap log w0 wb P ret (p.runCD c))) : Calls Tryz.prog F args w (fun e w' => ∃ d c', e = .returned (ret d) ∧ CurID g A n cap log w0 wb c' w' ∧ (q d).runCD c' = R ∧ P d ∧ (Prd.ret d).runCD c' = p.runCD c) := by
 have hp : p.runCD c ≠ .bad := by
  intro h
  rw [Prd.runCD_bind, h] at hR
  exact hb hR.symm
 refine (h hp).mono ?_
 rintro e w' ⟨d, c', rfl, hi, hr, hP⟩
 refine ⟨d, c', rfl, hi, ?_, hP, hr⟩
 have h2 : ((Prd.ret d).bind q).runCD c' = R := by rw [Prd.runCD_bind, hr, ← Prd.runCD_bind]; exact hR
 exact h2
theorem up_plain {p : Prg} (hm : p.mem) {c c' : CSD} {d : Nat} (hc : c.plain) (h : (Prd.ret d).runCD c' = p.up.runCD c) : c'.plain := by
 cases c' with
 | «at» s => trivial
 | stop k i a b dd =>
  cases c with
  | stop k2 i2 a2 b2 d2 =>
   have h2 : RanD.left k i a b dd = RanD.left k2 i2 a2 b2 d2 := h
   cases h2
   exact hc
  | «at» s =>
   have h2 : RanD.left k i a b dd = p.up.run tapeTellD s := h
   rw [Prg.run_up tapeTellD tapeTell (fun s k i a b h0 h5 => by
    cases s with
    | nil => rfl
    | cons r rest =>
     show Tell.told (toldR k r) rest = Tell.told (r.n % 18446744073709551616) rest
     unfold toldR
     rw [if_pos h5]) p s hm] at h2
   cases hr : p.run tapeTell s with
   | bad => rw [hr] at h2; cases h2
   | left k3 i3 a3 b3 => rw [hr] at h2; cases h2; exact (rfl : ([] : List Nat) = [])
   | done d3 s3 => rw [hr] at h2; cases h2
variable (OK : Hid (CurOk g A n log w0 wb))
include OK
theorem rSwapD {R : RanD (List Res)} {f : Nat → Prd} {c : CSD} {i : Int} {a : Nat} (hR : (Prd.ask 4 i a 0 [] f).runCD c = R) (w : World) (hI : CurID g A n cap log w0 wb c w) : Calls Tryz.prog 190 #[.pointer (some ⟨g, 0, none⟩), .int .i64 i, .int .u64 (a : Int)] w (GoR g A n cap log w0 wb w R (fun n => .int .u64 (n : Int)) f) :=
 (curSwap_of g i a _ _ (fun x y h hb => h.below hb) w hI.lt (curDoM OK.out c 4 i a 0 (by decide) w hI)).mono fun e w' h => ⟨_, _, h.1, c.small _ _ _ _ _, h.2.1, h.2.2, by rw [← hR, Prd.runCD_ask]⟩
set_option maxHeartbeats 4000000 in
set_option maxRecDepth 100000 in
theorem rPopU_prg (t : Nat) (ht : t ≤ 64) (m : Nat) (c : CSD) (hb : (Prg.pop t m).up.runCD c ≠ .bad) (w : World) (hI : CurID g A n cap log w0 wb c w) :
  Calls Tryz.prog 155 #[.pointer (some ⟨g, 0, none⟩), .int .i64 (t : Int)] w (RefDB g A n cap log w0 wb (fun d => d < 1048576) (fun d => .int .i64 (d : Int)) ((Prg.pop t m).up.runCD c)) := by
 generalize hR : (Prg.pop t m).up.runCD c = R at hb ⊢
 have HT := Lib.hid ht
 have HB := Lib.hid hb
 obtain ⟨J, hJ⟩ : ∃ J : Nat → World → Prop, J = fun m wr => ∃ c, CurID g A n cap log w0 wb c wr ∧ (Prg.pop t m).up.runCD c = R := ⟨_, rfl⟩
 have HJ : ∀ m wr, J m wr ↔ ∃ c, CurID g A n cap log w0 wb c wr ∧ (Prg.pop t m).up.runCD c = R := fun m wr => by rw [hJ]
 have HJ0 := Lib.hid (show ∃ m, J m w from ⟨m, (HJ _ _).2 ⟨c, hI, hR⟩⟩)
 have HJH := Lib.hid HJ
 clear hI hb hR ht hJ HJ c
 go_enter Tryz.func155, Tryz.ntmps155
 go_wp2_with fail
 go_loopw [5] (fun _ wr => ∃ m, J m wr) (fun _ wr => cnt J wr)
 case atStart => exact HJ0.out
 case round =>
  clear HJ0
  clear m
  have hj := cnt_spec hrel
  clear hrel
  generalize hm : cnt J wr = m at *
  have HM := Lib.hid hm
  clear hm
  obtain ⟨c3, hS, hr⟩ := (HJH.out _ _).1 hj
  clear hj
  have c2' := hS.two
  have hgw := hS.lt
  by_cases hst : c3.stops = true
  ·rw [hst] at c2'
   have HE := Lib.hid (RefDB.fin (P := fun d => d < 1048576) (ret := fun d => .int .i64 (d : Int)) (d := 0) ((Prd.runCD_stop (p := (Prg.pop t m).up) hst _).symm.trans hr) hS (by decide))
   clear hS hst hr
   go_wp2_with fail
   go_ret
   exact HE.out
  have hst' : c3.stops = false := by simpa using hst
  rw [hst'] at c2'
  cases m with
  | zero =>
   cases c3 with
   | «at» s => exact absurd hr.symm HB.out
   | stop k i a b d => exact absurd rfl hst
  | succ m =>
  have hr1 : (Prd.ask 0 1 0 0 [] fun w => (if firstN w = 0 then Prg.ret 0 else Prg.ask 0 ((fieldN t (firstN w) 7 : Nat) : Int) 0 0 fun x => Prg.ask 2 1 w (topN (firstN x) (tagN w + 1)) fun d => if d = 1 then Prg.ret (firstN w) else Prg.pop t m).up).runCD c3 = R := hr
  have HL := rLoadD (cap := cap) (wb := wb) OK hr1 wr hS
  clear hS hr hr1 hst hst'
  go_wp2_with fail
  (with_reducible refine HL.mono ?_)
  clear HL c2' hgw
  rintro e w4 ⟨x, c4, rfl, hx, hi, -, hr⟩
  dsimp only at hr
  have HF1 := fun w => refFirst_any x hx w
  have HTG := fun w => refTag_any x hx w
  have hxl := first_lt x
  have htl := tagN_lt hx
  have hw : IntKind.u64.wrap (((tagN x : Nat) : Int) + 1) = ((tagN x + 1 : Nat) : Int) := by rw [IntKind.wrap_u64]; omega
  by_cases hf : firstN x = 0
  ·have d1 := eq0 hf
   rw [if_pos hf] at hr
   have HE := Lib.hid (RefDB.fin (P := fun d => d < 1048576) (ret := fun d => .int .i64 (d : Int)) (d := 0) hr hi (by decide))
   clear hx hxl htl hw hi hr HTG
   generalize firstN x = f at *
   subst hf
   go_wp2_with (first | (go_at_call 159; (with_reducible refine (HF1 _).mono ?_); rintro e w' ⟨rfl, rfl⟩))
   go_ret
   exact HE.out
  have d1 := ne0 hf
  rw [if_neg hf] at hr
  have hr1 : (Prd.ask 0 ((fieldN t (firstN x) 7 : Nat) : Int) 0 0 [] fun y => Prd.ask 2 1 x (topN (firstN y) (tagN x + 1)) [] fun d => (if d = 1 then Prg.ret (firstN x) else Prg.pop t m).up).runCD c4 = R := hr
  have HK : ∀ w, Calls Tryz.prog 15 #[.int .i64 (t : Int), .int .i64 ((firstN x : Nat) : Int), .int .i64 7] w fun e w' => e = .returned (.int .i64 (fieldN t (firstN x) 7 : Nat)) ∧ w = w' := fun w => refField_any t (firstN x) 7 (by have := HT.out; omega) (by omega) (by omega) (by omega) w
  have HL2 := rLoadD (cap := cap) (wb := wb) OK hr1 w4 hi
  have HXL := Lib.hid hxl
  clear hi hr hr1 hxl hf
  generalize fieldN t (firstN x) 7 = fl at *
  go_wp2_with (first | (go_at_call 159; (with_reducible refine (HF1 _).mono ?_); rintro e w' ⟨rfl, rfl⟩) | (go_at_call 15; (with_reducible refine (HK _).mono ?_); rintro e w' ⟨rfl, rfl⟩))
  (with_reducible refine HL2.mono ?_)
  clear HL2
  rintro e w5 ⟨y, c5, rfl, hy, hi, -, hr⟩
  dsimp only at hr
  have HF2 := fun w => refFirst_any y hy w
  have hyl := first_lt y
  have HTP := fun w => refTop_any (firstN y) (tagN x + 1) hyl w
  have HC := rCasD (cap := cap) (wb := wb) OK hr
  obtain ⟨T1, hT1⟩ : ∃ T, tagN x + 1 = T := ⟨_, rfl⟩
  rw [hT1] at hw HTP HC
  have HI5 := Lib.hid hi
  clear hT1 hx htl hy hyl hi hr
  generalize topN (firstN y) T1 = tp at *
  generalize firstN y = fy at *
  generalize firstN x = f at *
  generalize tagN x = tg at *
  go_wp2_with (first | (go_at_call 159; (with_reducible refine (HF2 _).mono ?_); rintro e w' ⟨rfl, rfl⟩) | (go_at_call 162; (with_reducible refine (HTG _).mono ?_); rintro e w' ⟨rfl, rfl⟩) | (go_at_call 161; (with_reducible refine (HTP _).mono ?_); rintro e w' ⟨rfl, rfl⟩))
  (with_reducible refine (HC _ HI5.out).mono ?_)
  clear HC HI5
  rintro e w6 ⟨d, c6, rfl, -, hi, -, hr⟩
  dsimp only at hr
  by_cases hd : d = 1
  ·have dd := eq1 hd
   rw [if_pos hd] at hr
   have HE := Lib.hid (RefDB.fin (P := fun d => d < 1048576) (ret := fun d => .int .i64 (d : Int)) hr hi HXL.out)
   clear hd hi hr
   go_wp2_with fail
   go_ret
   exact HE.out
  ·have dd := ne1 hd
   rw [if_neg hd] at hr
   have HJ6 := Lib.hid ((HJH.out _ _).2 ⟨c6, hi, hr⟩)
   clear hd hr hi
   go_wp2_with fail
   go_roundw
   case rel => exact ⟨m, HJ6.out⟩
   case measure => exact cnt_lt HJ6.out (Nat.lt_succ_self m)
set_option maxHeartbeats 4000000 in
set_option maxRecDepth 100000 in
theorem rPushU_prg (t : Nat) (ht : t ≤ 64) (r : Nat) (h1 : 1 ≤ r) (hrr : r < 1048576) (m : Nat) (c : CSD) (hb : (Prg.push t r m).up.runCD c ≠ .bad) (w : World) (hI : CurID g A n cap log w0 wb c w) :
  Calls Tryz.prog 112 #[.pointer (some ⟨g, 0, none⟩), .int .i64 (t : Int), .int .i64 (r : Int)] w (RefDB g A n cap log w0 wb (fun _ => True) (fun _ => .tuple #[]) ((Prg.push t r m).up.runCD c)) := by
 generalize hR : (Prg.push t r m).up.runCD c = R at hb ⊢
 have HB := Lib.hid hb
 have HK : ∀ w, Calls Tryz.prog 15 #[.int .i64 (t : Int), .int .i64 (r : Int), .int .i64 7] w fun e w' => e = .returned (.int .i64 (fieldN t r 7 : Nat)) ∧ w = w' := fun w => refField_any t r 7 (by omega) h1 (by omega) (by omega) w
 have HTP0 := fun T w => refTop_any r T hrr w
 obtain ⟨J, hJ⟩ : ∃ J : Nat → World → Prop, J = fun m wr => ∃ c, CurID g A n cap log w0 wb c wr ∧ (Prg.push t r m).up.runCD c = R := ⟨_, rfl⟩
 have HJ : ∀ m wr, J m wr ↔ ∃ c, CurID g A n cap log w0 wb c wr ∧ (Prg.push t r m).up.runCD c = R := fun m wr => by rw [hJ]
 have HJ0 := Lib.hid (show ∃ m, J m w from ⟨m, (HJ _ _).2 ⟨c, hI, hR⟩⟩)
 have HJH := Lib.hid HJ
 clear hI hb hR ht hJ HJ c h1 hrr
 obtain ⟨fl, hfl⟩ : ∃ x, fieldN t r 7 = x := ⟨_, rfl⟩
 rw [hfl] at HK
 have HFL := Lib.hid hfl
 clear hfl
 go_enter Tryz.func112, Tryz.ntmps112
 go_wp2_with fail
 go_loopw [6] (fun _ wr => ∃ m, J m wr) (fun _ wr => cnt J wr)
 case atStart => exact HJ0.out
 case round =>
  clear HJ0
  clear m
  have hj := cnt_spec hrel
  clear hrel
  generalize hm : cnt J wr = m at *
  have HM := Lib.hid hm
  clear hm
  obtain ⟨c3, hS, hr⟩ := (HJH.out _ _).1 hj
  clear hj
  have c2' := hS.two
  have hgw := hS.lt
  by_cases hst : c3.stops = true
  ·rw [hst] at c2'
   have HE := Lib.hid (RefDB.fin (P := fun _ => True) (ret := fun _ => .tuple #[]) (d := 0) ((Prd.runCD_stop (p := (Prg.push t r m).up) hst _).symm.trans hr) hS trivial)
   clear hS hst hr
   go_wp2_with fail
   go_end0
   exact HE.out
  have hst' : c3.stops = false := by simpa using hst
  rw [hst'] at c2'
  cases m with
  | zero =>
   cases c3 with
   | «at» s => exact absurd hr.symm HB.out
   | stop k i a b d => exact absurd rfl hst
  | succ m =>
  have hr1 : (Prd.ask 0 1 0 0 [] fun w => Prd.ask 1 ((fieldN t r 7 : Nat) : Int) (firstN w) 0 [] fun _ => Prd.ask 2 1 w (topN r (tagN w + 1)) [] fun d => (if d = 1 then Prg.ret 0 else Prg.push t r m).up).runCD c3 = R := hr
  rw [HFL.out] at hr1
  have HL := rLoadD (cap := cap) (wb := wb) OK hr1 wr hS
  clear hS hr hr1 hst hst'
  go_wp2_with fail
  (with_reducible refine HL.mono ?_)
  clear HL c2' hgw
  rintro e w4 ⟨x, c4, rfl, hx, hi, -, hr⟩
  dsimp only at hr
  have HF1 := fun w => refFirst_any x hx w
  have HTG := fun w => refTag_any x hx w
  have hxl := first_lt x
  have htl := tagN_lt hx
  have hw : IntKind.u64.wrap (((tagN x : Nat) : Int) + 1) = ((tagN x + 1 : Nat) : Int) := by rw [IntKind.wrap_u64]; omega
  have hw2 : IntKind.u64.wrap ((firstN x : Nat) : Int) = ((firstN x : Nat) : Int) := by rw [IntKind.wrap_u64]; omega
  have HS := rStoreD (cap := cap) (wb := wb) OK hr w4 hi
  have HTP := fun w => HTP0 (tagN x + 1) w
  obtain ⟨T1, hT1⟩ : ∃ T, tagN x + 1 = T := ⟨_, rfl⟩
  rw [hT1] at hw HTP HS
  clear hT1 hx htl hxl hi hr
  generalize topN r T1 = tp at *
  generalize firstN x = f at *
  generalize tagN x = tg at *
  go_wp2_with (first | (go_at_call 159; (with_reducible refine (HF1 _).mono ?_); rintro e w' ⟨rfl, rfl⟩) | (go_at_call 15; (with_reducible refine (HK _).mono ?_); rintro e w' ⟨rfl, rfl⟩))
  (with_reducible refine HS.mono ?_)
  clear HS
  rintro e w5 ⟨y, c5, rfl, -, hi, -, hr⟩
  dsimp only at hr
  have HC := rCasD (cap := cap) (wb := wb) OK hr w5 hi
  clear hi hr
  go_wp2_with (first | (go_at_call 162; (with_reducible refine (HTG _).mono ?_); rintro e w' ⟨rfl, rfl⟩) | (go_at_call 161; (with_reducible refine (HTP _).mono ?_); rintro e w' ⟨rfl, rfl⟩))
  (with_reducible refine HC.mono ?_)
  clear HC
  rintro e w6 ⟨d, c6, rfl, -, hi, -, hr⟩
  dsimp only at hr
  by_cases hd : d = 1
  ·have dd := eq1 hd
   rw [if_pos hd] at hr
   have HE := Lib.hid (RefDB.fin (P := fun _ => True) (ret := fun _ => .tuple #[]) hr hi trivial)
   clear hd hi hr
   go_wp2_with fail
   exact bodyPost_ret (v := .tuple #[]) (by simp [results, Tryz.results112, go_sem]) rfl HE.out
  ·have dd := ne1 hd
   rw [if_neg hd] at hr
   have HJ6 := Lib.hid ((HJH.out _ _).2 ⟨c6, hi, hr⟩)
   clear hd hr hi
   go_wp2_with fail
   go_roundw
   case rel => exact ⟨m, HJ6.out⟩
   case measure => exact cnt_lt HJ6.out (Nat.lt_succ_self m)
theorem rUnpinU_prg (me : Nat) (hme : me < 1000000) (c : CSD) (hb : (Prg.unpin me).up.runCD c ≠ .bad) (w : World) (hI : CurID g A n cap log w0 wb c w) :
  Calls Tryz.prog 120 #[.pointer (some ⟨g, 0, none⟩), .int .i64 (me : Int)] w (RefDB g A n cap log w0 wb (fun _ => True) (fun _ => .tuple #[]) ((Prg.unpin me).up.runCD c)) := by
 have hR : (Prd.ask 1 ((pinN me : Nat) : Int) 0 0 [] fun _ => Prd.ret 0).runCD c = (Prg.unpin me).up.runCD c := rfl
 generalize (Prg.unpin me).up.runCD c = R at *
 have HC := refPin_at me hme
 have HS : ∀ w, CurID g A n cap log w0 wb c w → Calls Tryz.prog 119 #[.pointer (some ⟨g, 0, none⟩), .int .i64 ((pinN me : Nat) : Int), .int .u64 0] w (GoR g A n cap log w0 wb w R (fun _ => .tuple #[]) fun _ => Prd.ret 0) := fun w h => rStoreD OK (a := 0) hR w h
 have HI := Lib.hid hI
 clear hI hme hR hb
 generalize pinN me = p at *
 go_enter Tryz.func120, Tryz.ntmps120
 go_wp2_with (go_at_call 152; (with_reducible refine (HC _).mono ?_); rintro e w' ⟨rfl, rfl⟩)
 (with_reducible refine (HS _ HI.out).mono ?_)
 clear HS
 rintro e w2 ⟨d, c2, rfl, hd, hi, -, hr⟩
 have HE := Lib.hid (RefDB.fin (P := (fun _ => True)) (ret := fun _ => .tuple #[]) hr hi trivial)
 clear hd hi hr
 go_wp2_with fail
 go_end0
 exact HE.out
set_option maxHeartbeats 1000000 in
theorem rPinU_prg (me : Nat) (hme : me < 1000000) (c : CSD) (hb : (Prg.pin me).up.runCD c ≠ .bad) (w : World) (hI : CurID g A n cap log w0 wb c w) :
  Calls Tryz.prog 107 #[.pointer (some ⟨g, 0, none⟩), .int .i64 (me : Int)] w (RefDB g A n cap log w0 wb (fun _ => True) (fun _ => .tuple #[]) ((Prg.pin me).up.runCD c)) := by
 have hR : (Prd.ask 0 3 0 0 [] fun e => Prd.ask 1 ((pinN me : Nat) : Int) (upN e 1) 0 [] fun _ => Prd.ret 0).runCD c = (Prg.pin me).up.runCD c := rfl
 generalize (Prg.pin me).up.runCD c = R at *
 have HC := refPin_at me hme
 have HL := rLoadD (cap := cap) (wb := wb) OK hR
 have HI := Lib.hid hI
 clear hI hme hR hb
 generalize pinN me = p at *
 go_enter Tryz.func107, Tryz.ntmps107
 go_wp2_with fail
 (with_reducible refine (HL _ HI.out).mono ?_)
 clear HL
 rintro e w2 ⟨x, c2, rfl, hd, hi, -, hr⟩
 have HS := rStoreD (cap := cap) (wb := wb) OK hr
 have hu : IntKind.u64.wrap ((x : Int) + 1) = ((upN x 1 : Nat) : Int) := by rw [IntKind.wrap_u64]; unfold upN; omega
 have HI2 := Lib.hid hi
 clear hd hi hr
 generalize upN x 1 = u at *
 go_wp2_with (first | (go_at_call 152; (with_reducible refine (HC _).mono ?_); rintro e w' ⟨rfl, rfl⟩))
 (with_reducible refine (HS _ HI2.out).mono ?_)
 clear HS
 rintro e w3 ⟨d, c3, rfl, hd, hi, -, hr⟩
 have HE := Lib.hid (RefDB.fin (P := (fun _ => True)) (ret := fun _ => .tuple #[]) hr hi trivial)
 clear hd hi hr
 go_wp2_with fail
 go_end0
 exact HE.out
set_option maxHeartbeats 8000000 in
set_option maxRecDepth 100000 in
theorem rAdvanceU_prg (t : Nat) (ht : t ≤ 64) (m f : Nat) (c : CSD) (hb : (Prg.advance t m f).up.runCD c ≠ .bad) (w : World) (hI : CurID g A n cap log w0 wb c w) :
  Calls Tryz.prog 156 #[.pointer (some ⟨g, 0, none⟩), .int .i64 (t : Int)] w (RefDB g A n cap log w0 wb (fun _ => True) (fun d => .bool ((d : Int) == 1)) ((Prg.advance t m f).up.runCD c)) := by
 obtain ⟨q, hq⟩ : ∃ q : Nat → Prg, q = fun e => Prg.cas 3 e (upN e 1) fun d => if d = 1 then Prg.swap (limboN (upN e 2)) 0 fun h => Prg.chain t m f (firstN h) else .ret 0 := ⟨_, rfl⟩
 have hR : (Prd.ask 0 3 0 0 [] fun e => (Prg.pins e (q e) 0 t).up).runCD c = (Prg.advance t m f).up.runCD c := by rw [hq]; rfl
 generalize (Prg.advance t m f).up.runCD c = R at *
 have HL := rLoadD (cap := cap) (wb := wb) OK hR
 have HB := Lib.hid hb
 have HI := Lib.hid hI
 have HT := Lib.hid ht
 have HQ := Lib.hid hq
 clear hI hb hR ht hq
 go_enter Tryz.func156, Tryz.ntmps156
 go_wp2_with fail
 (with_reducible refine (HL _ HI.out).mono ?_)
 clear HL HI
 rintro e w2 ⟨ep, c2, rfl, hep, hi, -, hr⟩
 try dsimp only at hr
 have HS0 := Lib.hid (show ∃ c, CurID g A n cap log w0 wb c w2 ∧ (Prg.pins ep (q ep) 0 (t - 0)).up.runCD c = R from ⟨c2, hi, hr⟩)
 have HEP := Lib.hid hep
 have hu := wrapUp ep 1 (by decide)
 have hu1 : IntKind.u64.wrap ((ep : Int) + 1) = ((upN ep 1 : Nat) : Int) := hu
 obtain ⟨u, huu⟩ : ∃ x, upN ep 1 = x := ⟨_, rfl⟩
 rw [huu] at hu1
 have HUE := Lib.hid huu
 clear hi hr hep hu huu
 go_wp2_with fail
 go_loopw [6, 7] (fun i _ wr => ∃ k : Nat, k ≤ t ∧ i = .int .i64 (k : Int) ∧ ∃ c, CurID g A n cap log w0 wb c wr ∧ (Prg.pins ep (q ep) k (t - k)).up.runCD c = R) (fun i _ _ => t - (intOf i).toNat)
 case atStart => exact ⟨0, Nat.zero_le _, rfl, HS0.out⟩
 case round =>
  obtain ⟨k, hk, rfl, c3, hi, hr⟩ := hrel
  clear HS0
  have htt := HT.out
  by_cases hkt : k < t
  case pos =>
   obtain ⟨j, hj⟩ : ∃ j, t - k = j + 1 := ⟨t - k - 1, by omega⟩
   rw [hj] at hr
   have hr1 : (Prd.ask 0 ((pinN k : Nat) : Int) 0 0 [] fun p => (if p = 0 ∨ p = upN ep 1 then Prg.pins ep (q ep) (k + 1) j else .ret 0).up).runCD c3 = R := hr
   have HL := rLoadD (cap := cap) (wb := wb) OK hr1
   have HC := refPin_at k (by omega)
   have HM := Lib.hid (show j = t - (k + 1) by omega)
   have HI3 := Lib.hid hi
   clear hr hr1 hj hi
   generalize pinN k = p at *
   go_wp2_with (go_at_call 152; (with_reducible refine (HC _).mono ?_); rintro e w' ⟨rfl, rfl⟩)
   (with_reducible refine (HL _ HI3.out).mono ?_)
   clear HL HI3 HC
   rintro e w4 ⟨x, c4, rfl, hd, hi, -, hr⟩
   try dsimp only at hr
   rw [HUE.out] at hr
   have HI4 := Lib.hid hi
   clear hi hd
   by_cases hp : x = 0 ∨ x = u
   ·rw [if_pos hp, HM.out] at hr
    have HR := Lib.hid hr
    clear hr
    have hgo : ((x : Int) != 0) = false ∨ (((x : Int) != 0) = true ∧ ((x : Int) != (u : Int)) = false) := by
     rcases hp with hp | hp
     ·exact .inl (by simp [bne, eq0 hp])
     ·by_cases h0 : x = 0
      ·exact .inl (by simp [bne, eq0 h0])
      ·exact .inr ⟨by simp [bne, ne0 h0], by simp [bne, hp]⟩
    clear hp
    rcases hgo with g1 | ⟨g1, g2⟩
    ·go_wp2_with fail
     go_roundw
     case rel => exact ⟨k + 1, by omega, rfl, c4, HI4.out, HR.out⟩
     case measure => simp [intOf]; omega
    ·go_wp2_with fail
     go_roundw
     case rel => exact ⟨k + 1, by omega, rfl, c4, HI4.out, HR.out⟩
     case measure => simp [intOf]; omega
   ·rw [if_neg hp] at hr
    have HE := Lib.hid (show RefDB g A n cap log w0 wb (fun _ => True) (fun d => .bool ((d : Int) == 1)) R (.returned (.bool false)) w4 from RefDB.fin (P := (fun _ => True)) (ret := fun d => .bool ((d : Int) == 1)) (d := 0) hr HI4.out trivial)
    have g1 : ((x : Int) != 0) = true := by simp [bne, ne0 (fun h => hp (.inl h))]
    have g2 : ((x : Int) != (u : Int)) = true := by
     have : ((x : Int) == (u : Int)) = false := by rw [beq_eq_false_iff_ne]; exact fun h => hp (.inr (by omega))
     simp [bne, this]
    clear hp hr
    go_wp2_with fail
    go_ret
    exact HE.out
  obtain rfl : k = t := by omega
  rw [Nat.sub_self] at hr
  have hr1 : (Prd.ask 2 3 ep (upN ep 1) [] fun d => (if d = 1 then Prg.swap (limboN (upN ep 2)) 0 fun h => Prg.chain k m f (firstN h) else .ret 0).up).runCD c3 = R := by rw [← hr, HQ.out]; rfl
  rw [HUE.out] at hr1
  have HC := rCasD (cap := cap) (wb := wb) OK hr1 wr hi
  clear hr hr1 hi HQ
  go_wp2_with fail
  (with_reducible refine HC.mono ?_)
  clear HC
  rintro e w5 ⟨d, c5, rfl, hd', hi, -, hr⟩
  try dsimp only at hr
  clear hd'
  by_cases hd : d = 1
  case neg =>
   rw [if_neg hd] at hr
   have dd := ne1 hd
   have HE := Lib.hid (show RefDB g A n cap log w0 wb (fun _ => True) (fun d => .bool ((d : Int) == 1)) R (.returned (.bool false)) w5 from RefDB.fin (P := (fun _ => True)) (ret := fun d => .bool ((d : Int) == 1)) (d := 0) hr hi trivial)
   clear hr hi hd
   go_wp2_with fail
   go_ret
   exact HE.out
  rw [if_pos hd] at hr
  have dd := eq1 hd
  have hr1 : (Prd.ask 4 ((limboN (upN ep 2) : Nat) : Int) 0 0 [] fun h => (Prg.chain k m f (firstN h)).up).runCD c5 = R := hr
  have hu2 : IntKind.u64.wrap ((ep : Int) + 2) = ((upN ep 2 : Nat) : Int) := wrapUp ep 2 (by decide)
  have HLI := rLimbo_any (upN ep 2)
  have HSW := rSwapD (cap := cap) (wb := wb) OK hr1
  have HI5 := Lib.hid hi
  clear hr hr1 hi hd
  generalize limboN (upN ep 2) = li at *
  generalize upN ep 2 = u2 at *
  replace HSW : ∀ w, CurID g A n cap log w0 wb c5 w → Calls Tryz.prog 190 #[.pointer (some ⟨g, 0, none⟩), .int .i64 ((li : Nat) : Int), .int .u64 0] w (GoR g A n cap log w0 wb w R (fun n => .int .u64 (n : Int)) fun h => (Prg.chain k m f (firstN h)).up) := HSW
  go_wp2_with (first | (go_at_call 191; (with_reducible refine (HLI _).mono ?_); rintro e w' ⟨rfl, rfl⟩))
  (with_reducible refine (HSW _ HI5.out).mono ?_)
  clear HSW HI5 HLI
  rintro e w6 ⟨h, c6, rfl, hh, hi, -, hr⟩
  try dsimp only at hr
  have HF := fun w => refFirst_any h hh w
  obtain ⟨J, hJ⟩ : ∃ J : Nat → Value → World → Prop, J = fun m' rv wr => ∃ (r : Nat) (c : CSD), rv = .int .i64 (r : Int) ∧ r < 1048576 ∧ CurID g A n cap log w0 wb c wr ∧ (Prg.chain k m m' r).up.runCD c = R := ⟨_, rfl⟩
  have HJ : ∀ m' rv wr, J m' rv wr ↔ ∃ (r : Nat) (c : CSD), rv = .int .i64 (r : Int) ∧ r < 1048576 ∧ CurID g A n cap log w0 wb c wr ∧ (Prg.chain k m m' r).up.runCD c = R := fun m' rv wr => by rw [hJ]
  have HJ0 := Lib.hid (show ∃ m', J m' (.int .i64 ((firstN h : Nat) : Int)) w6 from ⟨f, (HJ _ _ _).2 ⟨firstN h, c6, rfl, first_lt h, hi, hr⟩⟩)
  have HJH := Lib.hid HJ
  clear hJ HJ hi hr hh hkt hk hu1 hu2
  generalize firstN h = r0 at *
  go_wp2_with (first | (go_at_call 159; (with_reducible refine (HF _).mono ?_); rintro e w' ⟨rfl, rfl⟩))
  clear HF
  obtain ⟨wo, hwo⟩ : ∃ wo : World, wo = wr := ⟨_, rfl⟩
  clear hwo
  go_loopw [9, 10] (fun r _ wr => ∃ m', J m' r wr) (fun r _ wr => cnt (fun m' wr => J m' r wr) wr)
  case atStart => exact HJ0.out
  case round =>
   clear HJ0
   have hj := cnt_spec (J := fun m wr => J m u9 wr) hrel
   clear hrel
   generalize hm : cnt (fun m wr => J m u9 wr) wr = m' at *
   have HM := Lib.hid hm
   clear hm
   obtain ⟨r, c7, rfl, hrl, hS, hr⟩ := (HJH.out _ _ _).1 hj
   clear hj
   have c2' := hS.two
   have hgw := hS.lt
   by_cases h0 : r = 0
   ·subst h0
    have hr1 : (Prd.ret 1).runCD c7 = R := by
     cases m' with
     | zero =>
      cases c7 with
      | «at» s => exact absurd hr.symm HB.out
      | stop k i a b dd => exact hr
     | succ m' => exact hr
    have HE := Lib.hid (show RefDB g A n cap log w0 wb (fun _ => True) (fun d => .bool ((d : Int) == 1)) R (.returned (.bool true)) wr from RefDB.fin (P := (fun _ => True)) (ret := fun d => .bool ((d : Int) == 1)) (d := 1) hr1 hS trivial)
    clear hr hr1 hS c2' hgw
    go_wp2_with fail
    go_ret
    exact HE.out
   have e0 : ((r : Int) != 0) = true := by simp [bne, ne0 h0]
   by_cases hst : c7.stops = true
   ·rw [hst] at c2'
    have HE := Lib.hid (show RefDB g A n cap log w0 wb (fun _ => True) (fun d => .bool ((d : Int) == 1)) R (.returned (.bool true)) wr from RefDB.fin (P := (fun _ => True)) (ret := fun d => .bool ((d : Int) == 1)) (d := 1) ((Prd.runCD_stop hst _).trans hr) hS trivial)
    clear hr hS hst h0
    go_wp2_with fail
    go_ret
    exact HE.out
   have hst' : c7.stops = false := by simpa using hst
   rw [hst'] at c2'
   cases m' with
   | zero =>
    cases c7 with
    | «at» s => exact absurd hr.symm HB.out
    | stop k i a b dd => exact absurd rfl hst
   | succ m' =>
   have hr1 : (Prd.ask 0 ((fieldN k r 7 : Nat) : Int) 0 0 [] fun x => (Prg.push k r m).up.bind fun _ => (Prg.chain k m m' (firstN x)).up).runCD c7 = R := by
    unfold Prg.chain at hr
    rw [if_neg h0] at hr
    simp only [← Prg.up_bind]
    exact hr
   have htt := HT.out
   have HL := rLoadD (cap := cap) (wb := wb) OK hr1
   have HK : ∀ w, Calls Tryz.prog 15 #[.int .i64 (k : Int), .int .i64 (r : Int), .int .i64 7] w fun e w' => e = .returned (.int .i64 (fieldN k r 7 : Nat)) ∧ w = w' := fun w => refField_any k r 7 (by omega) (by omega) (by omega) (by omega) w
   have HI7 := Lib.hid hS
   have H0 := Lib.hid (And.intro h0 hrl)
   clear hr hr1 hS hst hst' h0 hrl htt
   generalize fieldN k r 7 = fl at *
   go_wp2_with (first | (go_at_call 15; (with_reducible refine (HK _).mono ?_); rintro e w' ⟨rfl, rfl⟩))
   (with_reducible refine (HL _ HI7.out).mono ?_)
   clear HL HI7 HK c2' hgw
   rintro e w8 ⟨x, c8, rfl, hx, hi, -, hr⟩
   try dsimp only at hr
   have HP := rPartB HB.out hr w8 fun hh => rPushU_prg OK k HT.out r (by have := H0.out.1; omega) H0.out.2 m c8 hh w8 hi
   have HX := Lib.hid hx
   clear hr hi hx
   go_wp2_with fail
   (with_reducible refine HP.mono ?_)
   clear HP
   rintro e w9 ⟨d, c9, rfl, hi, hr, hP, -⟩
   try dsimp only at hr
   have HJ9 := Lib.hid (show J m' (.int .i64 ((firstN x : Nat) : Int)) w9 from (HJH.out _ _ _).2 ⟨firstN x, c9, rfl, first_lt x, hi, hr⟩)
   have HF := fun w => refFirst_any x HX.out w
   clear hi hr
   generalize firstN x = r2 at *
   go_wp2_with (first | (go_at_call 159; (with_reducible refine (HF _).mono ?_); rintro e w' ⟨rfl, rfl⟩))
   go_roundw
   case rel => exact ⟨m', HJ9.out⟩
   case measure => exact Nat.lt_of_lt_of_eq (cnt_lt (J := fun m wr => J m (.int .i64 (r2 : Int)) wr) HJ9.out (Nat.lt_succ_self m')) HM.out.symm
set_option maxHeartbeats 8000000 in
set_option maxRecDepth 100000 in
theorem rAllocU_prg (t : Nat) (ht : t ≤ 64) (me : Nat) (hme : me < 1000000) (m f : Nat) (c : CSD) (hb : (Prg.alloc t me m f).up.runCD c ≠ .bad) (w : World) (hI : CurID g A n cap log w0 wb c w) :
  Calls Tryz.prog 110 #[.pointer (some ⟨g, 0, none⟩), .int .i64 (t : Int), .int .i64 (me : Int)] w (RefDB g A n cap log w0 wb (fun d => d < 1048576) (fun d => .int .i64 (d : Int)) ((Prg.alloc t me m f).up.runCD c)) := by
 obtain ⟨R, hR⟩ : ∃ R, (Prg.alloc t me m f).up.runCD c = R := ⟨_, rfl⟩
 rw [hR] at hb ⊢
 have hR1 : ((Prg.pop t m).up.bind fun r => (Prg.allocL t me m f 3 r).up).runCD c = R := by rw [← Prg.up_bind]; exact hR
 have HP := rPartB hb hR1 w fun h => rPopU_prg OK t ht m c h w hI
 have HB := Lib.hid hb
 have HT := Lib.hid (And.intro ht hme)
 clear hI hb hR hR1 ht hme
 go_enter Tryz.func110, Tryz.ntmps110
 go_wp2_with fail
 (with_reducible refine HP.mono ?_)
 clear HP
 rintro e w2 ⟨r0, c2, rfl, hi, hr, hP, -⟩
 try dsimp only at hr
 have HS0 := Lib.hid (show r0 < 1048576 ∧ ∃ c, CurID g A n cap log w0 wb c w2 ∧ (Prg.allocL t me m f (3 - 0) r0).up.runCD c = R from ⟨hP, c2, hi, hr⟩)
 clear hi hr
 go_wp2_with fail
 go_loopw [7, 8] (fun r i wr => ∃ k d : Nat, k ≤ 3 ∧ r = .int .i64 (d : Int) ∧ i = .int .i64 (k : Int) ∧ d < 1048576 ∧ ∃ c, CurID g A n cap log w0 wb c wr ∧ (Prg.allocL t me m f (3 - k) d).up.runCD c = R) (fun _ i _ => 3 - (intOf i).toNat)
 case atStart => exact ⟨0, r0, by omega, rfl, rfl, HS0.out⟩
 case round =>
  obtain ⟨k, d, hk, rfl, rfl, hdl, c3, hi, hr⟩ := hrel
  clear HS0
  by_cases hk3 : k < 3
  case neg =>
   obtain rfl : k = 3 := by omega
   have HE := Lib.hid (RefDB.fin (P := (fun d => d < 1048576)) (R := R) (ret := fun d => .int .i64 (d : Int)) (d := d) (c := c3) (w' := wr) hr hi hdl)
   clear hi hr
   go_wp2_with fail
   go_ret
   exact HE.out
  by_cases hd : d = 0
  case neg =>
   have g1 : ((d : Int) != 0) = true := by simp [bne, ne0 hd]
   have HE := Lib.hid (RefDB.fin (P := (fun d => d < 1048576)) (R := R) (ret := fun d => .int .i64 (d : Int)) (d := d) (c := c3) (w' := wr) (by
    rw [← hr]
    cases 3 - k with
    | zero => rfl
    | succ n => unfold Prg.allocL; rw [if_pos hd]; rfl) hi hdl)
   clear hi hr hd
   go_wp2_with fail
   go_ret
   exact HE.out
  subst hd
  clear hdl
  obtain ⟨j, hj⟩ : ∃ j, 3 - k = j + 1 := ⟨3 - k - 1, by omega⟩
  rw [hj] at hr
  have hr1 : ((Prg.pin me).up.bind fun _ => (Prg.advance t m f).up.bind fun _ => (Prg.pop t m).up.bind fun r => (Prg.allocL t me m f j r).up).runCD c3 = R := by simp only [← Prg.up_bind]; exact hr
  have HJ := Lib.hid (show j = 3 - (k + 1) by omega)
  have HP := rPartB HB.out hr1 wr fun h => rPinU_prg OK me HT.out.2 c3 h wr hi
  clear hi hr hr1 hj
  go_wp2_with fail
  (with_reducible refine HP.mono ?_)
  clear HP
  rintro e w4 ⟨n4, c4, rfl, hi, hr, hP, -⟩
  try dsimp only at hr
  have HP := rPartB HB.out hr w4 fun h => rAdvanceU_prg OK t HT.out.1 m f c4 h w4 hi
  clear hi hr hP
  go_wp2_with fail
  (with_reducible refine HP.mono ?_)
  clear HP
  rintro e w5 ⟨n5, c5, rfl, hi, hr, hP, -⟩
  try dsimp only at hr
  have HP := rPartB HB.out hr w5 fun h => rPopU_prg OK t HT.out.1 m c5 h w5 hi
  clear hi hr hP
  go_wp2_with fail
  (with_reducible refine HP.mono ?_)
  clear HP
  rintro e w6 ⟨r6, c6, rfl, hi, hr, hP, -⟩
  try dsimp only at hr
  rw [HJ.out] at hr
  have HR := Lib.hid hr
  have HI6 := Lib.hid hi
  have HP6 := Lib.hid hP
  clear hi hr hP
  go_wp2_with fail
  go_roundw
  case rel => exact ⟨k + 1, r6, by omega, rfl, rfl, HP6.out, c6, HI6.out, HR.out⟩
  case measure => simp [intOf]; omega
end
end Go.Proofs.YtibpfkcackdbgaaGreatDoor
namespace Go.Proofs.YtibpfkcackdbgaaGreatDoor
set_option linter.unusedVariables false
set_option maxRecDepth 100000
set_option linter.unusedSectionVars false
open Go.ChangeShapes Go.WideShapes Go.ChangeAt Go.RowKit Go.BigFrame
def rIs (d : Nat) : Bool := decide (d = 2 ∨ d = 4)
def rBodyV (d : Nat) : Value := .tuple #[.agg #[.int .i64 (bEr d), .bool (rIs d), .int .i64 0, .int .u64 0, .slice none 0 0], .bool (Prd.vOk d)]
section
variable {g : Nat} {A : Option Addr} {n cap : Nat} {log : List Res} {w0 wb : World}
structure RefX (g : Nat) (A : Option Addr) (n cap : Nat) (log : List Res) (wb : World) (lo : Nat) (c : CSD) (z : World) : Prop where
 cur : CurVD lo g A n cap log c z
 but : But g wb z
theorem RefX.set {lo : Nat} {c : CSD} {z : World} (h : RefX g A n cap log wb lo c z) {b : Nat} (hg : b ≠ g) (hl : b < lo) (hw : wb.heap.size ≤ b) (hgw : g < wb.heap.size) (j : Nat) (v : Value) : RefX g A n cap log wb lo c (z.setCell ⟨b, j, none⟩ v) :=
 ⟨h.cur.put j v hg (.inr hl), h.but.new _ _ _ (Nat.le_of_lt hgw) hw⟩
theorem RefX.drew {lo : Nat} {c : CSD} {z : World} (h : RefX g A n cap log wb lo c z) : RefX g A n cap log wb lo c z.drew :=
 ⟨h.cur.below (Below.drew (Below.refl _ _)), But.drew h.but⟩
theorem CurVD.lower {lo lo' : Nat} {c : CSD} {z : World} (h : CurVD lo g A n cap log c z) (hl : lo' ≤ lo) : CurVD lo' g A n cap log c z := by
 cases c with
 | «at» s => exact h
 | stop k i a b d =>
  obtain ⟨D, dc, h1, h2, h3, h4, h5⟩ := h
  exact ⟨D, dc, h1, h2, h3, h4.mono fun _ h => ⟨h.1, Nat.le_trans hl h.2⟩, h5⟩
theorem RefX.to {lo : Nat} {c : CSD} {z : World} (h : RefX g A n cap log wb lo c z) (hl : wb.heap.size ≤ lo) : CurID g A n cap log w0 wb c z := ⟨h.cur.lower hl, h.but⟩
theorem CurID.rebase {c : CSD} {w : World} (h : CurID g A n cap log w0 wb c w) (hp : c.plain) : CurID g A n cap log w0 w c w := by
 refine ⟨?_, But.refl _ _⟩
 have hc := h.cur
 cases c with
 | «at» s => exact hc
 | stop k i a b d =>
  obtain ⟨D, dc, h1, h2, h3, h4, h5⟩ := hc
  obtain rfl : d = [] := hp
  exact ⟨D, dc, h1, h2, h3, OffW.nil _ _, h5⟩
structure RefO (g : Nat) (A : Option Addr) (n : Nat) (log : List Res) (w0 wb w y : World) : Prop where
 ok : CurOk g A n log w0 y
 gy : g < y.heap.size
 by_ : w.heap.size < y.heap.size
 bg : w.heap.size ≠ g
 bw : wb.heap.size ≤ w.heap.size
 gb : g < wb.heap.size
 but : But g wb y
 var : VarAt y w.heap.size [.int .i64 0, .bool false, .int .i64 0, .int .u64 0, .slice none 0 0]
theorem RefO.start {c : CSD} {w y : World} (hok : CurOk g A n log w0 wb) (hgb : g < wb.heap.size) (hI : CurID g A n cap log w0 wb c w) (hp : c.plain) (hb : Below w.heap.size w y) (hv : VarAt y w.heap.size [.int .i64 0, .bool false, .int .i64 0, .int .u64 0, .slice none 0 0]) : RefO g A n log w0 wb w y ∧ CurID g A n cap log w0 y c y := by
 have hs := hI.but.size
 have hlt := hI.lt
 have hbw := hok.below.trans (hI.but.below.mono hok.old)
 refine ⟨⟨⟨hok.log, hok.old, hbw.trans (hb.mono hbw.size)⟩, Nat.lt_of_lt_of_le hlt hb.size, hv.1, by omega, hs, hgb, hI.but.trans (But.of hb (Nat.le_of_lt hlt)), hv⟩, (hI.below hb).rebase hp⟩
theorem RefO.x {c : CSD} {w y z : World} (h : RefO g A n log w0 wb w y) (hI : CurID g A n cap log w0 y c z) : RefX g A n cap log wb y.heap.size c z := ⟨hI.cur, h.but.trans hI.but⟩
theorem rPartQ {Q : Nat → CSD → Prop} {R : RanD (List Res)} (hb : R ≠ .bad) {p : Prd} {q : Nat → Prd} {c : CSD} {F : FuncId} {args : Array Value} {ret : Nat → Value} (hR : (p.bind q).runCD c = R) (w : World)
  (h : p.runCD c ≠ .bad → Calls Tryz.prog F args w (RefDP g A n cap log w0 wb Q ret (p.runCD c))) : Calls Tryz.prog F args w (fun e w' => ∃ d c', e = .returned (ret d) ∧ CurID g A n cap log w0 wb c' w' ∧ (q d).runCD c' = R ∧ Q d c') := by
 have hp : p.runCD c ≠ .bad := by
  intro h
  rw [Prd.runCD_bind, h] at hR
  exact hb hR.symm
 refine (h hp).mono ?_
 rintro e w' ⟨d, c', rfl, hi, hr, hQ⟩
 refine ⟨d, c', rfl, hi, ?_, hQ⟩
 have h2 : ((Prd.ret d).bind q).runCD c' = R := by rw [Prd.runCD_bind, hr, ← Prd.runCD_bind]; exact hR
 exact h2
end
end Go.Proofs.YtibpfkcackdbgaaGreatDoor
namespace Go.Proofs.YtibpfkcackdbgaaGreatDoor
set_option linter.unusedVariables false
set_option maxRecDepth 100000
set_option linter.unusedSectionVars false
open Go.ChangeShapes Go.WideShapes Go.ChangeAt Go.RowKit Go.BigFrame
section
variable {g : Nat} {A : Option Addr} {n cap : Nat} {log : List Res} {w0 wb : World}
set_option maxHeartbeats 8000000 in
set_option maxRecDepth 100000 in
theorem rAdd_prg (OK : Hid (CurOk g A n log w0 wb)) (hgb : g < wb.heap.size) (t me kk nn : Nat) (ht : t ≤ 64) (hme : me < 1000000) (c : CSD) (hpl : c.plain) (R : RanD (List Res)) (hb : R ≠ .bad) (hR : (Prd.vAdd t me kk nn).runCD c = R) (w : World) (hI : CurID g A n cap log w0 wb c w) :
  Calls Tryz.prog 69 #[.pointer (some ⟨g, 0, none⟩), .int .i64 (t : Int), .int .i64 (me : Int), .int .u64 (kk : Int)] w (RefD g A n cap log w0 wb rBodyV R) := by
 unfold Prd.vAdd at hR
 have HT := Lib.hid (And.intro ht hme)
 have HB := Lib.hid hb
 have GB := Lib.hid hgb
 have PL := Lib.hid hpl
 have HI := Lib.hid hI
 have HRR := Lib.hid hR
 clear hI hb hgb hpl hR ht hme
 go_enter Tryz.func69, Tryz.ntmps69
 go_wp2_with fail
 refine gen_w (P := fun W => Calls _ _ _ W _) (fun y => Below w.heap.size w y ∧ VarAt y w.heap.size [.int .i64 0, .bool false, .int .i64 0, .int .u64 0, .slice none 0 0]) ⟨belA, VarAt.mk5 (by simp)⟩ ?_
 rintro y ⟨k0, k1⟩
 obtain ⟨hx0, hi0⟩ := RefO.start OK.out GB.out HI.out PL.out k0 k1
 have HX := Lib.hid hx0
 have OKY := Lib.hid hx0.ok
 clear HI k0 k1 hx0
 have HI := Lib.hid hi0
 clear hi0
 have HS := rPartQ HB.out HRR.out y (fun hb' => rSearchS_prg (wb := y) OKY HX.out.gy t kk nn HT.out.1 c _ hb' rfl y HI.out)
 clear HRR
 (with_reducible refine (HS).mono ?_)
 rintro e w2 ⟨d, c2, rfl, hi, hr, hQ⟩
 try dsimp only at hr
 clear HI
 have HI := Lib.hid hi
 clear hi
 clear HS
 have hpl1 : predS d < 1048576 := Nat.mod_lt _ (by decide)
 have hcl : curS d < 1048576 := Nat.mod_lt _ (by decide)
 unfold searchV
 by_cases hd0 : d = 0
 ·have dd : ((d : Int) != 0) = false := by rw [bne_eq_false_iff_eq]; omega
  rw [if_pos hd0] at hr
  generalize predS d = pd
  generalize curS d = cd
  generalize ((codS d : Int) == 3) = fd
  have HR := Lib.hid hr
  clear hr hd0 hQ hpl1 hcl
  have hx := HX.out
  obtain ⟨m0, ⟨a1, a2, a3, a4, a5⟩, b1, b2, b3, b4, b5⟩ := (hx.var.but HI.out.but hx.bg).five
  have hxx := hx.x HI.out
  go_wp2_with fail
  exact bodyPost_ret (v := .tuple #[.agg #[.int .i64 0, .bool false, .int .i64 0, .int .u64 0, .slice none 0 0], .bool false]) (by simp [results, Tryz.results69, go_sem, a1, a2, a3, a4, a5]) rfl (RefD.fin (d := 0) (ret := rBodyV) HR.out (RefX.to (lo := y.heap.size) (by have hl := hx.by_; have hgn := hx.bg; have hbw := hx.bw; have hgb := hx.gb; repeat (first | with_reducible assumption | with_reducible refine RefX.drew ?_ | (with_reducible refine RefX.set ?_ (by omega) (by omega) (by omega) (by omega) _ _))) (by have := hx.by_; have := hx.bw; omega)))
 have dd : ((d : Int) != 0) = true := by rw [bne_iff_ne]; omega
 rw [if_neg hd0] at hr
 by_cases hd3 : codS d = 3
 ·have df : ((codS d : Int) == 3) = true := by rw [beq_iff_eq]; omega
  rw [if_pos hd3] at hr
  unfold Prd.vThere at hr
  have hq := hQ hd3
  have HS : Calls Tryz.prog 109 #[.pointer (some ⟨g, 0, none⟩), .int .i64 (t : Int), .int .i64 ((curS d : Nat) : Int), .int .i64 1] w2 _ := rPartD HB.out hr w2 (fun hb' => rSave_prg (wb := y) OKY HX.out.gy t (curS d) 1 nn HT.out.1 hq.1 hcl (.inl rfl) c2 hq.2 _ hb' rfl w2 HI.out)
  clear hr
  clear hd0 hQ hpl1 hcl hd3 hq
  generalize predS d = pd at *
  generalize curS d = cd at *
  go_wp2_with fail
  (with_reducible refine (HS).mono ?_)
  rintro e w3 ⟨d3, c3, rfl, hi, hr⟩
  try dsimp only at hr
  clear HI
  have HI := Lib.hid hi
  clear hi
  clear HS
  by_cases hs : d3 = 1
  ·have ds := eq1 hs
   rw [if_pos hs] at hr
   have HR := Lib.hid hr
   clear hr hs
   have hx := HX.out
   obtain ⟨m0, ⟨a1, a2, a3, a4, a5⟩, b1, b2, b3, b4, b5⟩ := (hx.var.but HI.out.but hx.bg).five
   have hxx := hx.x HI.out
   go_wp2_with fail
   exact bodyPost_ret (v := .tuple #[.agg #[.int .i64 0, .bool false, .int .i64 0, .int .u64 0, .slice none 0 0], .bool true]) (by simp [results, Tryz.results69, go_sem, a1, a2, a3, a4, a5]) rfl (RefD.fin (d := 1) (ret := rBodyV) HR.out (RefX.to (lo := y.heap.size) (by have hl := hx.by_; have hgn := hx.bg; have hbw := hx.bw; have hgb := hx.gb; repeat (first | with_reducible assumption | with_reducible refine RefX.drew ?_ | (with_reducible refine RefX.set ?_ (by omega) (by omega) (by omega) (by omega) _ _))) (by have := hx.by_; have := hx.bw; omega)))
  ·have ds := ne1 hs
   rw [if_neg hs] at hr
   have HR := Lib.hid hr
   clear hr hs
   have hx := HX.out
   obtain ⟨m0, ⟨a1, a2, a3, a4, a5⟩, b1, b2, b3, b4, b5⟩ := (hx.var.but HI.out.but hx.bg).five
   have hxx := hx.x HI.out
   go_wp2_with fail
   exact bodyPost_ret (v := .tuple #[.agg #[.int .i64 0, .bool false, .int .i64 0, .int .u64 0, .slice none 0 0], .bool false]) (by simp [results, Tryz.results69, go_sem, a1, a2, a3, a4, a5]) rfl (RefD.fin (d := 0) (ret := rBodyV) HR.out (RefX.to (lo := y.heap.size) (by have hl := hx.by_; have hgn := hx.bg; have hbw := hx.bw; have hgb := hx.gb; repeat (first | with_reducible assumption | with_reducible refine RefX.drew ?_ | (with_reducible refine RefX.set ?_ (by omega) (by omega) (by omega) (by omega) _ _))) (by have := hx.by_; have := hx.bw; omega)))
 have df : ((codS d : Int) == 3) = false := by rw [beq_eq_false_iff_ne]; omega
 rw [if_neg hd3] at hr
 have HAL := rPartB HB.out hr w2 (fun hb' => rAllocU_prg (wb := y) OKY t HT.out.1 me HT.out.2 nn nn c2 hb' w2 HI.out)
 clear hr hd0 hQ hpl1 hcl hd3
 generalize predS d = pd
 generalize curS d = cd
 go_wp2_with fail
 (with_reducible refine (HAL).mono ?_)
 rintro e w3 ⟨r, c3, rfl, hi, hr, hrl, -⟩
 try dsimp only at hr
 clear HI
 have HI := Lib.hid hi
 clear hi
 clear HAL
 by_cases hr0 : r = 0
 ·have de := eq0 hr0
  rw [if_pos hr0] at hr
  have HR := Lib.hid hr
  clear hr hr0 hrl
  have hx := HX.out
  obtain ⟨m0, ⟨a1, a2, a3, a4, a5⟩, b1, b2, b3, b4, b5⟩ := (hx.var.but HI.out.but hx.bg).five
  have hxx := hx.x HI.out
  go_wp2_with fail
  exact bodyPost_ret (v := .tuple #[.agg #[.int .i64 3, .bool false, .int .i64 0, .int .u64 0, .slice none 0 0], .bool true]) (by simp [results, Tryz.results69, go_sem, a1, a2, a3, a4, a5]) rfl (RefD.fin (d := 3) (ret := rBodyV) HR.out (RefX.to (lo := y.heap.size) (by have hl := hx.by_; have hgn := hx.bg; have hbw := hx.bw; have hgb := hx.gb; repeat (first | with_reducible assumption | with_reducible refine RefX.drew ?_ | (with_reducible refine RefX.set ?_ (by omega) (by omega) (by omega) (by omega) _ _))) (by have := hx.by_; have := hx.bw; omega)))
 have de := ne0 hr0
 rw [if_neg hr0] at hr
 have HRL := Lib.hid (And.intro (Nat.pos_of_ne_zero hr0) hrl)
 have HMK : Calls Tryz.prog 111 #[.pointer (some ⟨g, 0, none⟩), .int .i64 (t : Int), .int .i64 (r : Int), .agg #[.int .i64 0, .int .u64 0, .int .u64 (kk : Int), .int .u64 0, .int .u64 0, .int .u64 0], .int .u64 0] w3 _ := rPartD HB.out hr w3 (fun hb' => rMake_prg (wb := y) OKY t r 0 0 kk 0 0 0 0 HT.out.1 HRL.out.1 HRL.out.2 c3 _ rfl w3 HI.out)
 clear hr hr0 hrl
 go_wp2_with fail
 (with_reducible refine (HMK).mono ?_)
 rintro e w4 ⟨d4, c4, rfl, hi, hr⟩
 try dsimp only at hr
 clear HI
 have HI := Lib.hid hi
 clear hi
 clear HMK
 obtain ⟨J, hJ⟩ : ∃ J : Nat → World → Prop, J = fun m wr => ∃ c, CurID g A n cap log w0 y c wr ∧ (Prd.vLink t r kk nn m).runCD c = R := ⟨_, rfl⟩
 have HJ : ∀ m wr, J m wr ↔ ∃ c, CurID g A n cap log w0 y c wr ∧ (Prd.vLink t r kk nn m).runCD c = R := fun m wr => by rw [hJ]
 have HJ0 := Lib.hid (show ∃ m, J m w4 from ⟨nn, (HJ _ _).2 ⟨c4, HI.out, hr⟩⟩)
 have HJH := Lib.hid HJ
 clear hJ HJ hr HI
 go_wp2_with fail
 go_loopw [16] (fun _ wr => ∃ m, J m wr) (fun _ wr => cnt J wr)
 case atStart => exact HJ0.out
 case round =>
  clear HJ0 PL
  have hj := cnt_spec hrel
  clear hrel
  generalize hm : cnt J wr = m at *
  have HM := Lib.hid hm
  clear hm
  obtain ⟨c5, hS, hr⟩ := (HJH.out _ _).1 hj
  clear hj
  have c2' := hS.two
  have hgw := hS.lt
  have HI := Lib.hid hS
  clear hS
  by_cases hst : c5.stops = true
  ·rw [hst] at c2'
   have hr1 := (Prd.runCD_stop (p := Prd.vLink t r kk nn m) hst (Prd.ret 1)).symm.trans hr
   have HR := Lib.hid hr1
   clear hr hr1 hst
   have hx := HX.out
   obtain ⟨m0, ⟨a1, a2, a3, a4, a5⟩, b1, b2, b3, b4, b5⟩ := (hx.var.but HI.out.but hx.bg).five
   have hxx := hx.x HI.out
   go_wp2_with fail
   exact bodyPost_ret (v := .tuple #[.agg #[.int .i64 0, .bool false, .int .i64 0, .int .u64 0, .slice none 0 0], .bool true]) (by simp [results, Tryz.results69, go_sem, a1, a2, a3, a4, a5]) rfl (RefD.fin (d := 1) (ret := rBodyV) HR.out (RefX.to (lo := y.heap.size) (by have hl := hx.by_; have hgn := hx.bg; have hbw := hx.bw; have hgb := hx.gb; repeat (first | with_reducible assumption | with_reducible refine RefX.drew ?_ | (with_reducible refine RefX.set ?_ (by omega) (by omega) (by omega) (by omega) _ _))) (by have := hx.by_; have := hx.bw; omega)))
  have hst' : c5.stops = false := by simpa using hst
  rw [hst'] at c2'
  cases m with
  | zero =>
   cases c5 with
   | «at» s => exact absurd hr.symm HB.out
   | stop k i a b d => exact absurd rfl hst
  | succ m =>
  have hr1 : ((Prd.search t kk nn).bind fun d => if d = 0 then (Prg.push t r nn).up.bind fun _ => Prd.ret 0 else if codS d = 3 then (Prg.push t r nn).up.bind fun _ => Prd.vThere t (curS d) nn else (Prd.link t (predS d) (curS d) r).bind fun e => if e = 1 then (Prd.save t r 1 nn).bind fun s => Prd.ret (if s = 1 then 2 else 4) else Prd.vLink t r kk nn m).runCD c5 = R := hr
  have HS := rPartQ HB.out hr1 wr (fun hb' => rSearchS_prg (wb := y) OKY HX.out.gy t kk nn HT.out.1 c5 _ hb' rfl wr HI.out)
  clear hr hr1 hst hst'
  go_wp2_with fail
  (with_reducible refine (HS).mono ?_)
  rintro e w6 ⟨d, c6, rfl, hi, hr, hQ⟩
  try dsimp only at hr
  clear HI
  have HI := Lib.hid hi
  clear hi
  clear HS
  have hpl1 : predS d < 1048576 := Nat.mod_lt _ (by decide)
  have hcl : curS d < 1048576 := Nat.mod_lt _ (by decide)
  unfold searchV
  clear c2' hgw
  by_cases hd0 : d = 0
  ·have dd : ((d : Int) != 0) = false := by rw [bne_eq_false_iff_eq]; omega
   rw [if_pos hd0] at hr
   have HP := rPartB HB.out hr w6 (fun hb' => rPushU_prg (wb := y) OKY t HT.out.1 r HRL.out.1 HRL.out.2 nn c6 hb' w6 HI.out)
   clear hr hd0 hQ hpl1 hcl
   generalize predS d = pd
   generalize curS d = cd
   generalize ((codS d : Int) == 3) = fd
   go_wp2_with fail
   (with_reducible refine (HP).mono ?_)
   rintro e w7 ⟨d7, c7, rfl, hi, hr, -, -⟩
   try dsimp only at hr
   clear HI
   have HI := Lib.hid hi
   clear hi
   clear HP
   have HR := Lib.hid hr
   clear hr
   have hx := HX.out
   obtain ⟨m0, ⟨a1, a2, a3, a4, a5⟩, b1, b2, b3, b4, b5⟩ := (hx.var.but HI.out.but hx.bg).five
   have hxx := hx.x HI.out
   go_wp2_with fail
   exact bodyPost_ret (v := .tuple #[.agg #[.int .i64 0, .bool false, .int .i64 0, .int .u64 0, .slice none 0 0], .bool false]) (by simp [results, Tryz.results69, go_sem, a1, a2, a3, a4, a5]) rfl (RefD.fin (d := 0) (ret := rBodyV) HR.out (RefX.to (lo := y.heap.size) (by have hl := hx.by_; have hgn := hx.bg; have hbw := hx.bw; have hgb := hx.gb; repeat (first | with_reducible assumption | with_reducible refine RefX.drew ?_ | (with_reducible refine RefX.set ?_ (by omega) (by omega) (by omega) (by omega) _ _))) (by have := hx.by_; have := hx.bw; omega)))
  have dd : ((d : Int) != 0) = true := by rw [bne_iff_ne]; omega
  rw [if_neg hd0] at hr
  by_cases hd3 : codS d = 3
  ·have df : ((codS d : Int) == 3) = true := by rw [beq_iff_eq]; omega
   rw [if_pos hd3] at hr
   have HQ := Lib.hid (And.intro (hQ hd3) hcl)
   have HP := rPartB HB.out hr w6 (fun hb' => rPushU_prg (wb := y) OKY t HT.out.1 r HRL.out.1 HRL.out.2 nn c6 hb' w6 HI.out)
   clear hr hd0 hQ hpl1 hcl hd3
   generalize predS d = pd at *
   generalize curS d = cd at *
   go_wp2_with fail
   (with_reducible refine (HP).mono ?_)
   rintro e w7 ⟨d7, c7, rfl, hi, hr, -, hup⟩
   try dsimp only at hr
   clear HI
   have HI := Lib.hid hi
   clear hi
   clear HP
   have hp7 := up_plain (Prg.mem_push' t r nn) HQ.out.1.2 hup
   unfold Prd.vThere at hr
   have HS : Calls Tryz.prog 109 #[.pointer (some ⟨g, 0, none⟩), .int .i64 (t : Int), .int .i64 (cd : Int), .int .i64 1] w7 _ := rPartD HB.out hr w7 (fun hb' => rSave_prg (wb := y) OKY HX.out.gy t cd 1 nn HT.out.1 HQ.out.1.1 HQ.out.2 (.inl rfl) c7 hp7 _ hb' rfl w7 HI.out)
   clear hr
   clear hp7 hup
   go_wp2_with fail
   (with_reducible refine (HS).mono ?_)
   rintro e w8 ⟨d8, c8, rfl, hi, hr⟩
   try dsimp only at hr
   clear HI
   have HI := Lib.hid hi
   clear hi
   clear HS
   by_cases hs : d8 = 1
   ·have ds := eq1 hs
    rw [if_pos hs] at hr
    have HR := Lib.hid hr
    clear hr hs
    have hx := HX.out
    obtain ⟨m0, ⟨a1, a2, a3, a4, a5⟩, b1, b2, b3, b4, b5⟩ := (hx.var.but HI.out.but hx.bg).five
    have hxx := hx.x HI.out
    go_wp2_with fail
    exact bodyPost_ret (v := .tuple #[.agg #[.int .i64 0, .bool false, .int .i64 0, .int .u64 0, .slice none 0 0], .bool true]) (by simp [results, Tryz.results69, go_sem, a1, a2, a3, a4, a5]) rfl (RefD.fin (d := 1) (ret := rBodyV) HR.out (RefX.to (lo := y.heap.size) (by have hl := hx.by_; have hgn := hx.bg; have hbw := hx.bw; have hgb := hx.gb; repeat (first | with_reducible assumption | with_reducible refine RefX.drew ?_ | (with_reducible refine RefX.set ?_ (by omega) (by omega) (by omega) (by omega) _ _))) (by have := hx.by_; have := hx.bw; omega)))
   ·have ds := ne1 hs
    rw [if_neg hs] at hr
    have HR := Lib.hid hr
    clear hr hs
    have hx := HX.out
    obtain ⟨m0, ⟨a1, a2, a3, a4, a5⟩, b1, b2, b3, b4, b5⟩ := (hx.var.but HI.out.but hx.bg).five
    have hxx := hx.x HI.out
    go_wp2_with fail
    exact bodyPost_ret (v := .tuple #[.agg #[.int .i64 0, .bool false, .int .i64 0, .int .u64 0, .slice none 0 0], .bool false]) (by simp [results, Tryz.results69, go_sem, a1, a2, a3, a4, a5]) rfl (RefD.fin (d := 0) (ret := rBodyV) HR.out (RefX.to (lo := y.heap.size) (by have hl := hx.by_; have hgn := hx.bg; have hbw := hx.bw; have hgb := hx.gb; repeat (first | with_reducible assumption | with_reducible refine RefX.drew ?_ | (with_reducible refine RefX.set ?_ (by omega) (by omega) (by omega) (by omega) _ _))) (by have := hx.by_; have := hx.bw; omega)))
  have df : ((codS d : Int) == 3) = false := by rw [beq_eq_false_iff_ne]; omega
  rw [if_neg hd3] at hr
  have HL := rPartQ HB.out hr w6 (fun hb' => rLinkS_prg (wb := y) OKY t (predS d) (curS d) r HT.out.1 hpl1 hcl HRL.out.2 c6 _ rfl w6 HI.out)
  clear hr hd0 hQ hpl1 hcl hd3
  generalize predS d = pd at *
  generalize curS d = cd at *
  go_wp2_with fail
  (with_reducible refine (HL).mono ?_)
  rintro e w7 ⟨d7, c7, rfl, hi, hr, h1⟩
  try dsimp only at hr
  clear HI
  have HI := Lib.hid hi
  clear hi
  clear HL
  by_cases he : d7 = 1
  ·have de := eq1 he
   rw [if_pos he] at hr
   have hp7 : c7.plain := h1 he
   have HS : Calls Tryz.prog 109 #[.pointer (some ⟨g, 0, none⟩), .int .i64 (t : Int), .int .i64 (r : Int), .int .i64 1] w7 _ := rPartD HB.out hr w7 (fun hb' => rSave_prg (wb := y) OKY HX.out.gy t r 1 nn HT.out.1 HRL.out.1 HRL.out.2 (.inl rfl) c7 hp7 _ hb' rfl w7 HI.out)
   clear hr
   clear hp7 h1 he
   go_wp2_with fail
   (with_reducible refine (HS).mono ?_)
   rintro e w8 ⟨d8, c8, rfl, hi, hr⟩
   try dsimp only at hr
   clear HI
   have HI := Lib.hid hi
   clear hi
   clear HS
   by_cases hs : d8 = 1
   ·have ds := eq1 hs
    rw [if_pos hs] at hr
    have HR := Lib.hid hr
    clear hr hs
    have hx := HX.out
    obtain ⟨m0, ⟨a1, a2, a3, a4, a5⟩, b1, b2, b3, b4, b5⟩ := (hx.var.but HI.out.but hx.bg).five
    have hxx := hx.x HI.out
    go_wp2_with fail
    exact bodyPost_ret (v := .tuple #[.agg #[.int .i64 0, .bool true, .int .i64 0, .int .u64 0, .slice none 0 0], .bool true]) (by simp [results, Tryz.results69, go_sem, a1, a2, a3, a4, a5]) rfl (RefD.fin (d := 2) (ret := rBodyV) HR.out (RefX.to (lo := y.heap.size) (by have hl := hx.by_; have hgn := hx.bg; have hbw := hx.bw; have hgb := hx.gb; repeat (first | with_reducible assumption | with_reducible refine RefX.drew ?_ | (with_reducible refine RefX.set ?_ (by omega) (by omega) (by omega) (by omega) _ _))) (by have := hx.by_; have := hx.bw; omega)))
   ·have ds := ne1 hs
    rw [if_neg hs] at hr
    have HR := Lib.hid hr
    clear hr hs
    have hx := HX.out
    obtain ⟨m0, ⟨a1, a2, a3, a4, a5⟩, b1, b2, b3, b4, b5⟩ := (hx.var.but HI.out.but hx.bg).five
    have hxx := hx.x HI.out
    go_wp2_with fail
    exact bodyPost_ret (v := .tuple #[.agg #[.int .i64 0, .bool true, .int .i64 0, .int .u64 0, .slice none 0 0], .bool false]) (by simp [results, Tryz.results69, go_sem, a1, a2, a3, a4, a5]) rfl (RefD.fin (d := 4) (ret := rBodyV) HR.out (RefX.to (lo := y.heap.size) (by have hl := hx.by_; have hgn := hx.bg; have hbw := hx.bw; have hgb := hx.gb; repeat (first | with_reducible assumption | with_reducible refine RefX.drew ?_ | (with_reducible refine RefX.set ?_ (by omega) (by omega) (by omega) (by omega) _ _))) (by have := hx.by_; have := hx.bw; omega)))
  ·have de := ne1 he
   rw [if_neg he] at hr
   have HJ7 := Lib.hid ((HJH.out _ _).2 ⟨c7, HI.out, hr⟩)
   clear hr he h1
   go_wp2_with fail
   go_roundw
   case rel => exact ⟨m, HJ7.out⟩
   case measure => exact cnt_lt HJ7.out (Nat.lt_succ_self m)
end
end Go.Proofs.YtibpfkcackdbgaaGreatDoor
namespace Go.Proofs.YtibpfkcackdbgaaGreatDoor
set_option linter.unusedVariables false
set_option maxRecDepth 100000
set_option linter.unusedSectionVars false
open Go.ChangeShapes Go.WideShapes Go.ChangeAt Go.RowKit Go.BigFrame
section
variable {g : Nat} {A : Option Addr} {n cap : Nat} {log : List Res} {w0 wb : World}
set_option maxHeartbeats 8000000 in
set_option maxRecDepth 100000 in
theorem rRem_prg (OK : Hid (CurOk g A n log w0 wb)) (hgb : g < wb.heap.size) (t kk nn m0 : Nat) (ht : t ≤ 64) (c : CSD) (hpl : c.plain) (R : RanD (List Res)) (hb : R ≠ .bad) (hR : (Prd.vRem t kk nn m0).runCD c = R) (w : World) (hI : CurID g A n cap log w0 wb c w) :
  Calls Tryz.prog 70 #[.pointer (some ⟨g, 0, none⟩), .int .i64 (t : Int), .int .u64 (kk : Int)] w (RefD g A n cap log w0 wb rBodyV R) := by
 have HT := Lib.hid (And.intro ht trivial)
 have HB := Lib.hid hb
 have GB := Lib.hid hgb
 have PL := Lib.hid hpl
 have HI := Lib.hid hI
 have HRR := Lib.hid hR
 clear hI hb hgb hpl hR ht
 go_enter Tryz.func70, Tryz.ntmps70
 go_upto_region 1 with fail
 refine gen_w (P := fun W => Code.wp _ _ _ _ W) (fun y => Below w.heap.size w y ∧ VarAt y w.heap.size [.int .i64 0, .bool false, .int .i64 0, .int .u64 0, .slice none 0 0]) ⟨belA, VarAt.mk5 (by simp)⟩ ?_
 rintro y ⟨k0, k1⟩
 obtain ⟨hx0, hi0⟩ := RefO.start OK.out GB.out HI.out PL.out k0 k1
 have HX := Lib.hid hx0
 have OKY := Lib.hid hx0.ok
 clear HI k0 k1 hx0
 have HI := Lib.hid hi0
 clear hi0
 obtain ⟨J, hJ⟩ : ∃ J : Nat → World → Prop, J = fun m wr => ∃ c, CurID g A n cap log w0 y c wr ∧ (Prd.vRem t kk nn m).runCD c = R := ⟨_, rfl⟩
 have HJ : ∀ m wr, J m wr ↔ ∃ c, CurID g A n cap log w0 y c wr ∧ (Prd.vRem t kk nn m).runCD c = R := fun m wr => by rw [hJ]
 have HJ0 := Lib.hid (show ∃ m, J m y from ⟨m0, (HJ _ _).2 ⟨c, HI.out, HRR.out⟩⟩)
 have HJH := Lib.hid HJ
 clear hJ HJ HI HRR PL c
 go_wp2_with fail
 go_loopw [8] (fun _ wr => ∃ m, J m wr) (fun _ wr => cnt J wr)
 case atStart => exact HJ0.out
 case round =>
  clear HJ0
  have hj := cnt_spec hrel
  clear hrel
  generalize hm : cnt J wr = m at *
  have HM := Lib.hid hm
  clear hm
  obtain ⟨c5, hS, hr⟩ := (HJH.out _ _).1 hj
  clear hj
  have c2' := hS.two
  have hgw := hS.lt
  have HI := Lib.hid hS
  clear hS
  by_cases hst : c5.stops = true
  ·rw [hst] at c2'
   have hr1 := (Prd.runCD_stop (p := Prd.vRem t kk nn m) hst (Prd.ret 1)).symm.trans hr
   have HR := Lib.hid hr1
   clear hr hr1 hst
   have hx := HX.out
   obtain ⟨m0, ⟨a1, a2, a3, a4, a5⟩, b1, b2, b3, b4, b5⟩ := (hx.var.but HI.out.but hx.bg).five
   have hxx := hx.x HI.out
   go_wp2_with fail
   exact bodyPost_ret (v := .tuple #[.agg #[.int .i64 0, .bool false, .int .i64 0, .int .u64 0, .slice none 0 0], .bool true]) (by simp [results, Tryz.results70, go_sem, a1, a2, a3, a4, a5]) rfl (RefD.fin (d := 1) (ret := rBodyV) HR.out (RefX.to (lo := y.heap.size) (by have hl := hx.by_; have hgn := hx.bg; have hbw := hx.bw; have hgb := hx.gb; repeat (first | with_reducible assumption | with_reducible refine RefX.drew ?_ | (with_reducible refine RefX.set ?_ (by omega) (by omega) (by omega) (by omega) _ _))) (by have := hx.by_; have := hx.bw; omega)))
  have hst' : c5.stops = false := by simpa using hst
  rw [hst'] at c2'
  cases m with
  | zero =>
   cases c5 with
   | «at» s => exact absurd hr.symm HB.out
   | stop k i a b d => exact absurd rfl hst
  | succ m =>
  have hr1 : ((Prd.search t kk nn).bind fun d => if d = 0 then Prd.ret 0 else if codS d = 3 then (Prd.mark t (curS d)).bind fun e => if e = 1 then Prd.ask 0 ((fieldN t (curS d) 2 : Nat) : Int) 0 0 [] fun f => (Prd.save t (curS d) 2 nn).bind fun s => if s = 1 then (Prd.sweep t (stampN f) nn).bind fun z => Prd.ret (if z = 0 then 4 else 2) else Prd.ret 5 else Prd.vRem t kk nn m else Prd.ret 1).runCD c5 = R := hr
  have HS := rPartQ HB.out hr1 wr (fun hb' => rSearchS_prg (wb := y) OKY HX.out.gy t kk nn HT.out.1 c5 _ hb' rfl wr HI.out)
  clear hr hr1 hst hst'
  go_wp2_with fail
  (with_reducible refine (HS).mono ?_)
  rintro e w6 ⟨d, c6, rfl, hi, hr, hQ⟩
  try dsimp only at hr
  clear HI
  have HI := Lib.hid hi
  clear hi
  clear HS
  have hpl1 : predS d < 1048576 := Nat.mod_lt _ (by decide)
  have hcl : curS d < 1048576 := Nat.mod_lt _ (by decide)
  unfold searchV
  clear c2' hgw
  by_cases hd0 : d = 0
  ·have dd : ((d : Int) != 0) = false := by rw [bne_eq_false_iff_eq]; omega
   rw [if_pos hd0] at hr
   generalize predS d = pd
   generalize curS d = cd
   generalize ((codS d : Int) == 3) = fd
   have HR := Lib.hid hr
   clear hr hd0 hQ hpl1 hcl
   have hx := HX.out
   obtain ⟨m0, ⟨a1, a2, a3, a4, a5⟩, b1, b2, b3, b4, b5⟩ := (hx.var.but HI.out.but hx.bg).five
   have hxx := hx.x HI.out
   go_wp2_with fail
   exact bodyPost_ret (v := .tuple #[.agg #[.int .i64 0, .bool false, .int .i64 0, .int .u64 0, .slice none 0 0], .bool false]) (by simp [results, Tryz.results70, go_sem, a1, a2, a3, a4, a5]) rfl (RefD.fin (d := 0) (ret := rBodyV) HR.out (RefX.to (lo := y.heap.size) (by have hl := hx.by_; have hgn := hx.bg; have hbw := hx.bw; have hgb := hx.gb; repeat (first | with_reducible assumption | with_reducible refine RefX.drew ?_ | (with_reducible refine RefX.set ?_ (by omega) (by omega) (by omega) (by omega) _ _))) (by have := hx.by_; have := hx.bw; omega)))
  have dd : ((d : Int) != 0) = true := by rw [bne_iff_ne]; omega
  rw [if_neg hd0] at hr
  by_cases hd3 : codS d = 3
  case neg =>
   have df : ((codS d : Int) == 3) = false := by rw [beq_eq_false_iff_ne]; omega
   rw [if_neg hd3] at hr
   generalize predS d = pd
   generalize curS d = cd
   have HR := Lib.hid hr
   clear hr hd0 hQ hpl1 hcl hd3
   have hx := HX.out
   obtain ⟨m0, ⟨a1, a2, a3, a4, a5⟩, b1, b2, b3, b4, b5⟩ := (hx.var.but HI.out.but hx.bg).five
   have hxx := hx.x HI.out
   go_wp2_with fail
   exact bodyPost_ret (v := .tuple #[.agg #[.int .i64 0, .bool false, .int .i64 0, .int .u64 0, .slice none 0 0], .bool true]) (by simp [results, Tryz.results70, go_sem, a1, a2, a3, a4, a5]) rfl (RefD.fin (d := 1) (ret := rBodyV) HR.out (RefX.to (lo := y.heap.size) (by have hl := hx.by_; have hgn := hx.bg; have hbw := hx.bw; have hgb := hx.gb; repeat (first | with_reducible assumption | with_reducible refine RefX.drew ?_ | (with_reducible refine RefX.set ?_ (by omega) (by omega) (by omega) (by omega) _ _))) (by have := hx.by_; have := hx.bw; omega)))
  have df : ((codS d : Int) == 3) = true := by rw [beq_iff_eq]; omega
  rw [if_pos hd3] at hr
  have HQ := Lib.hid (And.intro (hQ hd3).1 hcl)
  have HL := rPartQ HB.out hr w6 (fun hb' => rMarkS_prg (wb := y) OKY t (curS d) HT.out.1 hcl c6 _ rfl w6 HI.out)
  clear hr hd0 hQ hpl1 hcl hd3
  generalize predS d = pd at *
  generalize curS d = cd at *
  go_wp2_with fail
  (with_reducible refine (HL).mono ?_)
  rintro e w7 ⟨d7, c7, rfl, hi, hr, h1⟩
  try dsimp only at hr
  clear HI
  have HI := Lib.hid hi
  clear hi
  clear HL
  by_cases he : d7 = 1
  ·have de := eq1 he
   rw [if_pos he] at hr
   have HF : ∀ w, Calls Tryz.prog 15 #[.int .i64 (t : Int), .int .i64 (cd : Int), .int .i64 2] w fun e w' => e = .returned (.int .i64 (fieldN t cd 2 : Nat)) ∧ w = w' := fun w => refField_any t cd 2 (by have := HT.out; omega) HQ.out.1 (by have := HQ.out.2; omega) (by omega) w
   have HLD := rLoadDP (cap := cap) (wb := y) OKY (h1 he) hr w7 HI.out
   clear hr he h1
   generalize fieldN t cd 2 = fl at *
   go_wp2_with (go_at_call 15; (with_reducible refine (HF _).mono ?_); rintro e w' ⟨rfl, rfl⟩)
   (with_reducible refine (HLD).mono ?_)
   rintro e w8 ⟨f, c8, rfl, hfl, hi, -, hr, hp8⟩
   try dsimp only at hr
   clear HI
   have HI := Lib.hid hi
   clear hi
   clear HLD
   have HST := fun w => refStamp_any f hfl w
   clear hfl
   have HS : Calls Tryz.prog 109 #[.pointer (some ⟨g, 0, none⟩), .int .i64 (t : Int), .int .i64 (cd : Int), .int .i64 2] w8 _ := rPartD HB.out hr w8 (fun hb' => rSave_prg (wb := y) OKY HX.out.gy t cd 2 nn HT.out.1 HQ.out.1 HQ.out.2 (.inr rfl) c8 hp8 _ hb' rfl w8 HI.out)
   clear hr
   clear hp8
   generalize stampN f = sf at *
   go_wp2_with (go_at_call 115; (with_reducible refine (HST _).mono ?_); rintro e w' ⟨rfl, rfl⟩)
   (with_reducible refine (HS).mono ?_)
   rintro e w9 ⟨d9, c9, rfl, hi, hr⟩
   try dsimp only at hr
   clear HI
   have HI := Lib.hid hi
   clear hi
   clear HS
   by_cases hs : d9 = 1
   case neg =>
    have ds := ne1 hs
    rw [if_neg hs] at hr
    have HR := Lib.hid hr
    clear hr hs
    have hx := HX.out
    obtain ⟨m0, ⟨a1, a2, a3, a4, a5⟩, b1, b2, b3, b4, b5⟩ := (hx.var.but HI.out.but hx.bg).five
    have hxx := hx.x HI.out
    go_wp2_with fail
    exact bodyPost_ret (v := .tuple #[.agg #[.int .i64 0, .bool false, .int .i64 0, .int .u64 0, .slice none 0 0], .bool false]) (by simp [results, Tryz.results70, go_sem, a1, a2, a3, a4, a5]) rfl (RefD.fin (d := 5) (ret := rBodyV) HR.out (RefX.to (lo := y.heap.size) (by have hl := hx.by_; have hgn := hx.bg; have hbw := hx.bw; have hgb := hx.gb; repeat (first | with_reducible assumption | with_reducible refine RefX.drew ?_ | (with_reducible refine RefX.set ?_ (by omega) (by omega) (by omega) (by omega) _ _))) (by have := hx.by_; have := hx.bw; omega)))
   have ds := eq1 hs
   rw [if_pos hs] at hr
   have HSW := rPartD HB.out hr w9 (fun hb' => rSweep_prg (wb := y) OKY HX.out.gy t sf nn HT.out.1 c9 _ hb' rfl w9 HI.out)
   clear hr hs
   go_wp2_with fail
   (with_reducible refine (HSW).mono ?_)
   rintro e w10 ⟨z, c10, rfl, hi, hr⟩
   try dsimp only at hr
   clear HI
   have HI := Lib.hid hi
   clear hi
   clear HSW
   by_cases hz : z = 0
   ·have dz : ((z : Int) != 0) = false := by rw [bne_eq_false_iff_eq]; omega
    rw [if_pos hz] at hr
    have HR := Lib.hid hr
    clear hr hz
    have hx := HX.out
    obtain ⟨m0, ⟨a1, a2, a3, a4, a5⟩, b1, b2, b3, b4, b5⟩ := (hx.var.but HI.out.but hx.bg).five
    have hxx := hx.x HI.out
    go_wp2_with fail
    exact bodyPost_ret (v := .tuple #[.agg #[.int .i64 0, .bool true, .int .i64 0, .int .u64 0, .slice none 0 0], .bool false]) (by simp [results, Tryz.results70, go_sem, a1, a2, a3, a4, a5]) rfl (RefD.fin (d := 4) (ret := rBodyV) HR.out (RefX.to (lo := y.heap.size) (by have hl := hx.by_; have hgn := hx.bg; have hbw := hx.bw; have hgb := hx.gb; repeat (first | with_reducible assumption | with_reducible refine RefX.drew ?_ | (with_reducible refine RefX.set ?_ (by omega) (by omega) (by omega) (by omega) _ _))) (by have := hx.by_; have := hx.bw; omega)))
   ·have dz : ((z : Int) != 0) = true := by rw [bne_iff_ne]; omega
    rw [if_neg hz] at hr
    have HR := Lib.hid hr
    clear hr hz
    have hx := HX.out
    obtain ⟨m0, ⟨a1, a2, a3, a4, a5⟩, b1, b2, b3, b4, b5⟩ := (hx.var.but HI.out.but hx.bg).five
    have hxx := hx.x HI.out
    go_wp2_with fail
    exact bodyPost_ret (v := .tuple #[.agg #[.int .i64 0, .bool true, .int .i64 0, .int .u64 0, .slice none 0 0], .bool true]) (by simp [results, Tryz.results70, go_sem, a1, a2, a3, a4, a5]) rfl (RefD.fin (d := 2) (ret := rBodyV) HR.out (RefX.to (lo := y.heap.size) (by have hl := hx.by_; have hgn := hx.bg; have hbw := hx.bw; have hgb := hx.gb; repeat (first | with_reducible assumption | with_reducible refine RefX.drew ?_ | (with_reducible refine RefX.set ?_ (by omega) (by omega) (by omega) (by omega) _ _))) (by have := hx.by_; have := hx.bw; omega)))
  ·have de := ne1 he
   rw [if_neg he] at hr
   have HJ7 := Lib.hid ((HJH.out _ _).2 ⟨c7, HI.out, hr⟩)
   clear hr he h1
   go_wp2_with fail
   go_roundw
   case rel => exact ⟨m, HJ7.out⟩
   case measure => exact cnt_lt HJ7.out (Nat.lt_succ_self m)
end
end Go.Proofs.YtibpfkcackdbgaaGreatDoor
namespace Go.Proofs.YtibpfkcackdbgaaGreatDoor
set_option linter.unusedVariables false
set_option maxRecDepth 100000
set_option linter.unusedSectionVars false
open Go.ChangeShapes Go.WideShapes Go.ChangeAt Go.RowKit Go.BigFrame
section
variable {g : Nat} {A : Option Addr} {n cap : Nat} {log : List Res} {w0 wb : World}
set_option maxHeartbeats 8000000 in
set_option maxRecDepth 100000 in
theorem rHas_prg (OK : Hid (CurOk g A n log w0 wb)) (hgb : g < wb.heap.size) (t kk nn : Nat) (ht : t ≤ 64) (c : CSD) (hpl : c.plain) (R : RanD (List Res)) (hb : R ≠ .bad) (hR : (Prd.vHas t kk nn).runCD c = R) (w : World) (hI : CurID g A n cap log w0 wb c w) :
  Calls Tryz.prog 71 #[.pointer (some ⟨g, 0, none⟩), .int .i64 (t : Int), .int .u64 (kk : Int)] w (RefD g A n cap log w0 wb rBodyV R) := by
 unfold Prd.vHas at hR
 have HT := Lib.hid (And.intro ht trivial)
 have HB := Lib.hid hb
 have GB := Lib.hid hgb
 have PL := Lib.hid hpl
 have HI := Lib.hid hI
 have HRR := Lib.hid hR
 clear hI hb hgb hpl hR ht
 go_enter Tryz.func71, Tryz.ntmps71
 go_wp2_with fail
 refine gen_w (P := fun W => Calls _ _ _ W _) (fun y => Below w.heap.size w y ∧ VarAt y w.heap.size [.int .i64 0, .bool false, .int .i64 0, .int .u64 0, .slice none 0 0]) ⟨belA, VarAt.mk5 (by simp)⟩ ?_
 rintro y ⟨k0, k1⟩
 obtain ⟨hx0, hi0⟩ := RefO.start OK.out GB.out HI.out PL.out k0 k1
 have HX := Lib.hid hx0
 have OKY := Lib.hid hx0.ok
 clear HI k0 k1 hx0
 have HI := Lib.hid hi0
 clear hi0
 have HSK : Calls Tryz.prog 117 #[.pointer (some ⟨g, 0, none⟩), .int .i64 (t : Int), .int .i64 0, .int .u64 (kk : Int)] y _ := rPartQ HB.out HRR.out y (fun hb' => rSeekS_prg (wb := y) OKY t 0 kk nn HT.out.1 (by decide) c _ hb' rfl y HI.out)
 clear HRR
 (with_reducible refine (HSK).mono ?_)
 rintro e w2 ⟨d, c2, rfl, hi, hr, hQ⟩
 try dsimp only at hr
 clear HI
 have HI := Lib.hid hi
 clear hi
 clear HSK
 unfold seekV
 by_cases hd : d % 2 = 1
 case neg =>
  have df : decide (d % 2 = 1) = false := by rw [decide_eq_false_iff_not]; exact hd
  rw [if_neg hd] at hr
  rw [df]
  have HR := Lib.hid hr
  clear hr hd hQ df
  generalize d / 2 = x
  have hx := HX.out
  obtain ⟨m0, ⟨a1, a2, a3, a4, a5⟩, b1, b2, b3, b4, b5⟩ := (hx.var.but HI.out.but hx.bg).five
  have hxx := hx.x HI.out
  go_wp2_with fail
  exact bodyPost_ret (v := .tuple #[.agg #[.int .i64 0, .bool false, .int .i64 0, .int .u64 0, .slice none 0 0], .bool true]) (by simp [results, Tryz.results71, go_sem, a1, a2, a3, a4, a5]) rfl (RefD.fin (d := 1) (ret := rBodyV) HR.out (RefX.to (lo := y.heap.size) (by have hl := hx.by_; have hgn := hx.bg; have hbw := hx.bw; have hgb := hx.gb; repeat (first | with_reducible assumption | with_reducible refine RefX.drew ?_ | (with_reducible refine RefX.set ?_ (by omega) (by omega) (by omega) (by omega) _ _))) (by have := hx.by_; have := hx.bw; omega)))
 have df : decide (d % 2 = 1) = true := by rw [decide_eq_true_iff]; exact hd
 rw [if_pos hd] at hr
 rw [df]
 have hq := hQ.2 hd
 have HC := Lib.hid (show 1 ≤ d / 2 ∧ d / 2 < 1048576 by have := hQ.1; omega)
 rw [nextN_pos (by have := hq.1; omega)] at hr
 have HLD := rLoadDP (cap := cap) (wb := y) OKY hq.2 hr w2 HI.out
 clear hd hQ hq df hr
 generalize d / 2 = x at *
 have HF : ∀ w, Calls Tryz.prog 15 #[.int .i64 (t : Int), .int .i64 (x : Int), .int .i64 0] w fun e w' => e = .returned (.int .i64 (fieldN t x 0 : Nat)) ∧ w = w' := fun w => refField_any t x 0 (by have := HT.out; omega) HC.out.1 (by have := HC.out.2; omega) (by omega) w
 generalize fieldN t x 0 = fl at *
 go_wp2_with (go_at_call 15; (with_reducible refine (HF _).mono ?_); rintro e w' ⟨rfl, rfl⟩)
 (with_reducible refine (HLD).mono ?_)
 rintro e w3 ⟨v, c3, rfl, hvl, hi, -, hr, hp3⟩
 try dsimp only at hr
 clear HI
 have HI := Lib.hid hi
 clear hi
 clear HLD
 have HM := fun w => refMark_any v hvl w
 clear hvl
 cases hm : markB v with
 | true =>
  rw [hm] at HM
  rw [if_pos hm] at hr
  clear hm
  have HS : Calls Tryz.prog 109 #[.pointer (some ⟨g, 0, none⟩), .int .i64 (t : Int), .int .i64 (x : Int), .int .i64 2] w3 _ := rPartD HB.out hr w3 (fun hb' => rSave_prg (wb := y) OKY HX.out.gy t x 2 nn HT.out.1 HC.out.1 HC.out.2 (.inr rfl) c3 hp3 _ hb' rfl w3 HI.out)
  clear hr
  clear hp3
  go_wp2_with (go_at_call 118; (with_reducible refine (HM _).mono ?_); rintro e w' ⟨rfl, rfl⟩)
  (with_reducible refine (HS).mono ?_)
  rintro e w4 ⟨d4, c4, rfl, hi, hr⟩
  try dsimp only at hr
  clear HI
  have HI := Lib.hid hi
  clear hi
  clear HS
  by_cases hs : d4 = 1
  ·have ds := eq1 hs
   rw [if_pos hs] at hr
   have HR := Lib.hid hr
   clear hr hs
   have hx := HX.out
   obtain ⟨m0, ⟨a1, a2, a3, a4, a5⟩, b1, b2, b3, b4, b5⟩ := (hx.var.but HI.out.but hx.bg).five
   have hxx := hx.x HI.out
   go_wp2_with fail
   exact bodyPost_ret (v := .tuple #[.agg #[.int .i64 0, .bool false, .int .i64 0, .int .u64 0, .slice none 0 0], .bool true]) (by simp [results, Tryz.results71, go_sem, a1, a2, a3, a4, a5]) rfl (RefD.fin (d := 1) (ret := rBodyV) HR.out (RefX.to (lo := y.heap.size) (by have hl := hx.by_; have hgn := hx.bg; have hbw := hx.bw; have hgb := hx.gb; repeat (first | with_reducible assumption | with_reducible refine RefX.drew ?_ | (with_reducible refine RefX.set ?_ (by omega) (by omega) (by omega) (by omega) _ _))) (by have := hx.by_; have := hx.bw; omega)))
  ·have ds := ne1 hs
   rw [if_neg hs] at hr
   have HR := Lib.hid hr
   clear hr hs
   have hx := HX.out
   obtain ⟨m0, ⟨a1, a2, a3, a4, a5⟩, b1, b2, b3, b4, b5⟩ := (hx.var.but HI.out.but hx.bg).five
   have hxx := hx.x HI.out
   go_wp2_with fail
   exact bodyPost_ret (v := .tuple #[.agg #[.int .i64 0, .bool false, .int .i64 0, .int .u64 0, .slice none 0 0], .bool false]) (by simp [results, Tryz.results71, go_sem, a1, a2, a3, a4, a5]) rfl (RefD.fin (d := 0) (ret := rBodyV) HR.out (RefX.to (lo := y.heap.size) (by have hl := hx.by_; have hgn := hx.bg; have hbw := hx.bw; have hgb := hx.gb; repeat (first | with_reducible assumption | with_reducible refine RefX.drew ?_ | (with_reducible refine RefX.set ?_ (by omega) (by omega) (by omega) (by omega) _ _))) (by have := hx.by_; have := hx.bw; omega)))
 | false =>
  rw [hm] at HM
  rw [if_neg (by rw [hm]; decide)] at hr
  clear hm
  have HS : Calls Tryz.prog 109 #[.pointer (some ⟨g, 0, none⟩), .int .i64 (t : Int), .int .i64 (x : Int), .int .i64 1] w3 _ := rPartD HB.out hr w3 (fun hb' => rSave_prg (wb := y) OKY HX.out.gy t x 1 nn HT.out.1 HC.out.1 HC.out.2 (.inl rfl) c3 hp3 _ hb' rfl w3 HI.out)
  clear hr
  clear hp3
  go_wp2_with (go_at_call 118; (with_reducible refine (HM _).mono ?_); rintro e w' ⟨rfl, rfl⟩)
  (with_reducible refine (HS).mono ?_)
  rintro e w4 ⟨d4, c4, rfl, hi, hr⟩
  try dsimp only at hr
  clear HI
  have HI := Lib.hid hi
  clear hi
  clear HS
  by_cases hs : d4 = 1
  ·have ds := eq1 hs
   rw [if_pos hs] at hr
   have HR := Lib.hid hr
   clear hr hs
   have hx := HX.out
   obtain ⟨m0, ⟨a1, a2, a3, a4, a5⟩, b1, b2, b3, b4, b5⟩ := (hx.var.but HI.out.but hx.bg).five
   have hxx := hx.x HI.out
   go_wp2_with fail
   exact bodyPost_ret (v := .tuple #[.agg #[.int .i64 0, .bool true, .int .i64 0, .int .u64 0, .slice none 0 0], .bool true]) (by simp [results, Tryz.results71, go_sem, a1, a2, a3, a4, a5]) rfl (RefD.fin (d := 2) (ret := rBodyV) HR.out (RefX.to (lo := y.heap.size) (by have hl := hx.by_; have hgn := hx.bg; have hbw := hx.bw; have hgb := hx.gb; repeat (first | with_reducible assumption | with_reducible refine RefX.drew ?_ | (with_reducible refine RefX.set ?_ (by omega) (by omega) (by omega) (by omega) _ _))) (by have := hx.by_; have := hx.bw; omega)))
  ·have ds := ne1 hs
   rw [if_neg hs] at hr
   have HR := Lib.hid hr
   clear hr hs
   have hx := HX.out
   obtain ⟨m0, ⟨a1, a2, a3, a4, a5⟩, b1, b2, b3, b4, b5⟩ := (hx.var.but HI.out.but hx.bg).five
   have hxx := hx.x HI.out
   go_wp2_with fail
   exact bodyPost_ret (v := .tuple #[.agg #[.int .i64 0, .bool true, .int .i64 0, .int .u64 0, .slice none 0 0], .bool false]) (by simp [results, Tryz.results71, go_sem, a1, a2, a3, a4, a5]) rfl (RefD.fin (d := 4) (ret := rBodyV) HR.out (RefX.to (lo := y.heap.size) (by have hl := hx.by_; have hgn := hx.bg; have hbw := hx.bw; have hgb := hx.gb; repeat (first | with_reducible assumption | with_reducible refine RefX.drew ?_ | (with_reducible refine RefX.set ?_ (by omega) (by omega) (by omega) (by omega) _ _))) (by have := hx.by_; have := hx.bw; omega)))
end
end Go.Proofs.YtibpfkcackdbgaaGreatDoor
namespace Go.Proofs.YtibpfkcackdbgaaGreatDoor
set_option linter.unusedVariables false
set_option maxRecDepth 100000
set_option linter.unusedSectionVars false
open Go.ChangeShapes Go.WideShapes Go.ChangeAt Go.RowKit Go.BigFrame
theorem refVertex_yes (u : Nat) (w : World) (h : u < 1073741824) :
  Calls Tryz.prog 66 #[.int .i64 (u : Int)] w fun e w' => e = .returned (.tuple #[.int .u64 ((u * 2147483648 : Nat) : Int), .int .i64 0]) ∧ w = w' := by
 have h0 : (0 : Int) ≤ (u : Int) := by omega
 have h1 : (u : Int) < 1073741824 := by omega
 have e0 : decide ((u : Int) < 0) = false := by simp
 have e1 : decide ((u : Int) > 1073741823) = false := by simp; omega
 have e2 : decide ((1073741823 : Int) < (u : Int)) = false := by simp; omega
 have hc : ((u * 2147483648 : Nat) : Int) = (u : Int) * 2147483648 := by omega
 rw [hc]
 clear hc h
 generalize (u : Int) = u' at *
 go_enter Tryz.func66, Tryz.ntmps66
 go_wp2
 go_ret2
 exact ⟨rfl, rfl⟩
theorem refVertex_no (u : Int) (w : World) (h : ¬ keyIsV u) :
  Calls Tryz.prog 66 #[.int .i64 u] w fun e w' => e = .returned (.tuple #[.int .u64 0, .int .i64 4]) ∧ w = w' := by
 unfold keyIsV at h
 by_cases h0 : u < 0
 ·clear h
  go_enter Tryz.func66, Tryz.ntmps66
  go_wp2
  go_ret2
  exact ⟨rfl, rfl⟩
 ·have h2 : 0 ≤ u := by omega
  have h1 : 1073741824 ≤ u := by omega
  have e1 : decide (u > 1073741823) = true := by simp; omega
  clear h h0
  go_enter Tryz.func66, Tryz.ntmps66
  go_wp2
  go_ret2
  exact ⟨rfl, rfl⟩
theorem refSealed_at (w : World) : Calls Tryz.prog 68 #[] w fun e w' => e = .returned (.agg #[.int .i64 6, .bool false, .int .i64 0, .int .u64 0, .slice none 0 0]) ∧ Below w.heap.size w w' := by
 go_enter Tryz.func68, Tryz.ntmps68
 go_wp2_with fail
 exact bodyPost_ret (v := .agg #[.int .i64 6, .bool false, .int .i64 0, .int .u64 0, .slice none 0 0]) (by simp [results, Tryz.results68, go_sem]) rfl ⟨rfl, belA⟩
def Prd.enterP (me : Nat) : Prd := .ask 0 7 0 0 [] fun s => if s = 0 then (Prg.pin me).up.bind fun _ => .ret 1 else .ret 0
def Prd.leaveP (me : Nat) (okd : Bool) (r : Nat) : Prd := if okd = true then (Prg.unpin me).up.bind fun _ => .ret r else .ask 1 7 1 0 [] fun _ => (Prg.unpin me).up.bind fun _ => .ret 0
theorem inP_eq (me : Nat) (ok : Nat → Bool) (b : Prd) : Prd.inP me ok b = (Prd.enterP me).bind fun e => if e = 1 then b.bind fun d => Prd.leaveP me (ok d) (d + 2) else .ret 1 := by
 unfold Prd.inP Prd.enterP
 simp only [Prd.bind]
 congr 1
 funext s
 by_cases h : s = 0
 ·rw [if_pos h, if_pos h, Prd.bind_assoc]
  rfl
 ·rw [if_neg h, if_neg h]
  rfl
section
variable {g : Nat} {A : Option Addr} {n cap : Nat} {log : List Res} {w0 wb : World}
set_option maxHeartbeats 4000000 in
theorem rEnter_prg (OK : Hid (CurOk g A n log w0 wb)) (me : Nat) (hme : me < 1000000) (c : CSD) (hpl : c.plain) (R : RanD (List Res)) (hb : R ≠ .bad) (hR : (Prd.enterP me).runCD c = R) (w : World) (hI : CurID g A n cap log w0 wb c w) :
  Calls Tryz.prog 67 #[.pointer (some ⟨g, 0, none⟩), .int .i64 (me : Int)] w (RefDP g A n cap log w0 wb (fun _ c => c.plain) (fun d => .bool ((d : Int) == 1)) R) := by
 unfold Prd.enterP at hR
 have HL : Calls Tryz.prog 106 #[.pointer (some ⟨g, 0, none⟩), .int .i64 7] w _ := rLoadDP (cap := cap) (wb := wb) OK (i := 7) hpl hR w hI
 have HM := Lib.hid hme
 have HB := Lib.hid hb
 clear hI hb hpl hR hme
 go_enter Tryz.func67, Tryz.ntmps67
 go_wp2_with fail
 (with_reducible refine HL.mono ?_)
 clear HL
 rintro e w2 ⟨s, c2, rfl, hn, hi, -, hr, hp⟩
 try dsimp only at hr
 clear hn
 by_cases hs : s = 0
 ·have ds : ((s : Int) != 0) = false := by rw [bne_eq_false_iff_eq]; omega
  rw [if_pos hs] at hr
  have HP := rPartB HB.out hr w2 (fun hb' => rPinU_prg (wb := wb) OK me HM.out c2 hb' w2 hi)
  have HPL := Lib.hid hp
  clear hr hi hp hs
  go_wp2_with fail
  (with_reducible refine HP.mono ?_)
  clear HP
  rintro e w3 ⟨d, c3, rfl, hi, hr, -, hup⟩
  have hp3 := up_plain (Prg.mem_pin' me) HPL.out hup
  have HE := Lib.hid (RefDP.fin (Q := fun _ c => CSD.plain c) (ret := fun d => .bool ((d : Int) == 1)) (d := 1) hr hi hp3)
  clear hi hr hup hp3
  go_wp2_with fail
  go_ret
  exact HE.out
 ·have ds : ((s : Int) != 0) = true := by rw [bne_iff_ne]; omega
  rw [if_neg hs] at hr
  have HE := Lib.hid (RefDP.fin (Q := fun _ c => CSD.plain c) (ret := fun d => .bool ((d : Int) == 1)) (d := 0) hr hi hp)
  clear hr hi hp hs
  go_wp2_with fail
  go_ret
  exact HE.out
theorem rStoreDP (OK : Hid (CurOk g A n log w0 wb)) {R : RanD (List Res)} {f : Nat → Prd} {c : CSD} {i : Int} {a : Nat} (hp : c.plain) (hR : (Prd.ask 1 i a 0 [] f).runCD c = R) (w : World) (hI : CurID g A n cap log w0 wb c w) : Calls Tryz.prog 119 #[.pointer (some ⟨g, 0, none⟩), .int .i64 i, .int .u64 (a : Int)] w (fun e w' => ∃ (d : Nat) (c' : CSD), e = .returned (.tuple #[]) ∧ CurID g A n cap log w0 wb c' w' ∧ (f d).runCD c' = R ∧ c'.plain) :=
 (curStore_of g i a (c.tell 1 i a 0 []).1 _ (fun x y h hb => h.below hb) w hI.lt (curDoM OK.out c 1 i a 0 (by decide) w hI)).mono fun e w' h => ⟨(c.tell 1 i a 0 []).1, _, h.1, h.2.1, by rw [← hR, Prd.runCD_ask], CSD.plain_tell hp _ _ _ _⟩
theorem CurOk.at_ {z : World} (ok : CurOk g A n log w0 wb) (hb : But g wb z) : CurOk g A n log w0 z := ⟨ok.log, ok.old, ok.below.trans (hb.below.mono ok.old)⟩
theorem CurVD.rebase {lo : Nat} {c : CSD} {w : World} (hc : CurVD lo g A n cap log c w) (hp : c.plain) : CurID g A n cap log w0 w c w := by
 refine ⟨?_, But.refl _ _⟩
 cases c with
 | «at» s => exact hc
 | stop k i a b d =>
  obtain ⟨D, dc, h1, h2, h3, h4, h5⟩ := hc
  obtain rfl : d = [] := hp
  exact ⟨D, dc, h1, h2, h3, OffW.nil _ _, h5⟩
set_option maxHeartbeats 4000000 in
set_option maxRecDepth 100000 in
theorem rLeaveYes_prg (OK : Hid (CurOk g A n log w0 wb)) (hgb : g < wb.heap.size) (me : Nat) (hme : me < 1000000) (r : Nat) (er : Int) (oi : Bool) (c : CSD) (hpl : c.plain) (R : RanD (List Res)) (hb : R ≠ .bad) (hR : ((Prg.unpin me).up.bind fun _ => Prd.ret r).runCD c = R) (w : World) (hI : CurID g A n cap log w0 wb c w) :
  Calls Tryz.prog 72 #[.pointer (some ⟨g, 0, none⟩), .int .i64 (me : Int), .agg #[.int .i64 er, .bool oi, .int .i64 0, .int .u64 0, .slice none 0 0], .bool true] w (RefD g A n cap log w0 wb (fun _ => .agg #[.int .i64 er, .bool oi, .int .i64 0, .int .u64 0, .slice none 0 0]) R) := by
 have HM := Lib.hid hme
 have HB := Lib.hid hb
 have GB := Lib.hid hgb
 have PL := Lib.hid hpl
 have HI := Lib.hid hI
 have HRR := Lib.hid hR
 have hlt := hI.lt
 have hbs := hI.but.size
 have n1 : ¬ (w.heap.size = g) := by omega
 have n2 : ¬ (w.heap.size + 1 = g) := by omega
 have n3 : ¬ (w.heap.size = w.heap.size + 1) := by omega
 have n4 : ¬ (w.heap.size + 1 = w.heap.size) := by omega
 have HS := Lib.hid (And.intro hlt hbs)
 clear hI hb hgb hpl hR hme hlt hbs
 go_enter Tryz.func72, Tryz.ntmps72
 go_wp2_with fail
 refine gen_w (P := fun W => Calls _ _ _ W _) (fun y => Below w.heap.size w y ∧ VarAt y w.heap.size [.int .i64 er, .bool oi, .int .i64 0, .int .u64 0, .slice none 0 0] ∧ VarAt y (w.heap.size + 1) [.int .i64 0, .bool false, .int .i64 0, .int .u64 0, .slice none 0 0]) ⟨belA, VarAt.mk5 (by simp <;> omega), VarAt.mk5 (by simp <;> omega)⟩ ?_
 rintro y ⟨k0, k1, k2⟩
 have hby : But g wb y := HI.out.but.trans (But.of k0 (Nat.le_of_lt HS.out.1))
 have HOY := Lib.hid (CurOk.at_ OK.out hby)
 have hiy : CurID g A n cap log w0 y c y := (HI.out.below k0).rebase PL.out
 have HBY := Lib.hid hby
 have HV1 := Lib.hid k1
 have HV2 := Lib.hid k2
 have HK0 := Lib.hid k0
 clear HI k0 k1 k2 hby
 have HU := rPartB HB.out HRR.out y (fun hb' => rUnpinU_prg (wb := y) HOY me HM.out c hb' y hiy)
 clear HRR hiy
 (with_reducible refine HU.mono ?_)
 clear HU
 rintro e w2 ⟨d, c2, rfl, hi, hr, -, -⟩
 try dsimp only at hr
 have hx : RefX g A n cap log wb y.heap.size c2 w2 := ⟨hi.cur, HBY.out.trans hi.but⟩
 have hs1 := HV1.out.1
 have hs2 := HV2.out.1
 have HV1n := HV1.out.but hi.but n1
 have HV2n := HV2.out.but hi.but n2
 obtain ⟨m1, ⟨e1, e2, e3, e4, e5⟩, _⟩ := HV1n.five
 obtain ⟨m2, ⟨a1, a2, a3, a4, a5⟩, b1, b2, b3, b4, b5⟩ := HV2n.five
 have HX := Lib.hid hx
 have HR := Lib.hid hr
 have HSZ := Lib.hid (And.intro hs1 hs2)
 clear hx hi hr hs1 hs2 HV1n HV2n
 go_wp2_with fail
 have hxx := HX.out
 have hsz := HSZ.out
 have hss := HS.out
 have hgb := GB.out
 exact bodyPost_ret (v := .agg #[.int .i64 er, .bool oi, .int .i64 0, .int .u64 0, .slice none 0 0]) (by simp [results, Tryz.results72, go_sem, a1, a2, a3, a4, a5]) rfl (RefD.fin (ret := fun _ => .agg #[.int .i64 er, .bool oi, .int .i64 0, .int .u64 0, .slice none 0 0]) HR.out (RefX.to (lo := y.heap.size) (by repeat (first | with_reducible assumption | with_reducible refine RefX.drew ?_ | (with_reducible refine RefX.set ?_ (by omega) (by omega) (by omega) (by omega) _ _))) (by omega)))
set_option maxHeartbeats 4000000 in
set_option maxRecDepth 100000 in
theorem rLeaveNo_prg (OK : Hid (CurOk g A n log w0 wb)) (hgb : g < wb.heap.size) (me : Nat) (hme : me < 1000000) (r : Nat) (er : Int) (oi : Bool) (c : CSD) (hpl : c.plain) (R : RanD (List Res)) (hb : R ≠ .bad) (hR : (Prd.ask 1 7 1 0 [] fun _ => (Prg.unpin me).up.bind fun _ => Prd.ret r).runCD c = R) (w : World) (hI : CurID g A n cap log w0 wb c w) :
  Calls Tryz.prog 72 #[.pointer (some ⟨g, 0, none⟩), .int .i64 (me : Int), .agg #[.int .i64 er, .bool oi, .int .i64 0, .int .u64 0, .slice none 0 0], .bool false] w (RefD g A n cap log w0 wb (fun _ => .agg #[.int .i64 7, .bool false, .int .i64 0, .int .u64 0, .slice none 0 0]) R) := by
 have HM := Lib.hid hme
 have HB := Lib.hid hb
 have GB := Lib.hid hgb
 have PL := Lib.hid hpl
 have HI := Lib.hid hI
 have HRR := Lib.hid hR
 have hlt := hI.lt
 have hbs := hI.but.size
 have n1 : ¬ (w.heap.size = g) := by omega
 have n2 : ¬ (w.heap.size + 1 = g) := by omega
 have n3 : ¬ (w.heap.size = w.heap.size + 1) := by omega
 have n4 : ¬ (w.heap.size + 1 = w.heap.size) := by omega
 have HS := Lib.hid (And.intro hlt hbs)
 clear hI hb hgb hpl hR hme hlt hbs
 go_enter Tryz.func72, Tryz.ntmps72
 go_wp2_with fail
 refine gen_w (P := fun W => Calls _ _ _ W _) (fun y => Below w.heap.size w y ∧ VarAt y w.heap.size [.int .i64 er, .bool oi, .int .i64 0, .int .u64 0, .slice none 0 0] ∧ VarAt y (w.heap.size + 1) [.int .i64 0, .bool false, .int .i64 0, .int .u64 0, .slice none 0 0]) ⟨belA, VarAt.mk5 (by simp <;> omega), VarAt.mk5 (by simp <;> omega)⟩ ?_
 rintro y ⟨k0, k1, k2⟩
 have hby : But g wb y := HI.out.but.trans (But.of k0 (Nat.le_of_lt HS.out.1))
 have HOY := Lib.hid (CurOk.at_ OK.out hby)
 have hiy : CurID g A n cap log w0 y c y := (HI.out.below k0).rebase PL.out
 have HBY := Lib.hid hby
 have HV1 := Lib.hid k1
 have HV2 := Lib.hid k2
 have HK0 := Lib.hid k0
 clear HI k0 k1 k2 hby
 have HST : Calls Tryz.prog 119 #[.pointer (some ⟨g, 0, none⟩), .int .i64 7, .int .u64 1] y _ := rStoreDP (cap := cap) (wb := y) HOY (i := 7) (a := 1) PL.out HRR.out y hiy
 clear HRR hiy
 (with_reducible refine HST.mono ?_)
 clear HST
 rintro e w3 ⟨d3, c3, rfl, hi, hr, hp3⟩
 try dsimp only at hr
 have hx : RefX g A n cap log wb y.heap.size c3 w3 := ⟨hi.cur, HBY.out.trans hi.but⟩
 have hs1 := HV1.out.1
 have hs2 := HV2.out.1
 have HV1n := Lib.hid (HV1.out.but hi.but n1)
 have HV2n := Lib.hid (HV2.out.but hi.but n2)
 clear HV1 HV2
 obtain ⟨m1, ⟨e1, e2, e3, e4, e5⟩, f1, f2, f3, f4, f5⟩ := HV1n.out.five
 have HX := Lib.hid hx
 have HR := Lib.hid hr
 have HP3 := Lib.hid hp3
 have HSZ := Lib.hid (And.intro hs1 hs2)
 clear hx hi hr hs1 hs2 hp3
 go_upto_region 4 with fail
 refine gen_w (P := fun W => Code.wp _ _ _ _ W) (fun z => RefX g A n cap log wb y.heap.size c3 z ∧ VarAt z w.heap.size [.int .i64 7, .bool false, .int .i64 0, .int .u64 0, .slice none 0 0] ∧ VarAt z (w.heap.size + 1) [.int .i64 0, .bool false, .int .i64 0, .int .u64 0, .slice none 0 0]) (by
  have hxx := HX.out
  have hsz := HSZ.out
  have hss := HS.out
  have hgb := GB.out
  exact ⟨(by repeat (first | with_reducible assumption | with_reducible refine RefX.drew ?_ | (with_reducible refine RefX.set ?_ (by omega) (by omega) (by omega) (by omega) _ _))), ((((HV1n.out.setAt 0 _ (by simp)).setAt 1 _ (by simp)).setAt 2 _ (by simp)).setAt 3 _ (by simp)).setAt 4 _ (by simp), ((((HV2n.out.apart 0 _ n3).apart 1 _ n3).apart 2 _ n3).apart 3 _ n3).apart 4 _ n3⟩) ?_
 rintro z ⟨q0, q1, q2⟩
 clear e1 e2 e3 e4 e5 f1 f2 f3 f4 f5 m1 HX HV1n HV2n HOY HBY
 have HOZ := Lib.hid (CurOk.at_ OK.out q0.but)
 have hiz : CurID g A n cap log w0 z c3 z := q0.cur.rebase HP3.out
 have HBZ := Lib.hid q0.but
 have HV1 := Lib.hid q1
 have HV2 := Lib.hid q2
 have HU := rPartB HB.out HR.out z (fun hb' => rUnpinU_prg (wb := z) HOZ me HM.out c3 hb' z hiz)
 clear q0 q1 q2 hiz HR HSZ
 go_wp2_with fail
 (with_reducible refine HU.mono ?_)
 clear HU
 rintro e w5 ⟨d, c5, rfl, hi, hr, -, -⟩
 try dsimp only at hr
 have hx : RefX g A n cap log wb z.heap.size c5 w5 := ⟨hi.cur, HBZ.out.trans hi.but⟩
 have hs1 := HV1.out.1
 have hs2 := HV2.out.1
 have HV1n := HV1.out.but hi.but n1
 have HV2n := HV2.out.but hi.but n2
 obtain ⟨m1, ⟨e1, e2, e3, e4, e5⟩, _⟩ := HV1n.five
 obtain ⟨m2, ⟨a1, a2, a3, a4, a5⟩, b1, b2, b3, b4, b5⟩ := HV2n.five
 have HX := Lib.hid hx
 have HR := Lib.hid hr
 have HSZ := Lib.hid (And.intro hs1 hs2)
 clear hx hi hr hs1 hs2 HV1n HV2n
 go_wp2_with fail
 have hxx := HX.out
 have hsz := HSZ.out
 have hss := HS.out
 have hgb := GB.out
 exact bodyPost_ret (v := .agg #[.int .i64 7, .bool false, .int .i64 0, .int .u64 0, .slice none 0 0]) (by simp [results, Tryz.results72, go_sem, a1, a2, a3, a4, a5]) rfl (RefD.fin (ret := fun _ => .agg #[.int .i64 7, .bool false, .int .i64 0, .int .u64 0, .slice none 0 0]) HR.out (RefX.to (lo := z.heap.size) (by repeat (first | with_reducible assumption | with_reducible refine RefX.drew ?_ | (with_reducible refine RefX.set ?_ (by omega) (by omega) (by omega) (by omega) _ _))) (by omega)))
end
end Go.Proofs.YtibpfkcackdbgaaGreatDoor
namespace Go.Proofs.YtibpfkcackdbgaaGreatDoor
set_option linter.unusedVariables false
set_option maxRecDepth 100000
set_option linter.unusedSectionVars false
open Go.ChangeShapes Go.WideShapes Go.ChangeAt Go.RowKit Go.BigFrame
open Go.Deep
def toldG (er : Int) (oi : Bool) : CSD → ToldL
 | .at _ => ⟨0, 0, 0, 0, [], er, oi, 0, 0, true⟩
 | .stop k i a b d => ⟨k, i, a, b, d, 0, false, 0, 0, false⟩
def vTell : RanD (List Res) → ToldL
 | .done d _ => ⟨0, 0, 0, 0, [], vErr d, vIs d, 0, 0, true⟩
 | .left k i a b d => ⟨k, i, a, b, d, 0, false, 0, 0, false⟩
 | .bad => ⟨0, 0, 0, 0, [], 0, false, 0, 0, false⟩
theorem vTell_of {d : Nat} {c : CSD} {R : RanD (List Res)} {er : Int} {oi : Bool} (h : (Prd.ret d).runCD c = R) (hs : c.stops = true ∨ (vErr d = er ∧ vIs d = oi)) : vTell R = toldG er oi c := by
 subst h
 cases c with
 | «at» s =>
  rcases hs with hs | ⟨rfl, rfl⟩
  ·cases hs
  ·rfl
 | stop k i a b d => rfl
theorem code_of {p : Prd} {r d : Nat} (hA : p.All fun d => d = r) {c c' : CSD} {R : RanD (List Res)} (hp : p.runCD c = R) (hst : c.stops = false) (h : (Prd.ret d).runCD c' = R) : c'.stops = true ∨ d = r := by
 cases c' with
 | stop k i a b d => exact .inl rfl
 | «at» s' =>
  right
  cases c with
  | stop k i a b d => cases hst
  | «at» s =>
   have h1 : p.run tapeTellD s = .done d s' := by rw [show p.run tapeTellD s = R from hp, ← h]; rfl
   exact Prd.all_run (P := fun d => d = r) tapeTellD p hA h1
theorem toldCG {lo g : Nat} {A : Option Addr} {n cap : Nat} {log : List Res} {c : CSD} {w : World} (h : CurVD lo g A n cap log c w) (er : Int) (oi : Bool) :
  Calls Tryz.prog 65 #[.pointer (some ⟨g, 0, none⟩), .agg #[.int .i64 er, .bool oi, .int .i64 0, .int .u64 0, .slice none 0 0]] w (TellL lo w (toldG er oi c)) := by
 cases c with
 | «at» s =>
  obtain ⟨j, h1, h2, h3⟩ := h
  refine (toldE_yes g A n cap _ _ _ _ _ _ (j : Int) er oi 0 0 w (Lib.hid h3)).mono ?_
  rintro e w' ⟨rfl, hb⟩
  exact ⟨none, 0, rfl, AtB.nil _ _, Nat.le_refl 0, Nat.zero_le _, OffW.nil _ _, hb⟩
 | stop k' i a b dd =>
  obtain ⟨D, dc, h1, h2, h3, h4, h5⟩ := h
  refine (toldE_no g A n cap (n : Int) (accC k' i a b dd) D dc none 0 er oi 0 0 w (Lib.hid h1)).mono ?_
  rintro e w' ⟨rfl, hb⟩
  exact ⟨D, dc, rfl, AtB.later (Lib.hid h2) hb, h3, h5, h4.mono fun _ h => h.2, hb⟩
def TellW (w : World) (v : ToldL) (e : Ending) (w' : World) : Prop := ∃ D dc, e = .returned (v.val D dc) ∧ AtB w' D v.d.length v.d ∧ v.d.length ≤ dc ∧ v.d.length ≤ 100000 ∧ Below w.heap.size w w'
set_option maxHeartbeats 8000000 in
set_option maxRecDepth 100000 in
theorem vRefNext_kind (t : Nat) (me : Nat) (k u v : Int) (x : Nat) (hk : k < 11 ∨ 13 < k) (A : Option Addr) (n cap : Nat) (log : List Res) (hc : n ≤ cap) (w : World) (hl : Hid (LogAt w A n log)) :
  Calls Tryz.prog 31 #[.int .i64 (t : Int), .int .i64 (me : Int), .agg #[.int .i64 k, .int .i64 u, .int .i64 v, .int .u64 (x : Int)], .slice A n cap] w (TellW w (vTell ((Prd.ret 101).run tapeTellD log))) := by
 have d2 : decide (13 < k) = true ∨ decide (k < 11) = true := by rcases hk with h | h; exact .inr (by rw [decide_eq_true_iff]; exact h); exact .inl (by rw [decide_eq_true_iff]; exact h)
 obtain ⟨c, hcc⟩ : ∃ c, CSD.at log = c := ⟨_, rfl⟩
 have hrc : (Prd.ret 101).runCD c = (Prd.ret 101).run tapeTellD log := by rw [← hcc]; rfl
 have hct : vTell ((Prd.ret 101).run tapeTellD log) = toldG 1 false c := vTell_of hrc (.inr ⟨rfl, rfl⟩)
 have HCC := Lib.hid hcc
 have HCT := Lib.hid hct
 clear hcc hct hrc
 go_enter Tryz.func31, Tryz.ntmps31
 by_cases h11 : k < 11
 ·have d1 : decide (k < 11) = true := by rw [decide_eq_true_iff]; exact h11
  clear d2 hk h11
  go_upto_region 3 with fail
  refine gen_w (P := fun W => Code.wp _ _ _ _ W) (fun y => Below w.heap.size w y ∧ y.heap.size = w.heap.size + 1 + 1 + 1 + 1 ∧ VarAt y w.heap.size [.int .i64 k, .int .i64 u, .int .i64 v, .int .u64 (x : Int)] ∧ VarAt y (w.heap.size + 1) [.int .i64 0, .int .i64 0, .int .u64 0, .int .u64 0, .slice none 0 0, .slice none 0 0] ∧ VarAt y (w.heap.size + 1 + 1) [.int .i64 0, .bool false, .int .i64 0, .int .u64 0, .slice none 0 0] ∧ VarAt y (w.heap.size + 1 + 1 + 1) (curV A n cap 0 false (.int .i64 0) (.int .i64 0) (.int .u64 0) (.int .u64 0) (.slice none 0 0) (.slice none 0 0))) ⟨belA, by simp, VarAt.mk4 (by simp <;> omega), VarAt.mk6 (by simp <;> omega), VarAt.mk5 (by simp <;> omega), VarAt.mk9 (by simp <;> omega)⟩ ?_
  rintro z ⟨k0, k3, kop, k1, k2, k4'⟩
  obtain ⟨g, hg⟩ : ∃ g, w.heap.size + 1 + 1 + 1 = g := ⟨_, rfl⟩
  obtain ⟨lo, hlo⟩ : ∃ lo, w.heap.size + 1 + 1 + 1 + 1 = lo := ⟨_, rfl⟩
  have HLO := Lib.hid (show w.heap.size + 1 + 1 < g ∧ w.heap.size + 1 + 1 < lo by omega)
  rw [hg] at k4' ⊢
  have k4 : CurVD lo g A n cap log c z := by rw [← HCC.out]; exact ⟨0, Nat.zero_le _, rfl, k4'⟩
  clear k3 kop k4' hlo hg
  have Z0 := Lib.hid k0
  have Z1 := Lib.hid k1
  have Z2 := Lib.hid k2
  have HTC : Calls Tryz.prog 65 #[.pointer (some ⟨g, 0, none⟩), .agg #[.int .i64 1, .bool false, .int .i64 0, .int .u64 0, .slice none 0 0]] z (TellL lo z (toldG 1 false c)) := toldCG k4 1 false
  have HTF := Lib.hid (HCT.out)
  clear k0 k1 k2 k4
  generalize toldG 1 false c = V at *
  obtain ⟨vk, vi, va, vb, vd, ve, vo, vnn, vw, vis⟩ := V
  unfold TellL ToldL.val at HTC
  simp only at HTC
  obtain ⟨vn, hvn⟩ : ∃ q, vd.length = q := ⟨_, rfl⟩
  rw [hvn] at HTC
  have HVN := Lib.hid hvn
  clear hvn
  go_wp2_with fail
  (with_reducible refine HTC.mono ?_)
  clear HTC
  rintro e w9 ⟨D, dc, rfl, hat, hdc, hdl, hof, hb3⟩
  have HAT := Lib.hid (And.intro hat (And.intro hdc (And.intro hdl hof)))
  obtain ⟨m1, ⟨a0, a1, a2, a3, a4, a5⟩, b0, b1, b2, b3, b4, b5⟩ := (Z1.out.below hb3).six
  obtain ⟨m2, ⟨r1, r2, r3, r4, r5⟩, s1, s2, s3, s4, s5⟩ := (Z2.out.below hb3).five
  have HB3 := Lib.hid (Z0.out.trans (hb3.mono Z0.out.size))
  clear hb3 hat hdc hdl hof
  go_wp2_with fail
  have hb := HB3.out
  have hlo := HLO.out
  refine bodyPost_ret (v := .tuple #[.agg #[.int .i64 vk, .int .i64 vi, .int .u64 (va : Int), .int .u64 (vb : Int), .slice D vn dc, .slice none 0 0], .agg #[.int .i64 ve, .bool vo, .int .i64 (vnn : Int), .int .u64 (vw : Int), .slice none 0 0], .bool vis]) (by simp [results, Tryz.results31, go_sem, a0, a1, a2, a3, a4, a5, r1, r2, r3, r4, r5]) rfl ?_
  rw [HTF.out]
  unfold TellW ToldL.val
  simp only []
  rw [HVN.out]
  exact ⟨D, dc, rfl, AtB.svd (Q := fun c => lo ≤ c) HAT.out.1 (by repeat (first | with_reducible exact Svd.refl _ _ | with_reducible refine Svd.drew ?_ | (with_reducible refine Svd.set ?_ _ _ _ (by omega)))) HAT.out.2.2.2, HAT.out.2.1, HAT.out.2.2.1, belA⟩
 ·have d1 : decide (k < 11) = false := by rw [decide_eq_false_iff_not]; exact h11
  have d3 : decide (13 < k) = true := by rw [decide_eq_true_iff]; omega
  clear d2 hk h11
  go_upto_region 3 with fail
  refine gen_w (P := fun W => Code.wp _ _ _ _ W) (fun y => Below w.heap.size w y ∧ y.heap.size = w.heap.size + 1 + 1 + 1 + 1 ∧ VarAt y w.heap.size [.int .i64 k, .int .i64 u, .int .i64 v, .int .u64 (x : Int)] ∧ VarAt y (w.heap.size + 1) [.int .i64 0, .int .i64 0, .int .u64 0, .int .u64 0, .slice none 0 0, .slice none 0 0] ∧ VarAt y (w.heap.size + 1 + 1) [.int .i64 0, .bool false, .int .i64 0, .int .u64 0, .slice none 0 0] ∧ VarAt y (w.heap.size + 1 + 1 + 1) (curV A n cap 0 false (.int .i64 0) (.int .i64 0) (.int .u64 0) (.int .u64 0) (.slice none 0 0) (.slice none 0 0))) ⟨belA, by simp, VarAt.mk4 (by simp <;> omega), VarAt.mk6 (by simp <;> omega), VarAt.mk5 (by simp <;> omega), VarAt.mk9 (by simp <;> omega)⟩ ?_
  rintro z ⟨k0, k3, kop, k1, k2, k4'⟩
  obtain ⟨g, hg⟩ : ∃ g, w.heap.size + 1 + 1 + 1 = g := ⟨_, rfl⟩
  obtain ⟨lo, hlo⟩ : ∃ lo, w.heap.size + 1 + 1 + 1 + 1 = lo := ⟨_, rfl⟩
  have HLO := Lib.hid (show w.heap.size + 1 + 1 < g ∧ w.heap.size + 1 + 1 < lo by omega)
  rw [hg] at k4' ⊢
  have k4 : CurVD lo g A n cap log c z := by rw [← HCC.out]; exact ⟨0, Nat.zero_le _, rfl, k4'⟩
  clear k3 kop k4' hlo hg
  have Z0 := Lib.hid k0
  have Z1 := Lib.hid k1
  have Z2 := Lib.hid k2
  have HTC : Calls Tryz.prog 65 #[.pointer (some ⟨g, 0, none⟩), .agg #[.int .i64 1, .bool false, .int .i64 0, .int .u64 0, .slice none 0 0]] z (TellL lo z (toldG 1 false c)) := toldCG k4 1 false
  have HTF := Lib.hid (HCT.out)
  clear k0 k1 k2 k4
  generalize toldG 1 false c = V at *
  obtain ⟨vk, vi, va, vb, vd, ve, vo, vnn, vw, vis⟩ := V
  unfold TellL ToldL.val at HTC
  simp only at HTC
  obtain ⟨vn, hvn⟩ : ∃ q, vd.length = q := ⟨_, rfl⟩
  rw [hvn] at HTC
  have HVN := Lib.hid hvn
  clear hvn
  go_wp2_with fail
  (with_reducible refine HTC.mono ?_)
  clear HTC
  rintro e w9 ⟨D, dc, rfl, hat, hdc, hdl, hof, hb3⟩
  have HAT := Lib.hid (And.intro hat (And.intro hdc (And.intro hdl hof)))
  obtain ⟨m1, ⟨a0, a1, a2, a3, a4, a5⟩, b0, b1, b2, b3, b4, b5⟩ := (Z1.out.below hb3).six
  obtain ⟨m2, ⟨r1, r2, r3, r4, r5⟩, s1, s2, s3, s4, s5⟩ := (Z2.out.below hb3).five
  have HB3 := Lib.hid (Z0.out.trans (hb3.mono Z0.out.size))
  clear hb3 hat hdc hdl hof
  go_wp2_with fail
  have hb := HB3.out
  have hlo := HLO.out
  refine bodyPost_ret (v := .tuple #[.agg #[.int .i64 vk, .int .i64 vi, .int .u64 (va : Int), .int .u64 (vb : Int), .slice D vn dc, .slice none 0 0], .agg #[.int .i64 ve, .bool vo, .int .i64 (vnn : Int), .int .u64 (vw : Int), .slice none 0 0], .bool vis]) (by simp [results, Tryz.results31, go_sem, a0, a1, a2, a3, a4, a5, r1, r2, r3, r4, r5]) rfl ?_
  rw [HTF.out]
  unfold TellW ToldL.val
  simp only []
  rw [HVN.out]
  exact ⟨D, dc, rfl, AtB.svd (Q := fun c => lo ≤ c) HAT.out.1 (by repeat (first | with_reducible exact Svd.refl _ _ | with_reducible refine Svd.drew ?_ | (with_reducible refine Svd.set ?_ _ _ _ (by omega)))) HAT.out.2.2.2, HAT.out.2.1, HAT.out.2.2.1, belA⟩
set_option maxHeartbeats 8000000 in
set_option maxRecDepth 100000 in
theorem vRefNext_key (t : Nat) (me : Nat) (k u v : Int) (x : Nat) (hk : 11 ≤ k ∧ k ≤ 13) (hu : ¬ keyIsV u) (A : Option Addr) (n cap : Nat) (log : List Res) (hc : n ≤ cap) (w : World) (hl : Hid (LogAt w A n log)) :
  Calls Tryz.prog 31 #[.int .i64 (t : Int), .int .i64 (me : Int), .agg #[.int .i64 k, .int .i64 u, .int .i64 v, .int .u64 (x : Int)], .slice A n cap] w (TellW w (vTell ((Prd.ret 100).run tapeTellD log))) := by
 have d1 : decide (k < 11) = false := by rw [decide_eq_false_iff_not]; omega
 have d3 : decide (13 < k) = false := by rw [decide_eq_false_iff_not]; omega
 have hkey := fun w => refVertex_no u w hu
 have e4 : ((4 : Int) != 0) = true := by decide
 obtain ⟨c, hcc⟩ : ∃ c, CSD.at log = c := ⟨_, rfl⟩
 have hrc : (Prd.ret 100).runCD c = (Prd.ret 100).run tapeTellD log := by rw [← hcc]; rfl
 have hct : vTell ((Prd.ret 100).run tapeTellD log) = toldG 4 false c := vTell_of hrc (.inr ⟨rfl, rfl⟩)
 have HCC := Lib.hid hcc
 have HCT := Lib.hid hct
 clear hcc hct hrc
 go_enter Tryz.func31, Tryz.ntmps31
 clear hk hu
 go_wp2_with fail
 refine gen_w (P := fun W => Calls _ _ _ W _) (fun y => Below w.heap.size w y ∧ y.heap.size = w.heap.size + 1 + 1 + 1 + 1 ∧ VarAt y w.heap.size [.int .i64 k, .int .i64 u, .int .i64 v, .int .u64 (x : Int)] ∧ VarAt y (w.heap.size + 1) [.int .i64 0, .int .i64 0, .int .u64 0, .int .u64 0, .slice none 0 0, .slice none 0 0] ∧ VarAt y (w.heap.size + 1 + 1) [.int .i64 0, .bool false, .int .i64 0, .int .u64 0, .slice none 0 0] ∧ VarAt y (w.heap.size + 1 + 1 + 1) (curV A n cap 0 false (.int .i64 0) (.int .i64 0) (.int .u64 0) (.int .u64 0) (.slice none 0 0) (.slice none 0 0))) ⟨belA, by simp, VarAt.mk4 (by simp <;> omega), VarAt.mk6 (by simp <;> omega), VarAt.mk5 (by simp <;> omega), VarAt.mk9 (by simp <;> omega)⟩ ?_
 rintro z ⟨k0, k3, kop, k1, k2, k4'⟩
 obtain ⟨g, hg⟩ : ∃ g, w.heap.size + 1 + 1 + 1 = g := ⟨_, rfl⟩
 obtain ⟨lo, hlo⟩ : ∃ lo, w.heap.size + 1 + 1 + 1 + 1 = lo := ⟨_, rfl⟩
 have HLO := Lib.hid (show w.heap.size + 1 + 1 < g ∧ w.heap.size + 1 + 1 < lo by omega)
 rw [hg] at k4' ⊢
 have k4 : CurVD lo g A n cap log c z := by rw [← HCC.out]; exact ⟨0, Nat.zero_le _, rfl, k4'⟩
 clear k3 kop k4' hlo hg
 (with_reducible refine (hkey z).mono ?_)
 rintro e z' ⟨rfl, rfl⟩
 have Z0 := Lib.hid k0
 have Z1 := Lib.hid k1
 have Z2 := Lib.hid k2
 have HTC : Calls Tryz.prog 65 #[.pointer (some ⟨g, 0, none⟩), .agg #[.int .i64 4, .bool false, .int .i64 0, .int .u64 0, .slice none 0 0]] z (TellL lo z (toldG 4 false c)) := toldCG k4 4 false
 have HTF := Lib.hid (HCT.out)
 clear k0 k1 k2 k4
 generalize toldG 4 false c = V at *
 obtain ⟨vk, vi, va, vb, vd, ve, vo, vnn, vw, vis⟩ := V
 unfold TellL ToldL.val at HTC
 simp only at HTC
 obtain ⟨vn, hvn⟩ : ∃ q, vd.length = q := ⟨_, rfl⟩
 rw [hvn] at HTC
 have HVN := Lib.hid hvn
 clear hvn
 go_wp2_with fail
 (with_reducible refine HTC.mono ?_)
 clear HTC
 rintro e w9 ⟨D, dc, rfl, hat, hdc, hdl, hof, hb3⟩
 have HAT := Lib.hid (And.intro hat (And.intro hdc (And.intro hdl hof)))
 obtain ⟨m1, ⟨a0, a1, a2, a3, a4, a5⟩, b0, b1, b2, b3, b4, b5⟩ := (Z1.out.below hb3).six
 obtain ⟨m2, ⟨r1, r2, r3, r4, r5⟩, s1, s2, s3, s4, s5⟩ := (Z2.out.below hb3).five
 have HB3 := Lib.hid (Z0.out.trans (hb3.mono Z0.out.size))
 clear hb3 hat hdc hdl hof
 go_wp2_with fail
 have hb := HB3.out
 have hlo := HLO.out
 refine bodyPost_ret (v := .tuple #[.agg #[.int .i64 vk, .int .i64 vi, .int .u64 (va : Int), .int .u64 (vb : Int), .slice D vn dc, .slice none 0 0], .agg #[.int .i64 ve, .bool vo, .int .i64 (vnn : Int), .int .u64 (vw : Int), .slice none 0 0], .bool vis]) (by simp [results, Tryz.results31, go_sem, a0, a1, a2, a3, a4, a5, r1, r2, r3, r4, r5]) rfl ?_
 rw [HTF.out]
 unfold TellW ToldL.val
 simp only []
 rw [HVN.out]
 exact ⟨D, dc, rfl, AtB.svd (Q := fun c => lo ≤ c) HAT.out.1 (by repeat (first | with_reducible exact Svd.refl _ _ | with_reducible refine Svd.drew ?_ | (with_reducible refine Svd.set ?_ _ _ _ (by omega)))) HAT.out.2.2.2, HAT.out.2.1, HAT.out.2.2.1, belA⟩
set_option maxHeartbeats 16000000 in
set_option maxRecDepth 100000 in
theorem vRefNext_11 (t : Nat) (ht : t ≤ 64) (me : Nat) (hme : me < 1000000) (v : Int) (ur kk : Nat) (hur : ur < 1073741824) (hkk : ur * 2147483648 = kk) (x nn : Nat) (A : Option Addr) (n cap : Nat) (log : List Res) (hc : n ≤ cap) (R : RanD (List Res)) (hb : R ≠ .bad) (hR : (Prd.inP me Prd.vOk (Prd.vAdd t me kk nn)).run tapeTellD log = R) (w : World) (hl : Hid (LogAt w A n log)) :
  Calls Tryz.prog 31 #[.int .i64 (t : Int), .int .i64 (me : Int), .agg #[.int .i64 11, .int .i64 (ur : Int), .int .i64 v, .int .u64 (x : Int)], .slice A n cap] w (TellW w (vTell R)) := by
 have hRC : (Prd.inP me Prd.vOk (Prd.vAdd t me kk nn)).runCD (.at log) = R := hR
 rw [inP_eq] at hRC
 have hkey := fun w => refVertex_yes ur w hur
 rw [hkk] at hkey
 have HT := Lib.hid (And.intro ht hme)
 have HB := Lib.hid hb
 have HRC := Lib.hid hRC
 clear hR hRC hb hur hkk ht hme
 go_enter Tryz.func31, Tryz.ntmps31
 go_wp2_with fail
 refine gen_w (P := fun W => Calls _ _ _ W _) (fun y => Below w.heap.size w y ∧ y.heap.size = w.heap.size + 1 + 1 + 1 + 1 ∧ VarAt y w.heap.size [.int .i64 11, .int .i64 (ur : Int), .int .i64 v, .int .u64 (x : Int)] ∧ VarAt y (w.heap.size + 1) [.int .i64 0, .int .i64 0, .int .u64 0, .int .u64 0, .slice none 0 0, .slice none 0 0] ∧ VarAt y (w.heap.size + 1 + 1) [.int .i64 0, .bool false, .int .i64 0, .int .u64 0, .slice none 0 0] ∧ VarAt y (w.heap.size + 1 + 1 + 1) (curV A n cap 0 false (.int .i64 0) (.int .i64 0) (.int .u64 0) (.int .u64 0) (.slice none 0 0) (.slice none 0 0))) ⟨belA, by simp, VarAt.mk4 (by simp <;> omega), VarAt.mk6 (by simp <;> omega), VarAt.mk5 (by simp <;> omega), VarAt.mk9 (by simp <;> omega)⟩ ?_
 rintro y ⟨k0, k3, kop, k1, k2, k4⟩
 obtain ⟨g, hg⟩ : ∃ g, w.heap.size + 1 + 1 + 1 = g := ⟨_, rfl⟩
 rw [hg] at k4 ⊢
 have hok : CurOk g A n log w y := ⟨hl.out, by omega, k0⟩
 have hcur : CurID g A n cap log w y (.at log) y := ⟨⟨0, Nat.zero_le _, rfl, k4⟩, But.refl _ _⟩
 have HOK := Lib.hid hok
 have HEN := rPartQ HB.out HRC.out y (fun hb' => rEnter_prg (wb := y) HOK me HT.out.2 (.at log) trivial _ hb' rfl y hcur)
 have HGY := Lib.hid (show g < y.heap.size by omega)
 have HGW := Lib.hid (show w.heap.size + 1 + 1 < g ∧ w.heap.size ≤ g by omega)
 have n0 : w.heap.size ≠ g := by omega
 have n1 : w.heap.size + 1 ≠ g := by omega
 have n2 : w.heap.size + 1 + 1 ≠ g := by omega
 have K0 := Lib.hid k0
 have KOP := Lib.hid kop
 have K1 := Lib.hid k1
 have K2 := Lib.hid k2
 obtain ⟨_, o0, o1', o2', o3'⟩ : w.heap.size < y.heap.size ∧ y.cell? ⟨w.heap.size, 0, none⟩ = some (.int .i64 11) ∧ y.cell? ⟨w.heap.size, 1, none⟩ = some (.int .i64 (ur : Int)) ∧ y.cell? ⟨w.heap.size, 2, none⟩ = some (.int .i64 v) ∧ y.cell? ⟨w.heap.size, 3, none⟩ = some (.int .u64 (x : Int)) := ⟨kop.1, kop.2.1 0 _ rfl, kop.2.1 1 _ rfl, kop.2.1 2 _ rfl, kop.2.1 3 _ rfl⟩
 clear k0 k1 k2 k3 k4 kop hok hcur HRC hg
 (with_reducible refine (hkey y).mono ?_)
 rintro e y' ⟨rfl, rfl⟩
 clear hkey
 go_wp2_with fail
 (with_reducible refine HEN.mono ?_)
 clear HEN o0 o1' o2' o3'
 rintro e w2 ⟨d, c1, rfl, hi, hr, hp1⟩
 try dsimp only at hr
 have HP1 := Lib.hid hp1
 clear hp1
 by_cases hd : d = 1
 case neg =>
  have dd := ne1 hd
  rw [if_neg hd] at hr
  have HFT := Lib.hid (show vTell R = toldG 6 false c1 from vTell_of hr (.inr ⟨rfl, rfl⟩))
  have HI := Lib.hid hi
  clear hi hr hd
  go_upto_region 9 with fail
  have HSE : Calls Tryz.prog 68 #[] w2 _ := refSealed_at w2
  go_wp2_with (go_at_call 68; (with_reducible refine HSE.mono ?_); rintro e z ⟨rfl, hbz⟩)
  have hiz := HI.out.below hbz
  have k0 : Below w.heap.size w z := K0.out.trans (hiz.but.below.mono (by have := HGW.out; omega))
  have k1 := K1.out.but hiz.but n1
  have k2 := K2.out.but hiz.but n2
  obtain ⟨lo, hlo⟩ : ∃ lo, y.heap.size = lo := ⟨_, rfl⟩
  have HLO := Lib.hid (show w.heap.size + 1 + 1 < g ∧ w.heap.size + 1 + 1 < lo by have := HGW.out; have := HGY.out; omega)
  have k4 : CurVD lo g A n cap log c1 z := by rw [← hlo]; exact hiz.cur
  clear hiz hbz hlo HI HSE
  have Z0 := Lib.hid k0
  have Z1 := Lib.hid k1
  have Z2 := Lib.hid k2
  have HTC : Calls Tryz.prog 65 #[.pointer (some ⟨g, 0, none⟩), .agg #[.int .i64 6, .bool false, .int .i64 0, .int .u64 0, .slice none 0 0]] z (TellL lo z (toldG 6 false c1)) := toldCG k4 6 false
  have HTF := Lib.hid (HFT.out)
  clear k0 k1 k2 k4
  generalize toldG 6 false c1 = V at *
  obtain ⟨vk, vi, va, vb, vd, ve, vo, vnn, vw, vis⟩ := V
  unfold TellL ToldL.val at HTC
  simp only at HTC
  obtain ⟨vn, hvn⟩ : ∃ q, vd.length = q := ⟨_, rfl⟩
  rw [hvn] at HTC
  have HVN := Lib.hid hvn
  clear hvn
  (with_reducible refine HTC.mono ?_)
  clear HTC
  rintro e w9 ⟨D, dc, rfl, hat, hdc, hdl, hof, hb3⟩
  have HAT := Lib.hid (And.intro hat (And.intro hdc (And.intro hdl hof)))
  obtain ⟨m1, ⟨a0, a1, a2, a3, a4, a5⟩, b0, b1, b2, b3, b4, b5⟩ := (Z1.out.below hb3).six
  obtain ⟨m2, ⟨r1, r2, r3, r4, r5⟩, s1, s2, s3, s4, s5⟩ := (Z2.out.below hb3).five
  have HB3 := Lib.hid (Z0.out.trans (hb3.mono Z0.out.size))
  clear hb3 hat hdc hdl hof
  go_wp2_with fail
  have hb := HB3.out
  have hlo := HLO.out
  refine bodyPost_ret (v := .tuple #[.agg #[.int .i64 vk, .int .i64 vi, .int .u64 (va : Int), .int .u64 (vb : Int), .slice D vn dc, .slice none 0 0], .agg #[.int .i64 ve, .bool vo, .int .i64 (vnn : Int), .int .u64 (vw : Int), .slice none 0 0], .bool vis]) (by simp [results, Tryz.results31, go_sem, a0, a1, a2, a3, a4, a5, r1, r2, r3, r4, r5]) rfl ?_
  rw [HTF.out]
  unfold TellW ToldL.val
  simp only []
  rw [HVN.out]
  exact ⟨D, dc, rfl, AtB.svd (Q := fun c => lo ≤ c) HAT.out.1 (by repeat (first | with_reducible exact Svd.refl _ _ | with_reducible refine Svd.drew ?_ | (with_reducible refine Svd.set ?_ _ _ _ (by omega)))) HAT.out.2.2.2, HAT.out.2.1, HAT.out.2.2.1, belA⟩
 have dd := eq1 hd
 rw [if_pos hd] at hr
 clear hd
 have HI2 := Lib.hid hi
 have HR2 := Lib.hid hr
 clear hi hr
 go_upto_region 12 with fail
 refine gen_w (P := fun W => Code.wp _ _ _ _ W) (fun z => Below w2.heap.size w2 z ∧ VarAt z w2.heap.size [.int .i64 0, .bool false, .int .i64 0, .int .u64 0, .slice none 0 0]) ⟨belA, VarAt.mk5 (by simp)⟩ ?_
 rintro z ⟨q0, q1⟩
 have hib := HI2.out.below q0
 have hiz : CurID g A n cap log w z c1 z := hib.rebase HP1.out
 have HOZ := Lib.hid (CurOk.at_ HOK.out hib.but)
 have gz : g < z.heap.size := hib.lt
 have HBZ := Lib.hid hib.but
 obtain ⟨bo, hbo⟩ : ∃ b, w2.heap.size = b := ⟨_, rfl⟩
 rw [hbo] at q1 ⊢
 have HBO := Lib.hid (show y.heap.size ≤ bo ∧ bo < z.heap.size by have := HI2.out.but.size; have := q1.1; omega)
 have nbo : bo ≠ g := by have := HBO.out; have := HGY.out; omega
 have HVB := Lib.hid q1
 have HBODY : Calls Tryz.prog 69 #[.pointer (some ⟨g, 0, none⟩), .int .i64 (t : Int), .int .i64 (me : Int), .int .u64 (kk : Int)] z _ := rPartD HB.out HR2.out z (fun hb' => rAdd_prg (wb := z) HOZ gz t me kk nn HT.out.1 HT.out.2 c1 HP1.out _ hb' rfl z hiz)
 have kz := KOP.out.but hib.but n0
 obtain ⟨_, o0, o1', o2', o3'⟩ : w.heap.size < z.heap.size ∧ z.cell? ⟨w.heap.size, 0, none⟩ = some (.int .i64 11) ∧ z.cell? ⟨w.heap.size, 1, none⟩ = some (.int .i64 (ur : Int)) ∧ z.cell? ⟨w.heap.size, 2, none⟩ = some (.int .i64 v) ∧ z.cell? ⟨w.heap.size, 3, none⟩ = some (.int .u64 (x : Int)) := ⟨kz.1, kz.2.1 0 _ rfl, kz.2.1 1 _ rfl, kz.2.1 2 _ rfl, kz.2.1 3 _ rfl⟩
 clear q0 q1 hib hiz hbo HI2 HR2 kz
 have e11 : ((11 : Int) == 11) = true := by decide
 have e12 : ((11 : Int) == 12) = false := by decide
 have e13 : ((11 : Int) == 13) = false := by decide
 go_wp2_with fail
 (with_reducible refine HBODY.mono ?_)
 clear HBODY o0 o1' o2' o3'
 rintro e w3 ⟨d3, c3, rfl, hi, hr⟩
 try dsimp only at hr
 unfold rBodyV
 have hbi : Prd.vOk d3 = true → bIs d3 = rIs d3 := fun h => by
  unfold Prd.vOk at h
  rw [decide_eq_true_iff] at h
  rcases h with rfl | rfl | rfl <;> rfl
 obtain ⟨er, her⟩ : ∃ q, bEr d3 = q := ⟨_, rfl⟩
 obtain ⟨oi, hoi⟩ : ∃ q, rIs d3 = q := ⟨_, rfl⟩
 obtain ⟨okd, hokd⟩ : ∃ q, Prd.vOk d3 = q := ⟨_, rfl⟩
 rw [her, hoi, hokd]
 rw [hokd] at hr hbi
 rw [hoi] at hbi
 have HERA := Lib.hid (And.intro her (And.intro hoi hbi))
 have HX3a := Lib.hid (show RefX g A n cap log y z.heap.size c3 w3 from ⟨hi.cur, HBZ.out.trans hi.but⟩)
 have HVBa := Lib.hid (HVB.out.but hi.but nbo)
 have HR3 := Lib.hid hr
 clear her hoi hokd hi hr hbi HVB
 obtain ⟨m1, ⟨o1, o2, o3, o4, o5⟩, p1, p2, p3, p4, p5⟩ := HVBa.out.five
 go_upto_region 19 with fail
 refine gen_w (P := fun W => Code.wp _ _ _ _ W) (fun q => RefX g A n cap log y z.heap.size c3 q ∧ VarAt q bo [.int .i64 er, .bool oi, .int .i64 0, .int .u64 0, .slice none 0 0]) (by
  have hxx := HX3a.out
  have hbo := HBO.out
  have hgy := HGY.out
  exact ⟨(by repeat (first | with_reducible assumption | with_reducible refine RefX.drew ?_ | (with_reducible refine RefX.set ?_ (by omega) (by omega) (by omega) (by omega) _ _))), ((((HVBa.out.setAt 0 _ (by simp)).setAt 1 _ (by simp)).setAt 2 _ (by simp)).setAt 3 _ (by simp)).setAt 4 _ (by simp)⟩) ?_
 rintro z3 ⟨hx3, hv3⟩
 clear o1 o2 o3 o4 o5 p1 p2 p3 p4 p5 m1 HX3a HVBa
 have HX3 := Lib.hid hx3
 have HVO := Lib.hid hv3
 have hi3 : CurID g A n cap log w y c3 z3 := hx3.to (by have := HBO.out; omega)
 have c2' := hi3.two
 have hgw := hi3.lt
 have HZZ := Lib.hid (show bo < z3.heap.size ∧ y.heap.size ≤ z3.heap.size from ⟨hv3.1, hx3.but.size⟩)
 obtain ⟨m1, ⟨o1, o2, o3, o4, o5⟩, _⟩ := hv3.five
 by_cases hst : c3.stops = true
 ·rw [hst] at c2'
  have HFT := Lib.hid (show vTell R = toldG er oi c3 from vTell_of (d := 0) ((Prd.runCD_stop (p := Prd.leaveP me okd (d3 + 2)) hst _).symm.trans HR3.out) (.inl hst))
  have k0 : Below w.heap.size w z3 := K0.out.trans (hx3.but.below.mono (by have := HGW.out; omega))
  have k1 := K1.out.but hx3.but n1
  have k2 := K2.out.but hx3.but n2
  obtain ⟨lo, hlo⟩ : ∃ lo, z.heap.size = lo := ⟨_, rfl⟩
  have HLO := Lib.hid (show w.heap.size + 1 + 1 < g ∧ w.heap.size + 1 + 1 < lo by have := HGW.out; omega)
  have k4 : CurVD lo g A n cap log c3 z3 := by rw [← hlo]; exact hx3.cur
  clear hx3 hv3 hi3 hlo hst HR3
  have Z0 := Lib.hid k0
  have Z1 := Lib.hid k1
  have Z2 := Lib.hid k2
  have HTC : Calls Tryz.prog 65 #[.pointer (some ⟨g, 0, none⟩), .agg #[.int .i64 er, .bool oi, .int .i64 0, .int .u64 0, .slice none 0 0]] z3 (TellL lo z3 (toldG er oi c3)) := toldCG k4 er oi
  have HTF := Lib.hid (HFT.out)
  clear k0 k1 k2 k4
  generalize toldG er oi c3 = V at *
  obtain ⟨vk, vi, va, vb, vd, ve, vo, vnn, vw, vis⟩ := V
  unfold TellL ToldL.val at HTC
  simp only at HTC
  obtain ⟨vn, hvn⟩ : ∃ q, vd.length = q := ⟨_, rfl⟩
  rw [hvn] at HTC
  have HVN := Lib.hid hvn
  clear hvn
  go_wp2_with fail
  (with_reducible refine HTC.mono ?_)
  clear HTC
  rintro e w9 ⟨D, dc, rfl, hat, hdc, hdl, hof, hb3⟩
  have HAT := Lib.hid (And.intro hat (And.intro hdc (And.intro hdl hof)))
  obtain ⟨m1, ⟨a0, a1, a2, a3, a4, a5⟩, b0, b1, b2, b3, b4, b5⟩ := (Z1.out.below hb3).six
  obtain ⟨m2, ⟨r1, r2, r3, r4, r5⟩, s1, s2, s3, s4, s5⟩ := (Z2.out.below hb3).five
  have HB3 := Lib.hid (Z0.out.trans (hb3.mono Z0.out.size))
  clear hb3 hat hdc hdl hof
  go_wp2_with fail
  have hb := HB3.out
  have hlo := HLO.out
  refine bodyPost_ret (v := .tuple #[.agg #[.int .i64 vk, .int .i64 vi, .int .u64 (va : Int), .int .u64 (vb : Int), .slice D vn dc, .slice none 0 0], .agg #[.int .i64 ve, .bool vo, .int .i64 (vnn : Int), .int .u64 (vw : Int), .slice none 0 0], .bool vis]) (by simp [results, Tryz.results31, go_sem, a0, a1, a2, a3, a4, a5, r1, r2, r3, r4, r5]) rfl ?_
  rw [HTF.out]
  unfold TellW ToldL.val
  simp only []
  rw [HVN.out]
  exact ⟨D, dc, rfl, AtB.svd (Q := fun c => lo ≤ c) HAT.out.1 (by repeat (first | with_reducible exact Svd.refl _ _ | with_reducible refine Svd.drew ?_ | (with_reducible refine Svd.set ?_ _ _ _ (by omega)))) HAT.out.2.2.2, HAT.out.2.1, HAT.out.2.2.1, belA⟩
 have hst' : c3.stops = false := by simpa using hst
 rw [hst'] at c2'
 have hiz3 : CurID g A n cap log w z3 c3 z3 := hx3.cur.rebase (CSD.plain_of hst')
 have HOZ3 := Lib.hid (CurOk.at_ HOK.out hx3.but)
 have gz3 : g < z3.heap.size := hi3.lt
 clear hx3 hv3 hi3
 cases okd with
 | true =>
  have HER := Lib.hid (show bEr d3 = er ∧ rIs d3 = oi ∧ True ∧ bIs d3 = oi from ⟨HERA.out.1, HERA.out.2.1, trivial, HERA.out.2.2 rfl⟩)
  have hr2 : ((Prg.unpin me).up.bind fun _ => Prd.ret (d3 + 2)).runCD c3 = R := HR3.out
  have HLV := rLeaveYes_prg (wb := z3) HOZ3 gz3 me HT.out.2 (d3 + 2) er oi c3 (CSD.plain_of hst') R HB.out hr2 z3 hiz3
  have hco : ∀ d c', (Prd.ret d).runCD c' = R → c'.stops = true ∨ d = d3 + 2 := fun d c' h => code_of (p := (Prg.unpin me).up.bind fun _ => Prd.ret (d3 + 2)) (Prd.all_bind _ _ (Prd.all_triv _) fun _ _ => rfl) hr2 hst' h
  have HCO := Lib.hid hco
  clear hr2 hco hst' hiz3 hst
  go_wp2_with fail
  (with_reducible refine HLV.mono ?_)
  clear HLV c2'
  rintro e w5 ⟨d5, c5, rfl, hi, hr⟩
  have hx5 : RefX g A n cap log y z3.heap.size c5 w5 := ⟨hi.cur, HX3.out.but.trans hi.but⟩
  have HX5 := Lib.hid hx5
  have HFT := Lib.hid (show vTell R = toldG er oi c5 from vTell_of hr (by
   rcases HCO.out d5 c5 hr with h | h
   ·exact .inl h
   ·right
    subst h
    exact ⟨by show bEr (d3 + 2 - 2) = er; rw [show d3 + 2 - 2 = d3 by omega]; exact HER.out.1, by show bIs (d3 + 2 - 2) = oi; rw [show d3 + 2 - 2 = d3 by omega]; exact HER.out.2.2.2⟩))
  have HVO5 := Lib.hid (HVO.out.but hi.but nbo)
  clear hi hr hx5 HCO HVO
  obtain ⟨m1, ⟨o1, o2, o3, o4, o5⟩, p1, p2, p3, p4, p5⟩ := HVO5.out.five
  go_upto_region 22 with fail
  refine gen_w (P := fun W => Code.wp _ _ _ _ W) (fun q => RefX g A n cap log y z3.heap.size c5 q ∧ VarAt q bo [.int .i64 er, .bool oi, .int .i64 0, .int .u64 0, .slice none 0 0]) (by
   have hxx := HX5.out
   have hbo := HBO.out
   have hgy := HGY.out
   have hzz := HZZ.out
   exact ⟨(by repeat (first | with_reducible assumption | with_reducible refine RefX.drew ?_ | (with_reducible refine RefX.set ?_ (by omega) (by omega) (by omega) (by omega) _ _))), ((((HVO5.out.setAt 0 _ (by simp)).setAt 1 _ (by simp)).setAt 2 _ (by simp)).setAt 3 _ (by simp)).setAt 4 _ (by simp)⟩) ?_
  rintro q ⟨hxq, hvq⟩
  clear o1 o2 o3 o4 o5 p1 p2 p3 p4 p5 m1 HX5 HVO5
  obtain ⟨m1, ⟨o1, o2, o3, o4, o5⟩, _⟩ := hvq.five
  have k0 : Below w.heap.size w q := K0.out.trans (hxq.but.below.mono (by have := HGW.out; omega))
  have k1 := K1.out.but hxq.but n1
  have k2 := K2.out.but hxq.but n2
  obtain ⟨lo, hlo⟩ : ∃ lo, z3.heap.size = lo := ⟨_, rfl⟩
  have HLO := Lib.hid (show w.heap.size + 1 + 1 < g ∧ w.heap.size + 1 + 1 < lo by have := HZZ.out; have := HGW.out; have := HGY.out; have := HBO.out; omega)
  have k4 : CurVD lo g A n cap log c5 q := by rw [← hlo]; exact hxq.cur
  clear hxq hvq hlo
  have Z0 := Lib.hid k0
  have Z1 := Lib.hid k1
  have Z2 := Lib.hid k2
  have HTC : Calls Tryz.prog 65 #[.pointer (some ⟨g, 0, none⟩), .agg #[.int .i64 er, .bool oi, .int .i64 0, .int .u64 0, .slice none 0 0]] q (TellL lo q (toldG er oi c5)) := toldCG k4 er oi
  have HTF := Lib.hid (HFT.out)
  clear k0 k1 k2 k4
  generalize toldG er oi c5 = V at *
  obtain ⟨vk, vi, va, vb, vd, ve, vo, vnn, vw, vis⟩ := V
  unfold TellL ToldL.val at HTC
  simp only at HTC
  obtain ⟨vn, hvn⟩ : ∃ q, vd.length = q := ⟨_, rfl⟩
  rw [hvn] at HTC
  have HVN := Lib.hid hvn
  clear hvn
  go_wp2_with fail
  (with_reducible refine HTC.mono ?_)
  clear HTC
  rintro e w9 ⟨D, dc, rfl, hat, hdc, hdl, hof, hb3⟩
  have HAT := Lib.hid (And.intro hat (And.intro hdc (And.intro hdl hof)))
  obtain ⟨m1, ⟨a0, a1, a2, a3, a4, a5⟩, b0, b1, b2, b3, b4, b5⟩ := (Z1.out.below hb3).six
  obtain ⟨m2, ⟨r1, r2, r3, r4, r5⟩, s1, s2, s3, s4, s5⟩ := (Z2.out.below hb3).five
  have HB3 := Lib.hid (Z0.out.trans (hb3.mono Z0.out.size))
  clear hb3 hat hdc hdl hof
  go_wp2_with fail
  have hb := HB3.out
  have hlo := HLO.out
  refine bodyPost_ret (v := .tuple #[.agg #[.int .i64 vk, .int .i64 vi, .int .u64 (va : Int), .int .u64 (vb : Int), .slice D vn dc, .slice none 0 0], .agg #[.int .i64 ve, .bool vo, .int .i64 (vnn : Int), .int .u64 (vw : Int), .slice none 0 0], .bool vis]) (by simp [results, Tryz.results31, go_sem, a0, a1, a2, a3, a4, a5, r1, r2, r3, r4, r5]) rfl ?_
  rw [HTF.out]
  unfold TellW ToldL.val
  simp only []
  rw [HVN.out]
  exact ⟨D, dc, rfl, AtB.svd (Q := fun c => lo ≤ c) HAT.out.1 (by repeat (first | with_reducible exact Svd.refl _ _ | with_reducible refine Svd.drew ?_ | (with_reducible refine Svd.set ?_ _ _ _ (by omega)))) HAT.out.2.2.2, HAT.out.2.1, HAT.out.2.2.1, belA⟩
 | false =>
  have hr2 : (Prd.ask 1 7 1 0 [] fun _ => (Prg.unpin me).up.bind fun _ => Prd.ret (0)).runCD c3 = R := HR3.out
  have HLV := rLeaveNo_prg (wb := z3) HOZ3 gz3 me HT.out.2 (0) er oi c3 (CSD.plain_of hst') R HB.out hr2 z3 hiz3
  have hco : ∀ d c', (Prd.ret d).runCD c' = R → c'.stops = true ∨ d = 0 := fun d c' h => code_of (p := Prd.ask 1 7 1 0 [] fun _ => (Prg.unpin me).up.bind fun _ => Prd.ret (0)) (fun _ => Prd.all_bind _ _ (Prd.all_triv _) fun _ _ => rfl) hr2 hst' h
  have HCO := Lib.hid hco
  clear hr2 hco hst' hiz3 hst
  go_wp2_with fail
  (with_reducible refine HLV.mono ?_)
  clear HLV c2'
  rintro e w5 ⟨d5, c5, rfl, hi, hr⟩
  have hx5 : RefX g A n cap log y z3.heap.size c5 w5 := ⟨hi.cur, HX3.out.but.trans hi.but⟩
  have HX5 := Lib.hid hx5
  have HFT := Lib.hid (show vTell R = toldG 7 false c5 from vTell_of hr (by
   rcases HCO.out d5 c5 hr with h | h
   ·exact .inl h
   ·right
    subst h
    exact ⟨rfl, rfl⟩))
  have HVO5 := Lib.hid (HVO.out.but hi.but nbo)
  clear hi hr hx5 HCO HVO
  obtain ⟨m1, ⟨o1, o2, o3, o4, o5⟩, p1, p2, p3, p4, p5⟩ := HVO5.out.five
  go_upto_region 22 with fail
  refine gen_w (P := fun W => Code.wp _ _ _ _ W) (fun q => RefX g A n cap log y z3.heap.size c5 q ∧ VarAt q bo [.int .i64 7, .bool false, .int .i64 0, .int .u64 0, .slice none 0 0]) (by
   have hxx := HX5.out
   have hbo := HBO.out
   have hgy := HGY.out
   have hzz := HZZ.out
   exact ⟨(by repeat (first | with_reducible assumption | with_reducible refine RefX.drew ?_ | (with_reducible refine RefX.set ?_ (by omega) (by omega) (by omega) (by omega) _ _))), ((((HVO5.out.setAt 0 _ (by simp)).setAt 1 _ (by simp)).setAt 2 _ (by simp)).setAt 3 _ (by simp)).setAt 4 _ (by simp)⟩) ?_
  rintro q ⟨hxq, hvq⟩
  clear o1 o2 o3 o4 o5 p1 p2 p3 p4 p5 m1 HX5 HVO5
  obtain ⟨m1, ⟨o1, o2, o3, o4, o5⟩, _⟩ := hvq.five
  have k0 : Below w.heap.size w q := K0.out.trans (hxq.but.below.mono (by have := HGW.out; omega))
  have k1 := K1.out.but hxq.but n1
  have k2 := K2.out.but hxq.but n2
  obtain ⟨lo, hlo⟩ : ∃ lo, z3.heap.size = lo := ⟨_, rfl⟩
  have HLO := Lib.hid (show w.heap.size + 1 + 1 < g ∧ w.heap.size + 1 + 1 < lo by have := HZZ.out; have := HGW.out; have := HGY.out; have := HBO.out; omega)
  have k4 : CurVD lo g A n cap log c5 q := by rw [← hlo]; exact hxq.cur
  clear hxq hvq hlo
  have Z0 := Lib.hid k0
  have Z1 := Lib.hid k1
  have Z2 := Lib.hid k2
  have HTC : Calls Tryz.prog 65 #[.pointer (some ⟨g, 0, none⟩), .agg #[.int .i64 7, .bool false, .int .i64 0, .int .u64 0, .slice none 0 0]] q (TellL lo q (toldG 7 false c5)) := toldCG k4 7 false
  have HTF := Lib.hid (HFT.out)
  clear k0 k1 k2 k4
  generalize toldG 7 false c5 = V at *
  obtain ⟨vk, vi, va, vb, vd, ve, vo, vnn, vw, vis⟩ := V
  unfold TellL ToldL.val at HTC
  simp only at HTC
  obtain ⟨vn, hvn⟩ : ∃ q, vd.length = q := ⟨_, rfl⟩
  rw [hvn] at HTC
  have HVN := Lib.hid hvn
  clear hvn
  go_wp2_with fail
  (with_reducible refine HTC.mono ?_)
  clear HTC
  rintro e w9 ⟨D, dc, rfl, hat, hdc, hdl, hof, hb3⟩
  have HAT := Lib.hid (And.intro hat (And.intro hdc (And.intro hdl hof)))
  obtain ⟨m1, ⟨a0, a1, a2, a3, a4, a5⟩, b0, b1, b2, b3, b4, b5⟩ := (Z1.out.below hb3).six
  obtain ⟨m2, ⟨r1, r2, r3, r4, r5⟩, s1, s2, s3, s4, s5⟩ := (Z2.out.below hb3).five
  have HB3 := Lib.hid (Z0.out.trans (hb3.mono Z0.out.size))
  clear hb3 hat hdc hdl hof
  go_wp2_with fail
  have hb := HB3.out
  have hlo := HLO.out
  refine bodyPost_ret (v := .tuple #[.agg #[.int .i64 vk, .int .i64 vi, .int .u64 (va : Int), .int .u64 (vb : Int), .slice D vn dc, .slice none 0 0], .agg #[.int .i64 ve, .bool vo, .int .i64 (vnn : Int), .int .u64 (vw : Int), .slice none 0 0], .bool vis]) (by simp [results, Tryz.results31, go_sem, a0, a1, a2, a3, a4, a5, r1, r2, r3, r4, r5]) rfl ?_
  rw [HTF.out]
  unfold TellW ToldL.val
  simp only []
  rw [HVN.out]
  exact ⟨D, dc, rfl, AtB.svd (Q := fun c => lo ≤ c) HAT.out.1 (by repeat (first | with_reducible exact Svd.refl _ _ | with_reducible refine Svd.drew ?_ | (with_reducible refine Svd.set ?_ _ _ _ (by omega)))) HAT.out.2.2.2, HAT.out.2.1, HAT.out.2.2.1, belA⟩
set_option maxHeartbeats 16000000 in
set_option maxRecDepth 100000 in
theorem vRefNext_12 (t : Nat) (ht : t ≤ 64) (me : Nat) (hme : me < 1000000) (v : Int) (ur kk : Nat) (hur : ur < 1073741824) (hkk : ur * 2147483648 = kk) (x nn : Nat) (A : Option Addr) (n cap : Nat) (log : List Res) (hc : n ≤ cap) (R : RanD (List Res)) (hb : R ≠ .bad) (hR : (Prd.inP me Prd.vOk (Prd.vRem t kk nn nn)).run tapeTellD log = R) (w : World) (hl : Hid (LogAt w A n log)) :
  Calls Tryz.prog 31 #[.int .i64 (t : Int), .int .i64 (me : Int), .agg #[.int .i64 12, .int .i64 (ur : Int), .int .i64 v, .int .u64 (x : Int)], .slice A n cap] w (TellW w (vTell R)) := by
 have hRC : (Prd.inP me Prd.vOk (Prd.vRem t kk nn nn)).runCD (.at log) = R := hR
 rw [inP_eq] at hRC
 have hkey := fun w => refVertex_yes ur w hur
 rw [hkk] at hkey
 have HT := Lib.hid (And.intro ht hme)
 have HB := Lib.hid hb
 have HRC := Lib.hid hRC
 clear hR hRC hb hur hkk ht hme
 go_enter Tryz.func31, Tryz.ntmps31
 go_wp2_with fail
 refine gen_w (P := fun W => Calls _ _ _ W _) (fun y => Below w.heap.size w y ∧ y.heap.size = w.heap.size + 1 + 1 + 1 + 1 ∧ VarAt y w.heap.size [.int .i64 12, .int .i64 (ur : Int), .int .i64 v, .int .u64 (x : Int)] ∧ VarAt y (w.heap.size + 1) [.int .i64 0, .int .i64 0, .int .u64 0, .int .u64 0, .slice none 0 0, .slice none 0 0] ∧ VarAt y (w.heap.size + 1 + 1) [.int .i64 0, .bool false, .int .i64 0, .int .u64 0, .slice none 0 0] ∧ VarAt y (w.heap.size + 1 + 1 + 1) (curV A n cap 0 false (.int .i64 0) (.int .i64 0) (.int .u64 0) (.int .u64 0) (.slice none 0 0) (.slice none 0 0))) ⟨belA, by simp, VarAt.mk4 (by simp <;> omega), VarAt.mk6 (by simp <;> omega), VarAt.mk5 (by simp <;> omega), VarAt.mk9 (by simp <;> omega)⟩ ?_
 rintro y ⟨k0, k3, kop, k1, k2, k4⟩
 obtain ⟨g, hg⟩ : ∃ g, w.heap.size + 1 + 1 + 1 = g := ⟨_, rfl⟩
 rw [hg] at k4 ⊢
 have hok : CurOk g A n log w y := ⟨hl.out, by omega, k0⟩
 have hcur : CurID g A n cap log w y (.at log) y := ⟨⟨0, Nat.zero_le _, rfl, k4⟩, But.refl _ _⟩
 have HOK := Lib.hid hok
 have HEN := rPartQ HB.out HRC.out y (fun hb' => rEnter_prg (wb := y) HOK me HT.out.2 (.at log) trivial _ hb' rfl y hcur)
 have HGY := Lib.hid (show g < y.heap.size by omega)
 have HGW := Lib.hid (show w.heap.size + 1 + 1 < g ∧ w.heap.size ≤ g by omega)
 have n0 : w.heap.size ≠ g := by omega
 have n1 : w.heap.size + 1 ≠ g := by omega
 have n2 : w.heap.size + 1 + 1 ≠ g := by omega
 have K0 := Lib.hid k0
 have KOP := Lib.hid kop
 have K1 := Lib.hid k1
 have K2 := Lib.hid k2
 obtain ⟨_, o0, o1', o2', o3'⟩ : w.heap.size < y.heap.size ∧ y.cell? ⟨w.heap.size, 0, none⟩ = some (.int .i64 12) ∧ y.cell? ⟨w.heap.size, 1, none⟩ = some (.int .i64 (ur : Int)) ∧ y.cell? ⟨w.heap.size, 2, none⟩ = some (.int .i64 v) ∧ y.cell? ⟨w.heap.size, 3, none⟩ = some (.int .u64 (x : Int)) := ⟨kop.1, kop.2.1 0 _ rfl, kop.2.1 1 _ rfl, kop.2.1 2 _ rfl, kop.2.1 3 _ rfl⟩
 clear k0 k1 k2 k3 k4 kop hok hcur HRC hg
 (with_reducible refine (hkey y).mono ?_)
 rintro e y' ⟨rfl, rfl⟩
 clear hkey
 go_wp2_with fail
 (with_reducible refine HEN.mono ?_)
 clear HEN o0 o1' o2' o3'
 rintro e w2 ⟨d, c1, rfl, hi, hr, hp1⟩
 try dsimp only at hr
 have HP1 := Lib.hid hp1
 clear hp1
 by_cases hd : d = 1
 case neg =>
  have dd := ne1 hd
  rw [if_neg hd] at hr
  have HFT := Lib.hid (show vTell R = toldG 6 false c1 from vTell_of hr (.inr ⟨rfl, rfl⟩))
  have HI := Lib.hid hi
  clear hi hr hd
  go_upto_region 9 with fail
  have HSE : Calls Tryz.prog 68 #[] w2 _ := refSealed_at w2
  go_wp2_with (go_at_call 68; (with_reducible refine HSE.mono ?_); rintro e z ⟨rfl, hbz⟩)
  have hiz := HI.out.below hbz
  have k0 : Below w.heap.size w z := K0.out.trans (hiz.but.below.mono (by have := HGW.out; omega))
  have k1 := K1.out.but hiz.but n1
  have k2 := K2.out.but hiz.but n2
  obtain ⟨lo, hlo⟩ : ∃ lo, y.heap.size = lo := ⟨_, rfl⟩
  have HLO := Lib.hid (show w.heap.size + 1 + 1 < g ∧ w.heap.size + 1 + 1 < lo by have := HGW.out; have := HGY.out; omega)
  have k4 : CurVD lo g A n cap log c1 z := by rw [← hlo]; exact hiz.cur
  clear hiz hbz hlo HI HSE
  have Z0 := Lib.hid k0
  have Z1 := Lib.hid k1
  have Z2 := Lib.hid k2
  have HTC : Calls Tryz.prog 65 #[.pointer (some ⟨g, 0, none⟩), .agg #[.int .i64 6, .bool false, .int .i64 0, .int .u64 0, .slice none 0 0]] z (TellL lo z (toldG 6 false c1)) := toldCG k4 6 false
  have HTF := Lib.hid (HFT.out)
  clear k0 k1 k2 k4
  generalize toldG 6 false c1 = V at *
  obtain ⟨vk, vi, va, vb, vd, ve, vo, vnn, vw, vis⟩ := V
  unfold TellL ToldL.val at HTC
  simp only at HTC
  obtain ⟨vn, hvn⟩ : ∃ q, vd.length = q := ⟨_, rfl⟩
  rw [hvn] at HTC
  have HVN := Lib.hid hvn
  clear hvn
  (with_reducible refine HTC.mono ?_)
  clear HTC
  rintro e w9 ⟨D, dc, rfl, hat, hdc, hdl, hof, hb3⟩
  have HAT := Lib.hid (And.intro hat (And.intro hdc (And.intro hdl hof)))
  obtain ⟨m1, ⟨a0, a1, a2, a3, a4, a5⟩, b0, b1, b2, b3, b4, b5⟩ := (Z1.out.below hb3).six
  obtain ⟨m2, ⟨r1, r2, r3, r4, r5⟩, s1, s2, s3, s4, s5⟩ := (Z2.out.below hb3).five
  have HB3 := Lib.hid (Z0.out.trans (hb3.mono Z0.out.size))
  clear hb3 hat hdc hdl hof
  go_wp2_with fail
  have hb := HB3.out
  have hlo := HLO.out
  refine bodyPost_ret (v := .tuple #[.agg #[.int .i64 vk, .int .i64 vi, .int .u64 (va : Int), .int .u64 (vb : Int), .slice D vn dc, .slice none 0 0], .agg #[.int .i64 ve, .bool vo, .int .i64 (vnn : Int), .int .u64 (vw : Int), .slice none 0 0], .bool vis]) (by simp [results, Tryz.results31, go_sem, a0, a1, a2, a3, a4, a5, r1, r2, r3, r4, r5]) rfl ?_
  rw [HTF.out]
  unfold TellW ToldL.val
  simp only []
  rw [HVN.out]
  exact ⟨D, dc, rfl, AtB.svd (Q := fun c => lo ≤ c) HAT.out.1 (by repeat (first | with_reducible exact Svd.refl _ _ | with_reducible refine Svd.drew ?_ | (with_reducible refine Svd.set ?_ _ _ _ (by omega)))) HAT.out.2.2.2, HAT.out.2.1, HAT.out.2.2.1, belA⟩
 have dd := eq1 hd
 rw [if_pos hd] at hr
 clear hd
 have HI2 := Lib.hid hi
 have HR2 := Lib.hid hr
 clear hi hr
 go_upto_region 12 with fail
 refine gen_w (P := fun W => Code.wp _ _ _ _ W) (fun z => Below w2.heap.size w2 z ∧ VarAt z w2.heap.size [.int .i64 0, .bool false, .int .i64 0, .int .u64 0, .slice none 0 0]) ⟨belA, VarAt.mk5 (by simp)⟩ ?_
 rintro z ⟨q0, q1⟩
 have hib := HI2.out.below q0
 have hiz : CurID g A n cap log w z c1 z := hib.rebase HP1.out
 have HOZ := Lib.hid (CurOk.at_ HOK.out hib.but)
 have gz : g < z.heap.size := hib.lt
 have HBZ := Lib.hid hib.but
 obtain ⟨bo, hbo⟩ : ∃ b, w2.heap.size = b := ⟨_, rfl⟩
 rw [hbo] at q1 ⊢
 have HBO := Lib.hid (show y.heap.size ≤ bo ∧ bo < z.heap.size by have := HI2.out.but.size; have := q1.1; omega)
 have nbo : bo ≠ g := by have := HBO.out; have := HGY.out; omega
 have HVB := Lib.hid q1
 have HBODY : Calls Tryz.prog 70 #[.pointer (some ⟨g, 0, none⟩), .int .i64 (t : Int), .int .u64 (kk : Int)] z _ := rPartD HB.out HR2.out z (fun hb' => rRem_prg (wb := z) HOZ gz t kk nn nn HT.out.1 c1 HP1.out _ hb' rfl z hiz)
 have kz := KOP.out.but hib.but n0
 obtain ⟨_, o0, o1', o2', o3'⟩ : w.heap.size < z.heap.size ∧ z.cell? ⟨w.heap.size, 0, none⟩ = some (.int .i64 12) ∧ z.cell? ⟨w.heap.size, 1, none⟩ = some (.int .i64 (ur : Int)) ∧ z.cell? ⟨w.heap.size, 2, none⟩ = some (.int .i64 v) ∧ z.cell? ⟨w.heap.size, 3, none⟩ = some (.int .u64 (x : Int)) := ⟨kz.1, kz.2.1 0 _ rfl, kz.2.1 1 _ rfl, kz.2.1 2 _ rfl, kz.2.1 3 _ rfl⟩
 clear q0 q1 hib hiz hbo HI2 HR2 kz
 have e11 : ((12 : Int) == 11) = false := by decide
 have e12 : ((12 : Int) == 12) = true := by decide
 have e13 : ((12 : Int) == 13) = false := by decide
 go_wp2_with fail
 (with_reducible refine HBODY.mono ?_)
 clear HBODY o0 o1' o2' o3'
 rintro e w3 ⟨d3, c3, rfl, hi, hr⟩
 try dsimp only at hr
 unfold rBodyV
 have hbi : Prd.vOk d3 = true → bIs d3 = rIs d3 := fun h => by
  unfold Prd.vOk at h
  rw [decide_eq_true_iff] at h
  rcases h with rfl | rfl | rfl <;> rfl
 obtain ⟨er, her⟩ : ∃ q, bEr d3 = q := ⟨_, rfl⟩
 obtain ⟨oi, hoi⟩ : ∃ q, rIs d3 = q := ⟨_, rfl⟩
 obtain ⟨okd, hokd⟩ : ∃ q, Prd.vOk d3 = q := ⟨_, rfl⟩
 rw [her, hoi, hokd]
 rw [hokd] at hr hbi
 rw [hoi] at hbi
 have HERA := Lib.hid (And.intro her (And.intro hoi hbi))
 have HX3a := Lib.hid (show RefX g A n cap log y z.heap.size c3 w3 from ⟨hi.cur, HBZ.out.trans hi.but⟩)
 have HVBa := Lib.hid (HVB.out.but hi.but nbo)
 have HR3 := Lib.hid hr
 clear her hoi hokd hi hr hbi HVB
 obtain ⟨m1, ⟨o1, o2, o3, o4, o5⟩, p1, p2, p3, p4, p5⟩ := HVBa.out.five
 go_upto_region 19 with fail
 refine gen_w (P := fun W => Code.wp _ _ _ _ W) (fun q => RefX g A n cap log y z.heap.size c3 q ∧ VarAt q bo [.int .i64 er, .bool oi, .int .i64 0, .int .u64 0, .slice none 0 0]) (by
  have hxx := HX3a.out
  have hbo := HBO.out
  have hgy := HGY.out
  exact ⟨(by repeat (first | with_reducible assumption | with_reducible refine RefX.drew ?_ | (with_reducible refine RefX.set ?_ (by omega) (by omega) (by omega) (by omega) _ _))), ((((HVBa.out.setAt 0 _ (by simp)).setAt 1 _ (by simp)).setAt 2 _ (by simp)).setAt 3 _ (by simp)).setAt 4 _ (by simp)⟩) ?_
 rintro z3 ⟨hx3, hv3⟩
 clear o1 o2 o3 o4 o5 p1 p2 p3 p4 p5 m1 HX3a HVBa
 have HX3 := Lib.hid hx3
 have HVO := Lib.hid hv3
 have hi3 : CurID g A n cap log w y c3 z3 := hx3.to (by have := HBO.out; omega)
 have c2' := hi3.two
 have hgw := hi3.lt
 have HZZ := Lib.hid (show bo < z3.heap.size ∧ y.heap.size ≤ z3.heap.size from ⟨hv3.1, hx3.but.size⟩)
 obtain ⟨m1, ⟨o1, o2, o3, o4, o5⟩, _⟩ := hv3.five
 by_cases hst : c3.stops = true
 ·rw [hst] at c2'
  have HFT := Lib.hid (show vTell R = toldG er oi c3 from vTell_of (d := 0) ((Prd.runCD_stop (p := Prd.leaveP me okd (d3 + 2)) hst _).symm.trans HR3.out) (.inl hst))
  have k0 : Below w.heap.size w z3 := K0.out.trans (hx3.but.below.mono (by have := HGW.out; omega))
  have k1 := K1.out.but hx3.but n1
  have k2 := K2.out.but hx3.but n2
  obtain ⟨lo, hlo⟩ : ∃ lo, z.heap.size = lo := ⟨_, rfl⟩
  have HLO := Lib.hid (show w.heap.size + 1 + 1 < g ∧ w.heap.size + 1 + 1 < lo by have := HGW.out; omega)
  have k4 : CurVD lo g A n cap log c3 z3 := by rw [← hlo]; exact hx3.cur
  clear hx3 hv3 hi3 hlo hst HR3
  have Z0 := Lib.hid k0
  have Z1 := Lib.hid k1
  have Z2 := Lib.hid k2
  have HTC : Calls Tryz.prog 65 #[.pointer (some ⟨g, 0, none⟩), .agg #[.int .i64 er, .bool oi, .int .i64 0, .int .u64 0, .slice none 0 0]] z3 (TellL lo z3 (toldG er oi c3)) := toldCG k4 er oi
  have HTF := Lib.hid (HFT.out)
  clear k0 k1 k2 k4
  generalize toldG er oi c3 = V at *
  obtain ⟨vk, vi, va, vb, vd, ve, vo, vnn, vw, vis⟩ := V
  unfold TellL ToldL.val at HTC
  simp only at HTC
  obtain ⟨vn, hvn⟩ : ∃ q, vd.length = q := ⟨_, rfl⟩
  rw [hvn] at HTC
  have HVN := Lib.hid hvn
  clear hvn
  go_wp2_with fail
  (with_reducible refine HTC.mono ?_)
  clear HTC
  rintro e w9 ⟨D, dc, rfl, hat, hdc, hdl, hof, hb3⟩
  have HAT := Lib.hid (And.intro hat (And.intro hdc (And.intro hdl hof)))
  obtain ⟨m1, ⟨a0, a1, a2, a3, a4, a5⟩, b0, b1, b2, b3, b4, b5⟩ := (Z1.out.below hb3).six
  obtain ⟨m2, ⟨r1, r2, r3, r4, r5⟩, s1, s2, s3, s4, s5⟩ := (Z2.out.below hb3).five
  have HB3 := Lib.hid (Z0.out.trans (hb3.mono Z0.out.size))
  clear hb3 hat hdc hdl hof
  go_wp2_with fail
  have hb := HB3.out
  have hlo := HLO.out
  refine bodyPost_ret (v := .tuple #[.agg #[.int .i64 vk, .int .i64 vi, .int .u64 (va : Int), .int .u64 (vb : Int), .slice D vn dc, .slice none 0 0], .agg #[.int .i64 ve, .bool vo, .int .i64 (vnn : Int), .int .u64 (vw : Int), .slice none 0 0], .bool vis]) (by simp [results, Tryz.results31, go_sem, a0, a1, a2, a3, a4, a5, r1, r2, r3, r4, r5]) rfl ?_
  rw [HTF.out]
  unfold TellW ToldL.val
  simp only []
  rw [HVN.out]
  exact ⟨D, dc, rfl, AtB.svd (Q := fun c => lo ≤ c) HAT.out.1 (by repeat (first | with_reducible exact Svd.refl _ _ | with_reducible refine Svd.drew ?_ | (with_reducible refine Svd.set ?_ _ _ _ (by omega)))) HAT.out.2.2.2, HAT.out.2.1, HAT.out.2.2.1, belA⟩
 have hst' : c3.stops = false := by simpa using hst
 rw [hst'] at c2'
 have hiz3 : CurID g A n cap log w z3 c3 z3 := hx3.cur.rebase (CSD.plain_of hst')
 have HOZ3 := Lib.hid (CurOk.at_ HOK.out hx3.but)
 have gz3 : g < z3.heap.size := hi3.lt
 clear hx3 hv3 hi3
 cases okd with
 | true =>
  have HER := Lib.hid (show bEr d3 = er ∧ rIs d3 = oi ∧ True ∧ bIs d3 = oi from ⟨HERA.out.1, HERA.out.2.1, trivial, HERA.out.2.2 rfl⟩)
  have hr2 : ((Prg.unpin me).up.bind fun _ => Prd.ret (d3 + 2)).runCD c3 = R := HR3.out
  have HLV := rLeaveYes_prg (wb := z3) HOZ3 gz3 me HT.out.2 (d3 + 2) er oi c3 (CSD.plain_of hst') R HB.out hr2 z3 hiz3
  have hco : ∀ d c', (Prd.ret d).runCD c' = R → c'.stops = true ∨ d = d3 + 2 := fun d c' h => code_of (p := (Prg.unpin me).up.bind fun _ => Prd.ret (d3 + 2)) (Prd.all_bind _ _ (Prd.all_triv _) fun _ _ => rfl) hr2 hst' h
  have HCO := Lib.hid hco
  clear hr2 hco hst' hiz3 hst
  go_wp2_with fail
  (with_reducible refine HLV.mono ?_)
  clear HLV c2'
  rintro e w5 ⟨d5, c5, rfl, hi, hr⟩
  have hx5 : RefX g A n cap log y z3.heap.size c5 w5 := ⟨hi.cur, HX3.out.but.trans hi.but⟩
  have HX5 := Lib.hid hx5
  have HFT := Lib.hid (show vTell R = toldG er oi c5 from vTell_of hr (by
   rcases HCO.out d5 c5 hr with h | h
   ·exact .inl h
   ·right
    subst h
    exact ⟨by show bEr (d3 + 2 - 2) = er; rw [show d3 + 2 - 2 = d3 by omega]; exact HER.out.1, by show bIs (d3 + 2 - 2) = oi; rw [show d3 + 2 - 2 = d3 by omega]; exact HER.out.2.2.2⟩))
  have HVO5 := Lib.hid (HVO.out.but hi.but nbo)
  clear hi hr hx5 HCO HVO
  obtain ⟨m1, ⟨o1, o2, o3, o4, o5⟩, p1, p2, p3, p4, p5⟩ := HVO5.out.five
  go_upto_region 22 with fail
  refine gen_w (P := fun W => Code.wp _ _ _ _ W) (fun q => RefX g A n cap log y z3.heap.size c5 q ∧ VarAt q bo [.int .i64 er, .bool oi, .int .i64 0, .int .u64 0, .slice none 0 0]) (by
   have hxx := HX5.out
   have hbo := HBO.out
   have hgy := HGY.out
   have hzz := HZZ.out
   exact ⟨(by repeat (first | with_reducible assumption | with_reducible refine RefX.drew ?_ | (with_reducible refine RefX.set ?_ (by omega) (by omega) (by omega) (by omega) _ _))), ((((HVO5.out.setAt 0 _ (by simp)).setAt 1 _ (by simp)).setAt 2 _ (by simp)).setAt 3 _ (by simp)).setAt 4 _ (by simp)⟩) ?_
  rintro q ⟨hxq, hvq⟩
  clear o1 o2 o3 o4 o5 p1 p2 p3 p4 p5 m1 HX5 HVO5
  obtain ⟨m1, ⟨o1, o2, o3, o4, o5⟩, _⟩ := hvq.five
  have k0 : Below w.heap.size w q := K0.out.trans (hxq.but.below.mono (by have := HGW.out; omega))
  have k1 := K1.out.but hxq.but n1
  have k2 := K2.out.but hxq.but n2
  obtain ⟨lo, hlo⟩ : ∃ lo, z3.heap.size = lo := ⟨_, rfl⟩
  have HLO := Lib.hid (show w.heap.size + 1 + 1 < g ∧ w.heap.size + 1 + 1 < lo by have := HZZ.out; have := HGW.out; have := HGY.out; have := HBO.out; omega)
  have k4 : CurVD lo g A n cap log c5 q := by rw [← hlo]; exact hxq.cur
  clear hxq hvq hlo
  have Z0 := Lib.hid k0
  have Z1 := Lib.hid k1
  have Z2 := Lib.hid k2
  have HTC : Calls Tryz.prog 65 #[.pointer (some ⟨g, 0, none⟩), .agg #[.int .i64 er, .bool oi, .int .i64 0, .int .u64 0, .slice none 0 0]] q (TellL lo q (toldG er oi c5)) := toldCG k4 er oi
  have HTF := Lib.hid (HFT.out)
  clear k0 k1 k2 k4
  generalize toldG er oi c5 = V at *
  obtain ⟨vk, vi, va, vb, vd, ve, vo, vnn, vw, vis⟩ := V
  unfold TellL ToldL.val at HTC
  simp only at HTC
  obtain ⟨vn, hvn⟩ : ∃ q, vd.length = q := ⟨_, rfl⟩
  rw [hvn] at HTC
  have HVN := Lib.hid hvn
  clear hvn
  go_wp2_with fail
  (with_reducible refine HTC.mono ?_)
  clear HTC
  rintro e w9 ⟨D, dc, rfl, hat, hdc, hdl, hof, hb3⟩
  have HAT := Lib.hid (And.intro hat (And.intro hdc (And.intro hdl hof)))
  obtain ⟨m1, ⟨a0, a1, a2, a3, a4, a5⟩, b0, b1, b2, b3, b4, b5⟩ := (Z1.out.below hb3).six
  obtain ⟨m2, ⟨r1, r2, r3, r4, r5⟩, s1, s2, s3, s4, s5⟩ := (Z2.out.below hb3).five
  have HB3 := Lib.hid (Z0.out.trans (hb3.mono Z0.out.size))
  clear hb3 hat hdc hdl hof
  go_wp2_with fail
  have hb := HB3.out
  have hlo := HLO.out
  refine bodyPost_ret (v := .tuple #[.agg #[.int .i64 vk, .int .i64 vi, .int .u64 (va : Int), .int .u64 (vb : Int), .slice D vn dc, .slice none 0 0], .agg #[.int .i64 ve, .bool vo, .int .i64 (vnn : Int), .int .u64 (vw : Int), .slice none 0 0], .bool vis]) (by simp [results, Tryz.results31, go_sem, a0, a1, a2, a3, a4, a5, r1, r2, r3, r4, r5]) rfl ?_
  rw [HTF.out]
  unfold TellW ToldL.val
  simp only []
  rw [HVN.out]
  exact ⟨D, dc, rfl, AtB.svd (Q := fun c => lo ≤ c) HAT.out.1 (by repeat (first | with_reducible exact Svd.refl _ _ | with_reducible refine Svd.drew ?_ | (with_reducible refine Svd.set ?_ _ _ _ (by omega)))) HAT.out.2.2.2, HAT.out.2.1, HAT.out.2.2.1, belA⟩
 | false =>
  have hr2 : (Prd.ask 1 7 1 0 [] fun _ => (Prg.unpin me).up.bind fun _ => Prd.ret (0)).runCD c3 = R := HR3.out
  have HLV := rLeaveNo_prg (wb := z3) HOZ3 gz3 me HT.out.2 (0) er oi c3 (CSD.plain_of hst') R HB.out hr2 z3 hiz3
  have hco : ∀ d c', (Prd.ret d).runCD c' = R → c'.stops = true ∨ d = 0 := fun d c' h => code_of (p := Prd.ask 1 7 1 0 [] fun _ => (Prg.unpin me).up.bind fun _ => Prd.ret (0)) (fun _ => Prd.all_bind _ _ (Prd.all_triv _) fun _ _ => rfl) hr2 hst' h
  have HCO := Lib.hid hco
  clear hr2 hco hst' hiz3 hst
  go_wp2_with fail
  (with_reducible refine HLV.mono ?_)
  clear HLV c2'
  rintro e w5 ⟨d5, c5, rfl, hi, hr⟩
  have hx5 : RefX g A n cap log y z3.heap.size c5 w5 := ⟨hi.cur, HX3.out.but.trans hi.but⟩
  have HX5 := Lib.hid hx5
  have HFT := Lib.hid (show vTell R = toldG 7 false c5 from vTell_of hr (by
   rcases HCO.out d5 c5 hr with h | h
   ·exact .inl h
   ·right
    subst h
    exact ⟨rfl, rfl⟩))
  have HVO5 := Lib.hid (HVO.out.but hi.but nbo)
  clear hi hr hx5 HCO HVO
  obtain ⟨m1, ⟨o1, o2, o3, o4, o5⟩, p1, p2, p3, p4, p5⟩ := HVO5.out.five
  go_upto_region 22 with fail
  refine gen_w (P := fun W => Code.wp _ _ _ _ W) (fun q => RefX g A n cap log y z3.heap.size c5 q ∧ VarAt q bo [.int .i64 7, .bool false, .int .i64 0, .int .u64 0, .slice none 0 0]) (by
   have hxx := HX5.out
   have hbo := HBO.out
   have hgy := HGY.out
   have hzz := HZZ.out
   exact ⟨(by repeat (first | with_reducible assumption | with_reducible refine RefX.drew ?_ | (with_reducible refine RefX.set ?_ (by omega) (by omega) (by omega) (by omega) _ _))), ((((HVO5.out.setAt 0 _ (by simp)).setAt 1 _ (by simp)).setAt 2 _ (by simp)).setAt 3 _ (by simp)).setAt 4 _ (by simp)⟩) ?_
  rintro q ⟨hxq, hvq⟩
  clear o1 o2 o3 o4 o5 p1 p2 p3 p4 p5 m1 HX5 HVO5
  obtain ⟨m1, ⟨o1, o2, o3, o4, o5⟩, _⟩ := hvq.five
  have k0 : Below w.heap.size w q := K0.out.trans (hxq.but.below.mono (by have := HGW.out; omega))
  have k1 := K1.out.but hxq.but n1
  have k2 := K2.out.but hxq.but n2
  obtain ⟨lo, hlo⟩ : ∃ lo, z3.heap.size = lo := ⟨_, rfl⟩
  have HLO := Lib.hid (show w.heap.size + 1 + 1 < g ∧ w.heap.size + 1 + 1 < lo by have := HZZ.out; have := HGW.out; have := HGY.out; have := HBO.out; omega)
  have k4 : CurVD lo g A n cap log c5 q := by rw [← hlo]; exact hxq.cur
  clear hxq hvq hlo
  have Z0 := Lib.hid k0
  have Z1 := Lib.hid k1
  have Z2 := Lib.hid k2
  have HTC : Calls Tryz.prog 65 #[.pointer (some ⟨g, 0, none⟩), .agg #[.int .i64 7, .bool false, .int .i64 0, .int .u64 0, .slice none 0 0]] q (TellL lo q (toldG 7 false c5)) := toldCG k4 7 false
  have HTF := Lib.hid (HFT.out)
  clear k0 k1 k2 k4
  generalize toldG 7 false c5 = V at *
  obtain ⟨vk, vi, va, vb, vd, ve, vo, vnn, vw, vis⟩ := V
  unfold TellL ToldL.val at HTC
  simp only at HTC
  obtain ⟨vn, hvn⟩ : ∃ q, vd.length = q := ⟨_, rfl⟩
  rw [hvn] at HTC
  have HVN := Lib.hid hvn
  clear hvn
  go_wp2_with fail
  (with_reducible refine HTC.mono ?_)
  clear HTC
  rintro e w9 ⟨D, dc, rfl, hat, hdc, hdl, hof, hb3⟩
  have HAT := Lib.hid (And.intro hat (And.intro hdc (And.intro hdl hof)))
  obtain ⟨m1, ⟨a0, a1, a2, a3, a4, a5⟩, b0, b1, b2, b3, b4, b5⟩ := (Z1.out.below hb3).six
  obtain ⟨m2, ⟨r1, r2, r3, r4, r5⟩, s1, s2, s3, s4, s5⟩ := (Z2.out.below hb3).five
  have HB3 := Lib.hid (Z0.out.trans (hb3.mono Z0.out.size))
  clear hb3 hat hdc hdl hof
  go_wp2_with fail
  have hb := HB3.out
  have hlo := HLO.out
  refine bodyPost_ret (v := .tuple #[.agg #[.int .i64 vk, .int .i64 vi, .int .u64 (va : Int), .int .u64 (vb : Int), .slice D vn dc, .slice none 0 0], .agg #[.int .i64 ve, .bool vo, .int .i64 (vnn : Int), .int .u64 (vw : Int), .slice none 0 0], .bool vis]) (by simp [results, Tryz.results31, go_sem, a0, a1, a2, a3, a4, a5, r1, r2, r3, r4, r5]) rfl ?_
  rw [HTF.out]
  unfold TellW ToldL.val
  simp only []
  rw [HVN.out]
  exact ⟨D, dc, rfl, AtB.svd (Q := fun c => lo ≤ c) HAT.out.1 (by repeat (first | with_reducible exact Svd.refl _ _ | with_reducible refine Svd.drew ?_ | (with_reducible refine Svd.set ?_ _ _ _ (by omega)))) HAT.out.2.2.2, HAT.out.2.1, HAT.out.2.2.1, belA⟩
set_option maxHeartbeats 16000000 in
set_option maxRecDepth 100000 in
theorem vRefNext_13 (t : Nat) (ht : t ≤ 64) (me : Nat) (hme : me < 1000000) (v : Int) (ur kk : Nat) (hur : ur < 1073741824) (hkk : ur * 2147483648 = kk) (x nn : Nat) (A : Option Addr) (n cap : Nat) (log : List Res) (hc : n ≤ cap) (R : RanD (List Res)) (hb : R ≠ .bad) (hR : (Prd.inP me Prd.vOk (Prd.vHas t kk nn)).run tapeTellD log = R) (w : World) (hl : Hid (LogAt w A n log)) :
  Calls Tryz.prog 31 #[.int .i64 (t : Int), .int .i64 (me : Int), .agg #[.int .i64 13, .int .i64 (ur : Int), .int .i64 v, .int .u64 (x : Int)], .slice A n cap] w (TellW w (vTell R)) := by
 have hRC : (Prd.inP me Prd.vOk (Prd.vHas t kk nn)).runCD (.at log) = R := hR
 rw [inP_eq] at hRC
 have hkey := fun w => refVertex_yes ur w hur
 rw [hkk] at hkey
 have HT := Lib.hid (And.intro ht hme)
 have HB := Lib.hid hb
 have HRC := Lib.hid hRC
 clear hR hRC hb hur hkk ht hme
 go_enter Tryz.func31, Tryz.ntmps31
 go_wp2_with fail
 refine gen_w (P := fun W => Calls _ _ _ W _) (fun y => Below w.heap.size w y ∧ y.heap.size = w.heap.size + 1 + 1 + 1 + 1 ∧ VarAt y w.heap.size [.int .i64 13, .int .i64 (ur : Int), .int .i64 v, .int .u64 (x : Int)] ∧ VarAt y (w.heap.size + 1) [.int .i64 0, .int .i64 0, .int .u64 0, .int .u64 0, .slice none 0 0, .slice none 0 0] ∧ VarAt y (w.heap.size + 1 + 1) [.int .i64 0, .bool false, .int .i64 0, .int .u64 0, .slice none 0 0] ∧ VarAt y (w.heap.size + 1 + 1 + 1) (curV A n cap 0 false (.int .i64 0) (.int .i64 0) (.int .u64 0) (.int .u64 0) (.slice none 0 0) (.slice none 0 0))) ⟨belA, by simp, VarAt.mk4 (by simp <;> omega), VarAt.mk6 (by simp <;> omega), VarAt.mk5 (by simp <;> omega), VarAt.mk9 (by simp <;> omega)⟩ ?_
 rintro y ⟨k0, k3, kop, k1, k2, k4⟩
 obtain ⟨g, hg⟩ : ∃ g, w.heap.size + 1 + 1 + 1 = g := ⟨_, rfl⟩
 rw [hg] at k4 ⊢
 have hok : CurOk g A n log w y := ⟨hl.out, by omega, k0⟩
 have hcur : CurID g A n cap log w y (.at log) y := ⟨⟨0, Nat.zero_le _, rfl, k4⟩, But.refl _ _⟩
 have HOK := Lib.hid hok
 have HEN := rPartQ HB.out HRC.out y (fun hb' => rEnter_prg (wb := y) HOK me HT.out.2 (.at log) trivial _ hb' rfl y hcur)
 have HGY := Lib.hid (show g < y.heap.size by omega)
 have HGW := Lib.hid (show w.heap.size + 1 + 1 < g ∧ w.heap.size ≤ g by omega)
 have n0 : w.heap.size ≠ g := by omega
 have n1 : w.heap.size + 1 ≠ g := by omega
 have n2 : w.heap.size + 1 + 1 ≠ g := by omega
 have K0 := Lib.hid k0
 have KOP := Lib.hid kop
 have K1 := Lib.hid k1
 have K2 := Lib.hid k2
 obtain ⟨_, o0, o1', o2', o3'⟩ : w.heap.size < y.heap.size ∧ y.cell? ⟨w.heap.size, 0, none⟩ = some (.int .i64 13) ∧ y.cell? ⟨w.heap.size, 1, none⟩ = some (.int .i64 (ur : Int)) ∧ y.cell? ⟨w.heap.size, 2, none⟩ = some (.int .i64 v) ∧ y.cell? ⟨w.heap.size, 3, none⟩ = some (.int .u64 (x : Int)) := ⟨kop.1, kop.2.1 0 _ rfl, kop.2.1 1 _ rfl, kop.2.1 2 _ rfl, kop.2.1 3 _ rfl⟩
 clear k0 k1 k2 k3 k4 kop hok hcur HRC hg
 (with_reducible refine (hkey y).mono ?_)
 rintro e y' ⟨rfl, rfl⟩
 clear hkey
 go_wp2_with fail
 (with_reducible refine HEN.mono ?_)
 clear HEN o0 o1' o2' o3'
 rintro e w2 ⟨d, c1, rfl, hi, hr, hp1⟩
 try dsimp only at hr
 have HP1 := Lib.hid hp1
 clear hp1
 by_cases hd : d = 1
 case neg =>
  have dd := ne1 hd
  rw [if_neg hd] at hr
  have HFT := Lib.hid (show vTell R = toldG 6 false c1 from vTell_of hr (.inr ⟨rfl, rfl⟩))
  have HI := Lib.hid hi
  clear hi hr hd
  go_upto_region 9 with fail
  have HSE : Calls Tryz.prog 68 #[] w2 _ := refSealed_at w2
  go_wp2_with (go_at_call 68; (with_reducible refine HSE.mono ?_); rintro e z ⟨rfl, hbz⟩)
  have hiz := HI.out.below hbz
  have k0 : Below w.heap.size w z := K0.out.trans (hiz.but.below.mono (by have := HGW.out; omega))
  have k1 := K1.out.but hiz.but n1
  have k2 := K2.out.but hiz.but n2
  obtain ⟨lo, hlo⟩ : ∃ lo, y.heap.size = lo := ⟨_, rfl⟩
  have HLO := Lib.hid (show w.heap.size + 1 + 1 < g ∧ w.heap.size + 1 + 1 < lo by have := HGW.out; have := HGY.out; omega)
  have k4 : CurVD lo g A n cap log c1 z := by rw [← hlo]; exact hiz.cur
  clear hiz hbz hlo HI HSE
  have Z0 := Lib.hid k0
  have Z1 := Lib.hid k1
  have Z2 := Lib.hid k2
  have HTC : Calls Tryz.prog 65 #[.pointer (some ⟨g, 0, none⟩), .agg #[.int .i64 6, .bool false, .int .i64 0, .int .u64 0, .slice none 0 0]] z (TellL lo z (toldG 6 false c1)) := toldCG k4 6 false
  have HTF := Lib.hid (HFT.out)
  clear k0 k1 k2 k4
  generalize toldG 6 false c1 = V at *
  obtain ⟨vk, vi, va, vb, vd, ve, vo, vnn, vw, vis⟩ := V
  unfold TellL ToldL.val at HTC
  simp only at HTC
  obtain ⟨vn, hvn⟩ : ∃ q, vd.length = q := ⟨_, rfl⟩
  rw [hvn] at HTC
  have HVN := Lib.hid hvn
  clear hvn
  (with_reducible refine HTC.mono ?_)
  clear HTC
  rintro e w9 ⟨D, dc, rfl, hat, hdc, hdl, hof, hb3⟩
  have HAT := Lib.hid (And.intro hat (And.intro hdc (And.intro hdl hof)))
  obtain ⟨m1, ⟨a0, a1, a2, a3, a4, a5⟩, b0, b1, b2, b3, b4, b5⟩ := (Z1.out.below hb3).six
  obtain ⟨m2, ⟨r1, r2, r3, r4, r5⟩, s1, s2, s3, s4, s5⟩ := (Z2.out.below hb3).five
  have HB3 := Lib.hid (Z0.out.trans (hb3.mono Z0.out.size))
  clear hb3 hat hdc hdl hof
  go_wp2_with fail
  have hb := HB3.out
  have hlo := HLO.out
  refine bodyPost_ret (v := .tuple #[.agg #[.int .i64 vk, .int .i64 vi, .int .u64 (va : Int), .int .u64 (vb : Int), .slice D vn dc, .slice none 0 0], .agg #[.int .i64 ve, .bool vo, .int .i64 (vnn : Int), .int .u64 (vw : Int), .slice none 0 0], .bool vis]) (by simp [results, Tryz.results31, go_sem, a0, a1, a2, a3, a4, a5, r1, r2, r3, r4, r5]) rfl ?_
  rw [HTF.out]
  unfold TellW ToldL.val
  simp only []
  rw [HVN.out]
  exact ⟨D, dc, rfl, AtB.svd (Q := fun c => lo ≤ c) HAT.out.1 (by repeat (first | with_reducible exact Svd.refl _ _ | with_reducible refine Svd.drew ?_ | (with_reducible refine Svd.set ?_ _ _ _ (by omega)))) HAT.out.2.2.2, HAT.out.2.1, HAT.out.2.2.1, belA⟩
 have dd := eq1 hd
 rw [if_pos hd] at hr
 clear hd
 have HI2 := Lib.hid hi
 have HR2 := Lib.hid hr
 clear hi hr
 go_upto_region 12 with fail
 refine gen_w (P := fun W => Code.wp _ _ _ _ W) (fun z => Below w2.heap.size w2 z ∧ VarAt z w2.heap.size [.int .i64 0, .bool false, .int .i64 0, .int .u64 0, .slice none 0 0]) ⟨belA, VarAt.mk5 (by simp)⟩ ?_
 rintro z ⟨q0, q1⟩
 have hib := HI2.out.below q0
 have hiz : CurID g A n cap log w z c1 z := hib.rebase HP1.out
 have HOZ := Lib.hid (CurOk.at_ HOK.out hib.but)
 have gz : g < z.heap.size := hib.lt
 have HBZ := Lib.hid hib.but
 obtain ⟨bo, hbo⟩ : ∃ b, w2.heap.size = b := ⟨_, rfl⟩
 rw [hbo] at q1 ⊢
 have HBO := Lib.hid (show y.heap.size ≤ bo ∧ bo < z.heap.size by have := HI2.out.but.size; have := q1.1; omega)
 have nbo : bo ≠ g := by have := HBO.out; have := HGY.out; omega
 have HVB := Lib.hid q1
 have HBODY : Calls Tryz.prog 71 #[.pointer (some ⟨g, 0, none⟩), .int .i64 (t : Int), .int .u64 (kk : Int)] z _ := rPartD HB.out HR2.out z (fun hb' => rHas_prg (wb := z) HOZ gz t kk nn HT.out.1 c1 HP1.out _ hb' rfl z hiz)
 have kz := KOP.out.but hib.but n0
 obtain ⟨_, o0, o1', o2', o3'⟩ : w.heap.size < z.heap.size ∧ z.cell? ⟨w.heap.size, 0, none⟩ = some (.int .i64 13) ∧ z.cell? ⟨w.heap.size, 1, none⟩ = some (.int .i64 (ur : Int)) ∧ z.cell? ⟨w.heap.size, 2, none⟩ = some (.int .i64 v) ∧ z.cell? ⟨w.heap.size, 3, none⟩ = some (.int .u64 (x : Int)) := ⟨kz.1, kz.2.1 0 _ rfl, kz.2.1 1 _ rfl, kz.2.1 2 _ rfl, kz.2.1 3 _ rfl⟩
 clear q0 q1 hib hiz hbo HI2 HR2 kz
 have e11 : ((13 : Int) == 11) = false := by decide
 have e12 : ((13 : Int) == 12) = false := by decide
 have e13 : ((13 : Int) == 13) = true := by decide
 go_wp2_with fail
 (with_reducible refine HBODY.mono ?_)
 clear HBODY o0 o1' o2' o3'
 rintro e w3 ⟨d3, c3, rfl, hi, hr⟩
 try dsimp only at hr
 unfold rBodyV
 have hbi : Prd.vOk d3 = true → bIs d3 = rIs d3 := fun h => by
  unfold Prd.vOk at h
  rw [decide_eq_true_iff] at h
  rcases h with rfl | rfl | rfl <;> rfl
 obtain ⟨er, her⟩ : ∃ q, bEr d3 = q := ⟨_, rfl⟩
 obtain ⟨oi, hoi⟩ : ∃ q, rIs d3 = q := ⟨_, rfl⟩
 obtain ⟨okd, hokd⟩ : ∃ q, Prd.vOk d3 = q := ⟨_, rfl⟩
 rw [her, hoi, hokd]
 rw [hokd] at hr hbi
 rw [hoi] at hbi
 have HERA := Lib.hid (And.intro her (And.intro hoi hbi))
 have HX3a := Lib.hid (show RefX g A n cap log y z.heap.size c3 w3 from ⟨hi.cur, HBZ.out.trans hi.but⟩)
 have HVBa := Lib.hid (HVB.out.but hi.but nbo)
 have HR3 := Lib.hid hr
 clear her hoi hokd hi hr hbi HVB
 obtain ⟨m1, ⟨o1, o2, o3, o4, o5⟩, p1, p2, p3, p4, p5⟩ := HVBa.out.five
 go_upto_region 19 with fail
 refine gen_w (P := fun W => Code.wp _ _ _ _ W) (fun q => RefX g A n cap log y z.heap.size c3 q ∧ VarAt q bo [.int .i64 er, .bool oi, .int .i64 0, .int .u64 0, .slice none 0 0]) (by
  have hxx := HX3a.out
  have hbo := HBO.out
  have hgy := HGY.out
  exact ⟨(by repeat (first | with_reducible assumption | with_reducible refine RefX.drew ?_ | (with_reducible refine RefX.set ?_ (by omega) (by omega) (by omega) (by omega) _ _))), ((((HVBa.out.setAt 0 _ (by simp)).setAt 1 _ (by simp)).setAt 2 _ (by simp)).setAt 3 _ (by simp)).setAt 4 _ (by simp)⟩) ?_
 rintro z3 ⟨hx3, hv3⟩
 clear o1 o2 o3 o4 o5 p1 p2 p3 p4 p5 m1 HX3a HVBa
 have HX3 := Lib.hid hx3
 have HVO := Lib.hid hv3
 have hi3 : CurID g A n cap log w y c3 z3 := hx3.to (by have := HBO.out; omega)
 have c2' := hi3.two
 have hgw := hi3.lt
 have HZZ := Lib.hid (show bo < z3.heap.size ∧ y.heap.size ≤ z3.heap.size from ⟨hv3.1, hx3.but.size⟩)
 obtain ⟨m1, ⟨o1, o2, o3, o4, o5⟩, _⟩ := hv3.five
 by_cases hst : c3.stops = true
 ·rw [hst] at c2'
  have HFT := Lib.hid (show vTell R = toldG er oi c3 from vTell_of (d := 0) ((Prd.runCD_stop (p := Prd.leaveP me okd (d3 + 2)) hst _).symm.trans HR3.out) (.inl hst))
  have k0 : Below w.heap.size w z3 := K0.out.trans (hx3.but.below.mono (by have := HGW.out; omega))
  have k1 := K1.out.but hx3.but n1
  have k2 := K2.out.but hx3.but n2
  obtain ⟨lo, hlo⟩ : ∃ lo, z.heap.size = lo := ⟨_, rfl⟩
  have HLO := Lib.hid (show w.heap.size + 1 + 1 < g ∧ w.heap.size + 1 + 1 < lo by have := HGW.out; omega)
  have k4 : CurVD lo g A n cap log c3 z3 := by rw [← hlo]; exact hx3.cur
  clear hx3 hv3 hi3 hlo hst HR3
  have Z0 := Lib.hid k0
  have Z1 := Lib.hid k1
  have Z2 := Lib.hid k2
  have HTC : Calls Tryz.prog 65 #[.pointer (some ⟨g, 0, none⟩), .agg #[.int .i64 er, .bool oi, .int .i64 0, .int .u64 0, .slice none 0 0]] z3 (TellL lo z3 (toldG er oi c3)) := toldCG k4 er oi
  have HTF := Lib.hid (HFT.out)
  clear k0 k1 k2 k4
  generalize toldG er oi c3 = V at *
  obtain ⟨vk, vi, va, vb, vd, ve, vo, vnn, vw, vis⟩ := V
  unfold TellL ToldL.val at HTC
  simp only at HTC
  obtain ⟨vn, hvn⟩ : ∃ q, vd.length = q := ⟨_, rfl⟩
  rw [hvn] at HTC
  have HVN := Lib.hid hvn
  clear hvn
  go_wp2_with fail
  (with_reducible refine HTC.mono ?_)
  clear HTC
  rintro e w9 ⟨D, dc, rfl, hat, hdc, hdl, hof, hb3⟩
  have HAT := Lib.hid (And.intro hat (And.intro hdc (And.intro hdl hof)))
  obtain ⟨m1, ⟨a0, a1, a2, a3, a4, a5⟩, b0, b1, b2, b3, b4, b5⟩ := (Z1.out.below hb3).six
  obtain ⟨m2, ⟨r1, r2, r3, r4, r5⟩, s1, s2, s3, s4, s5⟩ := (Z2.out.below hb3).five
  have HB3 := Lib.hid (Z0.out.trans (hb3.mono Z0.out.size))
  clear hb3 hat hdc hdl hof
  go_wp2_with fail
  have hb := HB3.out
  have hlo := HLO.out
  refine bodyPost_ret (v := .tuple #[.agg #[.int .i64 vk, .int .i64 vi, .int .u64 (va : Int), .int .u64 (vb : Int), .slice D vn dc, .slice none 0 0], .agg #[.int .i64 ve, .bool vo, .int .i64 (vnn : Int), .int .u64 (vw : Int), .slice none 0 0], .bool vis]) (by simp [results, Tryz.results31, go_sem, a0, a1, a2, a3, a4, a5, r1, r2, r3, r4, r5]) rfl ?_
  rw [HTF.out]
  unfold TellW ToldL.val
  simp only []
  rw [HVN.out]
  exact ⟨D, dc, rfl, AtB.svd (Q := fun c => lo ≤ c) HAT.out.1 (by repeat (first | with_reducible exact Svd.refl _ _ | with_reducible refine Svd.drew ?_ | (with_reducible refine Svd.set ?_ _ _ _ (by omega)))) HAT.out.2.2.2, HAT.out.2.1, HAT.out.2.2.1, belA⟩
 have hst' : c3.stops = false := by simpa using hst
 rw [hst'] at c2'
 have hiz3 : CurID g A n cap log w z3 c3 z3 := hx3.cur.rebase (CSD.plain_of hst')
 have HOZ3 := Lib.hid (CurOk.at_ HOK.out hx3.but)
 have gz3 : g < z3.heap.size := hi3.lt
 clear hx3 hv3 hi3
 cases okd with
 | true =>
  have HER := Lib.hid (show bEr d3 = er ∧ rIs d3 = oi ∧ True ∧ bIs d3 = oi from ⟨HERA.out.1, HERA.out.2.1, trivial, HERA.out.2.2 rfl⟩)
  have hr2 : ((Prg.unpin me).up.bind fun _ => Prd.ret (d3 + 2)).runCD c3 = R := HR3.out
  have HLV := rLeaveYes_prg (wb := z3) HOZ3 gz3 me HT.out.2 (d3 + 2) er oi c3 (CSD.plain_of hst') R HB.out hr2 z3 hiz3
  have hco : ∀ d c', (Prd.ret d).runCD c' = R → c'.stops = true ∨ d = d3 + 2 := fun d c' h => code_of (p := (Prg.unpin me).up.bind fun _ => Prd.ret (d3 + 2)) (Prd.all_bind _ _ (Prd.all_triv _) fun _ _ => rfl) hr2 hst' h
  have HCO := Lib.hid hco
  clear hr2 hco hst' hiz3 hst
  go_wp2_with fail
  (with_reducible refine HLV.mono ?_)
  clear HLV c2'
  rintro e w5 ⟨d5, c5, rfl, hi, hr⟩
  have hx5 : RefX g A n cap log y z3.heap.size c5 w5 := ⟨hi.cur, HX3.out.but.trans hi.but⟩
  have HX5 := Lib.hid hx5
  have HFT := Lib.hid (show vTell R = toldG er oi c5 from vTell_of hr (by
   rcases HCO.out d5 c5 hr with h | h
   ·exact .inl h
   ·right
    subst h
    exact ⟨by show bEr (d3 + 2 - 2) = er; rw [show d3 + 2 - 2 = d3 by omega]; exact HER.out.1, by show bIs (d3 + 2 - 2) = oi; rw [show d3 + 2 - 2 = d3 by omega]; exact HER.out.2.2.2⟩))
  have HVO5 := Lib.hid (HVO.out.but hi.but nbo)
  clear hi hr hx5 HCO HVO
  obtain ⟨m1, ⟨o1, o2, o3, o4, o5⟩, p1, p2, p3, p4, p5⟩ := HVO5.out.five
  go_upto_region 22 with fail
  refine gen_w (P := fun W => Code.wp _ _ _ _ W) (fun q => RefX g A n cap log y z3.heap.size c5 q ∧ VarAt q bo [.int .i64 er, .bool oi, .int .i64 0, .int .u64 0, .slice none 0 0]) (by
   have hxx := HX5.out
   have hbo := HBO.out
   have hgy := HGY.out
   have hzz := HZZ.out
   exact ⟨(by repeat (first | with_reducible assumption | with_reducible refine RefX.drew ?_ | (with_reducible refine RefX.set ?_ (by omega) (by omega) (by omega) (by omega) _ _))), ((((HVO5.out.setAt 0 _ (by simp)).setAt 1 _ (by simp)).setAt 2 _ (by simp)).setAt 3 _ (by simp)).setAt 4 _ (by simp)⟩) ?_
  rintro q ⟨hxq, hvq⟩
  clear o1 o2 o3 o4 o5 p1 p2 p3 p4 p5 m1 HX5 HVO5
  obtain ⟨m1, ⟨o1, o2, o3, o4, o5⟩, _⟩ := hvq.five
  have k0 : Below w.heap.size w q := K0.out.trans (hxq.but.below.mono (by have := HGW.out; omega))
  have k1 := K1.out.but hxq.but n1
  have k2 := K2.out.but hxq.but n2
  obtain ⟨lo, hlo⟩ : ∃ lo, z3.heap.size = lo := ⟨_, rfl⟩
  have HLO := Lib.hid (show w.heap.size + 1 + 1 < g ∧ w.heap.size + 1 + 1 < lo by have := HZZ.out; have := HGW.out; have := HGY.out; have := HBO.out; omega)
  have k4 : CurVD lo g A n cap log c5 q := by rw [← hlo]; exact hxq.cur
  clear hxq hvq hlo
  have Z0 := Lib.hid k0
  have Z1 := Lib.hid k1
  have Z2 := Lib.hid k2
  have HTC : Calls Tryz.prog 65 #[.pointer (some ⟨g, 0, none⟩), .agg #[.int .i64 er, .bool oi, .int .i64 0, .int .u64 0, .slice none 0 0]] q (TellL lo q (toldG er oi c5)) := toldCG k4 er oi
  have HTF := Lib.hid (HFT.out)
  clear k0 k1 k2 k4
  generalize toldG er oi c5 = V at *
  obtain ⟨vk, vi, va, vb, vd, ve, vo, vnn, vw, vis⟩ := V
  unfold TellL ToldL.val at HTC
  simp only at HTC
  obtain ⟨vn, hvn⟩ : ∃ q, vd.length = q := ⟨_, rfl⟩
  rw [hvn] at HTC
  have HVN := Lib.hid hvn
  clear hvn
  go_wp2_with fail
  (with_reducible refine HTC.mono ?_)
  clear HTC
  rintro e w9 ⟨D, dc, rfl, hat, hdc, hdl, hof, hb3⟩
  have HAT := Lib.hid (And.intro hat (And.intro hdc (And.intro hdl hof)))
  obtain ⟨m1, ⟨a0, a1, a2, a3, a4, a5⟩, b0, b1, b2, b3, b4, b5⟩ := (Z1.out.below hb3).six
  obtain ⟨m2, ⟨r1, r2, r3, r4, r5⟩, s1, s2, s3, s4, s5⟩ := (Z2.out.below hb3).five
  have HB3 := Lib.hid (Z0.out.trans (hb3.mono Z0.out.size))
  clear hb3 hat hdc hdl hof
  go_wp2_with fail
  have hb := HB3.out
  have hlo := HLO.out
  refine bodyPost_ret (v := .tuple #[.agg #[.int .i64 vk, .int .i64 vi, .int .u64 (va : Int), .int .u64 (vb : Int), .slice D vn dc, .slice none 0 0], .agg #[.int .i64 ve, .bool vo, .int .i64 (vnn : Int), .int .u64 (vw : Int), .slice none 0 0], .bool vis]) (by simp [results, Tryz.results31, go_sem, a0, a1, a2, a3, a4, a5, r1, r2, r3, r4, r5]) rfl ?_
  rw [HTF.out]
  unfold TellW ToldL.val
  simp only []
  rw [HVN.out]
  exact ⟨D, dc, rfl, AtB.svd (Q := fun c => lo ≤ c) HAT.out.1 (by repeat (first | with_reducible exact Svd.refl _ _ | with_reducible refine Svd.drew ?_ | (with_reducible refine Svd.set ?_ _ _ _ (by omega)))) HAT.out.2.2.2, HAT.out.2.1, HAT.out.2.2.1, belA⟩
 | false =>
  have hr2 : (Prd.ask 1 7 1 0 [] fun _ => (Prg.unpin me).up.bind fun _ => Prd.ret (0)).runCD c3 = R := HR3.out
  have HLV := rLeaveNo_prg (wb := z3) HOZ3 gz3 me HT.out.2 (0) er oi c3 (CSD.plain_of hst') R HB.out hr2 z3 hiz3
  have hco : ∀ d c', (Prd.ret d).runCD c' = R → c'.stops = true ∨ d = 0 := fun d c' h => code_of (p := Prd.ask 1 7 1 0 [] fun _ => (Prg.unpin me).up.bind fun _ => Prd.ret (0)) (fun _ => Prd.all_bind _ _ (Prd.all_triv _) fun _ _ => rfl) hr2 hst' h
  have HCO := Lib.hid hco
  clear hr2 hco hst' hiz3 hst
  go_wp2_with fail
  (with_reducible refine HLV.mono ?_)
  clear HLV c2'
  rintro e w5 ⟨d5, c5, rfl, hi, hr⟩
  have hx5 : RefX g A n cap log y z3.heap.size c5 w5 := ⟨hi.cur, HX3.out.but.trans hi.but⟩
  have HX5 := Lib.hid hx5
  have HFT := Lib.hid (show vTell R = toldG 7 false c5 from vTell_of hr (by
   rcases HCO.out d5 c5 hr with h | h
   ·exact .inl h
   ·right
    subst h
    exact ⟨rfl, rfl⟩))
  have HVO5 := Lib.hid (HVO.out.but hi.but nbo)
  clear hi hr hx5 HCO HVO
  obtain ⟨m1, ⟨o1, o2, o3, o4, o5⟩, p1, p2, p3, p4, p5⟩ := HVO5.out.five
  go_upto_region 22 with fail
  refine gen_w (P := fun W => Code.wp _ _ _ _ W) (fun q => RefX g A n cap log y z3.heap.size c5 q ∧ VarAt q bo [.int .i64 7, .bool false, .int .i64 0, .int .u64 0, .slice none 0 0]) (by
   have hxx := HX5.out
   have hbo := HBO.out
   have hgy := HGY.out
   have hzz := HZZ.out
   exact ⟨(by repeat (first | with_reducible assumption | with_reducible refine RefX.drew ?_ | (with_reducible refine RefX.set ?_ (by omega) (by omega) (by omega) (by omega) _ _))), ((((HVO5.out.setAt 0 _ (by simp)).setAt 1 _ (by simp)).setAt 2 _ (by simp)).setAt 3 _ (by simp)).setAt 4 _ (by simp)⟩) ?_
  rintro q ⟨hxq, hvq⟩
  clear o1 o2 o3 o4 o5 p1 p2 p3 p4 p5 m1 HX5 HVO5
  obtain ⟨m1, ⟨o1, o2, o3, o4, o5⟩, _⟩ := hvq.five
  have k0 : Below w.heap.size w q := K0.out.trans (hxq.but.below.mono (by have := HGW.out; omega))
  have k1 := K1.out.but hxq.but n1
  have k2 := K2.out.but hxq.but n2
  obtain ⟨lo, hlo⟩ : ∃ lo, z3.heap.size = lo := ⟨_, rfl⟩
  have HLO := Lib.hid (show w.heap.size + 1 + 1 < g ∧ w.heap.size + 1 + 1 < lo by have := HZZ.out; have := HGW.out; have := HGY.out; have := HBO.out; omega)
  have k4 : CurVD lo g A n cap log c5 q := by rw [← hlo]; exact hxq.cur
  clear hxq hvq hlo
  have Z0 := Lib.hid k0
  have Z1 := Lib.hid k1
  have Z2 := Lib.hid k2
  have HTC : Calls Tryz.prog 65 #[.pointer (some ⟨g, 0, none⟩), .agg #[.int .i64 7, .bool false, .int .i64 0, .int .u64 0, .slice none 0 0]] q (TellL lo q (toldG 7 false c5)) := toldCG k4 7 false
  have HTF := Lib.hid (HFT.out)
  clear k0 k1 k2 k4
  generalize toldG 7 false c5 = V at *
  obtain ⟨vk, vi, va, vb, vd, ve, vo, vnn, vw, vis⟩ := V
  unfold TellL ToldL.val at HTC
  simp only at HTC
  obtain ⟨vn, hvn⟩ : ∃ q, vd.length = q := ⟨_, rfl⟩
  rw [hvn] at HTC
  have HVN := Lib.hid hvn
  clear hvn
  go_wp2_with fail
  (with_reducible refine HTC.mono ?_)
  clear HTC
  rintro e w9 ⟨D, dc, rfl, hat, hdc, hdl, hof, hb3⟩
  have HAT := Lib.hid (And.intro hat (And.intro hdc (And.intro hdl hof)))
  obtain ⟨m1, ⟨a0, a1, a2, a3, a4, a5⟩, b0, b1, b2, b3, b4, b5⟩ := (Z1.out.below hb3).six
  obtain ⟨m2, ⟨r1, r2, r3, r4, r5⟩, s1, s2, s3, s4, s5⟩ := (Z2.out.below hb3).five
  have HB3 := Lib.hid (Z0.out.trans (hb3.mono Z0.out.size))
  clear hb3 hat hdc hdl hof
  go_wp2_with fail
  have hb := HB3.out
  have hlo := HLO.out
  refine bodyPost_ret (v := .tuple #[.agg #[.int .i64 vk, .int .i64 vi, .int .u64 (va : Int), .int .u64 (vb : Int), .slice D vn dc, .slice none 0 0], .agg #[.int .i64 ve, .bool vo, .int .i64 (vnn : Int), .int .u64 (vw : Int), .slice none 0 0], .bool vis]) (by simp [results, Tryz.results31, go_sem, a0, a1, a2, a3, a4, a5, r1, r2, r3, r4, r5]) rfl ?_
  rw [HTF.out]
  unfold TellW ToldL.val
  simp only []
  rw [HVN.out]
  exact ⟨D, dc, rfl, AtB.svd (Q := fun c => lo ≤ c) HAT.out.1 (by repeat (first | with_reducible exact Svd.refl _ _ | with_reducible refine Svd.drew ?_ | (with_reducible refine Svd.set ?_ _ _ _ (by omega)))) HAT.out.2.2.2, HAT.out.2.1, HAT.out.2.2.1, belA⟩
theorem vRefNext_at (t : Nat) (ht : t ≤ 64) (me : Nat) (hme : me < 1000000) (k u v : Int) (x : Nat) (A : Option Addr) (n cap : Nat) (log : List Res) (hc : n ≤ cap) (w : World) (hl : Hid (LogAt w A n log)) :
  Calls Tryz.prog 31 #[.int .i64 (t : Int), .int .i64 (me : Int), .agg #[.int .i64 k, .int .i64 u, .int .i64 v, .int .u64 (x : Int)], .slice A n cap] w (TellW w (vTell (vNextR t me k u log))) := by
 have hbb := vNextR_ok t me k u log
 unfold vNextR vPrg at *
 by_cases hk : k = 11 ∨ k = 12 ∨ k = 13
 case neg =>
  rw [if_neg hk]
  exact vRefNext_kind t me k u v x (by omega) A n cap log hc w hl
 rw [if_pos hk] at hbb ⊢
 by_cases hu : keyIsV u
 case neg =>
  rw [if_neg hu]
  exact vRefNext_key t me k u v x (by omega) hu A n cap log hc w hl
 rw [if_pos hu] at hbb ⊢
 obtain ⟨ur, rfl⟩ : ∃ ur : Nat, u = (ur : Int) := ⟨u.toNat, by have := hu.1; omega⟩
 have hur : ur < 1073741824 := by have := hu.2; omega
 rw [Int.toNat_natCast] at hbb ⊢
 rcases hk with rfl | rfl | rfl
 ·exact vRefNext_11 t ht me hme v ur _ hur rfl x _ A n cap log hc _ hbb rfl w hl
 ·exact vRefNext_12 t ht me hme v ur _ hur rfl x _ A n cap log hc _ hbb rfl w hl
 ·exact vRefNext_13 t ht me hme v ur _ hur rfl x _ A n cap log hc _ hbb rfl w hl
end Go.Proofs.YtibpfkcackdbgaaGreatDoor
