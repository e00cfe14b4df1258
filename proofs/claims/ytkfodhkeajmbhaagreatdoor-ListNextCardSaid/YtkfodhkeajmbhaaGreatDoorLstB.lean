/-
  Texts of one kind, one behind the other: LstRef, LstRefB, LstRefC, LstRefNext.
-/
import Derived.Test.YtkfodhkeajmbhaaGreatDoorLstA
import Derived.Test.YtkfodhkeajmbhaaGreatDoorEpcC
import Derived.Test.YtkfodhkeajmbhaaGreatDoorSavB
import Derived.Test.YtkfodhkeajmbhaaGreatDoorLstNext
namespace Go.Proofs.YtkfodhkeajmbhaaGreatDoor
set_option linter.unusedVariables false
set_option maxRecDepth 100000

set_option linter.unusedSectionVars false

open Go.ChangeShapes Go.WideShapes Go.ChangeAt Go.RowKit Go.BigFrame

section
variable {g : Nat} {A : Option Addr} {n cap : Nat} {log : List Res} {w0 wb : World} (OK : Hid (CurOk g A n log w0 wb))
/-- A call that is a program's part. -/
def GoRC (g : Nat) (A : Option Addr) (n cap : Nat) (log : List Res) (w0 wb : World) (R : RanD (List Res)) (ret : Nat → Value) (q : Nat → Prd) (e : Ending) (w' : World) : Prop :=
  ∃ d c', e = .returned (ret d) ∧ CurID g A n cap log w0 wb c' w' ∧ (q d).runCD c' = R
theorem rPartD {R : RanD (List Res)} (hb : R ≠ .bad) {p : Prd} {q : Nat → Prd} {c : CSD} {F : FuncId} {args : Array Value} {ret : Nat → Value} (hR : (p.bind q).runCD c = R) (w : World)
    (h : p.runCD c ≠ .bad → Calls Tryz.prog F args w (RefD g A n cap log w0 wb ret (p.runCD c))) : Calls Tryz.prog F args w (GoRC g A n cap log w0 wb R ret q) := by
  have hp : p.runCD c ≠ .bad := by
    intro h
    rw [Prd.runCD_bind, h] at hR
    exact hb hR.symm
  refine (h hp).mono ?_
  rintro e w' ⟨d, c', rfl, hi, hr⟩
  refine ⟨d, c', rfl, hi, ?_⟩
  have h2 : ((Prd.ret d).bind q).runCD c' = R := by rw [Prd.runCD_bind, hr, ← Prd.runCD_bind]; exact hR
  exact h2
theorem CSD.plain_of {c : CSD} (h : c.stops = false) : c.plain := by
  cases c with
  | «at» s => trivial
  | stop k i a b d => cases h
include OK
/-! ### Retire -/
set_option maxHeartbeats 4000000 in
theorem rRetireU_prg (t : Nat) (ht : t ≤ 64) (r : Nat) (h1 : 1 ≤ r) (hr : r < 1048576) (m : Nat) (c : CSD) (hb : (Prg.retire t r m).up.runCD c ≠ .bad) (w : World) (hI : CurID g A n cap log w0 wb c w) :
    Calls Tryz.prog 87 #[.pointer (some ⟨g, 0, none⟩), .int .i64 (t : Int), .int .i64 (r : Int)] w (RefD g A n cap log w0 wb (fun _ => .tuple #[]) ((Prg.retire t r m).up.runCD c)) := by
  have hR : (Prd.ask 0 3 0 0 [] fun e => (Prg.retireL t r (limboN e) m).up).runCD c = (Prg.retire t r m).up.runCD c := rfl
  generalize (Prg.retire t r m).up.runCD c = R at *
  have HL := rLoadD (cap := cap) (wb := wb) OK hR
  have HB := Lib.hid hb
  have HI := Lib.hid hI
  have HK : ∀ w, Calls Tryz.prog 17 #[.int .i64 (t : Int), .int .i64 (r : Int), .int .i64 7] w fun e w' => e = .returned (.int .i64 (fieldN t r 7 : Nat)) ∧ w = w' := fun w => refField_any t r 7 (by omega) h1 (by omega) (by omega) w
  have hcv : IntKind.u64.wrap (r : Int) = (r : Int) := by rw [IntKind.wrap_u64]; omega
  clear hI hb hR ht h1 hr
  obtain ⟨fl, hfl⟩ : ∃ x, fieldN t r 7 = x := ⟨_, rfl⟩
  rw [hfl] at HK
  have HFL := Lib.hid hfl
  clear hfl
  go_enter Tryz.func87, Tryz.ntmps87
  go_wp2_with fail
  (with_reducible refine (HL _ HI.out).mono ?_)
  clear HL HI
  rintro e w2 ⟨x, c2, rfl, hd, hi, hbt, hr⟩
  dsimp only at hr
  have HLI := rLimbo_any x
  generalize limboN x = l at *
  obtain ⟨J, hJ⟩ : ∃ J : Nat → World → Prop, J = fun m wr => ∃ c, CurID g A n cap log w0 wb c wr ∧ (Prg.retireL t r l m).up.runCD c = R := ⟨_, rfl⟩
  have HJ : ∀ m wr, J m wr ↔ ∃ c, CurID g A n cap log w0 wb c wr ∧ (Prg.retireL t r l m).up.runCD c = R := fun m wr => by rw [hJ]
  have HJ0 := Lib.hid (show ∃ m, J m w2 from ⟨m, (HJ _ _).2 ⟨c2, hi, hr⟩⟩)
  have HJH := Lib.hid HJ
  clear hJ hd hi hbt hr HJ
  go_wp2_with fail
  go_loopw [7, 8] (fun _ _ wr => ∃ m, J m wr) (fun _ _ wr => cnt J wr)
  case atStart => exact HJ0.out
  case round =>
    clear HJ0
    have hj := cnt_spec hrel
    clear hrel
    generalize hm : cnt J wr = m' at *
    have HM := Lib.hid hm
    clear hm
    obtain ⟨c3, hS, hr⟩ := (HJH.out _ _).1 hj
    clear hj
    have c2' := hS.two
    have hgw := hS.lt
    by_cases hst : c3.stops = true
    · rw [hst] at c2'
      have HE := Lib.hid (RefD.fin (ret := fun _ => .tuple #[]) (d := 0) ((Prd.runCD_stop (p := (Prg.retireL t r l m').up) hst _).symm.trans hr) hS)
      clear hS hst hr
      go_wp2_with fail
      go_end0
      exact HE.out
    have hst' : c3.stops = false := by simpa using hst
    rw [hst'] at c2'
    cases m' with
    | zero =>
      cases c3 with
      | «at» s => exact absurd hr.symm HB.out
      | stop k i a b d => exact absurd rfl hst
    | succ m' =>
    have hr1 : (Prd.ask 0 ((l : Nat) : Int) 0 0 [] fun h => Prd.ask 1 ((fieldN t r 7 : Nat) : Int) h 0 [] fun _ => Prd.ask 2 ((l : Nat) : Int) h r [] fun d => (if d = 1 then Prg.ret 0 else Prg.retireL t r l m').up).runCD c3 = R := hr
    rw [HFL.out] at hr1
    have HL := rLoadD (cap := cap) (wb := wb) OK hr1
    have HI3 := Lib.hid hS
    clear hS hr hr1 hst hst'
    go_wp2_with (first | (go_at_call 106; (with_reducible refine (HLI _).mono ?_); rintro e w' ⟨rfl, rfl⟩))
    (with_reducible refine (HL _ HI3.out).mono ?_)
    clear HL HI3 c2' hgw
    rintro e w4 ⟨h, c4, rfl, hd, hi, hbt, hr⟩
    dsimp only at hr
    have HS := rStoreD (cap := cap) (wb := wb) OK hr
    have HI4 := Lib.hid hi
    clear hd hi hbt hr
    go_wp2_with (first | (go_at_call 17; (with_reducible refine (HK _).mono ?_); rintro e w' ⟨rfl, rfl⟩))
    (with_reducible refine (HS _ HI4.out).mono ?_)
    clear HS HI4
    rintro e w5 ⟨h5, c5, rfl, hd, hi, hbt, hr⟩
    dsimp only at hr
    have HC := rCasD (cap := cap) (wb := wb) OK hr
    have HI5 := Lib.hid hi
    clear hd hi hbt hr
    go_wp2_with (first | (go_at_call 106; (with_reducible refine (HLI _).mono ?_); rintro e w' ⟨rfl, rfl⟩))
    (with_reducible refine (HC _ HI5.out).mono ?_)
    clear HC HI5
    rintro e w6 ⟨d, c6, rfl, hd, hi, hbt, hr⟩
    dsimp only at hr
    clear hd hbt
    by_cases hd : d = 1
    · rw [if_pos hd] at hr
      have dd := eq1 hd
      have HE := Lib.hid (RefD.fin (ret := fun _ => .tuple #[]) hr hi)
      clear hr hd hi
      go_wp2_with fail
      exact bodyPost_ret (v := .tuple #[]) (by simp [results, Tryz.results87, go_sem]) rfl HE.out
    · rw [if_neg hd] at hr
      have dd := ne1 hd
      have hj : J m' w6 := (HJH.out _ _).2 ⟨c6, hi, hr⟩
      have HJ6 := Lib.hid hj
      clear hr hd hi hj
      go_wp2_with fail
      go_roundw
      case rel => exact ⟨m', HJ6.out⟩
      case measure => exact cnt_lt HJ6.out (Nat.lt_succ_self m')

/-! ### out -/
set_option maxHeartbeats 2000000 in
theorem rOut_prg (hgb : g < wb.heap.size) (t p x v m : Nat) (ht : t ≤ 64) (hp : p < 1048576) (h1 : 1 ≤ x) (hx : x < 1048576) (hv : v < 18446744073709551616) (c : CSD) (hpl : c.plain) (hb : (Prd.takeOut t p x v m).runCD c ≠ .bad) (w : World) (hI : CurID g A n cap log w0 wb c w) :
    Calls Tryz.prog 63 #[.pointer (some ⟨g, 0, none⟩), .int .i64 (t : Int), .int .i64 (p : Int), .int .i64 (x : Int), .int .u64 (v : Int)] w (RefD g A n cap log w0 wb tkOutV ((Prd.takeOut t p x v m).runCD c)) := by
  generalize hR : (Prd.takeOut t p x v m).runCD c = R at hb ⊢
  unfold Prd.takeOut at hR
  have HS : Calls Tryz.prog 86 #[.pointer (some ⟨g, 0, none⟩), .int .i64 (t : Int), .int .i64 (x : Int), .int .i64 2] w _ := rPartD hb hR w (fun hb' => rSave_prg OK hgb t x 2 m ht h1 hx (.inr rfl) c hpl _ hb' rfl w hI)
  have hrv := refN_lt v
  have HRF := fun w => refRef_any v hv w
  have HKN := fun w => refNext_any t p (by omega) (by omega) w
  have HLX := fun w => refLink_any x false hx w
  have HLR := fun w => refLink_any (refN v) false hrv w
  have HX := Lib.hid (And.intro ht (And.intro h1 hx))
  have HB := Lib.hid hb
  clear hI hR ht hp h1 hx hv hb hgb hpl
  generalize refN v = rv at *
  go_enter Tryz.func63, Tryz.ntmps63
  go_wp2_with fail
  (with_reducible refine HS.mono ?_)
  clear HS
  rintro e w2 ⟨d, c2, rfl, hi, hr⟩
  dsimp only at hr
  by_cases hd : d = 1
  · have dd := eq1 hd
    rw [if_pos hd] at hr
    have HC := rCasD (cap := cap) (wb := wb) OK hr w2 hi
    clear hi hr hd hrv
    generalize nextN t p = np at *
    generalize linkN x false = lx at *
    generalize linkN rv false = lr at *
    go_wp2_with (first | (go_at_call 20; (with_reducible refine (HKN _).mono ?_); rintro e w' ⟨rfl, rfl⟩) | (go_at_call 41; (with_reducible refine (HRF _).mono ?_); rintro e w' ⟨rfl, rfl⟩) | (go_at_call 65; (first | with_reducible refine (HLX _).mono ?_ | with_reducible refine (HLR _).mono ?_); rintro e w' ⟨rfl, rfl⟩))
    (with_reducible refine HC.mono ?_)
    clear HC dd
    rintro e w3 ⟨d2, c3, rfl, hn, hi, hbt, hr⟩
    dsimp only at hr
    by_cases hd2 : d2 = 1
    · have dd := eq1 hd2
      rw [if_pos hd2] at hr
      have HT := rPartD (F := 87) (args := #[.pointer (some ⟨g, 0, none⟩), .int .i64 (t : Int), .int .i64 (x : Int)]) (ret := fun _ => .tuple #[]) HB.out hr w3 (fun hb' => rRetireU_prg OK t HX.out.1 x HX.out.2.1 HX.out.2.2 m c3 hb' w3 hi)
      clear hn hi hbt hr hd2
      go_wp2_with fail
      (with_reducible refine HT.mono ?_)
      clear HT
      rintro e w4 ⟨d4, c4, rfl, hi, hr⟩
      dsimp only at hr
      have HE := RefD.fin (ret := tkOutV) hr hi
      rw [tkOut_3] at HE
      replace HE := Lib.hid HE
      clear hi hr
      go_wp2_with fail
      exact bodyPost_ret (v := .tuple #[.bool true, .bool true]) (by simp [results, Tryz.results63, go_sem]) rfl HE.out
    · have dd := ne1 hd2
      rw [if_neg hd2] at hr
      have HE := RefD.fin (ret := tkOutV) hr hi
      rw [tkOut_1] at HE
      replace HE := Lib.hid HE
      clear hn hi hbt hr hd2
      go_wp2_with fail
      exact bodyPost_ret (v := .tuple #[.bool false, .bool true]) (by simp [results, Tryz.results63, go_sem]) rfl HE.out
  · have dd := ne1 hd
    rw [if_neg hd] at hr
    have HE := RefD.fin (ret := tkOutV) hr hi
    rw [tkOut_0] at HE
    replace HE := Lib.hid HE
    clear hi hr hd hrv
    go_wp2_with fail
    exact bodyPost_ret (v := .tuple #[.bool false, .bool false]) (by simp [results, Tryz.results63, go_sem]) rfl HE.out

/-! ### Link, Mark -/
theorem rLink_prg (t p x r : Nat) (ht : t ≤ 64) (hp : p < 1048576) (hx : x < 1048576) (hr : r < 1048576) (c : CSD) (R : RanD (List Res)) (hR : (Prd.link t p x r).runCD c = R) (w : World) (hI : CurID g A n cap log w0 wb c w) :
    Calls Tryz.prog 34 #[.pointer (some ⟨g, 0, none⟩), .int .i64 (t : Int), .int .i64 (p : Int), .int .i64 (x : Int), .int .i64 (r : Int)] w (RefD g A n cap log w0 wb (fun d => .bool ((d : Int) == 1)) R) := by
  unfold Prd.link Prd.turnP at hR
  have HKR := fun w => refNext_any t r (by omega) (by omega) w
  have HKP := fun w => refNext_any t p (by omega) (by omega) w
  have HLX := fun w => refLink_any x false hx w
  have HLR := fun w => refLink_any r false hr w
  have HS := rStoreD (cap := cap) (wb := wb) OK hR w hI
  clear hI hR ht hp hx hr
  obtain ⟨np, hnp⟩ : ∃ z, nextN t p = z := ⟨_, rfl⟩
  obtain ⟨nr, hnr⟩ : ∃ z, nextN t r = z := ⟨_, rfl⟩
  obtain ⟨lx, hlx⟩ : ∃ z, linkN x false = z := ⟨_, rfl⟩
  obtain ⟨lr, hlr⟩ : ∃ z, linkN r false = z := ⟨_, rfl⟩
  simp only [hnp, hnr, hlx, hlr] at HKR HKP HLX HLR HS
  clear hnp hnr hlx hlr
  go_enter Tryz.func34, Tryz.ntmps34
  go_wp2_with (first | (go_at_call 20; (first | with_reducible refine (HKR _).mono ?_ | with_reducible refine (HKP _).mono ?_); rintro e w' ⟨rfl, rfl⟩) | (go_at_call 65; (first | with_reducible refine (HLX _).mono ?_ | with_reducible refine (HLR _).mono ?_); rintro e w' ⟨rfl, rfl⟩))
  (with_reducible refine HS.mono ?_)
  clear HS
  rintro e w2 ⟨d, c2, rfl, hn, hi, hbt, hr⟩
  dsimp only at hr
  have HC := rCasD (cap := cap) (wb := wb) OK hr w2 hi
  clear hn hi hbt hr
  go_wp2_with (first | (go_at_call 20; (first | with_reducible refine (HKR _).mono ?_ | with_reducible refine (HKP _).mono ?_); rintro e w' ⟨rfl, rfl⟩) | (go_at_call 65; (first | with_reducible refine (HLX _).mono ?_ | with_reducible refine (HLR _).mono ?_); rintro e w' ⟨rfl, rfl⟩))
  (with_reducible refine HC.mono ?_)
  clear HC
  rintro e w3 ⟨d2, c3, rfl, hn, hi, hbt, hr⟩
  dsimp only at hr
  have HE := Lib.hid (RefD.fin (ret := fun d => .bool ((d : Int) == 1)) hr hi)
  clear hn hi hbt hr
  go_wp2_with fail
  go_ret
  exact HE.out
theorem rMark_prg (t r : Nat) (ht : t ≤ 64) (hr : r < 1048576) (c : CSD) (R : RanD (List Res)) (hR : (Prd.mark t r).runCD c = R) (w : World) (hI : CurID g A n cap log w0 wb c w) :
    Calls Tryz.prog 35 #[.pointer (some ⟨g, 0, none⟩), .int .i64 (t : Int), .int .i64 (r : Int)] w (RefD g A n cap log w0 wb (fun d => .bool ((d : Int) == 1)) R) := by
  unfold Prd.mark Prd.markW at hR
  have HKR := fun w => refNext_any t r (by omega) (by omega) w
  have HL := rLoadD (cap := cap) (wb := wb) OK hR w hI
  clear hI hR ht hr
  generalize nextN t r = nr at *
  go_enter Tryz.func35, Tryz.ntmps35
  go_wp2_with (go_at_call 20; (with_reducible refine (HKR _).mono ?_); rintro e w' ⟨rfl, rfl⟩)
  (with_reducible refine HL.mono ?_)
  clear HL
  rintro e w2 ⟨v, c2, rfl, hn, hi, hbt, hr⟩
  dsimp only at hr
  have HM := fun w => refMark_any v hn w
  cases hm : markB v with
  | true =>
    rw [hm] at HM
    rw [if_pos hm] at hr
    have HE := Lib.hid (RefD.fin (ret := fun d => .bool ((d : Int) == 1)) hr hi)
    clear hn hi hbt hr hm
    go_wp2_with (go_at_call 62; (with_reducible refine (HM _).mono ?_); rintro e w' ⟨rfl, rfl⟩)
    go_ret
    exact HE.out
  | false =>
    rw [hm] at HM
    rw [if_neg (by rw [hm]; decide)] at hr
    have hw1 : IntKind.u64.wrap ((v : Int) + 1) = ((v + 1 : Nat) : Int) := by have := (or_mark hn hm).2; rw [IntKind.wrap_u64]; omega
    have HC := rCasD (cap := cap) (wb := wb) OK hr w2 hi
    clear hn hi hbt hr hm
    generalize v + 1 = v1 at *
    go_wp2_with (first | (go_at_call 62; (with_reducible refine (HM _).mono ?_); rintro e w' ⟨rfl, rfl⟩) | (go_at_call 20; (with_reducible refine (HKR _).mono ?_); rintro e w' ⟨rfl, rfl⟩))
    (with_reducible refine HC.mono ?_)
    clear HC
    rintro e w3 ⟨d2, c3, rfl, hn, hi, hbt, hr⟩
    dsimp only at hr
    have HE := Lib.hid (RefD.fin (ret := fun d => .bool ((d : Int) == 1)) hr hi)
    clear hn hi hbt hr
    go_wp2_with fail
    go_ret
    exact HE.out
end
end Go.Proofs.YtkfodhkeajmbhaaGreatDoor
namespace Go.Proofs.YtkfodhkeajmbhaaGreatDoor
set_option linter.unusedVariables false
set_option maxRecDepth 100000

set_option linter.unusedSectionVars false

open Go.ChangeShapes Go.WideShapes Go.ChangeAt Go.RowKit Go.BigFrame

section
variable {g : Nat} {A : Option Addr} {n cap : Nat} {log : List Res} {w0 wb : World} (OK : Hid (CurOk g A n log w0 wb))
/-! ### Seek -/
structure RSeekI (g : Nat) (A : Option Addr) (n cap : Nat) (log : List Res) (w0 wb : World) (t k : Nat) (R : RanD (List Res)) (m : Nat) (vx : Value) (w : World) : Prop where
  ex : ∃ (x : Nat) (c : CSD), vx = .int .i64 (x : Int) ∧ x < 1048576 ∧ CurID g A n cap log w0 wb c w ∧ (Prd.seekL t k m x).runCD c = R
include OK
set_option maxHeartbeats 4000000 in
set_option maxRecDepth 100000 in
theorem rSeek_prg (t f k m : Nat) (ht : t ≤ 64) (hf : f < 1048576) (c : CSD) (R : RanD (List Res)) (hb : R ≠ .bad) (hR : (Prd.seek t f k m).runCD c = R) (w : World) (hI : CurID g A n cap log w0 wb c w) :
    Calls Tryz.prog 33 #[.pointer (some ⟨g, 0, none⟩), .int .i64 (t : Int), .int .i64 (f : Int), .int .u64 (k : Int)] w (RefD g A n cap log w0 wb seekV R) := by
  unfold Prd.seek at hR
  have HKR := fun w => refNext_any t f (by omega) (by omega) w
  have HL := rLoadD (cap := cap) (wb := wb) OK hR w hI
  have HT := Lib.hid ht
  have HB := Lib.hid hb
  clear hI hR ht hf hb
  generalize nextN t f = nf at *
  go_enter Tryz.func33, Tryz.ntmps33
  go_wp2_with (go_at_call 20; (with_reducible refine (HKR _).mono ?_); rintro e w' ⟨rfl, rfl⟩)
  (with_reducible refine HL.mono ?_)
  clear HL HKR
  rintro e w2 ⟨y, c2, rfl, hn, hi, hbt, hr⟩
  try dsimp only at hr
  have HRF := fun w => refRef_any y hn w
  have HJ0 := Lib.hid (show ∃ m, RSeekI g A n cap log w0 wb t k R m (.int .i64 ((refN y : Nat) : Int)) w2 from ⟨m, ⟨refN y, c2, rfl, refN_lt y, hi, hr⟩⟩)
  clear hn hi hbt hr
  generalize refN y = ry at *
  go_wp2_with (go_at_call 41; (with_reducible refine (HRF _).mono ?_); rintro e w' ⟨rfl, rfl⟩)
  clear HRF
  go_loopw [10] (fun vx wr => ∃ m, RSeekI g A n cap log w0 wb t k R m vx wr) (fun vx wr => cnt (fun m wr => RSeekI g A n cap log w0 wb t k R m vx wr) wr)
  case atStart => exact HJ0.out
  case round =>
    clear HJ0
    have hj := cnt_spec (J := fun m wr => RSeekI g A n cap log w0 wb t k R m u10 wr) hrel
    clear hrel
    generalize hm : cnt (fun m wr => RSeekI g A n cap log w0 wb t k R m u10 wr) wr = m at *
    have HM := Lib.hid hm
    clear hm
    obtain ⟨x, c3, rfl, hx, hi, hr⟩ := hj
    have ct := hi.two
    have hgw := hi.lt
    by_cases hx0 : x = 0
    · subst hx0
      have hE : RefD g A n cap log w0 wb seekV R (.returned (.tuple #[.int .i64 0, .bool false])) wr := by
        have h0 : (Prd.ret 0).runCD c3 = R := by
          cases m with
          | zero =>
            cases c3 with
            | «at» s => exact absurd hr.symm HB.out
            | stop k i a b d => exact hr
          | succ m => exact hr
        exact RefD.fin (ret := seekV) h0 hi
      have HE := Lib.hid hE
      clear hr hi hx hE
      go_wp2_with fail
      exact bodyPost_ret (v := .tuple #[.int .i64 0, .bool false]) (by simp [results, Tryz.results33, go_sem]) rfl HE.out
    have dx : ((x : Int) != 0) = true := by rw [bne_iff_ne]; omega
    by_cases hst : c3.stops = true
    · rw [hst] at ct
      have HE := Lib.hid (RefD.fin (ret := seekV) (d := 0) ((Prd.runCD_stop (p := Prd.seekL t k m x) hst _).symm.trans hr) hi)
      rw [show seekV 0 = .tuple #[.int .i64 0, .bool false] from rfl] at HE
      clear hi hst hr hx0
      go_wp2_with fail
      exact bodyPost_ret (v := .tuple #[.int .i64 0, .bool false]) (by simp [results, Tryz.results33, go_sem]) rfl HE.out
    have hst' : c3.stops = false := by simpa using hst
    rw [hst'] at ct
    cases m with
    | zero =>
      cases c3 with
      | «at» s => exact absurd hr.symm HB.out
      | stop k i a b d => exact absurd rfl hst
    | succ m =>
    have hr1 : (Prd.ask 0 ((fieldN t x 1 : Nat) : Int) 0 0 [] fun a => if k ≤ a then Prd.ret (2 * x + if a = k then 1 else 0) else Prd.ask 0 ((fieldN t x 0 : Nat) : Int) 0 0 [] fun w => Prd.seekL t k m (refN w)).runCD c3 = R := by
      rw [← hr]
      conv => rhs; unfold Prd.seekL
      rw [if_neg hx0]
    have HK0 : ∀ w, Calls Tryz.prog 17 #[.int .i64 (t : Int), .int .i64 (x : Int), .int .i64 0] w fun e w' => e = .returned (.int .i64 (fieldN t x 0 : Nat)) ∧ w = w' := fun w => refField_any t x 0 (by have := HT.out; omega) (by omega) (by omega) (by omega) w
    have HK1 : ∀ w, Calls Tryz.prog 17 #[.int .i64 (t : Int), .int .i64 (x : Int), .int .i64 1] w fun e w' => e = .returned (.int .i64 (fieldN t x 1 : Nat)) ∧ w = w' := fun w => refField_any t x 1 (by have := HT.out; omega) (by omega) (by omega) (by omega) w
    have HL := rLoadD (cap := cap) (wb := wb) OK hr1 wr hi
    clear hi hr hr1 hx0 hst hst'
    generalize fieldN t x 0 = f0 at *
    generalize fieldN t x 1 = f1 at *
    go_wp2_with (go_at_call 17; (with_reducible refine (HK1 _).mono ?_); rintro e w' ⟨rfl, rfl⟩)
    (with_reducible refine HL.mono ?_)
    clear HL ct hgw
    rintro e w4 ⟨a, c4, rfl, hn, hi, hbt, hr⟩
    try dsimp only at hr
    clear hbt hn
    by_cases hka : k ≤ a
    · rw [if_pos hka] at hr
      have dk : decide (k ≤ a) = true := by rw [decide_eq_true_iff]; omega
      have HE := RefD.fin (ret := seekV) hr hi
      have e1 : seekV (2 * x + if a = k then 1 else 0) = .tuple #[.int .i64 (x : Int), .bool ((a : Int) == (k : Int))] := by
        have h1 : (2 * x + if a = k then 1 else 0) / 2 = x := by split <;> omega
        have h2 : decide ((2 * x + if a = k then 1 else 0) % 2 = 1) = ((a : Int) == (k : Int)) := by
          by_cases h : a = k
          · subst h; simp
          · have : ((a : Int) == (k : Int)) = false := by rw [beq_eq_false_iff_ne]; omega
            rw [this, if_neg h, decide_eq_false_iff_not]; omega
        unfold seekV
        rw [h1, h2]
      rw [e1] at HE
      replace HE := Lib.hid HE
      clear hi hr hka e1
      go_wp2_with fail
      exact bodyPost_ret (v := .tuple #[.int .i64 (x : Int), .bool ((a : Int) == (k : Int))]) (by simp [results, Tryz.results33, go_sem]) rfl HE.out
    · rw [if_neg hka] at hr
      have dk : decide (k ≤ a) = false := by rw [decide_eq_false_iff_not]; omega
      have HL := rLoadD (cap := cap) (wb := wb) OK hr w4 hi
      clear hi hr hka
      go_wp2_with (go_at_call 17; (with_reducible refine (HK0 _).mono ?_); rintro e w' ⟨rfl, rfl⟩)
      (with_reducible refine HL.mono ?_)
      clear HL
      rintro e w5 ⟨y5, c5, rfl, hn, hi, hbt, hr⟩
      try dsimp only at hr
      have HRF := fun w => refRef_any y5 hn w
      have HJ6 := Lib.hid (show RSeekI g A n cap log w0 wb t k R m (.int .i64 ((refN y5 : Nat) : Int)) w5 from ⟨refN y5, c5, rfl, refN_lt y5, hi, hr⟩)
      clear hn hi hbt hr
      generalize refN y5 = r5 at *
      go_wp2_with (go_at_call 41; (with_reducible refine (HRF _).mono ?_); rintro e w' ⟨rfl, rfl⟩)
      go_roundw
      case rel => exact ⟨m, HJ6.out⟩
      case measure => exact Nat.lt_of_lt_of_eq (cnt_lt (J := fun m wr => RSeekI g A n cap log w0 wb t k R m (.int .i64 ((r5 : Nat) : Int)) wr) HJ6.out (Nat.lt_succ_self m)) HM.out.symm

/-! ### Search -/
omit OK in
theorem searchV_enc {p x c : Nat} (hp : p < 1048576) (hx : x < 1048576) (hc : c < 4) : searchV (encS p x c) = .tuple #[.int .i64 (p : Int), .int .i64 (x : Int), .bool ((c : Int) == 3), .bool true] := by
  have h : (((encS p x c : Nat) : Int) != 0) = true := by rw [bne_iff_ne]; have := encS_ne p x c; omega
  unfold searchV
  rw [predS_enc hp hx hc, curS_enc hx hc, codS_enc hc, h]
/-- A walk's head. -/
def RHead (g : Nat) (A : Option Addr) (n cap : Nat) (log : List Res) (w0 wb : World) (t : Nat) (look : Nat → Nat → Prd) (f : Nat) (R : RanD (List Res)) (m : Nat) (w : World) : Prop :=
  ∃ c : CSD, CurID g A n cap log w0 wb c w ∧ (Prd.start t look f m).runCD c = R
/-- In a walk: at a record, or turned back. -/
def RWalk (g : Nat) (A : Option Addr) (n cap : Nat) (log : List Res) (w0 wb : World) (t : Nat) (look : Nat → Nat → Prd) (f M : Nat) (R : RanD (List Res)) (m : Nat) (vp vx vt : Value) (w : World) : Prop :=
  m ≤ M ∧ ((∃ (p x : Nat) (c : CSD), vp = .int .i64 (p : Int) ∧ vx = .int .i64 (x : Int) ∧ vt = .bool false ∧ p < 1048576 ∧ x < 1048576 ∧ CurID g A n cap log w0 wb c w ∧ (Prd.walk t look f m p x).runCD c = R) ∨ (∃ (p x : Nat) (c : CSD), vp = .int .i64 (p : Int) ∧ vx = .int .i64 (x : Int) ∧ vt = .bool true ∧ m < M ∧ CurID g A n cap log w0 wb c w ∧ (Prd.start t look f m).runCD c = R))
set_option maxHeartbeats 8000000 in
set_option maxRecDepth 100000 in
theorem rSearch_prg (hgb : g < wb.heap.size) (t k f : Nat) (ht : t ≤ 64) (c : CSD) (R : RanD (List Res)) (hb : R ≠ .bad) (hR : (Prd.search t k f).runCD c = R) (w : World) (hI : CurID g A n cap log w0 wb c w) :
    Calls Tryz.prog 32 #[.pointer (some ⟨g, 0, none⟩), .int .i64 (t : Int), .int .u64 (k : Int)] w (RefD g A n cap log w0 wb searchV R) := by
  unfold Prd.search at hR
  have HJ0 := Lib.hid (show ∃ m, RHead g A n cap log w0 wb t (Prd.lookS t k) f R m w from ⟨f, c, hI, hR⟩)
  have HT := Lib.hid ht
  have HB := Lib.hid hb
  have HGB := Lib.hid hgb
  clear hI hR ht hb hgb
  go_enter Tryz.func32, Tryz.ntmps32
  go_wp2_with fail
  go_loopw [10] (fun _ wr => ∃ m, RHead g A n cap log w0 wb t (Prd.lookS t k) f R m wr) (fun _ wr => cnt (fun m wr => RHead g A n cap log w0 wb t (Prd.lookS t k) f R m wr) wr)
  case atStart => exact HJ0.out
  case round =>
    clear HJ0
    have hj := cnt_spec (J := fun m wr => RHead g A n cap log w0 wb t (Prd.lookS t k) f R m wr) hrel
    clear hrel
    generalize hm : cnt (fun m wr => RHead g A n cap log w0 wb t (Prd.lookS t k) f R m wr) wr = M at *
    have HM := Lib.hid hm
    clear hm
    obtain ⟨c3, hi, hr⟩ := hj
    have ct := hi.two
    have hgw := hi.lt
    by_cases hst : c3.stops = true
    · rw [hst] at ct
      have HE := Lib.hid (RefD.fin (ret := searchV) (d := encS 0 0 0) ((Prd.runCD_stop (p := Prd.start t (Prd.lookS t k) f M) hst _).symm.trans hr) hi)
      rw [searchV_enc (by decide) (by decide) (by decide)] at HE
      clear hi hst hr
      go_wp2_with fail
      exact bodyPost_ret (v := .tuple #[.int .i64 0, .int .i64 0, .bool false, .bool true]) (by simp [results, Tryz.results32, go_sem]) rfl HE.out
    have hst' : c3.stops = false := by simpa using hst
    rw [hst'] at ct
    have hr1 : (Prd.ask 0 0 0 0 [] fun y => Prd.walk t (Prd.lookS t k) f M 0 (refN y)).runCD c3 = R := hr
    have HL := rLoadD (cap := cap) (wb := wb) OK hr1 wr hi
    clear hi hr hr1 hst hst'
    go_wp2_with fail
    (with_reducible refine HL.mono ?_)
    clear HL ct hgw
    rintro e w4 ⟨y, c4, rfl, hn, hi, hbt, hr⟩
    try dsimp only at hr
    have HRF := fun w => refRef_any y hn w
    have HJ1 := Lib.hid (show ∃ m, RWalk g A n cap log w0 wb t (Prd.lookS t k) f M R m (.int .i64 0) (.int .i64 ((refN y : Nat) : Int)) (.bool false) w4 from ⟨M, Nat.le_refl _, .inl ⟨0, refN y, c4, rfl, rfl, rfl, by decide, refN_lt y, hi, hr⟩⟩)
    clear hn hi hbt hr
    generalize refN y = ry at *
    go_wp2_with (go_at_call 41; (with_reducible refine (HRF _).mono ?_); rintro e w' ⟨rfl, rfl⟩)
    clear HRF
    go_loopw [10, 11, 12] (fun vp vx vt wr => ∃ m, RWalk g A n cap log w0 wb t (Prd.lookS t k) f M R m vp vx vt wr) (fun vp vx vt wr => cnt (fun m wr => RWalk g A n cap log w0 wb t (Prd.lookS t k) f M R m vp vx vt wr) wr)
    case atStart => exact HJ1.out
    case round =>
      clear HJ1
      have hj := cnt_spec (J := fun m wr => RWalk g A n cap log w0 wb t (Prd.lookS t k) f M R m u10 u11 u12 wr) hrel
      clear hrel
      generalize hm : cnt (fun m wr => RWalk g A n cap log w0 wb t (Prd.lookS t k) f M R m u10 u11 u12 wr) wr = m at *
      have HM2 := Lib.hid hm
      clear hm
      rcases hj with ⟨hle, ⟨p, x, c5, rfl, rfl, rfl, hp, hx, hi, hr⟩ | ⟨p, x, c5, rfl, rfl, rfl, hlt, hi, hr⟩⟩
      case inr =>
        have ct := hi.two
        have hgw := hi.lt
        have HJ6 := Lib.hid (show RHead g A n cap log w0 wb t (Prd.lookS t k) f R m wr from ⟨c5, hi, hr⟩)
        have HLT := Lib.hid hlt
        clear hi hr hle hlt
        by_cases hx0 : x = 0
        · have dx : ((x : Int) != 0) = false := by rw [bne_eq_false_iff_eq]; omega
          clear hx0
          go_wp2_with fail
          go_roundw
          case rel => exact ⟨m, HJ6.out⟩
          case measure => first | exact cnt_lt (J := fun m wr => RHead g A n cap log w0 wb t (Prd.lookS t k) f R m wr) HJ6.out HLT.out | exact Nat.lt_of_lt_of_eq (cnt_lt (J := fun m wr => RHead g A n cap log w0 wb t (Prd.lookS t k) f R m wr) HJ6.out HLT.out) HM.out.symm
        · have dx : ((x : Int) != 0) = true := by rw [bne_iff_ne]; omega
          clear hx0
          go_wp2_with fail
          go_roundw
          case rel => exact ⟨m, HJ6.out⟩
          case measure => first | exact cnt_lt (J := fun m wr => RHead g A n cap log w0 wb t (Prd.lookS t k) f R m wr) HJ6.out HLT.out | exact Nat.lt_of_lt_of_eq (cnt_lt (J := fun m wr => RHead g A n cap log w0 wb t (Prd.lookS t k) f R m wr) HJ6.out HLT.out) HM.out.symm
      have ct := hi.two
      have hgw := hi.lt
      by_cases hx0 : x = 0
      · subst hx0
        have h0 : (Prd.ret (encS p 0 0)).runCD c5 = R := by
          cases m with
          | zero =>
            cases c5 with
            | «at» s => exact absurd hr.symm HB.out
            | stop k i a b d => exact hr
          | succ m => exact hr
        have HE := RefD.fin (ret := searchV) h0 hi
        rw [searchV_enc hp (by decide) (by decide)] at HE
        replace HE := Lib.hid HE
        clear hr hi hx hle hp h0
        go_wp2_with fail
        exact bodyPost_ret (v := .tuple #[.int .i64 (p : Int), .int .i64 0, .bool false, .bool true]) (by simp [results, Tryz.results32, go_sem]) rfl HE.out
      have dx : ((x : Int) != 0) = true := by rw [bne_iff_ne]; omega
      by_cases hst : c5.stops = true
      · rw [hst] at ct
        have HE := RefD.fin (ret := searchV) (d := encS p 0 0) ((Prd.runCD_stop (p := Prd.walk t (Prd.lookS t k) f m p x) hst _).symm.trans hr) hi
        rw [searchV_enc hp (by decide) (by decide)] at HE
        replace HE := Lib.hid HE
        clear hi hst hr hx0 hle hx hp
        go_wp2_with fail
        exact bodyPost_ret (v := .tuple #[.int .i64 (p : Int), .int .i64 0, .bool false, .bool true]) (by simp [results, Tryz.results32, go_sem]) rfl HE.out
      have hst' : c5.stops = false := by simpa using hst
      rw [hst'] at ct
      cases m with
      | zero =>
        cases c5 with
        | «at» s => exact absurd hr.symm HB.out
        | stop k i a b d => exact absurd rfl hst
      | succ m =>
      have hr1 : (Prd.ask 0 ((fieldN t x 0 : Nat) : Int) 0 0 [] fun w => if markB w = true then (Prd.takeOut t p x w f).bind fun d => if d = 0 then Prd.ret 0 else if d = 3 then Prd.walk t (Prd.lookS t k) f m p (refN w) else Prd.ask 0 0 0 0 [] fun y => Prd.walk t (Prd.lookS t k) f m 0 (refN y) else ((Prd.lookS t k) x w).bind fun d => if d = 0 then Prd.walk t (Prd.lookS t k) f m x (refN w) else if d = 1 then Prd.walk t (Prd.lookS t k) f m p x else Prd.ret (encS p x d)).runCD c5 = R := by
        rw [← hr]
        conv => rhs; unfold Prd.walk
        rw [if_neg hx0]
      have HK0 : ∀ w, Calls Tryz.prog 17 #[.int .i64 (t : Int), .int .i64 (x : Int), .int .i64 0] w fun e w' => e = .returned (.int .i64 (fieldN t x 0 : Nat)) ∧ w = w' := fun w => refField_any t x 0 (by have := HT.out; omega) (by omega) (by omega) (by omega) w
      have HK1 : ∀ w, Calls Tryz.prog 17 #[.int .i64 (t : Int), .int .i64 (x : Int), .int .i64 1] w fun e w' => e = .returned (.int .i64 (fieldN t x 1 : Nat)) ∧ w = w' := fun w => refField_any t x 1 (by have := HT.out; omega) (by omega) (by omega) (by omega) w
      have HL := rLoadDP (cap := cap) (wb := wb) OK (CSD.plain_of hst') hr1 wr hi
      have HX := Lib.hid (And.intro hp (And.intro (Nat.pos_of_ne_zero hx0) hx))
      have HLE := Lib.hid hle
      clear hi hr hr1 hx0 hst hst' hle hx hp
      go_wp2_with (go_at_call 17; (with_reducible refine (HK0 _).mono ?_); rintro e w' ⟨rfl, rfl⟩)
      (with_reducible refine HL.mono ?_)
      clear HL ct hgw
      rintro e w6 ⟨v, c6, rfl, hn, hi, hbt, hr, hpl⟩
      try dsimp only at hr
      have HMK := fun w => refMark_any v hn w
      have HRF := fun w => refRef_any v hn w
      have hrl := refN_lt v
      clear hbt
      cases hmk : markB v with
      | true =>
        rw [hmk] at HMK
        rw [if_pos hmk] at hr
        have HTO := rPartD HB.out hr w6 (fun hb' => rOut_prg OK HGB.out t p x v f HT.out HX.out.1 HX.out.2.1 HX.out.2.2 hn c6 hpl hb' w6 hi)
        unfold tkOutV at HTO
        have HN := Lib.hid hrl
        clear hi hn hr hmk hrl hpl
        generalize refN v = rv at *
        go_wp2_with (go_at_call 62; (with_reducible refine (HMK _).mono ?_); rintro e w' ⟨rfl, rfl⟩)
        (with_reducible refine HTO.mono ?_)
        clear HTO
        rintro e w7 ⟨d, c7, rfl, hi, hr⟩
        try dsimp only at hr
        by_cases hd0 : d = 0
        · rw [if_pos hd0] at hr
          have dd : ((d : Int) != 0) = false := by rw [bne_eq_false_iff_eq]; omega
          have HE := RefD.fin (ret := searchV) hr hi
          rw [show searchV 0 = .tuple #[.int .i64 0, .int .i64 0, .bool false, .bool false] from rfl] at HE
          replace HE := Lib.hid HE
          clear hi hr hd0
          go_wp2_with fail
          exact bodyPost_ret (v := .tuple #[.int .i64 0, .int .i64 0, .bool false, .bool false]) (by simp [results, Tryz.results32, go_sem]) rfl HE.out
        · rw [if_neg hd0] at hr
          have dd : ((d : Int) != 0) = true := by rw [bne_iff_ne]; omega
          by_cases hd3 : d = 3
          · rw [if_pos hd3] at hr
            have d3 : ((d : Int) == 3) = true := by rw [beq_iff_eq]; omega
            have HJ6 := Lib.hid (show RWalk g A n cap log w0 wb t (Prd.lookS t k) f M R m (.int .i64 (p : Int)) (.int .i64 ((rv : Nat) : Int)) (.bool false) w7 from ⟨by have := HLE.out; omega, .inl ⟨p, rv, c7, rfl, rfl, rfl, HX.out.1, HN.out, hi, hr⟩⟩)
            clear hi hr hd0 hd3
            go_wp2_with (go_at_call 41; (with_reducible refine (HRF _).mono ?_); rintro e w' ⟨rfl, rfl⟩)
            go_roundw
            case rel => exact ⟨m, HJ6.out⟩
            case measure => exact Nat.lt_of_lt_of_eq (cnt_lt (J := fun m wr => RWalk g A n cap log w0 wb t (Prd.lookS t k) f M R m (.int .i64 (p : Int)) (.int .i64 ((rv : Nat) : Int)) (.bool false) wr) HJ6.out (Nat.lt_succ_self m)) HM2.out.symm
          · rw [if_neg hd3] at hr
            have d3 : ((d : Int) == 3) = false := by rw [beq_eq_false_iff_ne]; omega
            have HJ6 := Lib.hid (show RWalk g A n cap log w0 wb t (Prd.lookS t k) f M R m (.int .i64 (p : Int)) (.int .i64 ((rv : Nat) : Int)) (.bool true) w7 from ⟨by have := HLE.out; omega, .inr ⟨p, rv, c7, rfl, rfl, rfl, by have := HLE.out; omega, hi, hr⟩⟩)
            clear hi hr hd0 hd3
            go_wp2_with (go_at_call 41; (with_reducible refine (HRF _).mono ?_); rintro e w' ⟨rfl, rfl⟩)
            go_roundw
            case rel => exact ⟨m, HJ6.out⟩
            case measure => exact Nat.lt_of_lt_of_eq (cnt_lt (J := fun m wr => RWalk g A n cap log w0 wb t (Prd.lookS t k) f M R m (.int .i64 (p : Int)) (.int .i64 ((rv : Nat) : Int)) (.bool true) wr) HJ6.out (Nat.lt_succ_self m)) HM2.out.symm
      | false =>
        rw [hmk] at HMK
        rw [if_neg (by rw [hmk]; decide)] at hr
        have hr2 : (Prd.ask 0 ((fieldN t x 1 : Nat) : Int) 0 0 [] fun a => (fun d => if d = 0 then Prd.walk t (Prd.lookS t k) f m x (refN v) else if d = 1 then Prd.walk t (Prd.lookS t k) f m p x else Prd.ret (encS p x d)) (if a = k then 3 else if k ≤ a then 2 else 0)).runCD c6 = R := hr
        have HL := rLoadD (cap := cap) (wb := wb) OK hr2 w6 hi
        have HN := Lib.hid hrl
        clear hi hn hr hr2 hmk hrl hpl
        generalize refN v = rv at *
        go_wp2_with (first | (go_at_call 62; (with_reducible refine (HMK _).mono ?_); rintro e w' ⟨rfl, rfl⟩) | (go_at_call 17; (with_reducible refine (HK1 _).mono ?_); rintro e w' ⟨rfl, rfl⟩))
        (with_reducible refine HL.mono ?_)
        clear HL
        rintro e w7 ⟨a, c7, rfl, hn, hi, hbt, hr⟩
        try dsimp only at hr
        clear hn hbt
        by_cases h1 : a = k
        · rw [if_pos h1] at hr
          have hr' : (Prd.ret (encS p x 3)).runCD c7 = R := hr
          have d1 : ((a : Int) == (k : Int)) = true := by rw [beq_iff_eq]; omega
          have d2 : decide (k ≤ a) = true := by rw [decide_eq_true_iff]; omega
          have HE := RefD.fin (ret := searchV) hr' hi
          rw [searchV_enc HX.out.1 HX.out.2.2 (by decide)] at HE
          replace HE : Hid (RefD g A n cap log w0 wb searchV R (.returned (.tuple #[.int .i64 (p : Int), .int .i64 (x : Int), .bool true, .bool true])) w7) := Lib.hid HE
          clear hi hr hr' h1
          go_wp2_with fail
          exact bodyPost_ret (v := .tuple #[.int .i64 (p : Int), .int .i64 (x : Int), .bool true, .bool true]) (by simp [results, Tryz.results32, go_sem]) rfl HE.out
        · rw [if_neg h1] at hr
          have d1 : ((a : Int) == (k : Int)) = false := by rw [beq_eq_false_iff_ne]; omega
          by_cases h2 : k ≤ a
          · rw [if_pos h2] at hr
            have hr' : (Prd.ret (encS p x 2)).runCD c7 = R := hr
            have d2 : decide (k ≤ a) = true := by rw [decide_eq_true_iff]; omega
            have HE := RefD.fin (ret := searchV) hr' hi
            rw [searchV_enc HX.out.1 HX.out.2.2 (by decide)] at HE
            replace HE : Hid (RefD g A n cap log w0 wb searchV R (.returned (.tuple #[.int .i64 (p : Int), .int .i64 (x : Int), .bool false, .bool true])) w7) := Lib.hid HE
            clear hi hr hr' h1 h2
            go_wp2_with fail
            exact bodyPost_ret (v := .tuple #[.int .i64 (p : Int), .int .i64 (x : Int), .bool false, .bool true]) (by simp [results, Tryz.results32, go_sem]) rfl HE.out
          · rw [if_neg h2] at hr
            have d2 : decide (k ≤ a) = false := by rw [decide_eq_false_iff_not]; omega
            have hr' : (Prd.walk t (Prd.lookS t k) f m x rv).runCD c7 = R := hr
            have HJ6 := Lib.hid (show RWalk g A n cap log w0 wb t (Prd.lookS t k) f M R m (.int .i64 (x : Int)) (.int .i64 ((rv : Nat) : Int)) (.bool false) w7 from ⟨by have := HLE.out; omega, .inl ⟨x, rv, c7, rfl, rfl, rfl, HX.out.2.2, HN.out, hi, hr'⟩⟩)
            clear hi hr hr' h1 h2
            go_wp2_with (go_at_call 41; (with_reducible refine (HRF _).mono ?_); rintro e w' ⟨rfl, rfl⟩)
            go_roundw
            case rel => exact ⟨m, HJ6.out⟩
            case measure => exact Nat.lt_of_lt_of_eq (cnt_lt (J := fun m wr => RWalk g A n cap log w0 wb t (Prd.lookS t k) f M R m (.int .i64 (x : Int)) (.int .i64 ((rv : Nat) : Int)) (.bool false) wr) HJ6.out (Nat.lt_succ_self m)) HM2.out.symm
end
end Go.Proofs.YtkfodhkeajmbhaaGreatDoor
namespace Go.Proofs.YtkfodhkeajmbhaaGreatDoor
set_option linter.unusedVariables false
set_option maxRecDepth 100000

set_option linter.unusedSectionVars false

open Go.ChangeShapes Go.WideShapes Go.ChangeAt Go.RowKit Go.BigFrame

section
variable {g : Nat} {A : Option Addr} {n cap : Nat} {log : List Res} {w0 wb : World} (OK : Hid (CurOk g A n log w0 wb))
include OK
set_option maxHeartbeats 8000000 in
set_option maxRecDepth 100000 in
theorem rSweep_prg (hgb : g < wb.heap.size) (t st f : Nat) (ht : t ≤ 64) (c : CSD) (R : RanD (List Res)) (hb : R ≠ .bad) (hR : (Prd.sweep t st f).runCD c = R) (w : World) (hI : CurID g A n cap log w0 wb c w) :
    Calls Tryz.prog 36 #[.pointer (some ⟨g, 0, none⟩), .int .i64 (t : Int), .int .u64 (st : Int)] w (RefD g A n cap log w0 wb (fun d => .bool ((d : Int) != 0)) R) := by
  unfold Prd.sweep at hR
  have HJ0 := Lib.hid (show ∃ m, RHead g A n cap log w0 wb t (Prd.lookW t st f) f R m w from ⟨f, c, hI, hR⟩)
  have HT := Lib.hid ht
  have HB := Lib.hid hb
  have HGB := Lib.hid hgb
  clear hI hR ht hb hgb
  go_enter Tryz.func36, Tryz.ntmps36
  go_wp2_with fail
  go_loopw [7] (fun _ wr => ∃ m, RHead g A n cap log w0 wb t (Prd.lookW t st f) f R m wr) (fun _ wr => cnt (fun m wr => RHead g A n cap log w0 wb t (Prd.lookW t st f) f R m wr) wr)
  case atStart => exact HJ0.out
  case round =>
    clear HJ0
    have hj := cnt_spec (J := fun m wr => RHead g A n cap log w0 wb t (Prd.lookW t st f) f R m wr) hrel
    clear hrel
    generalize hm : cnt (fun m wr => RHead g A n cap log w0 wb t (Prd.lookW t st f) f R m wr) wr = M at *
    have HM := Lib.hid hm
    clear hm
    obtain ⟨c3, hi, hr⟩ := hj
    have ct := hi.two
    have hgw := hi.lt
    by_cases hst : c3.stops = true
    · rw [hst] at ct
      have HE := Lib.hid (RefD.fin (ret := fun d => .bool ((d : Int) != 0)) (d := 1) ((Prd.runCD_stop (p := Prd.start t (Prd.lookW t st f) f M) hst _).symm.trans hr) hi)
      clear hi hst hr
      go_wp2_with fail
      go_ret
      exact HE.out
    have hst' : c3.stops = false := by simpa using hst
    rw [hst'] at ct
    have hr1 : (Prd.ask 0 0 0 0 [] fun y => Prd.walk t (Prd.lookW t st f) f M 0 (refN y)).runCD c3 = R := hr
    have HL := rLoadD (cap := cap) (wb := wb) OK hr1 wr hi
    clear hi hr hr1 hst hst'
    go_wp2_with fail
    (with_reducible refine HL.mono ?_)
    clear HL ct hgw
    rintro e w4 ⟨y, c4, rfl, hn, hi, hbt, hr⟩
    try dsimp only at hr
    have HRF := fun w => refRef_any y hn w
    have HJ1 := Lib.hid (show ∃ m, RWalk g A n cap log w0 wb t (Prd.lookW t st f) f M R m (.int .i64 0) (.int .i64 ((refN y : Nat) : Int)) (.bool false) w4 from ⟨M, Nat.le_refl _, .inl ⟨0, refN y, c4, rfl, rfl, rfl, by decide, refN_lt y, hi, hr⟩⟩)
    clear hn hi hbt hr
    generalize refN y = ry at *
    go_wp2_with (go_at_call 41; (with_reducible refine (HRF _).mono ?_); rintro e w' ⟨rfl, rfl⟩)
    clear HRF
    go_loopw [7, 8, 9] (fun vp vx vt wr => ∃ m, RWalk g A n cap log w0 wb t (Prd.lookW t st f) f M R m vp vx vt wr) (fun vp vx vt wr => cnt (fun m wr => RWalk g A n cap log w0 wb t (Prd.lookW t st f) f M R m vp vx vt wr) wr)
    case atStart => exact HJ1.out
    case round =>
      clear HJ1
      have hj := cnt_spec (J := fun m wr => RWalk g A n cap log w0 wb t (Prd.lookW t st f) f M R m u7 u8 u9 wr) hrel
      clear hrel
      generalize hm : cnt (fun m wr => RWalk g A n cap log w0 wb t (Prd.lookW t st f) f M R m u7 u8 u9 wr) wr = m at *
      have HM2 := Lib.hid hm
      clear hm
      rcases hj with ⟨hle, ⟨p, x, c5, rfl, rfl, rfl, hp, hx, hi, hr⟩ | ⟨p, x, c5, rfl, rfl, rfl, hlt, hi, hr⟩⟩
      case inr =>
        have ct := hi.two
        have hgw := hi.lt
        have HJ6 := Lib.hid (show RHead g A n cap log w0 wb t (Prd.lookW t st f) f R m wr from ⟨c5, hi, hr⟩)
        have HLT := Lib.hid hlt
        clear hi hr hle hlt
        by_cases hx0 : x = 0
        · have dx : ((x : Int) != 0) = false := by rw [bne_eq_false_iff_eq]; omega
          clear hx0
          go_wp2_with fail
          go_roundw
          case rel => exact ⟨m, HJ6.out⟩
          case measure => first | exact cnt_lt (J := fun m wr => RHead g A n cap log w0 wb t (Prd.lookW t st f) f R m wr) HJ6.out HLT.out | exact Nat.lt_of_lt_of_eq (cnt_lt (J := fun m wr => RHead g A n cap log w0 wb t (Prd.lookW t st f) f R m wr) HJ6.out HLT.out) HM.out.symm
        · have dx : ((x : Int) != 0) = true := by rw [bne_iff_ne]; omega
          clear hx0
          go_wp2_with fail
          go_roundw
          case rel => exact ⟨m, HJ6.out⟩
          case measure => first | exact cnt_lt (J := fun m wr => RHead g A n cap log w0 wb t (Prd.lookW t st f) f R m wr) HJ6.out HLT.out | exact Nat.lt_of_lt_of_eq (cnt_lt (J := fun m wr => RHead g A n cap log w0 wb t (Prd.lookW t st f) f R m wr) HJ6.out HLT.out) HM.out.symm
      have ct := hi.two
      have hgw := hi.lt
      by_cases hx0 : x = 0
      · subst hx0
        have h0 : (Prd.ret (encS p 0 0)).runCD c5 = R := by
          cases m with
          | zero =>
            cases c5 with
            | «at» s => exact absurd hr.symm HB.out
            | stop k i a b d => exact hr
          | succ m => exact hr
        have HE := RefD.fin (ret := (fun d => .bool ((d : Int) != 0))) h0 hi
        rw [show (((encS p 0 0 : Nat) : Int) != 0) = true by rw [bne_iff_ne]; have := encS_ne p 0 0; omega] at HE
        replace HE := Lib.hid HE
        clear hr hi hx hle hp h0
        go_wp2_with fail
        go_ret
        exact HE.out
      have dx : ((x : Int) != 0) = true := by rw [bne_iff_ne]; omega
      by_cases hst : c5.stops = true
      · rw [hst] at ct
        have HE := RefD.fin (ret := (fun d => .bool ((d : Int) != 0))) (d := encS p 0 0) ((Prd.runCD_stop (p := Prd.walk t (Prd.lookW t st f) f m p x) hst _).symm.trans hr) hi
        rw [show (((encS p 0 0 : Nat) : Int) != 0) = true by rw [bne_iff_ne]; have := encS_ne p 0 0; omega] at HE
        replace HE := Lib.hid HE
        clear hi hst hr hx0 hle hx hp
        go_wp2_with fail
        go_ret
        exact HE.out
      have hst' : c5.stops = false := by simpa using hst
      rw [hst'] at ct
      cases m with
      | zero =>
        cases c5 with
        | «at» s => exact absurd hr.symm HB.out
        | stop k i a b d => exact absurd rfl hst
      | succ m =>
      have hr1 : (Prd.ask 0 ((fieldN t x 0 : Nat) : Int) 0 0 [] fun w => if markB w = true then (Prd.takeOut t p x w f).bind fun d => if d = 0 then Prd.ret 0 else if d = 3 then Prd.walk t (Prd.lookW t st f) f m p (refN w) else Prd.ask 0 0 0 0 [] fun y => Prd.walk t (Prd.lookW t st f) f m 0 (refN y) else ((Prd.lookW t st f) x w).bind fun d => if d = 0 then Prd.walk t (Prd.lookW t st f) f m x (refN w) else if d = 1 then Prd.walk t (Prd.lookW t st f) f m p x else Prd.ret (encS p x d)).runCD c5 = R := by
        rw [← hr]
        conv => rhs; unfold Prd.walk
        rw [if_neg hx0]
      have HK0 : ∀ w, Calls Tryz.prog 17 #[.int .i64 (t : Int), .int .i64 (x : Int), .int .i64 0] w fun e w' => e = .returned (.int .i64 (fieldN t x 0 : Nat)) ∧ w = w' := fun w => refField_any t x 0 (by have := HT.out; omega) (by omega) (by omega) (by omega) w
      have HK1 : ∀ w, Calls Tryz.prog 17 #[.int .i64 (t : Int), .int .i64 (x : Int), .int .i64 1] w fun e w' => e = .returned (.int .i64 (fieldN t x 1 : Nat)) ∧ w = w' := fun w => refField_any t x 1 (by have := HT.out; omega) (by omega) (by omega) (by omega) w
      have HK4 : ∀ w, Calls Tryz.prog 17 #[.int .i64 (t : Int), .int .i64 (x : Int), .int .i64 4] w fun e w' => e = .returned (.int .i64 (fieldN t x 4 : Nat)) ∧ w = w' := fun w => refField_any t x 4 (by have := HT.out; omega) (by omega) (by omega) (by omega) w
      have HK5 : ∀ w, Calls Tryz.prog 17 #[.int .i64 (t : Int), .int .i64 (x : Int), .int .i64 5] w fun e w' => e = .returned (.int .i64 (fieldN t x 5 : Nat)) ∧ w = w' := fun w => refField_any t x 5 (by have := HT.out; omega) (by omega) (by omega) (by omega) w
      have HL := rLoadDP (cap := cap) (wb := wb) OK (CSD.plain_of hst') hr1 wr hi
      have HX := Lib.hid (And.intro hp (And.intro (Nat.pos_of_ne_zero hx0) hx))
      have HLE := Lib.hid hle
      clear hi hr hr1 hx0 hst hst' hle hx hp
      go_wp2_with (go_at_call 17; (with_reducible refine (HK0 _).mono ?_); rintro e w' ⟨rfl, rfl⟩)
      (with_reducible refine HL.mono ?_)
      clear HL ct hgw
      rintro e w6 ⟨v, c6, rfl, hn, hi, hbt, hr, hpl⟩
      try dsimp only at hr
      have HMK := fun w => refMark_any v hn w
      have HRF := fun w => refRef_any v hn w
      have hrl := refN_lt v
      clear hbt
      cases hmk : markB v with
      | true =>
        rw [hmk] at HMK
        rw [if_pos hmk] at hr
        have HTO := rPartD HB.out hr w6 (fun hb' => rOut_prg OK HGB.out t p x v f HT.out HX.out.1 HX.out.2.1 HX.out.2.2 hn c6 hpl hb' w6 hi)
        unfold tkOutV at HTO
        have HN := Lib.hid hrl
        clear hi hn hr hmk hrl hpl
        generalize refN v = rv at *
        go_wp2_with (go_at_call 62; (with_reducible refine (HMK _).mono ?_); rintro e w' ⟨rfl, rfl⟩)
        (with_reducible refine HTO.mono ?_)
        clear HTO
        rintro e w7 ⟨d, c7, rfl, hi, hr⟩
        try dsimp only at hr
        by_cases hd0 : d = 0
        · rw [if_pos hd0] at hr
          have dd : ((d : Int) != 0) = false := by rw [bne_eq_false_iff_eq]; omega
          have HE := RefD.fin (ret := (fun d => .bool ((d : Int) != 0))) hr hi
          rw [show (((0 : Nat) : Int) != 0) = false from rfl] at HE
          replace HE := Lib.hid HE
          clear hi hr hd0
          go_wp2_with fail
          go_ret
          exact HE.out
        · rw [if_neg hd0] at hr
          have dd : ((d : Int) != 0) = true := by rw [bne_iff_ne]; omega
          by_cases hd3 : d = 3
          · rw [if_pos hd3] at hr
            have d3 : ((d : Int) == 3) = true := by rw [beq_iff_eq]; omega
            have HJ6 := Lib.hid (show RWalk g A n cap log w0 wb t (Prd.lookW t st f) f M R m (.int .i64 (p : Int)) (.int .i64 ((rv : Nat) : Int)) (.bool false) w7 from ⟨by have := HLE.out; omega, .inl ⟨p, rv, c7, rfl, rfl, rfl, HX.out.1, HN.out, hi, hr⟩⟩)
            clear hi hr hd0 hd3
            go_wp2_with (go_at_call 41; (with_reducible refine (HRF _).mono ?_); rintro e w' ⟨rfl, rfl⟩)
            go_roundw
            case rel => exact ⟨m, HJ6.out⟩
            case measure => exact Nat.lt_of_lt_of_eq (cnt_lt (J := fun m wr => RWalk g A n cap log w0 wb t (Prd.lookW t st f) f M R m (.int .i64 (p : Int)) (.int .i64 ((rv : Nat) : Int)) (.bool false) wr) HJ6.out (Nat.lt_succ_self m)) HM2.out.symm
          · rw [if_neg hd3] at hr
            have d3 : ((d : Int) == 3) = false := by rw [beq_eq_false_iff_ne]; omega
            have HJ6 := Lib.hid (show RWalk g A n cap log w0 wb t (Prd.lookW t st f) f M R m (.int .i64 (p : Int)) (.int .i64 ((rv : Nat) : Int)) (.bool true) w7 from ⟨by have := HLE.out; omega, .inr ⟨p, rv, c7, rfl, rfl, rfl, by have := HLE.out; omega, hi, hr⟩⟩)
            clear hi hr hd0 hd3
            go_wp2_with (go_at_call 41; (with_reducible refine (HRF _).mono ?_); rintro e w' ⟨rfl, rfl⟩)
            go_roundw
            case rel => exact ⟨m, HJ6.out⟩
            case measure => exact Nat.lt_of_lt_of_eq (cnt_lt (J := fun m wr => RWalk g A n cap log w0 wb t (Prd.lookW t st f) f M R m (.int .i64 (p : Int)) (.int .i64 ((rv : Nat) : Int)) (.bool true) wr) HJ6.out (Nat.lt_succ_self m)) HM2.out.symm
      | false =>
        rw [hmk] at HMK
        rw [if_neg (by rw [hmk]; decide)] at hr
        have hw1 : IntKind.u64.wrap ((v : Int) + 1) = ((v + 1 : Nat) : Int) := by have := (or_mark hn hmk).2; rw [IntKind.wrap_u64]; omega
        have hr2 : (Prd.ask 0 ((fieldN t x 1 : Nat) : Int) 0 0 [] fun a => ((if a % 2147483648 = 0 then Prd.ret 0 else Prd.ask 0 ((fieldN t x 4 : Nat) : Int) 0 0 [] fun u => Prd.ask 0 ((fieldN t x 5 : Nat) : Int) 0 0 [] fun v => Prd.ret (if u = st ∨ v = st then 1 else 0)).bind (fun e => if e = 1 then (Prd.markW t x v).bind fun d => if d = 1 then (Prd.set t x 2 f).bind fun _ => Prd.ret 1 else Prd.ret 1 else Prd.ret 0)).bind (fun d => if d = 0 then Prd.walk t (Prd.lookW t st f) f m x (refN v) else if d = 1 then Prd.walk t (Prd.lookW t st f) f m p x else Prd.ret (encS p x d))).runCD c6 = R := hr
        have HL := rLoadD (cap := cap) (wb := wb) OK hr2 w6 hi
        have HN := Lib.hid hrl
        clear hi hn hr hr2 hmk hrl hpl
        generalize refN v = rv at *
        generalize hf1 : fieldN t x 1 = f1 at *
        clear hf1
        go_wp2_with (first | (go_at_call 62; (with_reducible refine (HMK _).mono ?_); rintro e w' ⟨rfl, rfl⟩) | (go_at_call 17; (with_reducible refine (HK1 _).mono ?_); rintro e w' ⟨rfl, rfl⟩))
        (with_reducible refine HL.mono ?_)
        clear HL
        rintro e w7 ⟨a, c7, rfl, hn, hi, hbt, hr⟩
        try dsimp only at hr
        have hrem : Int.tmod (a : Int) 2147483648 = ((a % 2147483648 : Nat) : Int) := (Int.ofNat_tmod a 2147483648).symm
        clear hn hbt
        by_cases h1 : a % 2147483648 = 0
        · rw [if_pos h1] at hr
          have d1 : (((a % 2147483648 : Nat) : Int) != 0) = false := by rw [bne_eq_false_iff_eq]; omega
          have hr' : (Prd.walk t (Prd.lookW t st f) f m x rv).runCD c7 = R := hr
          have HJ6 := Lib.hid (show RWalk g A n cap log w0 wb t (Prd.lookW t st f) f M R m (.int .i64 (x : Int)) (.int .i64 ((rv : Nat) : Int)) (.bool false) w7 from ⟨by have := HLE.out; omega, .inl ⟨x, rv, c7, rfl, rfl, rfl, HX.out.2.2, HN.out, hi, hr'⟩⟩)
          clear hi hr hr' h1
          generalize a % 2147483648 = am at *
          go_wp2_with (go_at_call 41; (with_reducible refine (HRF _).mono ?_); rintro e w' ⟨rfl, rfl⟩)
          go_roundw
          case rel => exact ⟨m, HJ6.out⟩
          case measure => exact Nat.lt_of_lt_of_eq (cnt_lt (J := fun m wr => RWalk g A n cap log w0 wb t (Prd.lookW t st f) f M R m (.int .i64 (x : Int)) (.int .i64 ((rv : Nat) : Int)) (.bool false) wr) HJ6.out (Nat.lt_succ_self m)) HM2.out.symm
        · rw [if_neg h1] at hr
          have d1 : (((a % 2147483648 : Nat) : Int) != 0) = true := by rw [bne_iff_ne]; omega
          have hr3 : (Prd.ask 0 ((fieldN t x 4 : Nat) : Int) 0 0 [] fun u => (((Prd.ask 0 ((fieldN t x 5 : Nat) : Int) 0 0 [] fun v => Prd.ret (if u = st ∨ v = st then 1 else 0)).bind (fun e => if e = 1 then (Prd.markW t x v).bind fun d => if d = 1 then (Prd.set t x 2 f).bind fun _ => Prd.ret 1 else Prd.ret 1 else Prd.ret 0)).bind (fun d => if d = 0 then Prd.walk t (Prd.lookW t st f) f m x (rv) else if d = 1 then Prd.walk t (Prd.lookW t st f) f m p x else Prd.ret (encS p x d)))).runCD c7 = R := hr
          have HL := rLoadD (cap := cap) (wb := wb) OK hr3 w7 hi
          clear hi hr hr3 h1
          generalize a % 2147483648 = am at *
          generalize hf4 : fieldN t x 4 = f4 at *
          clear hf4
          go_wp2_with (go_at_call 17; (with_reducible refine (HK4 _).mono ?_); rintro e w' ⟨rfl, rfl⟩)
          (with_reducible refine HL.mono ?_)
          clear HL
          rintro e w8 ⟨u, c8, rfl, hn, hi, hbt, hr⟩
          try dsimp only at hr
          clear hn hbt
          have hr4 : (Prd.ask 0 ((fieldN t x 5 : Nat) : Int) 0 0 [] fun v2 => (((Prd.ret (if u = st ∨ v2 = st then 1 else 0)).bind (fun e => if e = 1 then (Prd.markW t x v).bind fun d => if d = 1 then (Prd.set t x 2 f).bind fun _ => Prd.ret 1 else Prd.ret 1 else Prd.ret 0)).bind (fun d => if d = 0 then Prd.walk t (Prd.lookW t st f) f m x (rv) else if d = 1 then Prd.walk t (Prd.lookW t st f) f m p x else Prd.ret (encS p x d)))).runCD c8 = R := hr
          have HL := rLoadD (cap := cap) (wb := wb) OK hr4 w8 hi
          clear hi hr hr4
          generalize hf5 : fieldN t x 5 = f5 at *
          clear hf5
          go_wp2_with (go_at_call 17; (with_reducible refine (HK5 _).mono ?_); rintro e w' ⟨rfl, rfl⟩)
          (with_reducible refine HL.mono ?_)
          clear HL
          rintro e w9 ⟨v2, c9, rfl, hn, hi, hbt, hr⟩
          try dsimp only at hr
          clear hn hbt d1
          by_cases hu : u = st
          · have du : ((u : Int) == (st : Int)) = true := by rw [beq_iff_eq]; omega
            rw [if_pos (.inl hu)] at hr
            have hr' : (Prd.ask 2 ((nextN t x : Nat) : Int) v (v + 1) [] fun d => (if d = 1 then (Prd.set t x 2 f).bind fun _ => Prd.ret 1 else Prd.ret 1).bind (fun d => if d = 0 then Prd.walk t (Prd.lookW t st f) f m x (rv) else if d = 1 then Prd.walk t (Prd.lookW t st f) f m p x else Prd.ret (encS p x d))).runCD c9 = R := hr
            rw [nextN_pos (by have := HX.out.2.1; omega)] at hr'
            have HC := rCasD (cap := cap) (wb := wb) OK hr' w9 hi
            clear hi hr hr' hu
            generalize fieldN t x 0 = f0 at *
            generalize hv1 : v + 1 = v1 at *
            clear hv1
            go_wp2_with (go_at_call 17; (with_reducible refine (HK0 _).mono ?_); rintro e w' ⟨rfl, rfl⟩)
            (with_reducible refine HC.mono ?_)
            clear HC
            rintro e w10 ⟨d, c10, rfl, hn, hi, hbt, hr⟩
            try dsimp only at hr
            clear hn hbt
            by_cases hd : d = 1
            · have dd := eq1 hd
              rw [if_pos hd, Prd.bind_assoc] at hr
              have HS : Calls Tryz.prog 67 #[.pointer (some ⟨g, 0, none⟩), .int .i64 (t : Int), .int .i64 (x : Int), .int .i64 2] w10 _ := rPartD HB.out hr w10 (fun hb' => rSet_prg OK t x 2 f HT.out HX.out.2.1 HX.out.2.2 (.inr rfl) c10 _ hb' rfl w10 hi)
              clear hi hr hd
              go_wp2_with fail
              (with_reducible refine HS.mono ?_)
              clear HS
              rintro e w11 ⟨d11, c11, rfl, hi, hr⟩
              try dsimp only at hr
              have hr' : (Prd.walk t (Prd.lookW t st f) f m p x).runCD c11 = R := hr
              have HJ6 := Lib.hid (show RWalk g A n cap log w0 wb t (Prd.lookW t st f) f M R m (.int .i64 (p : Int)) (.int .i64 (x : Int)) (.bool false) w11 from ⟨by have := HLE.out; omega, .inl ⟨p, x, c11, rfl, rfl, rfl, HX.out.1, HX.out.2.2, hi, hr'⟩⟩)
              clear hi hr hr'
              go_wp2_with fail
              go_roundw
              case rel => exact ⟨m, HJ6.out⟩
              case measure => exact Nat.lt_of_lt_of_eq (cnt_lt (J := fun m wr => RWalk g A n cap log w0 wb t (Prd.lookW t st f) f M R m (.int .i64 (p : Int)) (.int .i64 (x : Int)) (.bool false) wr) HJ6.out (Nat.lt_succ_self m)) HM2.out.symm
            · have dd := ne1 hd
              rw [if_neg hd] at hr
              have hr' : (Prd.walk t (Prd.lookW t st f) f m p x).runCD c10 = R := hr
              have HJ6 := Lib.hid (show RWalk g A n cap log w0 wb t (Prd.lookW t st f) f M R m (.int .i64 (p : Int)) (.int .i64 (x : Int)) (.bool false) w10 from ⟨by have := HLE.out; omega, .inl ⟨p, x, c10, rfl, rfl, rfl, HX.out.1, HX.out.2.2, hi, hr'⟩⟩)
              clear hi hr hr' hd
              go_wp2_with fail
              go_roundw
              case rel => exact ⟨m, HJ6.out⟩
              case measure => exact Nat.lt_of_lt_of_eq (cnt_lt (J := fun m wr => RWalk g A n cap log w0 wb t (Prd.lookW t st f) f M R m (.int .i64 (p : Int)) (.int .i64 (x : Int)) (.bool false) wr) HJ6.out (Nat.lt_succ_self m)) HM2.out.symm
          · have du : ((u : Int) == (st : Int)) = false := by rw [beq_eq_false_iff_ne]; omega
            by_cases hv : v2 = st
            · have dw : ((v2 : Int) == (st : Int)) = true := by rw [beq_iff_eq]; omega
              rw [if_pos (.inr hv)] at hr
              have hr' : (Prd.ask 2 ((nextN t x : Nat) : Int) v (v + 1) [] fun d => (if d = 1 then (Prd.set t x 2 f).bind fun _ => Prd.ret 1 else Prd.ret 1).bind (fun d => if d = 0 then Prd.walk t (Prd.lookW t st f) f m x (rv) else if d = 1 then Prd.walk t (Prd.lookW t st f) f m p x else Prd.ret (encS p x d))).runCD c9 = R := hr
              rw [nextN_pos (by have := HX.out.2.1; omega)] at hr'
              have HC := rCasD (cap := cap) (wb := wb) OK hr' w9 hi
              clear hi hr hr' hu hv
              generalize fieldN t x 0 = f0 at *
              generalize hv1 : v + 1 = v1 at *
              clear hv1
              go_wp2_with (go_at_call 17; (with_reducible refine (HK0 _).mono ?_); rintro e w' ⟨rfl, rfl⟩)
              (with_reducible refine HC.mono ?_)
              clear HC
              rintro e w10 ⟨d, c10, rfl, hn, hi, hbt, hr⟩
              try dsimp only at hr
              clear hn hbt
              by_cases hd : d = 1
              · have dd := eq1 hd
                rw [if_pos hd, Prd.bind_assoc] at hr
                have HS : Calls Tryz.prog 67 #[.pointer (some ⟨g, 0, none⟩), .int .i64 (t : Int), .int .i64 (x : Int), .int .i64 2] w10 _ := rPartD HB.out hr w10 (fun hb' => rSet_prg OK t x 2 f HT.out HX.out.2.1 HX.out.2.2 (.inr rfl) c10 _ hb' rfl w10 hi)
                clear hi hr hd
                go_wp2_with fail
                (with_reducible refine HS.mono ?_)
                clear HS
                rintro e w11 ⟨d11, c11, rfl, hi, hr⟩
                try dsimp only at hr
                have hr' : (Prd.walk t (Prd.lookW t st f) f m p x).runCD c11 = R := hr
                have HJ6 := Lib.hid (show RWalk g A n cap log w0 wb t (Prd.lookW t st f) f M R m (.int .i64 (p : Int)) (.int .i64 (x : Int)) (.bool false) w11 from ⟨by have := HLE.out; omega, .inl ⟨p, x, c11, rfl, rfl, rfl, HX.out.1, HX.out.2.2, hi, hr'⟩⟩)
                clear hi hr hr'
                go_wp2_with fail
                go_roundw
                case rel => exact ⟨m, HJ6.out⟩
                case measure => exact Nat.lt_of_lt_of_eq (cnt_lt (J := fun m wr => RWalk g A n cap log w0 wb t (Prd.lookW t st f) f M R m (.int .i64 (p : Int)) (.int .i64 (x : Int)) (.bool false) wr) HJ6.out (Nat.lt_succ_self m)) HM2.out.symm
              · have dd := ne1 hd
                rw [if_neg hd] at hr
                have hr' : (Prd.walk t (Prd.lookW t st f) f m p x).runCD c10 = R := hr
                have HJ6 := Lib.hid (show RWalk g A n cap log w0 wb t (Prd.lookW t st f) f M R m (.int .i64 (p : Int)) (.int .i64 (x : Int)) (.bool false) w10 from ⟨by have := HLE.out; omega, .inl ⟨p, x, c10, rfl, rfl, rfl, HX.out.1, HX.out.2.2, hi, hr'⟩⟩)
                clear hi hr hr' hd
                go_wp2_with fail
                go_roundw
                case rel => exact ⟨m, HJ6.out⟩
                case measure => exact Nat.lt_of_lt_of_eq (cnt_lt (J := fun m wr => RWalk g A n cap log w0 wb t (Prd.lookW t st f) f M R m (.int .i64 (p : Int)) (.int .i64 (x : Int)) (.bool false) wr) HJ6.out (Nat.lt_succ_self m)) HM2.out.symm
            · have dw : ((v2 : Int) == (st : Int)) = false := by rw [beq_eq_false_iff_ne]; omega
              rw [if_neg (by rintro (h | h); exact hu h; exact hv h)] at hr
              have hr' : (Prd.walk t (Prd.lookW t st f) f m x rv).runCD c9 = R := hr
              have HJ6 := Lib.hid (show RWalk g A n cap log w0 wb t (Prd.lookW t st f) f M R m (.int .i64 (x : Int)) (.int .i64 ((rv : Nat) : Int)) (.bool false) w9 from ⟨by have := HLE.out; omega, .inl ⟨x, rv, c9, rfl, rfl, rfl, HX.out.2.2, HN.out, hi, hr'⟩⟩)
              clear hi hr hr' hu hv
              go_wp2_with (go_at_call 41; (with_reducible refine (HRF _).mono ?_); rintro e w' ⟨rfl, rfl⟩)
              go_roundw
              case rel => exact ⟨m, HJ6.out⟩
              case measure => exact Nat.lt_of_lt_of_eq (cnt_lt (J := fun m wr => RWalk g A n cap log w0 wb t (Prd.lookW t st f) f M R m (.int .i64 (x : Int)) (.int .i64 ((rv : Nat) : Int)) (.bool false) wr) HJ6.out (Nat.lt_succ_self m)) HM2.out.symm
end
end Go.Proofs.YtkfodhkeajmbhaaGreatDoor
namespace Go.Proofs.YtkfodhkeajmbhaaGreatDoor
open Go.ChangeShapes Go.WideShapes Go.ChangeAt Go.RowKit Go.BigFrame Go.Deep
set_option linter.unusedVariables false
set_option maxRecDepth 100000

/-- What is told behind a run. -/
structure ToldL where
  k : Int
  i : Int
  a : Nat
  b : Nat
  d : List Nat
  er : Int
  oi : Bool
  n : Nat
  w : Nat
  is : Bool
def toldL (k : Int) (d : Nat) : CSD → ToldL
  | .at _ => ⟨0, 0, 0, 0, [], lErr k d, lIs k d, lN k d, lW k d, true⟩
  | .stop k i a b d => ⟨k, i, a, b, d, 0, false, 0, 0, false⟩
def lTell (k : Int) : RanD (List Res) → ToldL
  | .done d _ => ⟨0, 0, 0, 0, [], lErr k d, lIs k d, lN k d, lW k d, true⟩
  | .left k i a b d => ⟨k, i, a, b, d, 0, false, 0, 0, false⟩
  | .bad => ⟨0, 0, 0, 0, [], 0, false, 0, 0, false⟩
theorem lTell_of {k : Int} {d : Nat} {c : CSD} {R : RanD (List Res)} (h : (Prd.ret d).runCD c = R) : lTell k R = toldL k d c := by
  subst h
  cases c <;> rfl
def ToldL.val (v : ToldL) (D : Option Addr) (dc : Nat) : Value := .tuple #[.agg #[.int .i64 v.k, .int .i64 v.i, .int .u64 (v.a : Int), .int .u64 (v.b : Int), .slice D v.d.length dc, .slice none 0 0], .agg #[.int .i64 v.er, .bool v.oi, .int .i64 (v.n : Int), .int .u64 (v.w : Int), .slice none 0 0], .bool v.is]
def TellL (lo : Nat) (w : World) (v : ToldL) (e : Ending) (w' : World) : Prop := ∃ D dc, e = .returned (v.val D dc) ∧ AtB w' D v.d.length v.d ∧ v.d.length ≤ dc ∧ v.d.length ≤ 100000 ∧ OffW (fun c => lo ≤ c) D v.d.length ∧ Below w.heap.size w w'
theorem toldCL {lo g : Nat} {A : Option Addr} {n cap : Nat} {log : List Res} {c : CSD} {w : World} (h : CurVD lo g A n cap log c w) (k : Int) (d : Nat) :
    Calls Tryz.prog 37 #[.pointer (some ⟨g, 0, none⟩), lOut k d] w (TellL lo w (toldL k d c)) := by
  cases c with
  | «at» s =>
    obtain ⟨j, h1, h2, h3⟩ := h
    refine (toldE_yes g A n cap _ _ _ _ _ _ (j : Int) (lErr k d) (lIs k d) (lN k d : Int) (lW k d : Int) w (Lib.hid h3)).mono ?_
    rintro e w' ⟨rfl, hb⟩
    exact ⟨none, 0, rfl, AtB.nil _ _, Nat.le_refl 0, Nat.zero_le _, OffW.nil _ _, hb⟩
  | stop k' i a b dd =>
    obtain ⟨D, dc, h1, h2, h3, h4, h5⟩ := h
    refine (toldE_no g A n cap (n : Int) (accC k' i a b dd) D dc none 0 (lErr k d) (lIs k d) (lN k d : Int) (lW k d : Int) w (Lib.hid h1)).mono ?_
    rintro e w' ⟨rfl, hb⟩
    exact ⟨D, dc, rfl, AtB.later (Lib.hid h2) hb, h3, h5, h4.mono fun _ h => h.2, hb⟩
set_option maxHeartbeats 8000000 in
set_option maxRecDepth 100000 in
theorem lRefNext_at (t : Nat) (ht : t ≤ 64) (k u v : Int) (x : Nat) (hop : LOp k u v x) (A : Option Addr) (n cap : Nat) (log : List Res) (hc : n ≤ cap) (w : World) (hl : Hid (LogAt w A n log)) :
    Calls Tryz.prog 12 #[.int .i64 (t : Int), .agg #[.int .i64 k, .int .i64 u, .int .i64 v, .int .u64 (x : Int)], .slice A n cap] w (TellL (w.heap.size + 1 + 1 + 1 + 1 + 1) w (lTell k (lNextR t k u v x log))) := by
  have hbb := lNextR_ok t k u v x log
  unfold lNextR at *
  by_cases h8 : k = 8
  · subst h8
    have hp : lPrg t 8 u v x (log.length + 1) = Prd.search t x (log.length + 1) := by unfold lPrg; rfl
    rw [hp] at hbb ⊢
    obtain ⟨R, hR⟩ : ∃ R, (Prd.search t x (log.length + 1)).run tapeTellD log = R := ⟨_, rfl⟩
    have hRC : (Prd.search t x (log.length + 1)).runCD (.at log) = R := hR
    rw [hR] at hbb ⊢
    have HBR := Lib.hid hbb
    have HRC := Lib.hid hRC
    have HT := Lib.hid ht
    clear ht hop hc hbb hp hR hRC
    go_enter Tryz.func12, Tryz.ntmps12
    go_wp2_with fail
    refine gen_w (P := fun W => Calls _ _ _ W _) (fun y => Below w.heap.size w y ∧ y.heap.size = w.heap.size + 1 + 1 + 1 + 1 + 1 ∧ VarAt y (w.heap.size + 1) [.int .i64 0, .int .i64 0, .int .u64 0, .int .u64 0, .slice none 0 0, .slice none 0 0] ∧ VarAt y (w.heap.size + 1 + 1) [.int .i64 0, .bool false, .int .i64 0, .int .u64 0, .slice none 0 0] ∧ VarAt y (w.heap.size + 1 + 1 + 1) (curV A n cap 0 false (.int .i64 0) (.int .i64 0) (.int .u64 0) (.int .u64 0) (.slice none 0 0) (.slice none 0 0)) ∧ VarAt y (w.heap.size + 1 + 1 + 1 + 1) [.int .i64 0, .bool false, .int .i64 0, .int .u64 0, .slice none 0 0]) ⟨(by repeat (first | with_reducible assumption | with_reducible exact Below.refl _ _ | with_reducible refine Below.drew ?_ | with_reducible refine below_al ?_ | (with_reducible refine below_set1 (by omega) _ ?_))), by simp, VarAt.mk6 (by simp <;> omega) (by go_simp) (by go_simp) (by go_simp) (by go_simp) (by go_simp) (by go_simp) (by go_simp) (by go_simp) (by go_simp) (by go_simp) (by go_simp) (by go_simp), VarAt.mk5 (by simp <;> omega) (by go_simp) (by go_simp) (by go_simp) (by go_simp) (by go_simp) (by go_simp) (by go_simp) (by go_simp) (by go_simp) (by go_simp), VarAt.mk9 (by simp <;> omega) (by go_simp) (by go_simp) (by go_simp) (by go_simp) (by go_simp) (by go_simp) (by go_simp) (by go_simp) (by go_simp) (by go_simp) (by go_simp) (by go_simp) (by go_simp) (by go_simp) (by go_simp) (by go_simp) (by go_simp) (by go_simp), VarAt.mk5 (by simp <;> omega) (by go_simp) (by go_simp) (by go_simp) (by go_simp) (by go_simp) (by go_simp) (by go_simp) (by go_simp) (by go_simp) (by go_simp)⟩ ?_
    rintro y ⟨k0, k1, k2, k3, k4, k5⟩
    obtain ⟨g, hg⟩ : ∃ g, w.heap.size + 1 + 1 + 1 = g := ⟨_, rfl⟩
    rw [hg] at k4 k5 ⊢
    have HG := Lib.hid hg
    obtain ⟨lo, hlo⟩ : ∃ lo, w.heap.size + 1 + 1 + 1 + 1 + 1 = lo := ⟨_, rfl⟩
    have HLO := Lib.hid hlo
    have hok : CurOk g A n log w y := ⟨hl.out, by omega, k0⟩
    have hcur : CurID g A n cap log w y (.at log) y := ⟨⟨0, Nat.zero_le _, rfl, k4⟩, But.refl _ _⟩
    have K0 := Lib.hid k0
    have K1 := Lib.hid k1
    have K2 := Lib.hid k2
    have K3 := Lib.hid k3
    have K5 := Lib.hid k5
    have HOK := Lib.hid hok
    have HCON : Calls Tryz.prog 32 #[.pointer (some ⟨g, 0, none⟩), .int .i64 (t : Int), .int .u64 (x : Int)] y (RefD g A n cap log w y searchV R) := rSearch_prg HOK (by omega) t x (log.length + 1) HT.out (.at log) R HBR.out HRC.out y hcur
    (with_reducible refine HCON.mono ?_)
    clear HCON hcur k0 k1 k2 k3 k4 k5 hok hg hlo
    rintro e w2 ⟨d, c, rfl, hc, hrd⟩
    have HTE := Lib.hid (lTell_of (k := 8) hrd)
    have hgg := HG.out
    have hyz := K1.out
    have hlo := HLO.out
    have hbt := hc.but
    have HCV : Hid (CurVD lo g A n cap log c w2) := Lib.hid (by have h := hc.cur; rw [hyz, hlo] at h; exact h)
    have HV1 := Lib.hid (K2.out.but hbt (by omega))
    have HV2 := Lib.hid (K3.out.but hbt (by omega))
    have HV5 := Lib.hid (K5.out.but hbt (by omega))
    obtain ⟨_, ⟨o1, o2, o3, o4, o5⟩, p1, p2, p3, p4, p5⟩ := HV5.out.five
    have hsz := hbt.size
    have m3 : g + 1 < w2.heap.size := by omega
    have HBW : Hid (Below w.heap.size w w2) := Lib.hid (K0.out.trans (hbt.below.mono (by omega)))
    clear hc hbt hyz hgg hlo K0 K1 K2 K3 K5 HOK hrd HRC HBR
    by_cases hr0 : d = 0
    · subst hr0
      rw [show searchV 0 = .tuple #[.int .i64 0, .int .i64 0, .bool false, .bool false] from rfl]
      have HE := Lib.hid (show lOut 8 0 = .agg #[.int .i64 7, .bool false, .int .i64 0, .int .u64 0, .slice none 0 0] from rfl)
      go_upto_region 20 with fail
      have hgg := HG.out
      have hlo := HLO.out
      have hbw := HBW.out
      refine gen_w (P := fun W => Code.wp _ _ _ _ W) (fun x => Below w.heap.size w x ∧ VarAt x (w.heap.size + 1) [.int .i64 0, .int .i64 0, .int .u64 0, .int .u64 0, .slice none 0 0, .slice none 0 0] ∧ VarAt x (w.heap.size + 1 + 1) [.int .i64 0, .bool false, .int .i64 0, .int .u64 0, .slice none 0 0] ∧ VarAt x (g + 1) [.int .i64 7, .bool false, .int .i64 0, .int .u64 0, .slice none 0 0] ∧ CurVD lo g A n cap log c x) ⟨(by repeat (first | with_reducible assumption | with_reducible exact Below.refl _ _ | with_reducible refine Below.drew ?_ | with_reducible refine below_al ?_ | (with_reducible refine below_set1 (by omega) _ ?_))), (HV1.out.apart _ _ (by omega)), (HV2.out.apart _ _ (by omega)), VarAt.mk5 (by simp; omega) (by go_simp) (by go_simp) (by go_simp) (by go_simp) (by go_simp) (by go_simp) (by go_simp) (by go_simp) (by go_simp) (by go_simp), (HCV.out.put _ _ (by omega) (.inr (by omega)))⟩ ?_
      rintro z ⟨k0, k1, k2, k3, k4⟩
      have hg := HG.out
      rw [hlo]
      clear o1 o2 o3 o4 o5 p1 p2 p3 p4 p5 m3 hsz hbw hgg hlo HBW HV1 HV2 HV5 HCV
      have Z0 := Lib.hid k0
      have Z1 := Lib.hid k1
      have Z2 := Lib.hid k2
      have hsz := k3.1
      obtain ⟨_, ⟨o1, o2, o3, o4, o5⟩, _⟩ := k3.five
      have HTC : Calls Tryz.prog 37 #[.pointer (some ⟨g, 0, none⟩), .agg #[.int .i64 7, .bool false, .int .i64 0, .int .u64 0, .slice none 0 0]] z (TellL lo z (toldL 8 0 c)) := (by have h := toldCL k4 8 0; have he : lOut 8 0 = .agg #[.int .i64 7, .bool false, .int .i64 0, .int .u64 0, .slice none 0 0] := HE.out; rwa [he] at h)
      clear k0 k1 k2 k3 k4
      generalize toldL 8 0 c = V at *
      obtain ⟨vk, vi, va, vb, vd, ve, vo, vnn, vw, vis⟩ := V
      unfold TellL ToldL.val at HTC
      simp only at HTC
      obtain ⟨vn, hvn⟩ : ∃ q, vd.length = q := ⟨_, rfl⟩
      rw [hvn] at HTC
      have HVN := Lib.hid hvn
      clear hvn
      go_wp2_with fail
      (with_reducible refine HTC.mono ?_)
      clear HTC
      rintro e w3 ⟨D, dc, rfl, hat, hdc, hdl, hof, hb3⟩
      have HAT := Lib.hid (And.intro hat (And.intro hdc (And.intro hdl hof)))
      obtain ⟨m1, ⟨a0, a1, a2, a3, a4, a5⟩, b0, b1, b2, b3, b4, b5⟩ := (Z1.out.below hb3).six
      obtain ⟨m2, ⟨r1, r2, r3, r4, r5⟩, s1, s2, s3, s4, s5⟩ := (Z2.out.below hb3).five
      have HB3 := Lib.hid (Z0.out.trans (hb3.mono Z0.out.size))
      clear hb3 hat hdc hdl hof
      go_wp2_with fail
      have hb := HB3.out
      have hlo := HLO.out
      have hgo := HG.out
      have hlo2 : g + 1 + 1 = lo := by omega
      clear hgo
      refine bodyPost_ret (v := .tuple #[.agg #[.int .i64 vk, .int .i64 vi, .int .u64 (va : Int), .int .u64 (vb : Int), .slice D vn dc, .slice none 0 0], .agg #[.int .i64 ve, .bool vo, .int .i64 (vnn : Int), .int .u64 (vw : Int), .slice none 0 0], .bool vis]) (by simp [results, Tryz.results12, go_sem, a0, a1, a2, a3, a4, a5, r1, r2, r3, r4, r5]) rfl ?_
      rw [HTE.out]
      unfold TellL ToldL.val
      simp only []
      rw [HVN.out]
      exact ⟨D, dc, rfl, AtB.svd (Q := fun c => lo ≤ c) HAT.out.1 (by repeat (first | with_reducible exact Svd.refl _ _ | with_reducible refine Svd.drew ?_ | (with_reducible refine Svd.set ?_ _ _ _ (by omega)))) HAT.out.2.2.2, HAT.out.2.1, HAT.out.2.2.1, by first | (rw [hlo]; exact HAT.out.2.2.2) | (rw [hlo2]; exact HAT.out.2.2.2), (by repeat (first | with_reducible assumption | with_reducible exact Below.refl _ _ | with_reducible refine Below.drew ?_ | with_reducible refine below_al ?_ | (with_reducible refine below_set1 (by omega) _ ?_)))⟩
    · have hp : predS d < 1048576 := Nat.mod_lt _ (by decide)
      have hok : ((d : Int) != 0) = true := by rw [bne_iff_ne]; omega
      have hpw : IntKind.u64.wrap ((predS d : Nat) : Int) = ((predS d : Nat) : Int) := by rw [IntKind.wrap_u64]; omega
      have HE := Lib.hid (show lOut 8 d = .agg #[.int .i64 0, .bool ((codS d : Int) == 3), .int .i64 ((curS d : Nat) : Int), .int .u64 ((predS d : Nat) : Int), .slice none 0 0] by unfold lOut lErr; rw [if_pos (by decide), if_neg hr0]; rfl)
      unfold searchV
      rw [hok]
      generalize predS d = pd at *
      generalize curS d = cd at *
      generalize ((codS d : Int) == 3) = fd at *
      clear hp hok hr0
      go_upto_region 20 with fail
      have hgg := HG.out
      have hlo := HLO.out
      have hbw := HBW.out
      refine gen_w (P := fun W => Code.wp _ _ _ _ W) (fun x => Below w.heap.size w x ∧ VarAt x (w.heap.size + 1) [.int .i64 0, .int .i64 0, .int .u64 0, .int .u64 0, .slice none 0 0, .slice none 0 0] ∧ VarAt x (w.heap.size + 1 + 1) [.int .i64 0, .bool false, .int .i64 0, .int .u64 0, .slice none 0 0] ∧ VarAt x (g + 1) [.int .i64 0, .bool fd, .int .i64 (cd : Int), .int .u64 (pd : Int), .slice none 0 0] ∧ CurVD lo g A n cap log c x) ⟨(by repeat (first | with_reducible assumption | with_reducible exact Below.refl _ _ | with_reducible refine Below.drew ?_ | with_reducible refine below_al ?_ | (with_reducible refine below_set1 (by omega) _ ?_))), (((((HV1.out.apart _ _ (by omega)).apart _ _ (by omega)).apart _ _ (by omega)).apart _ _ (by omega)).apart _ _ (by omega)), (((((HV2.out.apart _ _ (by omega)).apart _ _ (by omega)).apart _ _ (by omega)).apart _ _ (by omega)).apart _ _ (by omega)), VarAt.mk5 (by simp; omega) (by go_simp) (by go_simp) (by go_simp) (by go_simp) (by go_simp) (by go_simp) (by go_simp) (by go_simp) (by go_simp) (by go_simp), (((((HCV.out.put _ _ (by omega) (.inr (by omega))).put _ _ (by omega) (.inr (by omega))).put _ _ (by omega) (.inr (by omega))).put _ _ (by omega) (.inr (by omega))).put _ _ (by omega) (.inr (by omega)))⟩ ?_
      rintro z ⟨k0, k1, k2, k3, k4⟩
      have hg := HG.out
      rw [hlo]
      clear o1 o2 o3 o4 o5 p1 p2 p3 p4 p5 m3 hsz hbw hgg hlo HBW HV1 HV2 HV5 HCV
      have Z0 := Lib.hid k0
      have Z1 := Lib.hid k1
      have Z2 := Lib.hid k2
      have hsz := k3.1
      obtain ⟨_, ⟨o1, o2, o3, o4, o5⟩, _⟩ := k3.five
      have HTC : Calls Tryz.prog 37 #[.pointer (some ⟨g, 0, none⟩), .agg #[.int .i64 0, .bool fd, .int .i64 (cd : Int), .int .u64 (pd : Int), .slice none 0 0]] z (TellL lo z (toldL 8 d c)) := (by have h := toldCL k4 8 d; have he : lOut 8 d = .agg #[.int .i64 0, .bool fd, .int .i64 (cd : Int), .int .u64 (pd : Int), .slice none 0 0] := HE.out; rwa [he] at h)
      clear k0 k1 k2 k3 k4
      generalize toldL 8 d c = V at *
      obtain ⟨vk, vi, va, vb, vd, ve, vo, vnn, vw, vis⟩ := V
      unfold TellL ToldL.val at HTC
      simp only at HTC
      obtain ⟨vn, hvn⟩ : ∃ q, vd.length = q := ⟨_, rfl⟩
      rw [hvn] at HTC
      have HVN := Lib.hid hvn
      clear hvn
      go_wp2_with fail
      (with_reducible refine HTC.mono ?_)
      clear HTC
      rintro e w3 ⟨D, dc, rfl, hat, hdc, hdl, hof, hb3⟩
      have HAT := Lib.hid (And.intro hat (And.intro hdc (And.intro hdl hof)))
      obtain ⟨m1, ⟨a0, a1, a2, a3, a4, a5⟩, b0, b1, b2, b3, b4, b5⟩ := (Z1.out.below hb3).six
      obtain ⟨m2, ⟨r1, r2, r3, r4, r5⟩, s1, s2, s3, s4, s5⟩ := (Z2.out.below hb3).five
      have HB3 := Lib.hid (Z0.out.trans (hb3.mono Z0.out.size))
      clear hb3 hat hdc hdl hof
      go_wp2_with fail
      have hb := HB3.out
      have hlo := HLO.out
      have hgo := HG.out
      have hlo2 : g + 1 + 1 = lo := by omega
      clear hgo
      refine bodyPost_ret (v := .tuple #[.agg #[.int .i64 vk, .int .i64 vi, .int .u64 (va : Int), .int .u64 (vb : Int), .slice D vn dc, .slice none 0 0], .agg #[.int .i64 ve, .bool vo, .int .i64 (vnn : Int), .int .u64 (vw : Int), .slice none 0 0], .bool vis]) (by simp [results, Tryz.results12, go_sem, a0, a1, a2, a3, a4, a5, r1, r2, r3, r4, r5]) rfl ?_
      rw [HTE.out]
      unfold TellL ToldL.val
      simp only []
      rw [HVN.out]
      exact ⟨D, dc, rfl, AtB.svd (Q := fun c => lo ≤ c) HAT.out.1 (by repeat (first | with_reducible exact Svd.refl _ _ | with_reducible refine Svd.drew ?_ | (with_reducible refine Svd.set ?_ _ _ _ (by omega)))) HAT.out.2.2.2, HAT.out.2.1, HAT.out.2.2.1, by first | (rw [hlo]; exact HAT.out.2.2.2) | (rw [hlo2]; exact HAT.out.2.2.2), (by repeat (first | with_reducible assumption | with_reducible exact Below.refl _ _ | with_reducible refine Below.drew ?_ | with_reducible refine below_al ?_ | (with_reducible refine below_set1 (by omega) _ ?_)))⟩
  by_cases h25 : k = 25
  · subst h25
    obtain ⟨u0, u1⟩ := hop.2.2 rfl
    obtain ⟨ur, rfl⟩ : ∃ ur : Nat, u = (ur : Int) := ⟨u.toNat, by omega⟩
    have hut : ((ur : Int)).toNat = ur := Int.toNat_natCast ur
    have HU := Lib.hid (show ur < 1048576 by omega)
    have hp : lPrg t 25 (ur : Int) v x (log.length + 1) = Prd.seek t ur x (log.length + 1) := by unfold lPrg; rw [hut]; rfl
    rw [hp] at hbb ⊢
    obtain ⟨R, hR⟩ : ∃ R, (Prd.seek t ur x (log.length + 1)).run tapeTellD log = R := ⟨_, rfl⟩
    have hRC : (Prd.seek t ur x (log.length + 1)).runCD (.at log) = R := hR
    rw [hR] at hbb ⊢
    have HBR := Lib.hid hbb
    have HRC := Lib.hid hRC
    have HT := Lib.hid ht
    clear ht hop hc hbb hp hR hRC hut u0 u1
    go_enter Tryz.func12, Tryz.ntmps12
    go_wp2_with fail
    refine gen_w (P := fun W => Calls _ _ _ W _) (fun y => Below w.heap.size w y ∧ y.heap.size = w.heap.size + 1 + 1 + 1 + 1 + 1 ∧ VarAt y (w.heap.size + 1) [.int .i64 0, .int .i64 0, .int .u64 0, .int .u64 0, .slice none 0 0, .slice none 0 0] ∧ VarAt y (w.heap.size + 1 + 1) [.int .i64 0, .bool false, .int .i64 0, .int .u64 0, .slice none 0 0] ∧ VarAt y (w.heap.size + 1 + 1 + 1) (curV A n cap 0 false (.int .i64 0) (.int .i64 0) (.int .u64 0) (.int .u64 0) (.slice none 0 0) (.slice none 0 0)) ∧ VarAt y (w.heap.size + 1 + 1 + 1 + 1) [.int .i64 0, .bool false, .int .i64 0, .int .u64 0, .slice none 0 0]) ⟨(by repeat (first | with_reducible assumption | with_reducible exact Below.refl _ _ | with_reducible refine Below.drew ?_ | with_reducible refine below_al ?_ | (with_reducible refine below_set1 (by omega) _ ?_))), by simp, VarAt.mk6 (by simp <;> omega) (by go_simp) (by go_simp) (by go_simp) (by go_simp) (by go_simp) (by go_simp) (by go_simp) (by go_simp) (by go_simp) (by go_simp) (by go_simp) (by go_simp), VarAt.mk5 (by simp <;> omega) (by go_simp) (by go_simp) (by go_simp) (by go_simp) (by go_simp) (by go_simp) (by go_simp) (by go_simp) (by go_simp) (by go_simp), VarAt.mk9 (by simp <;> omega) (by go_simp) (by go_simp) (by go_simp) (by go_simp) (by go_simp) (by go_simp) (by go_simp) (by go_simp) (by go_simp) (by go_simp) (by go_simp) (by go_simp) (by go_simp) (by go_simp) (by go_simp) (by go_simp) (by go_simp) (by go_simp), VarAt.mk5 (by simp <;> omega) (by go_simp) (by go_simp) (by go_simp) (by go_simp) (by go_simp) (by go_simp) (by go_simp) (by go_simp) (by go_simp) (by go_simp)⟩ ?_
    rintro y ⟨k0, k1, k2, k3, k4, k5⟩
    obtain ⟨g, hg⟩ : ∃ g, w.heap.size + 1 + 1 + 1 = g := ⟨_, rfl⟩
    rw [hg] at k4 k5 ⊢
    have HG := Lib.hid hg
    obtain ⟨lo, hlo⟩ : ∃ lo, w.heap.size + 1 + 1 + 1 + 1 + 1 = lo := ⟨_, rfl⟩
    have HLO := Lib.hid hlo
    have hok : CurOk g A n log w y := ⟨hl.out, by omega, k0⟩
    have hcur : CurID g A n cap log w y (.at log) y := ⟨⟨0, Nat.zero_le _, rfl, k4⟩, But.refl _ _⟩
    have K0 := Lib.hid k0
    have K1 := Lib.hid k1
    have K2 := Lib.hid k2
    have K3 := Lib.hid k3
    have K5 := Lib.hid k5
    have HOK := Lib.hid hok
    have HCON : Calls Tryz.prog 33 #[.pointer (some ⟨g, 0, none⟩), .int .i64 (t : Int), .int .i64 (ur : Int), .int .u64 (x : Int)] y (RefD g A n cap log w y seekV R) := rSeek_prg HOK t ur x (log.length + 1) HT.out HU.out (.at log) R HBR.out HRC.out y hcur
    (with_reducible refine HCON.mono ?_)
    clear HCON hcur k0 k1 k2 k3 k4 k5 hok hg hlo
    rintro e w2 ⟨d, c, rfl, hc, hrd⟩
    have HTE := Lib.hid (lTell_of (k := 25) hrd)
    have hgg := HG.out
    have hyz := K1.out
    have hlo := HLO.out
    have hbt := hc.but
    have HCV : Hid (CurVD lo g A n cap log c w2) := Lib.hid (by have h := hc.cur; rw [hyz, hlo] at h; exact h)
    have HV1 := Lib.hid (K2.out.but hbt (by omega))
    have HV2 := Lib.hid (K3.out.but hbt (by omega))
    have HV5 := Lib.hid (K5.out.but hbt (by omega))
    obtain ⟨_, ⟨o1, o2, o3, o4, o5⟩, p1, p2, p3, p4, p5⟩ := HV5.out.five
    have hsz := hbt.size
    have m3 : g + 1 < w2.heap.size := by omega
    have HBW : Hid (Below w.heap.size w w2) := Lib.hid (K0.out.trans (hbt.below.mono (by omega)))
    clear hc hbt hyz hgg hlo K0 K1 K2 K3 K5 HOK hrd HRC HBR
    have HE := Lib.hid (show lOut 25 d = .agg #[.int .i64 0, .bool (decide (d % 2 = 1)), .int .i64 ((d / 2 : Nat) : Int), .int .u64 0, .slice none 0 0] from rfl)
    unfold seekV
    generalize d / 2 = cd at *
    generalize decide (d % 2 = 1) = fd at *
    go_upto_region 20 with fail
    have hgg := HG.out
    have hlo := HLO.out
    have hbw := HBW.out
    refine gen_w (P := fun W => Code.wp _ _ _ _ W) (fun x => Below w.heap.size w x ∧ VarAt x (w.heap.size + 1) [.int .i64 0, .int .i64 0, .int .u64 0, .int .u64 0, .slice none 0 0, .slice none 0 0] ∧ VarAt x (w.heap.size + 1 + 1) [.int .i64 0, .bool false, .int .i64 0, .int .u64 0, .slice none 0 0] ∧ VarAt x (g + 1) [.int .i64 0, .bool fd, .int .i64 (cd : Int), .int .u64 0, .slice none 0 0] ∧ CurVD lo g A n cap log c x) ⟨(by repeat (first | with_reducible assumption | with_reducible exact Below.refl _ _ | with_reducible refine Below.drew ?_ | with_reducible refine below_al ?_ | (with_reducible refine below_set1 (by omega) _ ?_))), ((HV1.out.apart _ _ (by omega)).apart _ _ (by omega)), ((HV2.out.apart _ _ (by omega)).apart _ _ (by omega)), VarAt.mk5 (by simp; omega) (by go_simp) (by go_simp) (by go_simp) (by go_simp) (by go_simp) (by go_simp) (by go_simp) (by go_simp) (by go_simp) (by go_simp), ((HCV.out.put _ _ (by omega) (.inr (by omega))).put _ _ (by omega) (.inr (by omega)))⟩ ?_
    rintro z ⟨k0, k1, k2, k3, k4⟩
    have hg := HG.out
    rw [hlo]
    clear o1 o2 o3 o4 o5 p1 p2 p3 p4 p5 m3 hsz hbw hgg hlo HBW HV1 HV2 HV5 HCV
    have Z0 := Lib.hid k0
    have Z1 := Lib.hid k1
    have Z2 := Lib.hid k2
    have hsz := k3.1
    obtain ⟨_, ⟨o1, o2, o3, o4, o5⟩, _⟩ := k3.five
    have HTC : Calls Tryz.prog 37 #[.pointer (some ⟨g, 0, none⟩), .agg #[.int .i64 0, .bool fd, .int .i64 (cd : Int), .int .u64 0, .slice none 0 0]] z (TellL lo z (toldL 25 d c)) := (by have h := toldCL k4 25 d; have he : lOut 25 d = .agg #[.int .i64 0, .bool fd, .int .i64 (cd : Int), .int .u64 0, .slice none 0 0] := HE.out; rwa [he] at h)
    clear k0 k1 k2 k3 k4
    generalize toldL 25 d c = V at *
    obtain ⟨vk, vi, va, vb, vd, ve, vo, vnn, vw, vis⟩ := V
    unfold TellL ToldL.val at HTC
    simp only at HTC
    obtain ⟨vn, hvn⟩ : ∃ q, vd.length = q := ⟨_, rfl⟩
    rw [hvn] at HTC
    have HVN := Lib.hid hvn
    clear hvn
    go_wp2_with fail
    (with_reducible refine HTC.mono ?_)
    clear HTC
    rintro e w3 ⟨D, dc, rfl, hat, hdc, hdl, hof, hb3⟩
    have HAT := Lib.hid (And.intro hat (And.intro hdc (And.intro hdl hof)))
    obtain ⟨m1, ⟨a0, a1, a2, a3, a4, a5⟩, b0, b1, b2, b3, b4, b5⟩ := (Z1.out.below hb3).six
    obtain ⟨m2, ⟨r1, r2, r3, r4, r5⟩, s1, s2, s3, s4, s5⟩ := (Z2.out.below hb3).five
    have HB3 := Lib.hid (Z0.out.trans (hb3.mono Z0.out.size))
    clear hb3 hat hdc hdl hof
    go_wp2_with fail
    have hb := HB3.out
    have hlo := HLO.out
    have hgo := HG.out
    have hlo2 : g + 1 + 1 = lo := by omega
    clear hgo
    refine bodyPost_ret (v := .tuple #[.agg #[.int .i64 vk, .int .i64 vi, .int .u64 (va : Int), .int .u64 (vb : Int), .slice D vn dc, .slice none 0 0], .agg #[.int .i64 ve, .bool vo, .int .i64 (vnn : Int), .int .u64 (vw : Int), .slice none 0 0], .bool vis]) (by simp [results, Tryz.results12, go_sem, a0, a1, a2, a3, a4, a5, r1, r2, r3, r4, r5]) rfl ?_
    rw [HTE.out]
    unfold TellL ToldL.val
    simp only []
    rw [HVN.out]
    exact ⟨D, dc, rfl, AtB.svd (Q := fun c => lo ≤ c) HAT.out.1 (by repeat (first | with_reducible exact Svd.refl _ _ | with_reducible refine Svd.drew ?_ | (with_reducible refine Svd.set ?_ _ _ _ (by omega)))) HAT.out.2.2.2, HAT.out.2.1, HAT.out.2.2.1, by first | (rw [hlo]; exact HAT.out.2.2.2) | (rw [hlo2]; exact HAT.out.2.2.2), (by repeat (first | with_reducible assumption | with_reducible exact Below.refl _ _ | with_reducible refine Below.drew ?_ | with_reducible refine below_al ?_ | (with_reducible refine below_set1 (by omega) _ ?_)))⟩
  by_cases h24 : k = 24
  · subst h24
    obtain ⟨u0, u1, v0, v1, x0, x1⟩ := hop.2.1 rfl
    obtain ⟨ur, rfl⟩ : ∃ ur : Nat, u = (ur : Int) := ⟨u.toNat, by omega⟩
    have hut : ((ur : Int)).toNat = ur := Int.toNat_natCast ur
    have HU := Lib.hid (show ur < 1048576 by omega)
    obtain ⟨vr, rfl⟩ : ∃ vr : Nat, v = (vr : Int) := ⟨v.toNat, by omega⟩
    have hvt : ((vr : Int)).toNat = vr := Int.toNat_natCast vr
    have HVR := Lib.hid (show vr < 1048576 ∧ x < 1048576 by omega)
    have hxw : IntKind.i64.wrap (x : Int) = (x : Int) := by rw [IntKind.wrap_i64]; omega
    have hp : lPrg t 24 (ur : Int) (vr : Int) x (log.length + 1) = Prd.link t ur vr x := by unfold lPrg; rw [hut, hvt]; rfl
    rw [hp] at hbb ⊢
    obtain ⟨R, hR⟩ : ∃ R, (Prd.link t ur vr x).run tapeTellD log = R := ⟨_, rfl⟩
    have hRC : (Prd.link t ur vr x).runCD (.at log) = R := hR
    rw [hR] at hbb ⊢
    have HBR := Lib.hid hbb
    have HRC := Lib.hid hRC
    have HT := Lib.hid ht
    clear ht hop hc hbb hp hR hRC hut hvt u0 u1 v0 v1 x0 x1
    go_enter Tryz.func12, Tryz.ntmps12
    go_wp2_with fail
    refine gen_w (P := fun W => Calls _ _ _ W _) (fun y => Below w.heap.size w y ∧ y.heap.size = w.heap.size + 1 + 1 + 1 + 1 + 1 ∧ VarAt y (w.heap.size + 1) [.int .i64 0, .int .i64 0, .int .u64 0, .int .u64 0, .slice none 0 0, .slice none 0 0] ∧ VarAt y (w.heap.size + 1 + 1) [.int .i64 0, .bool false, .int .i64 0, .int .u64 0, .slice none 0 0] ∧ VarAt y (w.heap.size + 1 + 1 + 1) (curV A n cap 0 false (.int .i64 0) (.int .i64 0) (.int .u64 0) (.int .u64 0) (.slice none 0 0) (.slice none 0 0)) ∧ VarAt y (w.heap.size + 1 + 1 + 1 + 1) [.int .i64 0, .bool false, .int .i64 0, .int .u64 0, .slice none 0 0]) ⟨(by repeat (first | with_reducible assumption | with_reducible exact Below.refl _ _ | with_reducible refine Below.drew ?_ | with_reducible refine below_al ?_ | (with_reducible refine below_set1 (by omega) _ ?_))), by simp, VarAt.mk6 (by simp <;> omega) (by go_simp) (by go_simp) (by go_simp) (by go_simp) (by go_simp) (by go_simp) (by go_simp) (by go_simp) (by go_simp) (by go_simp) (by go_simp) (by go_simp), VarAt.mk5 (by simp <;> omega) (by go_simp) (by go_simp) (by go_simp) (by go_simp) (by go_simp) (by go_simp) (by go_simp) (by go_simp) (by go_simp) (by go_simp), VarAt.mk9 (by simp <;> omega) (by go_simp) (by go_simp) (by go_simp) (by go_simp) (by go_simp) (by go_simp) (by go_simp) (by go_simp) (by go_simp) (by go_simp) (by go_simp) (by go_simp) (by go_simp) (by go_simp) (by go_simp) (by go_simp) (by go_simp) (by go_simp), VarAt.mk5 (by simp <;> omega) (by go_simp) (by go_simp) (by go_simp) (by go_simp) (by go_simp) (by go_simp) (by go_simp) (by go_simp) (by go_simp) (by go_simp)⟩ ?_
    rintro y ⟨k0, k1, k2, k3, k4, k5⟩
    obtain ⟨g, hg⟩ : ∃ g, w.heap.size + 1 + 1 + 1 = g := ⟨_, rfl⟩
    rw [hg] at k4 k5 ⊢
    have HG := Lib.hid hg
    obtain ⟨lo, hlo⟩ : ∃ lo, w.heap.size + 1 + 1 + 1 + 1 + 1 = lo := ⟨_, rfl⟩
    have HLO := Lib.hid hlo
    have hok : CurOk g A n log w y := ⟨hl.out, by omega, k0⟩
    have hcur : CurID g A n cap log w y (.at log) y := ⟨⟨0, Nat.zero_le _, rfl, k4⟩, But.refl _ _⟩
    have K0 := Lib.hid k0
    have K1 := Lib.hid k1
    have K2 := Lib.hid k2
    have K3 := Lib.hid k3
    have K5 := Lib.hid k5
    have HOK := Lib.hid hok
    have HCON : Calls Tryz.prog 34 #[.pointer (some ⟨g, 0, none⟩), .int .i64 (t : Int), .int .i64 (ur : Int), .int .i64 (vr : Int), .int .i64 (x : Int)] y (RefD g A n cap log w y (fun d => .bool ((d : Int) == 1)) R) := rLink_prg HOK t ur vr x HT.out HU.out HVR.out.1 HVR.out.2 (.at log) R HRC.out y hcur
    (with_reducible refine HCON.mono ?_)
    clear HCON hcur k0 k1 k2 k3 k4 k5 hok hg hlo
    rintro e w2 ⟨d, c, rfl, hc, hrd⟩
    have HTE := Lib.hid (lTell_of (k := 24) hrd)
    have hgg := HG.out
    have hyz := K1.out
    have hlo := HLO.out
    have hbt := hc.but
    have HCV : Hid (CurVD lo g A n cap log c w2) := Lib.hid (by have h := hc.cur; rw [hyz, hlo] at h; exact h)
    have HV1 := Lib.hid (K2.out.but hbt (by omega))
    have HV2 := Lib.hid (K3.out.but hbt (by omega))
    have HV5 := Lib.hid (K5.out.but hbt (by omega))
    obtain ⟨_, ⟨o1, o2, o3, o4, o5⟩, p1, p2, p3, p4, p5⟩ := HV5.out.five
    have hsz := hbt.size
    have m3 : g + 1 < w2.heap.size := by omega
    have HBW : Hid (Below w.heap.size w w2) := Lib.hid (K0.out.trans (hbt.below.mono (by omega)))
    clear hc hbt hyz hgg hlo K0 K1 K2 K3 K5 HOK hrd HRC HBR
    have HE := Lib.hid (show lOut 24 d = .agg #[.int .i64 0, .bool ((d : Int) == 1), .int .i64 0, .int .u64 0, .slice none 0 0] from rfl)
    go_upto_region 20 with fail
    have hgg := HG.out
    have hlo := HLO.out
    have hbw := HBW.out
    refine gen_w (P := fun W => Code.wp _ _ _ _ W) (fun x => Below w.heap.size w x ∧ VarAt x (w.heap.size + 1) [.int .i64 0, .int .i64 0, .int .u64 0, .int .u64 0, .slice none 0 0, .slice none 0 0] ∧ VarAt x (w.heap.size + 1 + 1) [.int .i64 0, .bool false, .int .i64 0, .int .u64 0, .slice none 0 0] ∧ VarAt x (g + 1) [.int .i64 0, .bool ((d : Int) == 1), .int .i64 0, .int .u64 0, .slice none 0 0] ∧ CurVD lo g A n cap log c x) ⟨(by repeat (first | with_reducible assumption | with_reducible exact Below.refl _ _ | with_reducible refine Below.drew ?_ | with_reducible refine below_al ?_ | (with_reducible refine below_set1 (by omega) _ ?_))), (HV1.out.apart _ _ (by omega)), (HV2.out.apart _ _ (by omega)), VarAt.mk5 (by simp; omega) (by go_simp) (by go_simp) (by go_simp) (by go_simp) (by go_simp) (by go_simp) (by go_simp) (by go_simp) (by go_simp) (by go_simp), (HCV.out.put _ _ (by omega) (.inr (by omega)))⟩ ?_
    rintro z ⟨k0, k1, k2, k3, k4⟩
    have hg := HG.out
    rw [hlo]
    clear o1 o2 o3 o4 o5 p1 p2 p3 p4 p5 m3 hsz hbw hgg hlo HBW HV1 HV2 HV5 HCV
    have Z0 := Lib.hid k0
    have Z1 := Lib.hid k1
    have Z2 := Lib.hid k2
    have hsz := k3.1
    obtain ⟨_, ⟨o1, o2, o3, o4, o5⟩, _⟩ := k3.five
    have HTC : Calls Tryz.prog 37 #[.pointer (some ⟨g, 0, none⟩), .agg #[.int .i64 0, .bool ((d : Int) == 1), .int .i64 0, .int .u64 0, .slice none 0 0]] z (TellL lo z (toldL 24 d c)) := (by have h := toldCL k4 24 d; have he : lOut 24 d = .agg #[.int .i64 0, .bool ((d : Int) == 1), .int .i64 0, .int .u64 0, .slice none 0 0] := HE.out; rwa [he] at h)
    clear k0 k1 k2 k3 k4
    generalize toldL 24 d c = V at *
    obtain ⟨vk, vi, va, vb, vd, ve, vo, vnn, vw, vis⟩ := V
    unfold TellL ToldL.val at HTC
    simp only at HTC
    obtain ⟨vn, hvn⟩ : ∃ q, vd.length = q := ⟨_, rfl⟩
    rw [hvn] at HTC
    have HVN := Lib.hid hvn
    clear hvn
    go_wp2_with fail
    (with_reducible refine HTC.mono ?_)
    clear HTC
    rintro e w3 ⟨D, dc, rfl, hat, hdc, hdl, hof, hb3⟩
    have HAT := Lib.hid (And.intro hat (And.intro hdc (And.intro hdl hof)))
    obtain ⟨m1, ⟨a0, a1, a2, a3, a4, a5⟩, b0, b1, b2, b3, b4, b5⟩ := (Z1.out.below hb3).six
    obtain ⟨m2, ⟨r1, r2, r3, r4, r5⟩, s1, s2, s3, s4, s5⟩ := (Z2.out.below hb3).five
    have HB3 := Lib.hid (Z0.out.trans (hb3.mono Z0.out.size))
    clear hb3 hat hdc hdl hof
    go_wp2_with fail
    have hb := HB3.out
    have hlo := HLO.out
    have hgo := HG.out
    have hlo2 : g + 1 + 1 = lo := by omega
    clear hgo
    refine bodyPost_ret (v := .tuple #[.agg #[.int .i64 vk, .int .i64 vi, .int .u64 (va : Int), .int .u64 (vb : Int), .slice D vn dc, .slice none 0 0], .agg #[.int .i64 ve, .bool vo, .int .i64 (vnn : Int), .int .u64 (vw : Int), .slice none 0 0], .bool vis]) (by simp [results, Tryz.results12, go_sem, a0, a1, a2, a3, a4, a5, r1, r2, r3, r4, r5]) rfl ?_
    rw [HTE.out]
    unfold TellL ToldL.val
    simp only []
    rw [HVN.out]
    exact ⟨D, dc, rfl, AtB.svd (Q := fun c => lo ≤ c) HAT.out.1 (by repeat (first | with_reducible exact Svd.refl _ _ | with_reducible refine Svd.drew ?_ | (with_reducible refine Svd.set ?_ _ _ _ (by omega)))) HAT.out.2.2.2, HAT.out.2.1, HAT.out.2.2.1, by first | (rw [hlo]; exact HAT.out.2.2.2) | (rw [hlo2]; exact HAT.out.2.2.2), (by repeat (first | with_reducible assumption | with_reducible exact Below.refl _ _ | with_reducible refine Below.drew ?_ | with_reducible refine below_al ?_ | (with_reducible refine below_set1 (by omega) _ ?_)))⟩
  by_cases h9 : k = 9
  · subst h9
    obtain ⟨u0, u1⟩ := hop.1 rfl
    obtain ⟨ur, rfl⟩ : ∃ ur : Nat, u = (ur : Int) := ⟨u.toNat, by omega⟩
    have hut : ((ur : Int)).toNat = ur := Int.toNat_natCast ur
    have HU := Lib.hid (show ur < 1048576 by omega)
    have hp : lPrg t 9 (ur : Int) v x (log.length + 1) = Prd.mark t ur := by unfold lPrg; rw [hut]; rfl
    rw [hp] at hbb ⊢
    obtain ⟨R, hR⟩ : ∃ R, (Prd.mark t ur).run tapeTellD log = R := ⟨_, rfl⟩
    have hRC : (Prd.mark t ur).runCD (.at log) = R := hR
    rw [hR] at hbb ⊢
    have HBR := Lib.hid hbb
    have HRC := Lib.hid hRC
    have HT := Lib.hid ht
    clear ht hop hc hbb hp hR hRC hut u0 u1
    go_enter Tryz.func12, Tryz.ntmps12
    go_wp2_with fail
    refine gen_w (P := fun W => Calls _ _ _ W _) (fun y => Below w.heap.size w y ∧ y.heap.size = w.heap.size + 1 + 1 + 1 + 1 + 1 ∧ VarAt y (w.heap.size + 1) [.int .i64 0, .int .i64 0, .int .u64 0, .int .u64 0, .slice none 0 0, .slice none 0 0] ∧ VarAt y (w.heap.size + 1 + 1) [.int .i64 0, .bool false, .int .i64 0, .int .u64 0, .slice none 0 0] ∧ VarAt y (w.heap.size + 1 + 1 + 1) (curV A n cap 0 false (.int .i64 0) (.int .i64 0) (.int .u64 0) (.int .u64 0) (.slice none 0 0) (.slice none 0 0)) ∧ VarAt y (w.heap.size + 1 + 1 + 1 + 1) [.int .i64 0, .bool false, .int .i64 0, .int .u64 0, .slice none 0 0]) ⟨(by repeat (first | with_reducible assumption | with_reducible exact Below.refl _ _ | with_reducible refine Below.drew ?_ | with_reducible refine below_al ?_ | (with_reducible refine below_set1 (by omega) _ ?_))), by simp, VarAt.mk6 (by simp <;> omega) (by go_simp) (by go_simp) (by go_simp) (by go_simp) (by go_simp) (by go_simp) (by go_simp) (by go_simp) (by go_simp) (by go_simp) (by go_simp) (by go_simp), VarAt.mk5 (by simp <;> omega) (by go_simp) (by go_simp) (by go_simp) (by go_simp) (by go_simp) (by go_simp) (by go_simp) (by go_simp) (by go_simp) (by go_simp), VarAt.mk9 (by simp <;> omega) (by go_simp) (by go_simp) (by go_simp) (by go_simp) (by go_simp) (by go_simp) (by go_simp) (by go_simp) (by go_simp) (by go_simp) (by go_simp) (by go_simp) (by go_simp) (by go_simp) (by go_simp) (by go_simp) (by go_simp) (by go_simp), VarAt.mk5 (by simp <;> omega) (by go_simp) (by go_simp) (by go_simp) (by go_simp) (by go_simp) (by go_simp) (by go_simp) (by go_simp) (by go_simp) (by go_simp)⟩ ?_
    rintro y ⟨k0, k1, k2, k3, k4, k5⟩
    obtain ⟨g, hg⟩ : ∃ g, w.heap.size + 1 + 1 + 1 = g := ⟨_, rfl⟩
    rw [hg] at k4 k5 ⊢
    have HG := Lib.hid hg
    obtain ⟨lo, hlo⟩ : ∃ lo, w.heap.size + 1 + 1 + 1 + 1 + 1 = lo := ⟨_, rfl⟩
    have HLO := Lib.hid hlo
    have hok : CurOk g A n log w y := ⟨hl.out, by omega, k0⟩
    have hcur : CurID g A n cap log w y (.at log) y := ⟨⟨0, Nat.zero_le _, rfl, k4⟩, But.refl _ _⟩
    have K0 := Lib.hid k0
    have K1 := Lib.hid k1
    have K2 := Lib.hid k2
    have K3 := Lib.hid k3
    have K5 := Lib.hid k5
    have HOK := Lib.hid hok
    have HCON : Calls Tryz.prog 35 #[.pointer (some ⟨g, 0, none⟩), .int .i64 (t : Int), .int .i64 (ur : Int)] y (RefD g A n cap log w y (fun d => .bool ((d : Int) == 1)) R) := rMark_prg HOK t ur HT.out HU.out (.at log) R HRC.out y hcur
    (with_reducible refine HCON.mono ?_)
    clear HCON hcur k0 k1 k2 k3 k4 k5 hok hg hlo
    rintro e w2 ⟨d, c, rfl, hc, hrd⟩
    have HTE := Lib.hid (lTell_of (k := 9) hrd)
    have hgg := HG.out
    have hyz := K1.out
    have hlo := HLO.out
    have hbt := hc.but
    have HCV : Hid (CurVD lo g A n cap log c w2) := Lib.hid (by have h := hc.cur; rw [hyz, hlo] at h; exact h)
    have HV1 := Lib.hid (K2.out.but hbt (by omega))
    have HV2 := Lib.hid (K3.out.but hbt (by omega))
    have HV5 := Lib.hid (K5.out.but hbt (by omega))
    obtain ⟨_, ⟨o1, o2, o3, o4, o5⟩, p1, p2, p3, p4, p5⟩ := HV5.out.five
    have hsz := hbt.size
    have m3 : g + 1 < w2.heap.size := by omega
    have HBW : Hid (Below w.heap.size w w2) := Lib.hid (K0.out.trans (hbt.below.mono (by omega)))
    clear hc hbt hyz hgg hlo K0 K1 K2 K3 K5 HOK hrd HRC HBR
    have HE := Lib.hid (show lOut 9 d = .agg #[.int .i64 0, .bool ((d : Int) == 1), .int .i64 0, .int .u64 0, .slice none 0 0] from rfl)
    go_upto_region 20 with fail
    have hgg := HG.out
    have hlo := HLO.out
    have hbw := HBW.out
    refine gen_w (P := fun W => Code.wp _ _ _ _ W) (fun x => Below w.heap.size w x ∧ VarAt x (w.heap.size + 1) [.int .i64 0, .int .i64 0, .int .u64 0, .int .u64 0, .slice none 0 0, .slice none 0 0] ∧ VarAt x (w.heap.size + 1 + 1) [.int .i64 0, .bool false, .int .i64 0, .int .u64 0, .slice none 0 0] ∧ VarAt x (g + 1) [.int .i64 0, .bool ((d : Int) == 1), .int .i64 0, .int .u64 0, .slice none 0 0] ∧ CurVD lo g A n cap log c x) ⟨(by repeat (first | with_reducible assumption | with_reducible exact Below.refl _ _ | with_reducible refine Below.drew ?_ | with_reducible refine below_al ?_ | (with_reducible refine below_set1 (by omega) _ ?_))), (HV1.out.apart _ _ (by omega)), (HV2.out.apart _ _ (by omega)), VarAt.mk5 (by simp; omega) (by go_simp) (by go_simp) (by go_simp) (by go_simp) (by go_simp) (by go_simp) (by go_simp) (by go_simp) (by go_simp) (by go_simp), (HCV.out.put _ _ (by omega) (.inr (by omega)))⟩ ?_
    rintro z ⟨k0, k1, k2, k3, k4⟩
    have hg := HG.out
    rw [hlo]
    clear o1 o2 o3 o4 o5 p1 p2 p3 p4 p5 m3 hsz hbw hgg hlo HBW HV1 HV2 HV5 HCV
    have Z0 := Lib.hid k0
    have Z1 := Lib.hid k1
    have Z2 := Lib.hid k2
    have hsz := k3.1
    obtain ⟨_, ⟨o1, o2, o3, o4, o5⟩, _⟩ := k3.five
    have HTC : Calls Tryz.prog 37 #[.pointer (some ⟨g, 0, none⟩), .agg #[.int .i64 0, .bool ((d : Int) == 1), .int .i64 0, .int .u64 0, .slice none 0 0]] z (TellL lo z (toldL 9 d c)) := (by have h := toldCL k4 9 d; have he : lOut 9 d = .agg #[.int .i64 0, .bool ((d : Int) == 1), .int .i64 0, .int .u64 0, .slice none 0 0] := HE.out; rwa [he] at h)
    clear k0 k1 k2 k3 k4
    generalize toldL 9 d c = V at *
    obtain ⟨vk, vi, va, vb, vd, ve, vo, vnn, vw, vis⟩ := V
    unfold TellL ToldL.val at HTC
    simp only at HTC
    obtain ⟨vn, hvn⟩ : ∃ q, vd.length = q := ⟨_, rfl⟩
    rw [hvn] at HTC
    have HVN := Lib.hid hvn
    clear hvn
    go_wp2_with fail
    (with_reducible refine HTC.mono ?_)
    clear HTC
    rintro e w3 ⟨D, dc, rfl, hat, hdc, hdl, hof, hb3⟩
    have HAT := Lib.hid (And.intro hat (And.intro hdc (And.intro hdl hof)))
    obtain ⟨m1, ⟨a0, a1, a2, a3, a4, a5⟩, b0, b1, b2, b3, b4, b5⟩ := (Z1.out.below hb3).six
    obtain ⟨m2, ⟨r1, r2, r3, r4, r5⟩, s1, s2, s3, s4, s5⟩ := (Z2.out.below hb3).five
    have HB3 := Lib.hid (Z0.out.trans (hb3.mono Z0.out.size))
    clear hb3 hat hdc hdl hof
    go_wp2_with fail
    have hb := HB3.out
    have hlo := HLO.out
    have hgo := HG.out
    have hlo2 : g + 1 + 1 = lo := by omega
    clear hgo
    refine bodyPost_ret (v := .tuple #[.agg #[.int .i64 vk, .int .i64 vi, .int .u64 (va : Int), .int .u64 (vb : Int), .slice D vn dc, .slice none 0 0], .agg #[.int .i64 ve, .bool vo, .int .i64 (vnn : Int), .int .u64 (vw : Int), .slice none 0 0], .bool vis]) (by simp [results, Tryz.results12, go_sem, a0, a1, a2, a3, a4, a5, r1, r2, r3, r4, r5]) rfl ?_
    rw [HTE.out]
    unfold TellL ToldL.val
    simp only []
    rw [HVN.out]
    exact ⟨D, dc, rfl, AtB.svd (Q := fun c => lo ≤ c) HAT.out.1 (by repeat (first | with_reducible exact Svd.refl _ _ | with_reducible refine Svd.drew ?_ | (with_reducible refine Svd.set ?_ _ _ _ (by omega)))) HAT.out.2.2.2, HAT.out.2.1, HAT.out.2.2.1, by first | (rw [hlo]; exact HAT.out.2.2.2) | (rw [hlo2]; exact HAT.out.2.2.2), (by repeat (first | with_reducible assumption | with_reducible exact Below.refl _ _ | with_reducible refine Below.drew ?_ | with_reducible refine below_al ?_ | (with_reducible refine below_set1 (by omega) _ ?_)))⟩
  by_cases h10 : k = 10
  · subst h10
    have hp : lPrg t 10 u v x (log.length + 1) = Prd.sweep t x (log.length + 1) := by unfold lPrg; rfl
    rw [hp] at hbb ⊢
    obtain ⟨R, hR⟩ : ∃ R, (Prd.sweep t x (log.length + 1)).run tapeTellD log = R := ⟨_, rfl⟩
    have hRC : (Prd.sweep t x (log.length + 1)).runCD (.at log) = R := hR
    rw [hR] at hbb ⊢
    have HBR := Lib.hid hbb
    have HRC := Lib.hid hRC
    have HT := Lib.hid ht
    clear ht hop hc hbb hp hR hRC
    go_enter Tryz.func12, Tryz.ntmps12
    go_wp2_with fail
    refine gen_w (P := fun W => Calls _ _ _ W _) (fun y => Below w.heap.size w y ∧ y.heap.size = w.heap.size + 1 + 1 + 1 + 1 + 1 ∧ VarAt y (w.heap.size + 1) [.int .i64 0, .int .i64 0, .int .u64 0, .int .u64 0, .slice none 0 0, .slice none 0 0] ∧ VarAt y (w.heap.size + 1 + 1) [.int .i64 0, .bool false, .int .i64 0, .int .u64 0, .slice none 0 0] ∧ VarAt y (w.heap.size + 1 + 1 + 1) (curV A n cap 0 false (.int .i64 0) (.int .i64 0) (.int .u64 0) (.int .u64 0) (.slice none 0 0) (.slice none 0 0)) ∧ VarAt y (w.heap.size + 1 + 1 + 1 + 1) [.int .i64 0, .bool false, .int .i64 0, .int .u64 0, .slice none 0 0]) ⟨(by repeat (first | with_reducible assumption | with_reducible exact Below.refl _ _ | with_reducible refine Below.drew ?_ | with_reducible refine below_al ?_ | (with_reducible refine below_set1 (by omega) _ ?_))), by simp, VarAt.mk6 (by simp <;> omega) (by go_simp) (by go_simp) (by go_simp) (by go_simp) (by go_simp) (by go_simp) (by go_simp) (by go_simp) (by go_simp) (by go_simp) (by go_simp) (by go_simp), VarAt.mk5 (by simp <;> omega) (by go_simp) (by go_simp) (by go_simp) (by go_simp) (by go_simp) (by go_simp) (by go_simp) (by go_simp) (by go_simp) (by go_simp), VarAt.mk9 (by simp <;> omega) (by go_simp) (by go_simp) (by go_simp) (by go_simp) (by go_simp) (by go_simp) (by go_simp) (by go_simp) (by go_simp) (by go_simp) (by go_simp) (by go_simp) (by go_simp) (by go_simp) (by go_simp) (by go_simp) (by go_simp) (by go_simp), VarAt.mk5 (by simp <;> omega) (by go_simp) (by go_simp) (by go_simp) (by go_simp) (by go_simp) (by go_simp) (by go_simp) (by go_simp) (by go_simp) (by go_simp)⟩ ?_
    rintro y ⟨k0, k1, k2, k3, k4, k5⟩
    obtain ⟨g, hg⟩ : ∃ g, w.heap.size + 1 + 1 + 1 = g := ⟨_, rfl⟩
    rw [hg] at k4 k5 ⊢
    have HG := Lib.hid hg
    obtain ⟨lo, hlo⟩ : ∃ lo, w.heap.size + 1 + 1 + 1 + 1 + 1 = lo := ⟨_, rfl⟩
    have HLO := Lib.hid hlo
    have hok : CurOk g A n log w y := ⟨hl.out, by omega, k0⟩
    have hcur : CurID g A n cap log w y (.at log) y := ⟨⟨0, Nat.zero_le _, rfl, k4⟩, But.refl _ _⟩
    have K0 := Lib.hid k0
    have K1 := Lib.hid k1
    have K2 := Lib.hid k2
    have K3 := Lib.hid k3
    have K5 := Lib.hid k5
    have HOK := Lib.hid hok
    have HCON : Calls Tryz.prog 36 #[.pointer (some ⟨g, 0, none⟩), .int .i64 (t : Int), .int .u64 (x : Int)] y (RefD g A n cap log w y (fun d => .bool ((d : Int) != 0)) R) := rSweep_prg HOK (by omega) t x (log.length + 1) HT.out (.at log) R HBR.out HRC.out y hcur
    (with_reducible refine HCON.mono ?_)
    clear HCON hcur k0 k1 k2 k3 k4 k5 hok hg hlo
    rintro e w2 ⟨d, c, rfl, hc, hrd⟩
    have HTE := Lib.hid (lTell_of (k := 10) hrd)
    have hgg := HG.out
    have hyz := K1.out
    have hlo := HLO.out
    have hbt := hc.but
    have HCV : Hid (CurVD lo g A n cap log c w2) := Lib.hid (by have h := hc.cur; rw [hyz, hlo] at h; exact h)
    have HV1 := Lib.hid (K2.out.but hbt (by omega))
    have HV2 := Lib.hid (K3.out.but hbt (by omega))
    have HV5 := Lib.hid (K5.out.but hbt (by omega))
    obtain ⟨_, ⟨o1, o2, o3, o4, o5⟩, p1, p2, p3, p4, p5⟩ := HV5.out.five
    have hsz := hbt.size
    have m3 : g + 1 < w2.heap.size := by omega
    have HBW : Hid (Below w.heap.size w w2) := Lib.hid (K0.out.trans (hbt.below.mono (by omega)))
    clear hc hbt hyz hgg hlo K0 K1 K2 K3 K5 HOK hrd HRC HBR
    by_cases hr0 : d = 0
    · subst hr0
      have HE := Lib.hid (show lOut 10 0 = .agg #[.int .i64 7, .bool false, .int .i64 0, .int .u64 0, .slice none 0 0] from rfl)
      go_upto_region 20 with fail
      have hgg := HG.out
      have hlo := HLO.out
      have hbw := HBW.out
      refine gen_w (P := fun W => Code.wp _ _ _ _ W) (fun x => Below w.heap.size w x ∧ VarAt x (w.heap.size + 1) [.int .i64 0, .int .i64 0, .int .u64 0, .int .u64 0, .slice none 0 0, .slice none 0 0] ∧ VarAt x (w.heap.size + 1 + 1) [.int .i64 0, .bool false, .int .i64 0, .int .u64 0, .slice none 0 0] ∧ VarAt x (g + 1) [.int .i64 7, .bool false, .int .i64 0, .int .u64 0, .slice none 0 0] ∧ CurVD lo g A n cap log c x) ⟨(by repeat (first | with_reducible assumption | with_reducible exact Below.refl _ _ | with_reducible refine Below.drew ?_ | with_reducible refine below_al ?_ | (with_reducible refine below_set1 (by omega) _ ?_))), (HV1.out.apart _ _ (by omega)), (HV2.out.apart _ _ (by omega)), VarAt.mk5 (by simp; omega) (by go_simp) (by go_simp) (by go_simp) (by go_simp) (by go_simp) (by go_simp) (by go_simp) (by go_simp) (by go_simp) (by go_simp), (HCV.out.put _ _ (by omega) (.inr (by omega)))⟩ ?_
      rintro z ⟨k0, k1, k2, k3, k4⟩
      have hg := HG.out
      rw [hlo]
      clear o1 o2 o3 o4 o5 p1 p2 p3 p4 p5 m3 hsz hbw hgg hlo HBW HV1 HV2 HV5 HCV
      have Z0 := Lib.hid k0
      have Z1 := Lib.hid k1
      have Z2 := Lib.hid k2
      have hsz := k3.1
      obtain ⟨_, ⟨o1, o2, o3, o4, o5⟩, _⟩ := k3.five
      have HTC : Calls Tryz.prog 37 #[.pointer (some ⟨g, 0, none⟩), .agg #[.int .i64 7, .bool false, .int .i64 0, .int .u64 0, .slice none 0 0]] z (TellL lo z (toldL 10 0 c)) := (by have h := toldCL k4 10 0; have he : lOut 10 0 = .agg #[.int .i64 7, .bool false, .int .i64 0, .int .u64 0, .slice none 0 0] := HE.out; rwa [he] at h)
      clear k0 k1 k2 k3 k4
      generalize toldL 10 0 c = V at *
      obtain ⟨vk, vi, va, vb, vd, ve, vo, vnn, vw, vis⟩ := V
      unfold TellL ToldL.val at HTC
      simp only at HTC
      obtain ⟨vn, hvn⟩ : ∃ q, vd.length = q := ⟨_, rfl⟩
      rw [hvn] at HTC
      have HVN := Lib.hid hvn
      clear hvn
      go_wp2_with fail
      (with_reducible refine HTC.mono ?_)
      clear HTC
      rintro e w3 ⟨D, dc, rfl, hat, hdc, hdl, hof, hb3⟩
      have HAT := Lib.hid (And.intro hat (And.intro hdc (And.intro hdl hof)))
      obtain ⟨m1, ⟨a0, a1, a2, a3, a4, a5⟩, b0, b1, b2, b3, b4, b5⟩ := (Z1.out.below hb3).six
      obtain ⟨m2, ⟨r1, r2, r3, r4, r5⟩, s1, s2, s3, s4, s5⟩ := (Z2.out.below hb3).five
      have HB3 := Lib.hid (Z0.out.trans (hb3.mono Z0.out.size))
      clear hb3 hat hdc hdl hof
      go_wp2_with fail
      have hb := HB3.out
      have hlo := HLO.out
      have hgo := HG.out
      have hlo2 : g + 1 + 1 = lo := by omega
      clear hgo
      refine bodyPost_ret (v := .tuple #[.agg #[.int .i64 vk, .int .i64 vi, .int .u64 (va : Int), .int .u64 (vb : Int), .slice D vn dc, .slice none 0 0], .agg #[.int .i64 ve, .bool vo, .int .i64 (vnn : Int), .int .u64 (vw : Int), .slice none 0 0], .bool vis]) (by simp [results, Tryz.results12, go_sem, a0, a1, a2, a3, a4, a5, r1, r2, r3, r4, r5]) rfl ?_
      rw [HTE.out]
      unfold TellL ToldL.val
      simp only []
      rw [HVN.out]
      exact ⟨D, dc, rfl, AtB.svd (Q := fun c => lo ≤ c) HAT.out.1 (by repeat (first | with_reducible exact Svd.refl _ _ | with_reducible refine Svd.drew ?_ | (with_reducible refine Svd.set ?_ _ _ _ (by omega)))) HAT.out.2.2.2, HAT.out.2.1, HAT.out.2.2.1, by first | (rw [hlo]; exact HAT.out.2.2.2) | (rw [hlo2]; exact HAT.out.2.2.2), (by repeat (first | with_reducible assumption | with_reducible exact Below.refl _ _ | with_reducible refine Below.drew ?_ | with_reducible refine below_al ?_ | (with_reducible refine below_set1 (by omega) _ ?_)))⟩
    · have hok : ((d : Int) != 0) = true := by rw [bne_iff_ne]; omega
      have HE := Lib.hid (show lOut 10 d = .agg #[.int .i64 0, .bool false, .int .i64 0, .int .u64 0, .slice none 0 0] by unfold lOut lErr; rw [if_pos (by decide), if_neg hr0]; rfl)
      clear hr0
      go_upto_region 20 with fail
      have hgg := HG.out
      have hlo := HLO.out
      have hbw := HBW.out
      refine gen_w (P := fun W => Code.wp _ _ _ _ W) (fun x => Below w.heap.size w x ∧ VarAt x (w.heap.size + 1) [.int .i64 0, .int .i64 0, .int .u64 0, .int .u64 0, .slice none 0 0, .slice none 0 0] ∧ VarAt x (w.heap.size + 1 + 1) [.int .i64 0, .bool false, .int .i64 0, .int .u64 0, .slice none 0 0] ∧ VarAt x (g + 1) [.int .i64 0, .bool false, .int .i64 0, .int .u64 0, .slice none 0 0] ∧ CurVD lo g A n cap log c x) ⟨hbw, HV1.out, HV2.out, HV5.out, HCV.out⟩ ?_
      rintro z ⟨k0, k1, k2, k3, k4⟩
      have hg := HG.out
      rw [hlo]
      clear o1 o2 o3 o4 o5 p1 p2 p3 p4 p5 m3 hsz hbw hgg hlo HBW HV1 HV2 HV5 HCV
      have Z0 := Lib.hid k0
      have Z1 := Lib.hid k1
      have Z2 := Lib.hid k2
      have hsz := k3.1
      obtain ⟨_, ⟨o1, o2, o3, o4, o5⟩, _⟩ := k3.five
      have HTC : Calls Tryz.prog 37 #[.pointer (some ⟨g, 0, none⟩), .agg #[.int .i64 0, .bool false, .int .i64 0, .int .u64 0, .slice none 0 0]] z (TellL lo z (toldL 10 d c)) := (by have h := toldCL k4 10 d; have he : lOut 10 d = .agg #[.int .i64 0, .bool false, .int .i64 0, .int .u64 0, .slice none 0 0] := HE.out; rwa [he] at h)
      clear k0 k1 k2 k3 k4
      generalize toldL 10 d c = V at *
      obtain ⟨vk, vi, va, vb, vd, ve, vo, vnn, vw, vis⟩ := V
      unfold TellL ToldL.val at HTC
      simp only at HTC
      obtain ⟨vn, hvn⟩ : ∃ q, vd.length = q := ⟨_, rfl⟩
      rw [hvn] at HTC
      have HVN := Lib.hid hvn
      clear hvn
      go_wp2_with fail
      (with_reducible refine HTC.mono ?_)
      clear HTC
      rintro e w3 ⟨D, dc, rfl, hat, hdc, hdl, hof, hb3⟩
      have HAT := Lib.hid (And.intro hat (And.intro hdc (And.intro hdl hof)))
      obtain ⟨m1, ⟨a0, a1, a2, a3, a4, a5⟩, b0, b1, b2, b3, b4, b5⟩ := (Z1.out.below hb3).six
      obtain ⟨m2, ⟨r1, r2, r3, r4, r5⟩, s1, s2, s3, s4, s5⟩ := (Z2.out.below hb3).five
      have HB3 := Lib.hid (Z0.out.trans (hb3.mono Z0.out.size))
      clear hb3 hat hdc hdl hof
      go_wp2_with fail
      have hb := HB3.out
      have hlo := HLO.out
      have hgo := HG.out
      have hlo2 : g + 1 + 1 = lo := by omega
      clear hgo
      refine bodyPost_ret (v := .tuple #[.agg #[.int .i64 vk, .int .i64 vi, .int .u64 (va : Int), .int .u64 (vb : Int), .slice D vn dc, .slice none 0 0], .agg #[.int .i64 ve, .bool vo, .int .i64 (vnn : Int), .int .u64 (vw : Int), .slice none 0 0], .bool vis]) (by simp [results, Tryz.results12, go_sem, a0, a1, a2, a3, a4, a5, r1, r2, r3, r4, r5]) rfl ?_
      rw [HTE.out]
      unfold TellL ToldL.val
      simp only []
      rw [HVN.out]
      exact ⟨D, dc, rfl, AtB.svd (Q := fun c => lo ≤ c) HAT.out.1 (by repeat (first | with_reducible exact Svd.refl _ _ | with_reducible refine Svd.drew ?_ | (with_reducible refine Svd.set ?_ _ _ _ (by omega)))) HAT.out.2.2.2, HAT.out.2.1, HAT.out.2.2.1, by first | (rw [hlo]; exact HAT.out.2.2.2) | (rw [hlo2]; exact HAT.out.2.2.2), (by repeat (first | with_reducible assumption | with_reducible exact Below.refl _ _ | with_reducible refine Below.drew ?_ | with_reducible refine below_al ?_ | (with_reducible refine below_set1 (by omega) _ ?_)))⟩
  have hp : lPrg t k u v x (log.length + 1) = .ret 0 := by unfold lPrg; rw [if_neg h8, if_neg h25, if_neg h24, if_neg h9, if_neg h10]
  rw [hp]
  have hee : lOut k 0 = .agg #[.int .i64 1, .bool false, .int .i64 0, .int .u64 0, .slice none 0 0] := by unfold lOut lErr lIs lN lW; rw [if_neg (by omega), if_neg (by omega), if_neg h8, if_neg h25, if_neg (by omega), if_neg h8, if_neg h25, if_neg h8]; rfl
  have e8 : ((k : Int) == 8) = false := by rw [beq_eq_false_iff_ne]; exact h8
  have e25 : ((k : Int) == 25) = false := by rw [beq_eq_false_iff_ne]; exact h25
  have e24 : ((k : Int) == 24) = false := by rw [beq_eq_false_iff_ne]; exact h24
  have e9 : ((k : Int) == 9) = false := by rw [beq_eq_false_iff_ne]; exact h9
  have e10 : ((k : Int) == 10) = false := by rw [beq_eq_false_iff_ne]; exact h10
  have ht0 : lTell k ((Prd.ret 0).run tapeTellD log) = toldL k 0 (.at log) := rfl
  rw [ht0]
  obtain ⟨c, hcc⟩ : ∃ c, CSD.at log = c := ⟨_, rfl⟩
  rw [hcc]
  have HCC := Lib.hid hcc
  have HEE := Lib.hid hee
  clear ht hop h8 h25 h24 h9 h10 hc hcc hp hbb hee ht0
  go_enter Tryz.func12, Tryz.ntmps12
  go_upto_region 20 with fail
  refine gen_w (P := fun W => Code.wp _ _ _ _ W) (fun y => Below w.heap.size w y ∧ y.heap.size = w.heap.size + 1 + 1 + 1 + 1 + 1 ∧ VarAt y (w.heap.size + 1) [.int .i64 0, .int .i64 0, .int .u64 0, .int .u64 0, .slice none 0 0, .slice none 0 0] ∧ VarAt y (w.heap.size + 1 + 1) [.int .i64 0, .bool false, .int .i64 0, .int .u64 0, .slice none 0 0] ∧ VarAt y (w.heap.size + 1 + 1 + 1) (curV A n cap 0 false (.int .i64 0) (.int .i64 0) (.int .u64 0) (.int .u64 0) (.slice none 0 0) (.slice none 0 0)) ∧ VarAt y (w.heap.size + 1 + 1 + 1 + 1) [.int .i64 1, .bool false, .int .i64 0, .int .u64 0, .slice none 0 0]) ⟨(by repeat (first | with_reducible assumption | with_reducible exact Below.refl _ _ | with_reducible refine Below.drew ?_ | with_reducible refine below_al ?_ | (with_reducible refine below_set1 (by omega) _ ?_))), by simp, VarAt.mk6 (by simp <;> omega) (by go_simp) (by go_simp) (by go_simp) (by go_simp) (by go_simp) (by go_simp) (by go_simp) (by go_simp) (by go_simp) (by go_simp) (by go_simp) (by go_simp), VarAt.mk5 (by simp <;> omega) (by go_simp) (by go_simp) (by go_simp) (by go_simp) (by go_simp) (by go_simp) (by go_simp) (by go_simp) (by go_simp) (by go_simp), VarAt.mk9 (by simp <;> omega) (by go_simp) (by go_simp) (by go_simp) (by go_simp) (by go_simp) (by go_simp) (by go_simp) (by go_simp) (by go_simp) (by go_simp) (by go_simp) (by go_simp) (by go_simp) (by go_simp) (by go_simp) (by go_simp) (by go_simp) (by go_simp), VarAt.mk5 (by simp <;> omega) (by go_simp) (by go_simp) (by go_simp) (by go_simp) (by go_simp) (by go_simp) (by go_simp) (by go_simp) (by go_simp) (by go_simp)⟩ ?_
  rintro z ⟨k0, k1, k2, k3, k4', k5⟩
  obtain ⟨g, hg⟩ : ∃ g, w.heap.size + 1 + 1 + 1 = g := ⟨_, rfl⟩
  obtain ⟨lo, hlo⟩ : ∃ lo, w.heap.size + 1 + 1 + 1 + 1 + 1 = lo := ⟨_, rfl⟩
  have HLO := Lib.hid hlo
  have HTE : Hid (toldL k 0 c = toldL k 0 c) := Lib.hid rfl
  rw [hg] at k4' k5 ⊢
  have HG := Lib.hid hg
  have k4 : CurVD lo g A n cap log c z := by rw [← HCC.out]; exact ⟨0, Nat.zero_le _, rfl, k4'⟩
  have q1 := k2
  have q2 := k3
  have q3 := k5
  clear k1 k2 k3 k4' k5 hlo
  have k1 := q1
  have k2 := q2
  have k3 := q3
  clear q1 q2 q3
  have Z0 := Lib.hid k0
  have Z1 := Lib.hid k1
  have Z2 := Lib.hid k2
  have hsz := k3.1
  obtain ⟨_, ⟨o1, o2, o3, o4, o5⟩, _⟩ := k3.five
  have HTC : Calls Tryz.prog 37 #[.pointer (some ⟨g, 0, none⟩), .agg #[.int .i64 1, .bool false, .int .i64 0, .int .u64 0, .slice none 0 0]] z (TellL lo z (toldL k 0 c)) := (by have := toldCL k4 k 0; rwa [HEE.out] at this)
  clear k0 k1 k2 k3 k4
  generalize toldL k 0 c = V at *
  obtain ⟨vk, vi, va, vb, vd, ve, vo, vnn, vw, vis⟩ := V
  unfold TellL ToldL.val at HTC
  simp only at HTC
  obtain ⟨vn, hvn⟩ : ∃ q, vd.length = q := ⟨_, rfl⟩
  rw [hvn] at HTC
  have HVN := Lib.hid hvn
  clear hvn
  go_wp2_with fail
  (with_reducible refine HTC.mono ?_)
  clear HTC
  rintro e w3 ⟨D, dc, rfl, hat, hdc, hdl, hof, hb3⟩
  have HAT := Lib.hid (And.intro hat (And.intro hdc (And.intro hdl hof)))
  obtain ⟨m1, ⟨a0, a1, a2, a3, a4, a5⟩, b0, b1, b2, b3, b4, b5⟩ := (Z1.out.below hb3).six
  obtain ⟨m2, ⟨r1, r2, r3, r4, r5⟩, s1, s2, s3, s4, s5⟩ := (Z2.out.below hb3).five
  have HB3 := Lib.hid (Z0.out.trans (hb3.mono Z0.out.size))
  clear hb3 hat hdc hdl hof
  go_wp2_with fail
  have hb := HB3.out
  have hlo := HLO.out
  have hgo := HG.out
  have hlo2 : g + 1 + 1 = lo := by omega
  clear hgo
  refine bodyPost_ret (v := .tuple #[.agg #[.int .i64 vk, .int .i64 vi, .int .u64 (va : Int), .int .u64 (vb : Int), .slice D vn dc, .slice none 0 0], .agg #[.int .i64 ve, .bool vo, .int .i64 (vnn : Int), .int .u64 (vw : Int), .slice none 0 0], .bool vis]) (by simp [results, Tryz.results12, go_sem, a0, a1, a2, a3, a4, a5, r1, r2, r3, r4, r5]) rfl ?_
  unfold TellL ToldL.val
  simp only []
  rw [HVN.out]
  exact ⟨D, dc, rfl, AtB.svd (Q := fun c => lo ≤ c) HAT.out.1 (by repeat (first | with_reducible exact Svd.refl _ _ | with_reducible refine Svd.drew ?_ | (with_reducible refine Svd.set ?_ _ _ _ (by omega)))) HAT.out.2.2.2, HAT.out.2.1, HAT.out.2.2.1, by first | (rw [hlo]; exact HAT.out.2.2.2) | (rw [hlo2]; exact HAT.out.2.2.2), (by repeat (first | with_reducible assumption | with_reducible exact Below.refl _ _ | with_reducible refine Below.drew ?_ | with_reducible refine below_al ?_ | (with_reducible refine below_set1 (by omega) _ ?_)))⟩
end Go.Proofs.YtkfodhkeajmbhaaGreatDoor
