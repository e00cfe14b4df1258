/- LstB -/
import Derived.Test.YtibpfkcackdbgaaGreatDoorLstA
import Derived.Test.YtibpfkcackdbgaaGreatDoorEpcC
import Derived.Test.YtibpfkcackdbgaaGreatDoorSavB
import Derived.Test.YtibpfkcackdbgaaGreatDoorLstNext
namespace Go.Proofs.YtibpfkcackdbgaaGreatDoor
set_option linter.unusedVariables false
set_option maxRecDepth 100000
set_option linter.unusedSectionVars false
open Go.ChangeShapes Go.WideShapes Go.ChangeAt Go.RowKit Go.BigFrame
section
variable {g : Nat} {A : Option Addr} {n cap : Nat} {log : List Res} {w0 wb : World} (OK : Hid (CurOk g A n log w0 wb))
def GoRC (g : Nat) (A : Option Addr) (n cap : Nat) (log : List Res) (w0 wb : World) (R : RanD (List Res)) (ret : Nat → Value) (q : Nat → Prd) (e : Ending) (w' : World) : Prop :=
 ∃ d c', e = .returned (ret d) ∧ CurID g A n cap log w0 wb c' w' ∧ (q d).runCD c' = R
theorem rPartD {R : RanD (List Res)} (hb : R ≠ .bad) {p : Prd} {q : Nat → Prd} {c : CSD} {F : FuncId} {args : Array Value} {ret : Nat → Value} (hR : (p.bind q).runCD c = R) (w : World)
  (h : p.runCD c ≠ .bad → Calls Tryz.prog F args w (RefD g A n cap log w0 wb ret (p.runCD c))) : Calls Tryz.prog F args w (GoRC g A n cap log w0 wb R ret q) := by
 have hp : p.runCD c ≠ .bad := by
  intro h
  rw [Prd.runCD_bind, h] at hR
  exact hb hR.symm
 refine (h hp).mono ?_
 rintro e w' ⟨d, c', rfl, hi, hr⟩
 refine ⟨d, c', rfl, hi, ?_⟩
 have h2 : ((Prd.ret d).bind q).runCD c' = R := by rw [Prd.runCD_bind, hr, ← Prd.runCD_bind]; exact hR
 exact h2
def RefDP (g : Nat) (A : Option Addr) (n cap : Nat) (log : List Res) (w0 wb : World) (Q : Nat → CSD → Prop) (ret : Nat → Value) (R : RanD (List Res)) (e : Ending) (w' : World) : Prop :=
 ∃ d c', e = .returned (ret d) ∧ CurID g A n cap log w0 wb c' w' ∧ (Prd.ret d).runCD c' = R ∧ Q d c'
theorem RefDP.fin {Q : Nat → CSD → Prop} {R : RanD (List Res)} {d : Nat} {c : CSD} {w' : World} {ret : Nat → Value} (h : (Prd.ret d).runCD c = R) (hI : CurID g A n cap log w0 wb c w') (hQ : Q d c) : RefDP g A n cap log w0 wb Q ret R (.returned (ret d)) w' := ⟨d, c, rfl, hI, h, hQ⟩
theorem RefDP.to {Q : Nat → CSD → Prop} {R : RanD (List Res)} {ret : Nat → Value} {e : Ending} {w' : World} (h : RefDP g A n cap log w0 wb Q ret R e w') : RefD g A n cap log w0 wb ret R e w' := by
 obtain ⟨d, c, h1, h2, h3, _⟩ := h
 exact ⟨d, c, h1, h2, h3⟩
def OneP (d : Nat) (c : CSD) : Prop := d = 1 → c.plain
def FoundP (d : Nat) (c : CSD) : Prop := codS d = 3 → 1 ≤ curS d ∧ c.plain
def SeekP (d : Nat) (c : CSD) : Prop := d < 2097152 ∧ (d % 2 = 1 → 1 ≤ d / 2 ∧ c.plain)
theorem CSD.plain_of {c : CSD} (h : c.stops = false) : c.plain := by
 cases c with
 | «at» s => trivial
 | stop k i a b d => cases h
include OK
set_option maxHeartbeats 4000000 in
theorem rRetireU_prg (t : Nat) (ht : t ≤ 64) (r : Nat) (h1 : 1 ≤ r) (hr : r < 1048576) (m : Nat) (c : CSD) (hb : (Prg.retire t r m).up.runCD c ≠ .bad) (w : World) (hI : CurID g A n cap log w0 wb c w) :
  Calls Tryz.prog 187 #[.pointer (some ⟨g, 0, none⟩), .int .i64 (t : Int), .int .i64 (r : Int)] w (RefD g A n cap log w0 wb (fun _ => .tuple #[]) ((Prg.retire t r m).up.runCD c)) := by
 have hR : (Prd.ask 0 3 0 0 [] fun e => (Prg.retireL t r (limboN e) m).up).runCD c = (Prg.retire t r m).up.runCD c := rfl
 generalize (Prg.retire t r m).up.runCD c = R at *
 have HL := rLoadD (cap := cap) (wb := wb) OK hR
 have HB := Lib.hid hb
 have HI := Lib.hid hI
 have HK : ∀ w, Calls Tryz.prog 15 #[.int .i64 (t : Int), .int .i64 (r : Int), .int .i64 7] w fun e w' => e = .returned (.int .i64 (fieldN t r 7 : Nat)) ∧ w = w' := fun w => refField_any t r 7 (by omega) h1 (by omega) (by omega) w
 have hcv : IntKind.u64.wrap (r : Int) = (r : Int) := by rw [IntKind.wrap_u64]; omega
 clear hI hb hR ht h1 hr
 obtain ⟨fl, hfl⟩ : ∃ x, fieldN t r 7 = x := ⟨_, rfl⟩
 rw [hfl] at HK
 have HFL := Lib.hid hfl
 clear hfl
 go_enter Tryz.func187, Tryz.ntmps187
 go_wp2_with fail
 (with_reducible refine (HL _ HI.out).mono ?_)
 clear HL HI
 rintro e w2 ⟨x, c2, rfl, hd, hi, hbt, hr⟩
 dsimp only at hr
 have HLI := rLimbo_any x
 generalize limboN x = l at *
 obtain ⟨J, hJ⟩ : ∃ J : Nat → World → Prop, J = fun m wr => ∃ c, CurID g A n cap log w0 wb c wr ∧ (Prg.retireL t r l m).up.runCD c = R := ⟨_, rfl⟩
 have HJ : ∀ m wr, J m wr ↔ ∃ c, CurID g A n cap log w0 wb c wr ∧ (Prg.retireL t r l m).up.runCD c = R := fun m wr => by rw [hJ]
 have HJ0 := Lib.hid (show ∃ m, J m w2 from ⟨m, (HJ _ _).2 ⟨c2, hi, hr⟩⟩)
 have HJH := Lib.hid HJ
 clear hJ hd hi hbt hr HJ
 go_wp2_with fail
 go_loopw [7, 8] (fun _ _ wr => ∃ m, J m wr) (fun _ _ wr => cnt J wr)
 case atStart => exact HJ0.out
 case round =>
  clear HJ0
  have hj := cnt_spec hrel
  clear hrel
  generalize hm : cnt J wr = m' at *
  have HM := Lib.hid hm
  clear hm
  obtain ⟨c3, hS, hr⟩ := (HJH.out _ _).1 hj
  clear hj
  have c2' := hS.two
  have hgw := hS.lt
  by_cases hst : c3.stops = true
  ·rw [hst] at c2'
   have HE := Lib.hid (RefD.fin (ret := fun _ => .tuple #[]) (d := 0) ((Prd.runCD_stop (p := (Prg.retireL t r l m').up) hst _).symm.trans hr) hS)
   clear hS hst hr
   go_wp2_with fail
   go_end0
   exact HE.out
  have hst' : c3.stops = false := by simpa using hst
  rw [hst'] at c2'
  cases m' with
  | zero =>
   cases c3 with
   | «at» s => exact absurd hr.symm HB.out
   | stop k i a b d => exact absurd rfl hst
  | succ m' =>
  have hr1 : (Prd.ask 0 ((l : Nat) : Int) 0 0 [] fun h => Prd.ask 1 ((fieldN t r 7 : Nat) : Int) h 0 [] fun _ => Prd.ask 2 ((l : Nat) : Int) h r [] fun d => (if d = 1 then Prg.ret 0 else Prg.retireL t r l m').up).runCD c3 = R := hr
  rw [HFL.out] at hr1
  have HL := rLoadD (cap := cap) (wb := wb) OK hr1
  have HI3 := Lib.hid hS
  clear hS hr hr1 hst hst'
  go_wp2_with (first | (go_at_call 191; (with_reducible refine (HLI _).mono ?_); rintro e w' ⟨rfl, rfl⟩))
  (with_reducible refine (HL _ HI3.out).mono ?_)
  clear HL HI3 c2' hgw
  rintro e w4 ⟨h, c4, rfl, hd, hi, hbt, hr⟩
  dsimp only at hr
  have HS := rStoreD (cap := cap) (wb := wb) OK hr
  have HI4 := Lib.hid hi
  clear hd hi hbt hr
  go_wp2_with (first | (go_at_call 15; (with_reducible refine (HK _).mono ?_); rintro e w' ⟨rfl, rfl⟩))
  (with_reducible refine (HS _ HI4.out).mono ?_)
  clear HS HI4
  rintro e w5 ⟨h5, c5, rfl, hd, hi, hbt, hr⟩
  dsimp only at hr
  have HC := rCasD (cap := cap) (wb := wb) OK hr
  have HI5 := Lib.hid hi
  clear hd hi hbt hr
  go_wp2_with (first | (go_at_call 191; (with_reducible refine (HLI _).mono ?_); rintro e w' ⟨rfl, rfl⟩))
  (with_reducible refine (HC _ HI5.out).mono ?_)
  clear HC HI5
  rintro e w6 ⟨d, c6, rfl, hd, hi, hbt, hr⟩
  dsimp only at hr
  clear hd hbt
  by_cases hd : d = 1
  ·rw [if_pos hd] at hr
   have dd := eq1 hd
   have HE := Lib.hid (RefD.fin (ret := fun _ => .tuple #[]) hr hi)
   clear hr hd hi
   go_wp2_with fail
   exact bodyPost_ret (v := .tuple #[]) (by simp [results, Tryz.results187, go_sem]) rfl HE.out
  ·rw [if_neg hd] at hr
   have dd := ne1 hd
   have hj : J m' w6 := (HJH.out _ _).2 ⟨c6, hi, hr⟩
   have HJ6 := Lib.hid hj
   clear hr hd hi hj
   go_wp2_with fail
   go_roundw
   case rel => exact ⟨m', HJ6.out⟩
   case measure => exact cnt_lt HJ6.out (Nat.lt_succ_self m')
set_option maxHeartbeats 2000000 in
theorem rOut_prg (hgb : g < wb.heap.size) (t p x v m : Nat) (ht : t ≤ 64) (hp : p < 1048576) (h1 : 1 ≤ x) (hx : x < 1048576) (hv : v < 18446744073709551616) (c : CSD) (hpl : c.plain) (hb : (Prd.takeOut t p x v m).runCD c ≠ .bad) (w : World) (hI : CurID g A n cap log w0 wb c w) :
  Calls Tryz.prog 153 #[.pointer (some ⟨g, 0, none⟩), .int .i64 (t : Int), .int .i64 (p : Int), .int .i64 (x : Int), .int .u64 (v : Int)] w (RefD g A n cap log w0 wb tkOutV ((Prd.takeOut t p x v m).runCD c)) := by
 generalize hR : (Prd.takeOut t p x v m).runCD c = R at hb ⊢
 unfold Prd.takeOut at hR
 have HS : Calls Tryz.prog 109 #[.pointer (some ⟨g, 0, none⟩), .int .i64 (t : Int), .int .i64 (x : Int), .int .i64 2] w _ := rPartD hb hR w (fun hb' => rSave_prg OK hgb t x 2 m ht h1 hx (.inr rfl) c hpl _ hb' rfl w hI)
 have hrv := refN_lt v
 have HRF := fun w => refRef_any v hv w
 have HKN := fun w => refNext_any t p (by omega) (by omega) w
 have HLX := fun w => refLink_any x false hx w
 have HLR := fun w => refLink_any (refN v) false hrv w
 have HX := Lib.hid (And.intro ht (And.intro h1 hx))
 have HB := Lib.hid hb
 clear hI hR ht hp h1 hx hv hb hgb hpl
 generalize refN v = rv at *
 go_enter Tryz.func153, Tryz.ntmps153
 go_wp2_with fail
 (with_reducible refine HS.mono ?_)
 clear HS
 rintro e w2 ⟨d, c2, rfl, hi, hr⟩
 dsimp only at hr
 by_cases hd : d = 1
 ·have dd := eq1 hd
  rw [if_pos hd] at hr
  have HC := rCasD (cap := cap) (wb := wb) OK hr w2 hi
  clear hi hr hd hrv
  generalize nextN t p = np at *
  generalize linkN x false = lx at *
  generalize linkN rv false = lr at *
  go_wp2_with (first | (go_at_call 18; (with_reducible refine (HKN _).mono ?_); rintro e w' ⟨rfl, rfl⟩) | (go_at_call 44; (with_reducible refine (HRF _).mono ?_); rintro e w' ⟨rfl, rfl⟩) | (go_at_call 163; (first | with_reducible refine (HLX _).mono ?_ | with_reducible refine (HLR _).mono ?_); rintro e w' ⟨rfl, rfl⟩))
  (with_reducible refine HC.mono ?_)
  clear HC dd
  rintro e w3 ⟨d2, c3, rfl, hn, hi, hbt, hr⟩
  dsimp only at hr
  by_cases hd2 : d2 = 1
  ·have dd := eq1 hd2
   rw [if_pos hd2] at hr
   have HT := rPartD (F := 187) (args := #[.pointer (some ⟨g, 0, none⟩), .int .i64 (t : Int), .int .i64 (x : Int)]) (ret := fun _ => .tuple #[]) HB.out hr w3 (fun hb' => rRetireU_prg OK t HX.out.1 x HX.out.2.1 HX.out.2.2 m c3 hb' w3 hi)
   clear hn hi hbt hr hd2
   go_wp2_with fail
   (with_reducible refine HT.mono ?_)
   clear HT
   rintro e w4 ⟨d4, c4, rfl, hi, hr⟩
   dsimp only at hr
   have HE := RefD.fin (ret := tkOutV) hr hi
   rw [tkOut_3] at HE
   replace HE := Lib.hid HE
   clear hi hr
   go_wp2_with fail
   exact bodyPost_ret (v := .tuple #[.bool true, .bool true]) (by simp [results, Tryz.results153, go_sem]) rfl HE.out
  ·have dd := ne1 hd2
   rw [if_neg hd2] at hr
   have HE := RefD.fin (ret := tkOutV) hr hi
   rw [tkOut_1] at HE
   replace HE := Lib.hid HE
   clear hn hi hbt hr hd2
   go_wp2_with fail
   exact bodyPost_ret (v := .tuple #[.bool false, .bool true]) (by simp [results, Tryz.results153, go_sem]) rfl HE.out
 ·have dd := ne1 hd
  rw [if_neg hd] at hr
  have HE := RefD.fin (ret := tkOutV) hr hi
  rw [tkOut_0] at HE
  replace HE := Lib.hid HE
  clear hi hr hd hrv
  go_wp2_with fail
  exact bodyPost_ret (v := .tuple #[.bool false, .bool false]) (by simp [results, Tryz.results153, go_sem]) rfl HE.out
theorem rCasDP {R : RanD (List Res)} {f : Nat → Prd} {c : CSD} {i : Int} {a b : Nat} (hR : (Prd.ask 2 i a b [] f).runCD c = R) (w : World) (hI : CurID g A n cap log w0 wb c w) : Calls Tryz.prog 160 #[.pointer (some ⟨g, 0, none⟩), .int .i64 i, .int .u64 (a : Int), .int .u64 (b : Int)] w (fun e w' => ∃ (d : Nat) (c' : CSD), e = .returned (.bool ((d : Int) == 1)) ∧ d < 18446744073709551616 ∧ CurID g A n cap log w0 wb c' w' ∧ But g w w' ∧ (f d).runCD c' = R ∧ OneP d c') :=
 (curCas_of g i a b _ _ (fun x y h hb => h.below hb) w hI.lt (curDoM OK.out c 2 i a b (by decide) w hI)).mono fun e w' h => ⟨_, _, h.1, c.small _ _ _ _ _, h.2.1, h.2.2, by rw [← hR, Prd.runCD_ask], fun hd => by
  rcases c with (_ | ⟨r, s⟩) | ⟨k', i', a', b', d'⟩
  ·exact absurd (show (0 : Nat) = 1 from hd) (by decide)
  ·trivial
  ·exact absurd (show (0 : Nat) = 1 from hd) (by decide)⟩
theorem rLinkS_prg (t p x r : Nat) (ht : t ≤ 64) (hp : p < 1048576) (hx : x < 1048576) (hr : r < 1048576) (c : CSD) (R : RanD (List Res)) (hR : (Prd.link t p x r).runCD c = R) (w : World) (hI : CurID g A n cap log w0 wb c w) :
  Calls Tryz.prog 113 #[.pointer (some ⟨g, 0, none⟩), .int .i64 (t : Int), .int .i64 (p : Int), .int .i64 (x : Int), .int .i64 (r : Int)] w (RefDP g A n cap log w0 wb OneP (fun d => .bool ((d : Int) == 1)) R) := by
 unfold Prd.link Prd.turnP at hR
 have HKR := fun w => refNext_any t r (by omega) (by omega) w
 have HKP := fun w => refNext_any t p (by omega) (by omega) w
 have HLX := fun w => refLink_any x false hx w
 have HLR := fun w => refLink_any r false hr w
 have HS := rStoreD (cap := cap) (wb := wb) OK hR w hI
 clear hI hR ht hp hx hr
 obtain ⟨np, hnp⟩ : ∃ z, nextN t p = z := ⟨_, rfl⟩
 obtain ⟨nr, hnr⟩ : ∃ z, nextN t r = z := ⟨_, rfl⟩
 obtain ⟨lx, hlx⟩ : ∃ z, linkN x false = z := ⟨_, rfl⟩
 obtain ⟨lr, hlr⟩ : ∃ z, linkN r false = z := ⟨_, rfl⟩
 simp only [hnp, hnr, hlx, hlr] at HKR HKP HLX HLR HS
 clear hnp hnr hlx hlr
 go_enter Tryz.func113, Tryz.ntmps113
 go_wp2_with (first | (go_at_call 18; (first | with_reducible refine (HKR _).mono ?_ | with_reducible refine (HKP _).mono ?_); rintro e w' ⟨rfl, rfl⟩) | (go_at_call 163; (first | with_reducible refine (HLX _).mono ?_ | with_reducible refine (HLR _).mono ?_); rintro e w' ⟨rfl, rfl⟩))
 (with_reducible refine HS.mono ?_)
 clear HS
 rintro e w2 ⟨d, c2, rfl, hn, hi, hbt, hr⟩
 try dsimp only at hr
 have HC := rCasDP (cap := cap) (wb := wb) OK hr w2 hi
 clear hn hi hbt hr
 go_wp2_with (first | (go_at_call 18; (first | with_reducible refine (HKR _).mono ?_ | with_reducible refine (HKP _).mono ?_); rintro e w' ⟨rfl, rfl⟩) | (go_at_call 163; (first | with_reducible refine (HLX _).mono ?_ | with_reducible refine (HLR _).mono ?_); rintro e w' ⟨rfl, rfl⟩))
 (with_reducible refine HC.mono ?_)
 clear HC
 rintro e w3 ⟨d2, c3, rfl, hn, hi, hbt, hr, h1⟩
 try dsimp only at hr
 have HE := Lib.hid (RefDP.fin (Q := OneP) (ret := fun d => .bool ((d : Int) == 1)) hr hi h1)
 clear hn hi hbt hr h1
 go_wp2_with fail
 go_ret
 exact HE.out
theorem rMarkS_prg (t r : Nat) (ht : t ≤ 64) (hr : r < 1048576) (c : CSD) (R : RanD (List Res)) (hR : (Prd.mark t r).runCD c = R) (w : World) (hI : CurID g A n cap log w0 wb c w) :
  Calls Tryz.prog 114 #[.pointer (some ⟨g, 0, none⟩), .int .i64 (t : Int), .int .i64 (r : Int)] w (RefDP g A n cap log w0 wb OneP (fun d => .bool ((d : Int) == 1)) R) := by
 unfold Prd.mark Prd.markW at hR
 have HKR := fun w => refNext_any t r (by omega) (by omega) w
 have HL := rLoadD (cap := cap) (wb := wb) OK hR w hI
 clear hI hR ht hr
 generalize nextN t r = nr at *
 go_enter Tryz.func114, Tryz.ntmps114
 go_wp2_with (go_at_call 18; (with_reducible refine (HKR _).mono ?_); rintro e w' ⟨rfl, rfl⟩)
 (with_reducible refine HL.mono ?_)
 clear HL
 rintro e w2 ⟨v, c2, rfl, hn, hi, hbt, hr⟩
 try dsimp only at hr
 have HM := fun w => refMark_any v hn w
 cases hm : markB v with
 | true =>
  rw [hm] at HM
  rw [if_pos hm] at hr
  have HE := Lib.hid (RefDP.fin (Q := OneP) (ret := fun d => .bool ((d : Int) == 1)) hr hi (fun h => absurd h (by decide)))
  clear hn hi hbt hr hm
  go_wp2_with (go_at_call 118; (with_reducible refine (HM _).mono ?_); rintro e w' ⟨rfl, rfl⟩)
  go_ret
  exact HE.out
 | false =>
  rw [hm] at HM
  rw [if_neg (by rw [hm]; decide)] at hr
  have hw1 : IntKind.u64.wrap ((v : Int) + 1) = ((v + 1 : Nat) : Int) := by have := (or_mark hn hm).2; rw [IntKind.wrap_u64]; omega
  have HC := rCasDP (cap := cap) (wb := wb) OK hr w2 hi
  clear hn hi hbt hr hm
  generalize v + 1 = v1 at *
  go_wp2_with (first | (go_at_call 118; (with_reducible refine (HM _).mono ?_); rintro e w' ⟨rfl, rfl⟩) | (go_at_call 18; (with_reducible refine (HKR _).mono ?_); rintro e w' ⟨rfl, rfl⟩))
  (with_reducible refine HC.mono ?_)
  clear HC
  rintro e w3 ⟨d2, c3, rfl, hn, hi, hbt, hr, h1⟩
  try dsimp only at hr
  have HE := Lib.hid (RefDP.fin (Q := OneP) (ret := fun d => .bool ((d : Int) == 1)) hr hi h1)
  clear hn hi hbt hr h1
  go_wp2_with fail
  go_ret
  exact HE.out
end
end Go.Proofs.YtibpfkcackdbgaaGreatDoor
namespace Go.Proofs.YtibpfkcackdbgaaGreatDoor
set_option linter.unusedVariables false
set_option maxRecDepth 100000
set_option linter.unusedSectionVars false
open Go.ChangeShapes Go.WideShapes Go.ChangeAt Go.RowKit Go.BigFrame
section
variable {g : Nat} {A : Option Addr} {n cap : Nat} {log : List Res} {w0 wb : World} (OK : Hid (CurOk g A n log w0 wb))
structure RSeekI (g : Nat) (A : Option Addr) (n cap : Nat) (log : List Res) (w0 wb : World) (t k : Nat) (R : RanD (List Res)) (m : Nat) (vx : Value) (w : World) : Prop where
 ex : ∃ (x : Nat) (c : CSD), vx = .int .i64 (x : Int) ∧ x < 1048576 ∧ CurID g A n cap log w0 wb c w ∧ (Prd.seekL t k m x).runCD c = R
include OK
set_option maxHeartbeats 4000000 in
set_option maxRecDepth 100000 in
theorem rSeekS_prg (t f k m : Nat) (ht : t ≤ 64) (hf : f < 1048576) (c : CSD) (R : RanD (List Res)) (hb : R ≠ .bad) (hR : (Prd.seek t f k m).runCD c = R) (w : World) (hI : CurID g A n cap log w0 wb c w) :
  Calls Tryz.prog 117 #[.pointer (some ⟨g, 0, none⟩), .int .i64 (t : Int), .int .i64 (f : Int), .int .u64 (k : Int)] w (RefDP g A n cap log w0 wb SeekP seekV R) := by
 unfold Prd.seek at hR
 have HKR := fun w => refNext_any t f (by omega) (by omega) w
 have HL := rLoadD (cap := cap) (wb := wb) OK hR w hI
 have HT := Lib.hid ht
 have HB := Lib.hid hb
 clear hI hR ht hf hb
 generalize nextN t f = nf at *
 go_enter Tryz.func117, Tryz.ntmps117
 go_wp2_with (go_at_call 18; (with_reducible refine (HKR _).mono ?_); rintro e w' ⟨rfl, rfl⟩)
 (with_reducible refine HL.mono ?_)
 clear HL HKR
 rintro e w2 ⟨y, c2, rfl, hn, hi, hbt, hr⟩
 try dsimp only at hr
 have HRF := fun w => refRef_any y hn w
 have HJ0 := Lib.hid (show ∃ m, RSeekI g A n cap log w0 wb t k R m (.int .i64 ((refN y : Nat) : Int)) w2 from ⟨m, ⟨refN y, c2, rfl, refN_lt y, hi, hr⟩⟩)
 clear hn hi hbt hr
 generalize refN y = ry at *
 go_wp2_with (go_at_call 44; (with_reducible refine (HRF _).mono ?_); rintro e w' ⟨rfl, rfl⟩)
 clear HRF
 go_loopw [10] (fun vx wr => ∃ m, RSeekI g A n cap log w0 wb t k R m vx wr) (fun vx wr => cnt (fun m wr => RSeekI g A n cap log w0 wb t k R m vx wr) wr)
 case atStart => exact HJ0.out
 case round =>
  clear HJ0
  have hj := cnt_spec (J := fun m wr => RSeekI g A n cap log w0 wb t k R m u10 wr) hrel
  clear hrel
  generalize hm : cnt (fun m wr => RSeekI g A n cap log w0 wb t k R m u10 wr) wr = m at *
  have HM := Lib.hid hm
  clear hm
  obtain ⟨x, c3, rfl, hx, hi, hr⟩ := hj
  have ct := hi.two
  have hgw := hi.lt
  by_cases hx0 : x = 0
  ·subst hx0
   have hE : RefDP g A n cap log w0 wb SeekP seekV R (.returned (.tuple #[.int .i64 0, .bool false])) wr := by
    have h0 : (Prd.ret 0).runCD c3 = R := by
     cases m with
     | zero =>
      cases c3 with
      | «at» s => exact absurd hr.symm HB.out
      | stop k i a b d => exact hr
     | succ m => exact hr
    exact RefDP.fin (Q := SeekP) (ret := seekV) h0 hi ⟨by decide, fun h => absurd h (by decide)⟩
   have HE := Lib.hid hE
   clear hr hi hx hE
   go_wp2_with fail
   exact bodyPost_ret (v := .tuple #[.int .i64 0, .bool false]) (by simp [results, Tryz.results117, go_sem]) rfl HE.out
  have dx : ((x : Int) != 0) = true := by rw [bne_iff_ne]; omega
  by_cases hst : c3.stops = true
  ·rw [hst] at ct
   have HE := Lib.hid (RefDP.fin (Q := SeekP) (ret := seekV) (d := 0) ((Prd.runCD_stop (p := Prd.seekL t k m x) hst _).symm.trans hr) hi ⟨by decide, fun h => absurd h (by decide)⟩)
   rw [show seekV 0 = .tuple #[.int .i64 0, .bool false] from rfl] at HE
   clear hi hst hr hx0
   go_wp2_with fail
   exact bodyPost_ret (v := .tuple #[.int .i64 0, .bool false]) (by simp [results, Tryz.results117, go_sem]) rfl HE.out
  have hst' : c3.stops = false := by simpa using hst
  rw [hst'] at ct
  cases m with
  | zero =>
   cases c3 with
   | «at» s => exact absurd hr.symm HB.out
   | stop k i a b d => exact absurd rfl hst
  | succ m =>
  have hr1 : (Prd.ask 0 ((fieldN t x 1 : Nat) : Int) 0 0 [] fun a => if k ≤ a then Prd.ret (2 * x + if a = k then 1 else 0) else Prd.ask 0 ((fieldN t x 0 : Nat) : Int) 0 0 [] fun w => Prd.seekL t k m (refN w)).runCD c3 = R := by
   rw [← hr]
   conv => rhs; unfold Prd.seekL
   rw [if_neg hx0]
  have HK0 : ∀ w, Calls Tryz.prog 15 #[.int .i64 (t : Int), .int .i64 (x : Int), .int .i64 0] w fun e w' => e = .returned (.int .i64 (fieldN t x 0 : Nat)) ∧ w = w' := fun w => refField_any t x 0 (by have := HT.out; omega) (by omega) (by omega) (by omega) w
  have HK1 : ∀ w, Calls Tryz.prog 15 #[.int .i64 (t : Int), .int .i64 (x : Int), .int .i64 1] w fun e w' => e = .returned (.int .i64 (fieldN t x 1 : Nat)) ∧ w = w' := fun w => refField_any t x 1 (by have := HT.out; omega) (by omega) (by omega) (by omega) w
  have HL := rLoadDP (cap := cap) (wb := wb) OK (CSD.plain_of hst') hr1 wr hi
  have HX0 := Lib.hid (And.intro (Nat.pos_of_ne_zero hx0) hx)
  clear hi hr hr1 hx0 hst hst'
  generalize fieldN t x 0 = f0 at *
  generalize fieldN t x 1 = f1 at *
  go_wp2_with (go_at_call 15; (with_reducible refine (HK1 _).mono ?_); rintro e w' ⟨rfl, rfl⟩)
  (with_reducible refine HL.mono ?_)
  clear HL ct hgw
  rintro e w4 ⟨a, c4, rfl, hn, hi, hbt, hr, hpl⟩
  try dsimp only at hr
  clear hbt hn
  by_cases hka : k ≤ a
  ·rw [if_pos hka] at hr
   have dk : decide (k ≤ a) = true := by rw [decide_eq_true_iff]; omega
   have HE := RefDP.fin (Q := SeekP) (ret := seekV) hr hi (by have := HX0.out; unfold SeekP; split <;> exact ⟨by omega, fun _ => ⟨by omega, hpl⟩⟩)
   have e1 : seekV (2 * x + if a = k then 1 else 0) = .tuple #[.int .i64 (x : Int), .bool ((a : Int) == (k : Int))] := by
    have h1 : (2 * x + if a = k then 1 else 0) / 2 = x := by split <;> omega
    have h2 : decide ((2 * x + if a = k then 1 else 0) % 2 = 1) = ((a : Int) == (k : Int)) := by
     by_cases h : a = k
     ·subst h; simp
     ·have : ((a : Int) == (k : Int)) = false := by rw [beq_eq_false_iff_ne]; omega
      rw [this, if_neg h, decide_eq_false_iff_not]; omega
    unfold seekV
    rw [h1, h2]
   rw [e1] at HE
   replace HE := Lib.hid HE
   clear hi hr hka e1 hpl
   go_wp2_with fail
   exact bodyPost_ret (v := .tuple #[.int .i64 (x : Int), .bool ((a : Int) == (k : Int))]) (by simp [results, Tryz.results117, go_sem]) rfl HE.out
  ·rw [if_neg hka] at hr
   have dk : decide (k ≤ a) = false := by rw [decide_eq_false_iff_not]; omega
   have HL := rLoadD (cap := cap) (wb := wb) OK hr w4 hi
   clear hi hr hka hpl
   go_wp2_with (go_at_call 15; (with_reducible refine (HK0 _).mono ?_); rintro e w' ⟨rfl, rfl⟩)
   (with_reducible refine HL.mono ?_)
   clear HL
   rintro e w5 ⟨y5, c5, rfl, hn, hi, hbt, hr⟩
   try dsimp only at hr
   have HRF := fun w => refRef_any y5 hn w
   have HJ6 := Lib.hid (show RSeekI g A n cap log w0 wb t k R m (.int .i64 ((refN y5 : Nat) : Int)) w5 from ⟨refN y5, c5, rfl, refN_lt y5, hi, hr⟩)
   clear hn hi hbt hr
   generalize refN y5 = r5 at *
   go_wp2_with (go_at_call 44; (with_reducible refine (HRF _).mono ?_); rintro e w' ⟨rfl, rfl⟩)
   go_roundw
   case rel => exact ⟨m, HJ6.out⟩
   case measure => exact Nat.lt_of_lt_of_eq (cnt_lt (J := fun m wr => RSeekI g A n cap log w0 wb t k R m (.int .i64 ((r5 : Nat) : Int)) wr) HJ6.out (Nat.lt_succ_self m)) HM.out.symm
omit OK in
theorem searchV_enc {p x c : Nat} (hp : p < 1048576) (hx : x < 1048576) (hc : c < 4) : searchV (encS p x c) = .tuple #[.int .i64 (p : Int), .int .i64 (x : Int), .bool ((c : Int) == 3), .bool true] := by
 have h : (((encS p x c : Nat) : Int) != 0) = true := by rw [bne_iff_ne]; have := encS_ne p x c; omega
 unfold searchV
 rw [predS_enc hp hx hc, curS_enc hx hc, codS_enc hc, h]
def RHead (g : Nat) (A : Option Addr) (n cap : Nat) (log : List Res) (w0 wb : World) (t : Nat) (look : Nat → Nat → Prd) (f : Nat) (R : RanD (List Res)) (m : Nat) (w : World) : Prop :=
 ∃ c : CSD, CurID g A n cap log w0 wb c w ∧ (Prd.start t look f m).runCD c = R
def RWalk (g : Nat) (A : Option Addr) (n cap : Nat) (log : List Res) (w0 wb : World) (t : Nat) (look : Nat → Nat → Prd) (f M : Nat) (R : RanD (List Res)) (m : Nat) (vp vx vt : Value) (w : World) : Prop :=
 m ≤ M ∧ ((∃ (p x : Nat) (c : CSD), vp = .int .i64 (p : Int) ∧ vx = .int .i64 (x : Int) ∧ vt = .bool false ∧ p < 1048576 ∧ x < 1048576 ∧ CurID g A n cap log w0 wb c w ∧ (Prd.walk t look f m p x).runCD c = R) ∨ (∃ (p x : Nat) (c : CSD), vp = .int .i64 (p : Int) ∧ vx = .int .i64 (x : Int) ∧ vt = .bool true ∧ m < M ∧ CurID g A n cap log w0 wb c w ∧ (Prd.start t look f m).runCD c = R))
set_option maxHeartbeats 8000000 in
set_option maxRecDepth 100000 in
theorem rSearchS_prg (hgb : g < wb.heap.size) (t k f : Nat) (ht : t ≤ 64) (c : CSD) (R : RanD (List Res)) (hb : R ≠ .bad) (hR : (Prd.search t k f).runCD c = R) (w : World) (hI : CurID g A n cap log w0 wb c w) :
  Calls Tryz.prog 108 #[.pointer (some ⟨g, 0, none⟩), .int .i64 (t : Int), .int .u64 (k : Int)] w (RefDP g A n cap log w0 wb FoundP searchV R) := by
 unfold Prd.search at hR
 have HJ0 := Lib.hid (show ∃ m, RHead g A n cap log w0 wb t (Prd.lookS t k) f R m w from ⟨f, c, hI, hR⟩)
 have HT := Lib.hid ht
 have HB := Lib.hid hb
 have HGB := Lib.hid hgb
 clear hI hR ht hb hgb
 go_enter Tryz.func108, Tryz.ntmps108
 go_wp2_with fail
 go_loopw [10] (fun _ wr => ∃ m, RHead g A n cap log w0 wb t (Prd.lookS t k) f R m wr) (fun _ wr => cnt (fun m wr => RHead g A n cap log w0 wb t (Prd.lookS t k) f R m wr) wr)
 case atStart => exact HJ0.out
 case round =>
  clear HJ0
  have hj := cnt_spec (J := fun m wr => RHead g A n cap log w0 wb t (Prd.lookS t k) f R m wr) hrel
  clear hrel
  generalize hm : cnt (fun m wr => RHead g A n cap log w0 wb t (Prd.lookS t k) f R m wr) wr = M at *
  have HM := Lib.hid hm
  clear hm
  obtain ⟨c3, hi, hr⟩ := hj
  have ct := hi.two
  have hgw := hi.lt
  by_cases hst : c3.stops = true
  ·rw [hst] at ct
   have HE := Lib.hid (RefDP.fin (Q := FoundP) (ret := searchV) (d := encS 0 0 0) ((Prd.runCD_stop (p := Prd.start t (Prd.lookS t k) f M) hst _).symm.trans hr) hi (fun h => absurd h (by decide)))
   rw [searchV_enc (by decide) (by decide) (by decide)] at HE
   clear hi hst hr
   go_wp2_with fail
   exact bodyPost_ret (v := .tuple #[.int .i64 0, .int .i64 0, .bool false, .bool true]) (by simp [results, Tryz.results108, go_sem]) rfl HE.out
  have hst' : c3.stops = false := by simpa using hst
  rw [hst'] at ct
  have hr1 : (Prd.ask 0 0 0 0 [] fun y => Prd.walk t (Prd.lookS t k) f M 0 (refN y)).runCD c3 = R := hr
  have HL := rLoadD (cap := cap) (wb := wb) OK hr1 wr hi
  clear hi hr hr1 hst hst'
  go_wp2_with fail
  (with_reducible refine HL.mono ?_)
  clear HL ct hgw
  rintro e w4 ⟨y, c4, rfl, hn, hi, hbt, hr⟩
  try dsimp only at hr
  have HRF := fun w => refRef_any y hn w
  have HJ1 := Lib.hid (show ∃ m, RWalk g A n cap log w0 wb t (Prd.lookS t k) f M R m (.int .i64 0) (.int .i64 ((refN y : Nat) : Int)) (.bool false) w4 from ⟨M, Nat.le_refl _, .inl ⟨0, refN y, c4, rfl, rfl, rfl, by decide, refN_lt y, hi, hr⟩⟩)
  clear hn hi hbt hr
  generalize refN y = ry at *
  go_wp2_with (go_at_call 44; (with_reducible refine (HRF _).mono ?_); rintro e w' ⟨rfl, rfl⟩)
  clear HRF
  go_loopw [10, 11, 12] (fun vp vx vt wr => ∃ m, RWalk g A n cap log w0 wb t (Prd.lookS t k) f M R m vp vx vt wr) (fun vp vx vt wr => cnt (fun m wr => RWalk g A n cap log w0 wb t (Prd.lookS t k) f M R m vp vx vt wr) wr)
  case atStart => exact HJ1.out
  case round =>
   clear HJ1
   have hj := cnt_spec (J := fun m wr => RWalk g A n cap log w0 wb t (Prd.lookS t k) f M R m u10 u11 u12 wr) hrel
   clear hrel
   generalize hm : cnt (fun m wr => RWalk g A n cap log w0 wb t (Prd.lookS t k) f M R m u10 u11 u12 wr) wr = m at *
   have HM2 := Lib.hid hm
   clear hm
   rcases hj with ⟨hle, ⟨p, x, c5, rfl, rfl, rfl, hp, hx, hi, hr⟩ | ⟨p, x, c5, rfl, rfl, rfl, hlt, hi, hr⟩⟩
   case inr =>
    have ct := hi.two
    have hgw := hi.lt
    have HJ6 := Lib.hid (show RHead g A n cap log w0 wb t (Prd.lookS t k) f R m wr from ⟨c5, hi, hr⟩)
    have HLT := Lib.hid hlt
    clear hi hr hle hlt
    by_cases hx0 : x = 0
    ·have dx : ((x : Int) != 0) = false := by rw [bne_eq_false_iff_eq]; omega
     clear hx0
     go_wp2_with fail
     go_roundw
     case rel => exact ⟨m, HJ6.out⟩
     case measure => first | exact cnt_lt (J := fun m wr => RHead g A n cap log w0 wb t (Prd.lookS t k) f R m wr) HJ6.out HLT.out | exact Nat.lt_of_lt_of_eq (cnt_lt (J := fun m wr => RHead g A n cap log w0 wb t (Prd.lookS t k) f R m wr) HJ6.out HLT.out) HM.out.symm
    ·have dx : ((x : Int) != 0) = true := by rw [bne_iff_ne]; omega
     clear hx0
     go_wp2_with fail
     go_roundw
     case rel => exact ⟨m, HJ6.out⟩
     case measure => first | exact cnt_lt (J := fun m wr => RHead g A n cap log w0 wb t (Prd.lookS t k) f R m wr) HJ6.out HLT.out | exact Nat.lt_of_lt_of_eq (cnt_lt (J := fun m wr => RHead g A n cap log w0 wb t (Prd.lookS t k) f R m wr) HJ6.out HLT.out) HM.out.symm
   have ct := hi.two
   have hgw := hi.lt
   by_cases hx0 : x = 0
   ·subst hx0
    have h0 : (Prd.ret (encS p 0 0)).runCD c5 = R := by
     cases m with
     | zero =>
      cases c5 with
      | «at» s => exact absurd hr.symm HB.out
      | stop k i a b d => exact hr
     | succ m => exact hr
    have HE := RefDP.fin (Q := FoundP) (ret := searchV) h0 hi (fun h => by rw [codS_enc (by decide)] at h; cases h)
    rw [searchV_enc hp (by decide) (by decide)] at HE
    replace HE := Lib.hid HE
    clear hr hi hx hle hp h0
    go_wp2_with fail
    exact bodyPost_ret (v := .tuple #[.int .i64 (p : Int), .int .i64 0, .bool false, .bool true]) (by simp [results, Tryz.results108, go_sem]) rfl HE.out
   have dx : ((x : Int) != 0) = true := by rw [bne_iff_ne]; omega
   by_cases hst : c5.stops = true
   ·rw [hst] at ct
    have HE := RefDP.fin (Q := FoundP) (ret := searchV) (d := encS p 0 0) ((Prd.runCD_stop (p := Prd.walk t (Prd.lookS t k) f m p x) hst _).symm.trans hr) hi (fun h => by rw [codS_enc (by decide)] at h; cases h)
    rw [searchV_enc hp (by decide) (by decide)] at HE
    replace HE := Lib.hid HE
    clear hi hst hr hx0 hle hx hp
    go_wp2_with fail
    exact bodyPost_ret (v := .tuple #[.int .i64 (p : Int), .int .i64 0, .bool false, .bool true]) (by simp [results, Tryz.results108, go_sem]) rfl HE.out
   have hst' : c5.stops = false := by simpa using hst
   rw [hst'] at ct
   cases m with
   | zero =>
    cases c5 with
    | «at» s => exact absurd hr.symm HB.out
    | stop k i a b d => exact absurd rfl hst
   | succ m =>
   have hr1 : (Prd.ask 0 ((fieldN t x 0 : Nat) : Int) 0 0 [] fun w => if markB w = true then (Prd.takeOut t p x w f).bind fun d => if d = 0 then Prd.ret 0 else if d = 3 then Prd.walk t (Prd.lookS t k) f m p (refN w) else Prd.ask 0 0 0 0 [] fun y => Prd.walk t (Prd.lookS t k) f m 0 (refN y) else ((Prd.lookS t k) x w).bind fun d => if d = 0 then Prd.walk t (Prd.lookS t k) f m x (refN w) else if d = 1 then Prd.walk t (Prd.lookS t k) f m p x else Prd.ret (encS p x d)).runCD c5 = R := by
    rw [← hr]
    conv => rhs; unfold Prd.walk
    rw [if_neg hx0]
   have HK0 : ∀ w, Calls Tryz.prog 15 #[.int .i64 (t : Int), .int .i64 (x : Int), .int .i64 0] w fun e w' => e = .returned (.int .i64 (fieldN t x 0 : Nat)) ∧ w = w' := fun w => refField_any t x 0 (by have := HT.out; omega) (by omega) (by omega) (by omega) w
   have HK1 : ∀ w, Calls Tryz.prog 15 #[.int .i64 (t : Int), .int .i64 (x : Int), .int .i64 1] w fun e w' => e = .returned (.int .i64 (fieldN t x 1 : Nat)) ∧ w = w' := fun w => refField_any t x 1 (by have := HT.out; omega) (by omega) (by omega) (by omega) w
   have HL := rLoadDP (cap := cap) (wb := wb) OK (CSD.plain_of hst') hr1 wr hi
   have HX := Lib.hid (And.intro hp (And.intro (Nat.pos_of_ne_zero hx0) hx))
   have HLE := Lib.hid hle
   clear hi hr hr1 hx0 hst hst' hle hx hp
   go_wp2_with (go_at_call 15; (with_reducible refine (HK0 _).mono ?_); rintro e w' ⟨rfl, rfl⟩)
   (with_reducible refine HL.mono ?_)
   clear HL ct hgw
   rintro e w6 ⟨v, c6, rfl, hn, hi, hbt, hr, hpl⟩
   try dsimp only at hr
   have HMK := fun w => refMark_any v hn w
   have HRF := fun w => refRef_any v hn w
   have hrl := refN_lt v
   clear hbt
   cases hmk : markB v with
   | true =>
    rw [hmk] at HMK
    rw [if_pos hmk] at hr
    have HTO := rPartD HB.out hr w6 (fun hb' => rOut_prg OK HGB.out t p x v f HT.out HX.out.1 HX.out.2.1 HX.out.2.2 hn c6 hpl hb' w6 hi)
    unfold tkOutV at HTO
    have HN := Lib.hid hrl
    clear hi hn hr hmk hrl hpl
    generalize refN v = rv at *
    go_wp2_with (go_at_call 118; (with_reducible refine (HMK _).mono ?_); rintro e w' ⟨rfl, rfl⟩)
    (with_reducible refine HTO.mono ?_)
    clear HTO
    rintro e w7 ⟨d, c7, rfl, hi, hr⟩
    try dsimp only at hr
    by_cases hd0 : d = 0
    ·rw [if_pos hd0] at hr
     have dd : ((d : Int) != 0) = false := by rw [bne_eq_false_iff_eq]; omega
     have HE := RefDP.fin (Q := FoundP) (ret := searchV) hr hi (fun h => absurd h (by decide))
     rw [show searchV 0 = .tuple #[.int .i64 0, .int .i64 0, .bool false, .bool false] from rfl] at HE
     replace HE := Lib.hid HE
     clear hi hr hd0
     go_wp2_with fail
     exact bodyPost_ret (v := .tuple #[.int .i64 0, .int .i64 0, .bool false, .bool false]) (by simp [results, Tryz.results108, go_sem]) rfl HE.out
    ·rw [if_neg hd0] at hr
     have dd : ((d : Int) != 0) = true := by rw [bne_iff_ne]; omega
     by_cases hd3 : d = 3
     ·rw [if_pos hd3] at hr
      have d3 : ((d : Int) == 3) = true := by rw [beq_iff_eq]; omega
      have HJ6 := Lib.hid (show RWalk g A n cap log w0 wb t (Prd.lookS t k) f M R m (.int .i64 (p : Int)) (.int .i64 ((rv : Nat) : Int)) (.bool false) w7 from ⟨by have := HLE.out; omega, .inl ⟨p, rv, c7, rfl, rfl, rfl, HX.out.1, HN.out, hi, hr⟩⟩)
      clear hi hr hd0 hd3
      go_wp2_with (go_at_call 44; (with_reducible refine (HRF _).mono ?_); rintro e w' ⟨rfl, rfl⟩)
      go_roundw
      case rel => exact ⟨m, HJ6.out⟩
      case measure => exact Nat.lt_of_lt_of_eq (cnt_lt (J := fun m wr => RWalk g A n cap log w0 wb t (Prd.lookS t k) f M R m (.int .i64 (p : Int)) (.int .i64 ((rv : Nat) : Int)) (.bool false) wr) HJ6.out (Nat.lt_succ_self m)) HM2.out.symm
     ·rw [if_neg hd3] at hr
      have d3 : ((d : Int) == 3) = false := by rw [beq_eq_false_iff_ne]; omega
      have HJ6 := Lib.hid (show RWalk g A n cap log w0 wb t (Prd.lookS t k) f M R m (.int .i64 (p : Int)) (.int .i64 ((rv : Nat) : Int)) (.bool true) w7 from ⟨by have := HLE.out; omega, .inr ⟨p, rv, c7, rfl, rfl, rfl, by have := HLE.out; omega, hi, hr⟩⟩)
      clear hi hr hd0 hd3
      go_wp2_with (go_at_call 44; (with_reducible refine (HRF _).mono ?_); rintro e w' ⟨rfl, rfl⟩)
      go_roundw
      case rel => exact ⟨m, HJ6.out⟩
      case measure => exact Nat.lt_of_lt_of_eq (cnt_lt (J := fun m wr => RWalk g A n cap log w0 wb t (Prd.lookS t k) f M R m (.int .i64 (p : Int)) (.int .i64 ((rv : Nat) : Int)) (.bool true) wr) HJ6.out (Nat.lt_succ_self m)) HM2.out.symm
   | false =>
    rw [hmk] at HMK
    rw [if_neg (by rw [hmk]; decide)] at hr
    have hr2 : (Prd.ask 0 ((fieldN t x 1 : Nat) : Int) 0 0 [] fun a => (fun d => if d = 0 then Prd.walk t (Prd.lookS t k) f m x (refN v) else if d = 1 then Prd.walk t (Prd.lookS t k) f m p x else Prd.ret (encS p x d)) (if a = k then 3 else if k ≤ a then 2 else 0)).runCD c6 = R := hr
    have HL := rLoadDP (cap := cap) (wb := wb) OK hpl hr2 w6 hi
    have HN := Lib.hid hrl
    clear hi hn hr hr2 hmk hrl hpl
    generalize refN v = rv at *
    go_wp2_with (first | (go_at_call 118; (with_reducible refine (HMK _).mono ?_); rintro e w' ⟨rfl, rfl⟩) | (go_at_call 15; (with_reducible refine (HK1 _).mono ?_); rintro e w' ⟨rfl, rfl⟩))
    (with_reducible refine HL.mono ?_)
    clear HL
    rintro e w7 ⟨a, c7, rfl, hn, hi, hbt, hr, hpl⟩
    try dsimp only at hr
    clear hn hbt
    by_cases h1 : a = k
    ·rw [if_pos h1] at hr
     have hr' : (Prd.ret (encS p x 3)).runCD c7 = R := hr
     have hQ : FoundP (encS p x 3) c7 := fun _ => ⟨by rw [curS_enc HX.out.2.2 (by decide)]; exact HX.out.2.1, hpl⟩
     have d1 : ((a : Int) == (k : Int)) = true := by rw [beq_iff_eq]; omega
     have d2 : decide (k ≤ a) = true := by rw [decide_eq_true_iff]; omega
     have HE := RefDP.fin (Q := FoundP) (ret := searchV) hr' hi hQ
     rw [searchV_enc HX.out.1 HX.out.2.2 (by decide)] at HE
     replace HE : Hid (RefDP g A n cap log w0 wb FoundP searchV R (.returned (.tuple #[.int .i64 (p : Int), .int .i64 (x : Int), .bool true, .bool true])) w7) := Lib.hid HE
     clear hi hr hr' h1 hQ hpl
     go_wp2_with fail
     exact bodyPost_ret (v := .tuple #[.int .i64 (p : Int), .int .i64 (x : Int), .bool true, .bool true]) (by simp [results, Tryz.results108, go_sem]) rfl HE.out
    ·rw [if_neg h1] at hr
     have d1 : ((a : Int) == (k : Int)) = false := by rw [beq_eq_false_iff_ne]; omega
     by_cases h2 : k ≤ a
     ·rw [if_pos h2] at hr
      have hr' : (Prd.ret (encS p x 2)).runCD c7 = R := hr
      have hQ : FoundP (encS p x 2) c7 := fun h => by rw [codS_enc (by decide)] at h; cases h
      have d2 : decide (k ≤ a) = true := by rw [decide_eq_true_iff]; omega
      have HE := RefDP.fin (Q := FoundP) (ret := searchV) hr' hi hQ
      rw [searchV_enc HX.out.1 HX.out.2.2 (by decide)] at HE
      replace HE : Hid (RefDP g A n cap log w0 wb FoundP searchV R (.returned (.tuple #[.int .i64 (p : Int), .int .i64 (x : Int), .bool false, .bool true])) w7) := Lib.hid HE
      clear hi hr hr' h1 h2 hQ hpl
      go_wp2_with fail
      exact bodyPost_ret (v := .tuple #[.int .i64 (p : Int), .int .i64 (x : Int), .bool false, .bool true]) (by simp [results, Tryz.results108, go_sem]) rfl HE.out
     ·rw [if_neg h2] at hr
      have d2 : decide (k ≤ a) = false := by rw [decide_eq_false_iff_not]; omega
      have hr' : (Prd.walk t (Prd.lookS t k) f m x rv).runCD c7 = R := hr
      have HJ6 := Lib.hid (show RWalk g A n cap log w0 wb t (Prd.lookS t k) f M R m (.int .i64 (x : Int)) (.int .i64 ((rv : Nat) : Int)) (.bool false) w7 from ⟨by have := HLE.out; omega, .inl ⟨x, rv, c7, rfl, rfl, rfl, HX.out.2.2, HN.out, hi, hr'⟩⟩)
      clear hi hr hr' h1 h2 hpl
      go_wp2_with (go_at_call 44; (with_reducible refine (HRF _).mono ?_); rintro e w' ⟨rfl, rfl⟩)
      go_roundw
      case rel => exact ⟨m, HJ6.out⟩
      case measure => exact Nat.lt_of_lt_of_eq (cnt_lt (J := fun m wr => RWalk g A n cap log w0 wb t (Prd.lookS t k) f M R m (.int .i64 (x : Int)) (.int .i64 ((rv : Nat) : Int)) (.bool false) wr) HJ6.out (Nat.lt_succ_self m)) HM2.out.symm
end
end Go.Proofs.YtibpfkcackdbgaaGreatDoor
namespace Go.Proofs.YtibpfkcackdbgaaGreatDoor
set_option linter.unusedVariables false
set_option maxRecDepth 100000
set_option linter.unusedSectionVars false
open Go.ChangeShapes Go.WideShapes Go.ChangeAt Go.RowKit Go.BigFrame
section
variable {g : Nat} {A : Option Addr} {n cap : Nat} {log : List Res} {w0 wb : World} (OK : Hid (CurOk g A n log w0 wb))
include OK
set_option maxHeartbeats 8000000 in
set_option maxRecDepth 100000 in
theorem rSweep_prg (hgb : g < wb.heap.size) (t st f : Nat) (ht : t ≤ 64) (c : CSD) (R : RanD (List Res)) (hb : R ≠ .bad) (hR : (Prd.sweep t st f).runCD c = R) (w : World) (hI : CurID g A n cap log w0 wb c w) :
  Calls Tryz.prog 116 #[.pointer (some ⟨g, 0, none⟩), .int .i64 (t : Int), .int .u64 (st : Int)] w (RefD g A n cap log w0 wb (fun d => .bool ((d : Int) != 0)) R) := by
 unfold Prd.sweep at hR
 have HJ0 := Lib.hid (show ∃ m, RHead g A n cap log w0 wb t (Prd.lookW t st f) f R m w from ⟨f, c, hI, hR⟩)
 have HT := Lib.hid ht
 have HB := Lib.hid hb
 have HGB := Lib.hid hgb
 clear hI hR ht hb hgb
 go_enter Tryz.func116, Tryz.ntmps116
 go_wp2_with fail
 go_loopw [7] (fun _ wr => ∃ m, RHead g A n cap log w0 wb t (Prd.lookW t st f) f R m wr) (fun _ wr => cnt (fun m wr => RHead g A n cap log w0 wb t (Prd.lookW t st f) f R m wr) wr)
 case atStart => exact HJ0.out
 case round =>
  clear HJ0
  have hj := cnt_spec (J := fun m wr => RHead g A n cap log w0 wb t (Prd.lookW t st f) f R m wr) hrel
  clear hrel
  generalize hm : cnt (fun m wr => RHead g A n cap log w0 wb t (Prd.lookW t st f) f R m wr) wr = M at *
  have HM := Lib.hid hm
  clear hm
  obtain ⟨c3, hi, hr⟩ := hj
  have ct := hi.two
  have hgw := hi.lt
  by_cases hst : c3.stops = true
  ·rw [hst] at ct
   have HE := Lib.hid (RefD.fin (ret := fun d => .bool ((d : Int) != 0)) (d := 1) ((Prd.runCD_stop (p := Prd.start t (Prd.lookW t st f) f M) hst _).symm.trans hr) hi)
   clear hi hst hr
   go_wp2_with fail
   go_ret
   exact HE.out
  have hst' : c3.stops = false := by simpa using hst
  rw [hst'] at ct
  have hr1 : (Prd.ask 0 0 0 0 [] fun y => Prd.walk t (Prd.lookW t st f) f M 0 (refN y)).runCD c3 = R := hr
  have HL := rLoadD (cap := cap) (wb := wb) OK hr1 wr hi
  clear hi hr hr1 hst hst'
  go_wp2_with fail
  (with_reducible refine HL.mono ?_)
  clear HL ct hgw
  rintro e w4 ⟨y, c4, rfl, hn, hi, hbt, hr⟩
  try dsimp only at hr
  have HRF := fun w => refRef_any y hn w
  have HJ1 := Lib.hid (show ∃ m, RWalk g A n cap log w0 wb t (Prd.lookW t st f) f M R m (.int .i64 0) (.int .i64 ((refN y : Nat) : Int)) (.bool false) w4 from ⟨M, Nat.le_refl _, .inl ⟨0, refN y, c4, rfl, rfl, rfl, by decide, refN_lt y, hi, hr⟩⟩)
  clear hn hi hbt hr
  generalize refN y = ry at *
  go_wp2_with (go_at_call 44; (with_reducible refine (HRF _).mono ?_); rintro e w' ⟨rfl, rfl⟩)
  clear HRF
  go_loopw [7, 8, 9] (fun vp vx vt wr => ∃ m, RWalk g A n cap log w0 wb t (Prd.lookW t st f) f M R m vp vx vt wr) (fun vp vx vt wr => cnt (fun m wr => RWalk g A n cap log w0 wb t (Prd.lookW t st f) f M R m vp vx vt wr) wr)
  case atStart => exact HJ1.out
  case round =>
   clear HJ1
   have hj := cnt_spec (J := fun m wr => RWalk g A n cap log w0 wb t (Prd.lookW t st f) f M R m u7 u8 u9 wr) hrel
   clear hrel
   generalize hm : cnt (fun m wr => RWalk g A n cap log w0 wb t (Prd.lookW t st f) f M R m u7 u8 u9 wr) wr = m at *
   have HM2 := Lib.hid hm
   clear hm
   rcases hj with ⟨hle, ⟨p, x, c5, rfl, rfl, rfl, hp, hx, hi, hr⟩ | ⟨p, x, c5, rfl, rfl, rfl, hlt, hi, hr⟩⟩
   case inr =>
    have ct := hi.two
    have hgw := hi.lt
    have HJ6 := Lib.hid (show RHead g A n cap log w0 wb t (Prd.lookW t st f) f R m wr from ⟨c5, hi, hr⟩)
    have HLT := Lib.hid hlt
    clear hi hr hle hlt
    by_cases hx0 : x = 0
    ·have dx : ((x : Int) != 0) = false := by rw [bne_eq_false_iff_eq]; omega
     clear hx0
     go_wp2_with fail
     go_roundw
     case rel => exact ⟨m, HJ6.out⟩
     case measure => first | exact cnt_lt (J := fun m wr => RHead g A n cap log w0 wb t (Prd.lookW t st f) f R m wr) HJ6.out HLT.out | exact Nat.lt_of_lt_of_eq (cnt_lt (J := fun m wr => RHead g A n cap log w0 wb t (Prd.lookW t st f) f R m wr) HJ6.out HLT.out) HM.out.symm
    ·have dx : ((x : Int) != 0) = true := by rw [bne_iff_ne]; omega
     clear hx0
     go_wp2_with fail
     go_roundw
     case rel => exact ⟨m, HJ6.out⟩
     case measure => first | exact cnt_lt (J := fun m wr => RHead g A n cap log w0 wb t (Prd.lookW t st f) f R m wr) HJ6.out HLT.out | exact Nat.lt_of_lt_of_eq (cnt_lt (J := fun m wr => RHead g A n cap log w0 wb t (Prd.lookW t st f) f R m wr) HJ6.out HLT.out) HM.out.symm
   have ct := hi.two
   have hgw := hi.lt
   by_cases hx0 : x = 0
   ·subst hx0
    have h0 : (Prd.ret (encS p 0 0)).runCD c5 = R := by
     cases m with
     | zero =>
      cases c5 with
      | «at» s => exact absurd hr.symm HB.out
      | stop k i a b d => exact hr
     | succ m => exact hr
    have HE := RefD.fin (ret := (fun d => .bool ((d : Int) != 0))) h0 hi
    rw [show (((encS p 0 0 : Nat) : Int) != 0) = true by rw [bne_iff_ne]; have := encS_ne p 0 0; omega] at HE
    replace HE := Lib.hid HE
    clear hr hi hx hle hp h0
    go_wp2_with fail
    go_ret
    exact HE.out
   have dx : ((x : Int) != 0) = true := by rw [bne_iff_ne]; omega
   by_cases hst : c5.stops = true
   ·rw [hst] at ct
    have HE := RefD.fin (ret := (fun d => .bool ((d : Int) != 0))) (d := encS p 0 0) ((Prd.runCD_stop (p := Prd.walk t (Prd.lookW t st f) f m p x) hst _).symm.trans hr) hi
    rw [show (((encS p 0 0 : Nat) : Int) != 0) = true by rw [bne_iff_ne]; have := encS_ne p 0 0; omega] at HE
    replace HE := Lib.hid HE
    clear hi hst hr hx0 hle hx hp
    go_wp2_with fail
    go_ret
    exact HE.out
   have hst' : c5.stops = false := by simpa using hst
   rw [hst'] at ct
   cases m with
   | zero =>
    cases c5 with
    | «at» s => exact absurd hr.symm HB.out
    | stop k i a b d => exact absurd rfl hst
   | succ m =>
   have hr1 : (Prd.ask 0 ((fieldN t x 0 : Nat) : Int) 0 0 [] fun w => if markB w = true then (Prd.takeOut t p x w f).bind fun d => if d = 0 then Prd.ret 0 else if d = 3 then Prd.walk t (Prd.lookW t st f) f m p (refN w) else Prd.ask 0 0 0 0 [] fun y => Prd.walk t (Prd.lookW t st f) f m 0 (refN y) else ((Prd.lookW t st f) x w).bind fun d => if d = 0 then Prd.walk t (Prd.lookW t st f) f m x (refN w) else if d = 1 then Prd.walk t (Prd.lookW t st f) f m p x else Prd.ret (encS p x d)).runCD c5 = R := by
    rw [← hr]
    conv => rhs; unfold Prd.walk
    rw [if_neg hx0]
   have HK0 : ∀ w, Calls Tryz.prog 15 #[.int .i64 (t : Int), .int .i64 (x : Int), .int .i64 0] w fun e w' => e = .returned (.int .i64 (fieldN t x 0 : Nat)) ∧ w = w' := fun w => refField_any t x 0 (by have := HT.out; omega) (by omega) (by omega) (by omega) w
   have HK1 : ∀ w, Calls Tryz.prog 15 #[.int .i64 (t : Int), .int .i64 (x : Int), .int .i64 1] w fun e w' => e = .returned (.int .i64 (fieldN t x 1 : Nat)) ∧ w = w' := fun w => refField_any t x 1 (by have := HT.out; omega) (by omega) (by omega) (by omega) w
   have HK4 : ∀ w, Calls Tryz.prog 15 #[.int .i64 (t : Int), .int .i64 (x : Int), .int .i64 4] w fun e w' => e = .returned (.int .i64 (fieldN t x 4 : Nat)) ∧ w = w' := fun w => refField_any t x 4 (by have := HT.out; omega) (by omega) (by omega) (by omega) w
   have HK5 : ∀ w, Calls Tryz.prog 15 #[.int .i64 (t : Int), .int .i64 (x : Int), .int .i64 5] w fun e w' => e = .returned (.int .i64 (fieldN t x 5 : Nat)) ∧ w = w' := fun w => refField_any t x 5 (by have := HT.out; omega) (by omega) (by omega) (by omega) w
   have HL := rLoadDP (cap := cap) (wb := wb) OK (CSD.plain_of hst') hr1 wr hi
   have HX := Lib.hid (And.intro hp (And.intro (Nat.pos_of_ne_zero hx0) hx))
   have HLE := Lib.hid hle
   clear hi hr hr1 hx0 hst hst' hle hx hp
   go_wp2_with (go_at_call 15; (with_reducible refine (HK0 _).mono ?_); rintro e w' ⟨rfl, rfl⟩)
   (with_reducible refine HL.mono ?_)
   clear HL ct hgw
   rintro e w6 ⟨v, c6, rfl, hn, hi, hbt, hr, hpl⟩
   try dsimp only at hr
   have HMK := fun w => refMark_any v hn w
   have HRF := fun w => refRef_any v hn w
   have hrl := refN_lt v
   clear hbt
   cases hmk : markB v with
   | true =>
    rw [hmk] at HMK
    rw [if_pos hmk] at hr
    have HTO := rPartD HB.out hr w6 (fun hb' => rOut_prg OK HGB.out t p x v f HT.out HX.out.1 HX.out.2.1 HX.out.2.2 hn c6 hpl hb' w6 hi)
    unfold tkOutV at HTO
    have HN := Lib.hid hrl
    clear hi hn hr hmk hrl hpl
    generalize refN v = rv at *
    go_wp2_with (go_at_call 118; (with_reducible refine (HMK _).mono ?_); rintro e w' ⟨rfl, rfl⟩)
    (with_reducible refine HTO.mono ?_)
    clear HTO
    rintro e w7 ⟨d, c7, rfl, hi, hr⟩
    try dsimp only at hr
    by_cases hd0 : d = 0
    ·rw [if_pos hd0] at hr
     have dd : ((d : Int) != 0) = false := by rw [bne_eq_false_iff_eq]; omega
     have HE := RefD.fin (ret := (fun d => .bool ((d : Int) != 0))) hr hi
     rw [show (((0 : Nat) : Int) != 0) = false from rfl] at HE
     replace HE := Lib.hid HE
     clear hi hr hd0
     go_wp2_with fail
     go_ret
     exact HE.out
    ·rw [if_neg hd0] at hr
     have dd : ((d : Int) != 0) = true := by rw [bne_iff_ne]; omega
     by_cases hd3 : d = 3
     ·rw [if_pos hd3] at hr
      have d3 : ((d : Int) == 3) = true := by rw [beq_iff_eq]; omega
      have HJ6 := Lib.hid (show RWalk g A n cap log w0 wb t (Prd.lookW t st f) f M R m (.int .i64 (p : Int)) (.int .i64 ((rv : Nat) : Int)) (.bool false) w7 from ⟨by have := HLE.out; omega, .inl ⟨p, rv, c7, rfl, rfl, rfl, HX.out.1, HN.out, hi, hr⟩⟩)
      clear hi hr hd0 hd3
      go_wp2_with (go_at_call 44; (with_reducible refine (HRF _).mono ?_); rintro e w' ⟨rfl, rfl⟩)
      go_roundw
      case rel => exact ⟨m, HJ6.out⟩
      case measure => exact Nat.lt_of_lt_of_eq (cnt_lt (J := fun m wr => RWalk g A n cap log w0 wb t (Prd.lookW t st f) f M R m (.int .i64 (p : Int)) (.int .i64 ((rv : Nat) : Int)) (.bool false) wr) HJ6.out (Nat.lt_succ_self m)) HM2.out.symm
     ·rw [if_neg hd3] at hr
      have d3 : ((d : Int) == 3) = false := by rw [beq_eq_false_iff_ne]; omega
      have HJ6 := Lib.hid (show RWalk g A n cap log w0 wb t (Prd.lookW t st f) f M R m (.int .i64 (p : Int)) (.int .i64 ((rv : Nat) : Int)) (.bool true) w7 from ⟨by have := HLE.out; omega, .inr ⟨p, rv, c7, rfl, rfl, rfl, by have := HLE.out; omega, hi, hr⟩⟩)
      clear hi hr hd0 hd3
      go_wp2_with (go_at_call 44; (with_reducible refine (HRF _).mono ?_); rintro e w' ⟨rfl, rfl⟩)
      go_roundw
      case rel => exact ⟨m, HJ6.out⟩
      case measure => exact Nat.lt_of_lt_of_eq (cnt_lt (J := fun m wr => RWalk g A n cap log w0 wb t (Prd.lookW t st f) f M R m (.int .i64 (p : Int)) (.int .i64 ((rv : Nat) : Int)) (.bool true) wr) HJ6.out (Nat.lt_succ_self m)) HM2.out.symm
   | false =>
    rw [hmk] at HMK
    rw [if_neg (by rw [hmk]; decide)] at hr
    have hw1 : IntKind.u64.wrap ((v : Int) + 1) = ((v + 1 : Nat) : Int) := by have := (or_mark hn hmk).2; rw [IntKind.wrap_u64]; omega
    have hr2 : (Prd.ask 0 ((fieldN t x 1 : Nat) : Int) 0 0 [] fun a => ((if a % 2147483648 = 0 then Prd.ret 0 else Prd.ask 0 ((fieldN t x 4 : Nat) : Int) 0 0 [] fun u => Prd.ask 0 ((fieldN t x 5 : Nat) : Int) 0 0 [] fun v => Prd.ret (if u = st ∨ v = st then 1 else 0)).bind (fun e => if e = 1 then (Prd.markW t x v).bind fun d => if d = 1 then (Prd.set t x 2 f).bind fun _ => Prd.ret 1 else Prd.ret 1 else Prd.ret 0)).bind (fun d => if d = 0 then Prd.walk t (Prd.lookW t st f) f m x (refN v) else if d = 1 then Prd.walk t (Prd.lookW t st f) f m p x else Prd.ret (encS p x d))).runCD c6 = R := hr
    have HL := rLoadD (cap := cap) (wb := wb) OK hr2 w6 hi
    have HN := Lib.hid hrl
    clear hi hn hr hr2 hmk hrl hpl
    generalize refN v = rv at *
    generalize hf1 : fieldN t x 1 = f1 at *
    clear hf1
    go_wp2_with (first | (go_at_call 118; (with_reducible refine (HMK _).mono ?_); rintro e w' ⟨rfl, rfl⟩) | (go_at_call 15; (with_reducible refine (HK1 _).mono ?_); rintro e w' ⟨rfl, rfl⟩))
    (with_reducible refine HL.mono ?_)
    clear HL
    rintro e w7 ⟨a, c7, rfl, hn, hi, hbt, hr⟩
    try dsimp only at hr
    have hrem : Int.tmod (a : Int) 2147483648 = ((a % 2147483648 : Nat) : Int) := (Int.ofNat_tmod a 2147483648).symm
    clear hn hbt
    by_cases h1 : a % 2147483648 = 0
    ·rw [if_pos h1] at hr
     have d1 : (((a % 2147483648 : Nat) : Int) != 0) = false := by rw [bne_eq_false_iff_eq]; omega
     have hr' : (Prd.walk t (Prd.lookW t st f) f m x rv).runCD c7 = R := hr
     have HJ6 := Lib.hid (show RWalk g A n cap log w0 wb t (Prd.lookW t st f) f M R m (.int .i64 (x : Int)) (.int .i64 ((rv : Nat) : Int)) (.bool false) w7 from ⟨by have := HLE.out; omega, .inl ⟨x, rv, c7, rfl, rfl, rfl, HX.out.2.2, HN.out, hi, hr'⟩⟩)
     clear hi hr hr' h1
     generalize a % 2147483648 = am at *
     go_wp2_with (go_at_call 44; (with_reducible refine (HRF _).mono ?_); rintro e w' ⟨rfl, rfl⟩)
     go_roundw
     case rel => exact ⟨m, HJ6.out⟩
     case measure => exact Nat.lt_of_lt_of_eq (cnt_lt (J := fun m wr => RWalk g A n cap log w0 wb t (Prd.lookW t st f) f M R m (.int .i64 (x : Int)) (.int .i64 ((rv : Nat) : Int)) (.bool false) wr) HJ6.out (Nat.lt_succ_self m)) HM2.out.symm
    ·rw [if_neg h1] at hr
     have d1 : (((a % 2147483648 : Nat) : Int) != 0) = true := by rw [bne_iff_ne]; omega
     have hr3 : (Prd.ask 0 ((fieldN t x 4 : Nat) : Int) 0 0 [] fun u => (((Prd.ask 0 ((fieldN t x 5 : Nat) : Int) 0 0 [] fun v => Prd.ret (if u = st ∨ v = st then 1 else 0)).bind (fun e => if e = 1 then (Prd.markW t x v).bind fun d => if d = 1 then (Prd.set t x 2 f).bind fun _ => Prd.ret 1 else Prd.ret 1 else Prd.ret 0)).bind (fun d => if d = 0 then Prd.walk t (Prd.lookW t st f) f m x (rv) else if d = 1 then Prd.walk t (Prd.lookW t st f) f m p x else Prd.ret (encS p x d)))).runCD c7 = R := hr
     have HL := rLoadD (cap := cap) (wb := wb) OK hr3 w7 hi
     clear hi hr hr3 h1
     generalize a % 2147483648 = am at *
     generalize hf4 : fieldN t x 4 = f4 at *
     clear hf4
     go_wp2_with (go_at_call 15; (with_reducible refine (HK4 _).mono ?_); rintro e w' ⟨rfl, rfl⟩)
     (with_reducible refine HL.mono ?_)
     clear HL
     rintro e w8 ⟨u, c8, rfl, hn, hi, hbt, hr⟩
     try dsimp only at hr
     clear hn hbt
     have hr4 : (Prd.ask 0 ((fieldN t x 5 : Nat) : Int) 0 0 [] fun v2 => (((Prd.ret (if u = st ∨ v2 = st then 1 else 0)).bind (fun e => if e = 1 then (Prd.markW t x v).bind fun d => if d = 1 then (Prd.set t x 2 f).bind fun _ => Prd.ret 1 else Prd.ret 1 else Prd.ret 0)).bind (fun d => if d = 0 then Prd.walk t (Prd.lookW t st f) f m x (rv) else if d = 1 then Prd.walk t (Prd.lookW t st f) f m p x else Prd.ret (encS p x d)))).runCD c8 = R := hr
     have HL := rLoadD (cap := cap) (wb := wb) OK hr4 w8 hi
     clear hi hr hr4
     generalize hf5 : fieldN t x 5 = f5 at *
     clear hf5
     go_wp2_with (go_at_call 15; (with_reducible refine (HK5 _).mono ?_); rintro e w' ⟨rfl, rfl⟩)
     (with_reducible refine HL.mono ?_)
     clear HL
     rintro e w9 ⟨v2, c9, rfl, hn, hi, hbt, hr⟩
     try dsimp only at hr
     clear hn hbt d1
     by_cases hu : u = st
     ·have du : ((u : Int) == (st : Int)) = true := by rw [beq_iff_eq]; omega
      rw [if_pos (.inl hu)] at hr
      have hr' : (Prd.ask 2 ((nextN t x : Nat) : Int) v (v + 1) [] fun d => (if d = 1 then (Prd.set t x 2 f).bind fun _ => Prd.ret 1 else Prd.ret 1).bind (fun d => if d = 0 then Prd.walk t (Prd.lookW t st f) f m x (rv) else if d = 1 then Prd.walk t (Prd.lookW t st f) f m p x else Prd.ret (encS p x d))).runCD c9 = R := hr
      rw [nextN_pos (by have := HX.out.2.1; omega)] at hr'
      have HC := rCasD (cap := cap) (wb := wb) OK hr' w9 hi
      clear hi hr hr' hu
      generalize fieldN t x 0 = f0 at *
      generalize hv1 : v + 1 = v1 at *
      clear hv1
      go_wp2_with (go_at_call 15; (with_reducible refine (HK0 _).mono ?_); rintro e w' ⟨rfl, rfl⟩)
      (with_reducible refine HC.mono ?_)
      clear HC
      rintro e w10 ⟨d, c10, rfl, hn, hi, hbt, hr⟩
      try dsimp only at hr
      clear hn hbt
      by_cases hd : d = 1
      ·have dd := eq1 hd
       rw [if_pos hd, Prd.bind_assoc] at hr
       have HS : Calls Tryz.prog 164 #[.pointer (some ⟨g, 0, none⟩), .int .i64 (t : Int), .int .i64 (x : Int), .int .i64 2] w10 _ := rPartD HB.out hr w10 (fun hb' => rSet_prg OK t x 2 f HT.out HX.out.2.1 HX.out.2.2 (.inr rfl) c10 _ hb' rfl w10 hi)
       clear hi hr hd
       go_wp2_with fail
       (with_reducible refine HS.mono ?_)
       clear HS
       rintro e w11 ⟨d11, c11, rfl, hi, hr⟩
       try dsimp only at hr
       have hr' : (Prd.walk t (Prd.lookW t st f) f m p x).runCD c11 = R := hr
       have HJ6 := Lib.hid (show RWalk g A n cap log w0 wb t (Prd.lookW t st f) f M R m (.int .i64 (p : Int)) (.int .i64 (x : Int)) (.bool false) w11 from ⟨by have := HLE.out; omega, .inl ⟨p, x, c11, rfl, rfl, rfl, HX.out.1, HX.out.2.2, hi, hr'⟩⟩)
       clear hi hr hr'
       go_wp2_with fail
       go_roundw
       case rel => exact ⟨m, HJ6.out⟩
       case measure => exact Nat.lt_of_lt_of_eq (cnt_lt (J := fun m wr => RWalk g A n cap log w0 wb t (Prd.lookW t st f) f M R m (.int .i64 (p : Int)) (.int .i64 (x : Int)) (.bool false) wr) HJ6.out (Nat.lt_succ_self m)) HM2.out.symm
      ·have dd := ne1 hd
       rw [if_neg hd] at hr
       have hr' : (Prd.walk t (Prd.lookW t st f) f m p x).runCD c10 = R := hr
       have HJ6 := Lib.hid (show RWalk g A n cap log w0 wb t (Prd.lookW t st f) f M R m (.int .i64 (p : Int)) (.int .i64 (x : Int)) (.bool false) w10 from ⟨by have := HLE.out; omega, .inl ⟨p, x, c10, rfl, rfl, rfl, HX.out.1, HX.out.2.2, hi, hr'⟩⟩)
       clear hi hr hr' hd
       go_wp2_with fail
       go_roundw
       case rel => exact ⟨m, HJ6.out⟩
       case measure => exact Nat.lt_of_lt_of_eq (cnt_lt (J := fun m wr => RWalk g A n cap log w0 wb t (Prd.lookW t st f) f M R m (.int .i64 (p : Int)) (.int .i64 (x : Int)) (.bool false) wr) HJ6.out (Nat.lt_succ_self m)) HM2.out.symm
     ·have du : ((u : Int) == (st : Int)) = false := by rw [beq_eq_false_iff_ne]; omega
      by_cases hv : v2 = st
      ·have dw : ((v2 : Int) == (st : Int)) = true := by rw [beq_iff_eq]; omega
       rw [if_pos (.inr hv)] at hr
       have hr' : (Prd.ask 2 ((nextN t x : Nat) : Int) v (v + 1) [] fun d => (if d = 1 then (Prd.set t x 2 f).bind fun _ => Prd.ret 1 else Prd.ret 1).bind (fun d => if d = 0 then Prd.walk t (Prd.lookW t st f) f m x (rv) else if d = 1 then Prd.walk t (Prd.lookW t st f) f m p x else Prd.ret (encS p x d))).runCD c9 = R := hr
       rw [nextN_pos (by have := HX.out.2.1; omega)] at hr'
       have HC := rCasD (cap := cap) (wb := wb) OK hr' w9 hi
       clear hi hr hr' hu hv
       generalize fieldN t x 0 = f0 at *
       generalize hv1 : v + 1 = v1 at *
       clear hv1
       go_wp2_with (go_at_call 15; (with_reducible refine (HK0 _).mono ?_); rintro e w' ⟨rfl, rfl⟩)
       (with_reducible refine HC.mono ?_)
       clear HC
       rintro e w10 ⟨d, c10, rfl, hn, hi, hbt, hr⟩
       try dsimp only at hr
       clear hn hbt
       by_cases hd : d = 1
       ·have dd := eq1 hd
        rw [if_pos hd, Prd.bind_assoc] at hr
        have HS : Calls Tryz.prog 164 #[.pointer (some ⟨g, 0, none⟩), .int .i64 (t : Int), .int .i64 (x : Int), .int .i64 2] w10 _ := rPartD HB.out hr w10 (fun hb' => rSet_prg OK t x 2 f HT.out HX.out.2.1 HX.out.2.2 (.inr rfl) c10 _ hb' rfl w10 hi)
        clear hi hr hd
        go_wp2_with fail
        (with_reducible refine HS.mono ?_)
        clear HS
        rintro e w11 ⟨d11, c11, rfl, hi, hr⟩
        try dsimp only at hr
        have hr' : (Prd.walk t (Prd.lookW t st f) f m p x).runCD c11 = R := hr
        have HJ6 := Lib.hid (show RWalk g A n cap log w0 wb t (Prd.lookW t st f) f M R m (.int .i64 (p : Int)) (.int .i64 (x : Int)) (.bool false) w11 from ⟨by have := HLE.out; omega, .inl ⟨p, x, c11, rfl, rfl, rfl, HX.out.1, HX.out.2.2, hi, hr'⟩⟩)
        clear hi hr hr'
        go_wp2_with fail
        go_roundw
        case rel => exact ⟨m, HJ6.out⟩
        case measure => exact Nat.lt_of_lt_of_eq (cnt_lt (J := fun m wr => RWalk g A n cap log w0 wb t (Prd.lookW t st f) f M R m (.int .i64 (p : Int)) (.int .i64 (x : Int)) (.bool false) wr) HJ6.out (Nat.lt_succ_self m)) HM2.out.symm
       ·have dd := ne1 hd
        rw [if_neg hd] at hr
        have hr' : (Prd.walk t (Prd.lookW t st f) f m p x).runCD c10 = R := hr
        have HJ6 := Lib.hid (show RWalk g A n cap log w0 wb t (Prd.lookW t st f) f M R m (.int .i64 (p : Int)) (.int .i64 (x : Int)) (.bool false) w10 from ⟨by have := HLE.out; omega, .inl ⟨p, x, c10, rfl, rfl, rfl, HX.out.1, HX.out.2.2, hi, hr'⟩⟩)
        clear hi hr hr' hd
        go_wp2_with fail
        go_roundw
        case rel => exact ⟨m, HJ6.out⟩
        case measure => exact Nat.lt_of_lt_of_eq (cnt_lt (J := fun m wr => RWalk g A n cap log w0 wb t (Prd.lookW t st f) f M R m (.int .i64 (p : Int)) (.int .i64 (x : Int)) (.bool false) wr) HJ6.out (Nat.lt_succ_self m)) HM2.out.symm
      ·have dw : ((v2 : Int) == (st : Int)) = false := by rw [beq_eq_false_iff_ne]; omega
       rw [if_neg (by rintro (h | h); exact hu h; exact hv h)] at hr
       have hr' : (Prd.walk t (Prd.lookW t st f) f m x rv).runCD c9 = R := hr
       have HJ6 := Lib.hid (show RWalk g A n cap log w0 wb t (Prd.lookW t st f) f M R m (.int .i64 (x : Int)) (.int .i64 ((rv : Nat) : Int)) (.bool false) w9 from ⟨by have := HLE.out; omega, .inl ⟨x, rv, c9, rfl, rfl, rfl, HX.out.2.2, HN.out, hi, hr'⟩⟩)
       clear hi hr hr' hu hv
       go_wp2_with (go_at_call 44; (with_reducible refine (HRF _).mono ?_); rintro e w' ⟨rfl, rfl⟩)
       go_roundw
       case rel => exact ⟨m, HJ6.out⟩
       case measure => exact Nat.lt_of_lt_of_eq (cnt_lt (J := fun m wr => RWalk g A n cap log w0 wb t (Prd.lookW t st f) f M R m (.int .i64 (x : Int)) (.int .i64 ((rv : Nat) : Int)) (.bool false) wr) HJ6.out (Nat.lt_succ_self m)) HM2.out.symm
end
end Go.Proofs.YtibpfkcackdbgaaGreatDoor
namespace Go.Proofs.YtibpfkcackdbgaaGreatDoor
open Go.ChangeShapes Go.WideShapes Go.ChangeAt Go.RowKit Go.BigFrame Go.Deep
set_option linter.unusedVariables false
set_option maxRecDepth 100000
structure ToldL where
 k : Int
 i : Int
 a : Nat
 b : Nat
 d : List Nat
 er : Int
 oi : Bool
 n : Nat
 w : Nat
 is : Bool
def ToldL.val (v : ToldL) (D : Option Addr) (dc : Nat) : Value := .tuple #[.agg #[.int .i64 v.k, .int .i64 v.i, .int .u64 (v.a : Int), .int .u64 (v.b : Int), .slice D v.d.length dc, .slice none 0 0], .agg #[.int .i64 v.er, .bool v.oi, .int .i64 (v.n : Int), .int .u64 (v.w : Int), .slice none 0 0], .bool v.is]
def TellL (lo : Nat) (w : World) (v : ToldL) (e : Ending) (w' : World) : Prop := ∃ D dc, e = .returned (v.val D dc) ∧ AtB w' D v.d.length v.d ∧ v.d.length ≤ dc ∧ v.d.length ≤ 100000 ∧ OffW (fun c => lo ≤ c) D v.d.length ∧ Below w.heap.size w w'
end Go.Proofs.YtibpfkcackdbgaaGreatDoor
