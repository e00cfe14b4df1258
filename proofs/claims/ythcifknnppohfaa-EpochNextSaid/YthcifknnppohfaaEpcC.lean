/-
  Texts of one kind, one behind the other: EpcRef, EpcRefNext.
-/
import Derived.Test.YthcifknnppohfaaEpcB
namespace Go.Proofs.Ythcifknnppohfaa
open Go.ChangeShapes Go.WideShapes Go.ChangeAt Go.RowKit Go.BigFrame
set_option linter.unusedVariables false
set_option maxRecDepth 100000
set_option linter.unusedSectionVars false

theorem curSwap_of (g : Nat) (i : Int) (a : Nat) (N : Nat) (P : World → Prop) (hP : ∀ x y, P x → Below x.heap.size x y → P y) (w : World) (hgw : g < w.heap.size)
    (h : Calls Try.prog 86 #[.pointer (some ⟨g, 0, none⟩), .agg #[.int .i64 4, .int .i64 i, .int .u64 (a : Int), .int .u64 0, .slice none 0 0, .slice none 0 0]] w (fun e w' => (∃ B bn bc fl, e = .returned (.agg #[.int .u64 (N : Int), .slice B bn bc, .bool fl])) ∧ P w' ∧ But g w w')) :
    Calls Try.prog 67 #[.pointer (some ⟨g, 0, none⟩), .int .i64 i, .int .u64 (a : Int)] w (fun e w' => e = .returned (.int .u64 (N : Int)) ∧ P w' ∧ But g w w') := by
  have HG := Lib.hid hgw
  have hf := field_n
  clear hgw
  go_enter Try.func67, Try.ntmps67
  go_wp2_with fail
  (with_reducible refine h.mono ?_)
  rintro e w' ⟨⟨B, bn, bc, fl, rfl⟩, hp, hb⟩
  have HP := Lib.hid hp
  have HB := Lib.hid hb
  clear hp hb h
  go_wp2_with fail
  have hg := HG.out
  have hb := HB.out
  have hsz := hb.size
  go_ret
  exact ⟨rfl, hP _ _ HP.out (by repeat (first | with_reducible assumption | with_reducible exact Below.refl _ _ | with_reducible refine Below.drew ?_ | with_reducible refine below_al ?_ | (with_reducible refine below_set1 (by omega) _ ?_))), (by repeat (first | with_reducible assumption | with_reducible exact But.refl _ _ | with_reducible refine But.drew ?_ | (with_reducible refine But.alloc ?_ _ (by omega)) | (with_reducible refine But.set ?_ _ _) | (with_reducible refine But.new ?_ _ _ _ (by omega) (by omega))))⟩

theorem wrapUp (e k : Nat) (hk : k < 100) : IntKind.u64.wrap ((e : Int) + (k : Int)) = ((upN e k : Nat) : Int) := by rw [IntKind.wrap_u64]; unfold upN; omega
theorem rLimbo_any (e : Nat) (w : World) : Calls Try.prog 64 #[.int .u64 (e : Int)] w fun x w' => x = .returned (.int .i64 (limboN e : Nat)) ∧ w = w' := by
  have h1 : Int.tmod (e : Int) 3 = ((e % 3 : Nat) : Int) := (Int.ofNat_tmod e 3).symm
  have h2 : (4 : Int) + ((e % 3 : Nat) : Int) = ((limboN e : Nat) : Int) := by unfold limboN; omega
  have h3 : e % 3 < 3 := Nat.mod_lt _ (by decide)
  generalize e % 3 = m at *
  generalize limboN e = l at *
  go_enter Try.func64, Try.ntmps64
  go_wp2_with fail
  go_ret
  exact ⟨rfl, rfl⟩
section
variable {g : Nat} {A : Option Addr} {n cap : Nat} {log : List Res} {w0 wb : World}
/-- A call was told a number (or nothing, behind the end), and the rest runs to R. -/
def CGo (g : Nat) (A : Option Addr) (n cap : Nat) (log : List Res) (w0 wb : World) (R : Ran (List Res)) (ret : Nat → Value) (q : Nat → Prg) (e : Ending) (w' : World) : Prop :=
  ∃ d c', e = .returned (ret d) ∧ d < 18446744073709551616 ∧ CurI g A n cap log w0 wb c' w' ∧ (q d).runC c' = R
def CGoC (g : Nat) (A : Option Addr) (n cap : Nat) (log : List Res) (w0 wb : World) (R : Ran (List Res)) (ret : Nat → Value) (q : Nat → Prg) (e : Ending) (w' : World) : Prop :=
  ∃ d c', e = .returned (ret d) ∧ CurI g A n cap log w0 wb c' w' ∧ (q d).runC c' = R
theorem RefEnd.fin {R : Ran (List Res)} {d : Nat} {c : CS} {w' : World} {ret : Nat → Value} (h : (Prg.ret d).runC c = R) (hI : CurI g A n cap log w0 wb c w') : RefEnd g A n cap log w0 wb ret R (.returned (ret d)) w' := by
  subst h
  cases c with
  | «at» s => exact ⟨rfl, hI⟩
  | stop k i a b => exact ⟨d, rfl, hI⟩
section
variable (OK : Hid (CurOk g A n log w0 wb)) {R : Ran (List Res)} {f : Nat → Prg} {c : CS}
include OK
theorem rLoadP {i : Int} (hR : (Prg.ask 0 i 0 0 f).runC c = R) (w : World) (hI : CurI g A n cap log w0 wb c w) : Calls Try.prog 61 #[.pointer (some ⟨g, 0, none⟩), .int .i64 i] w (CGo g A n cap log w0 wb R (fun n => .int .u64 (n : Int)) f) :=
  (cLoad OK.out c i w hI).mono fun e w' h => ⟨_, _, h.1, c.small _ _ _ _, h.2.1, by rw [← hR, Prg.runC_ask]⟩
theorem rStoreP {i : Int} {a : Nat} (hR : (Prg.ask 1 i a 0 f).runC c = R) (w : World) (hI : CurI g A n cap log w0 wb c w) : Calls Try.prog 62 #[.pointer (some ⟨g, 0, none⟩), .int .i64 i, .int .u64 (a : Int)] w (CGo g A n cap log w0 wb R (fun _ => .tuple #[]) f) :=
  (cStore OK.out c i a w hI).mono fun e w' h => ⟨(c.tell 1 i a 0).1, _, h.1, c.small _ _ _ _, h.2.1, by rw [← hR, Prg.runC_ask]⟩
theorem rCasP {i : Int} {a b : Nat} (hR : (Prg.ask 2 i a b f).runC c = R) (w : World) (hI : CurI g A n cap log w0 wb c w) : Calls Try.prog 65 #[.pointer (some ⟨g, 0, none⟩), .int .i64 i, .int .u64 (a : Int), .int .u64 (b : Int)] w (CGo g A n cap log w0 wb R (fun n => .bool ((n : Int) == 1)) f) :=
  (cCas OK.out c i a b w hI).mono fun e w' h => ⟨_, _, h.1, c.small _ _ _ _, h.2.1, by rw [← hR, Prg.runC_ask]⟩
theorem rSwapP {i : Int} {a : Nat} (hR : (Prg.ask 4 i a 0 f).runC c = R) (w : World) (hI : CurI g A n cap log w0 wb c w) : Calls Try.prog 67 #[.pointer (some ⟨g, 0, none⟩), .int .i64 i, .int .u64 (a : Int)] w (CGo g A n cap log w0 wb R (fun n => .int .u64 (n : Int)) f) :=
  (curSwap_of g i a _ _ (fun x y h hb => h.below hb) w hI.lt (curDo_at OK.out c 4 i a 0 w hI)).mono fun e w' h => ⟨_, _, h.1, c.small _ _ _ _, h.2.1, by rw [← hR, Prg.runC_ask]⟩
end
theorem rPart {R : Ran (List Res)} (hb : R ≠ .bad) {p : Prg} {q : Nat → Prg} {c : CS} {F : FuncId} {args : Array Value} {ret : Nat → Value} (hR : (p.bind q).runC c = R) (w : World)
    (h : p.runC c ≠ .bad → Calls Try.prog F args w (RefEnd g A n cap log w0 wb ret (p.runC c))) : Calls Try.prog F args w (CGoC g A n cap log w0 wb R ret q) := by
  rw [Prg.runC_bind] at hR
  cases hp : p.runC c with
  | bad => rw [hp] at hR; exact absurd hR.symm hb
  | left k i a b =>
    rw [hp] at hR h
    refine (h (by simp)).mono ?_
    rintro e w' ⟨d, he, hc⟩
    exact ⟨d, .stop k i a b, he, hc, hR⟩
  | done d s =>
    rw [hp] at hR h
    refine (h (by simp)).mono ?_
    rintro e w' ⟨he, hc⟩
    exact ⟨d, .at s, he, hc, hR⟩
theorem runC_stop {p : Prg} {c : CS} (h : c.stops = true) : ∀ q : Prg, p.runC c = q.runC c := by
  intro q
  cases c with
  | «at» s => cases h
  | stop k i a b => rfl
variable (OK : Hid (CurOk g A n log w0 wb))
include OK
theorem rUnpin_prg (me : Nat) (hme : me < 1000000) (c : CS) (hb : (Prg.unpin me).runC c ≠ .bad) (w : World) (hI : CurI g A n cap log w0 wb c w) :
    Calls Try.prog 31 #[.pointer (some ⟨g, 0, none⟩), .int .i64 (me : Int)] w (RefEnd g A n cap log w0 wb (fun _ => .tuple #[]) ((Prg.unpin me).runC c)) := by
  have hR : (Prg.ask 1 ((pinN me : Nat) : Int) 0 0 fun _ => Prg.ret 0).runC c = (Prg.unpin me).runC c := rfl
  generalize (Prg.unpin me).runC c = R at *
  have HC := refPin_at me hme
  have HS : ∀ w, CurI g A n cap log w0 wb c w → Calls Try.prog 62 #[.pointer (some ⟨g, 0, none⟩), .int .i64 ((pinN me : Nat) : Int), .int .u64 0] w (CGo g A n cap log w0 wb R (fun _ => .tuple #[]) fun _ => Prg.ret 0) := fun w h => rStoreP OK (a := 0) hR w h
  have HI := Lib.hid hI
  clear hI hme hR hb
  generalize pinN me = p at *
  go_enter Try.func31, Try.ntmps31
  go_wp2_with (go_at_call 63; (with_reducible refine (HC _).mono ?_); rintro e w' ⟨rfl, rfl⟩)
  (with_reducible refine (HS _ HI.out).mono ?_)
  clear HS
  rintro e w2 ⟨d, c2, rfl, hd, hi, hr⟩
  have HE := Lib.hid (RefEnd.fin (ret := fun _ => .tuple #[]) hr hi)
  clear hd hi hr
  go_wp2_with fail
  go_end0
  exact HE.out
set_option maxHeartbeats 1000000 in
theorem rPin_prg (me : Nat) (hme : me < 1000000) (c : CS) (hb : (Prg.pin me).runC c ≠ .bad) (w : World) (hI : CurI g A n cap log w0 wb c w) :
    Calls Try.prog 30 #[.pointer (some ⟨g, 0, none⟩), .int .i64 (me : Int)] w (RefEnd g A n cap log w0 wb (fun _ => .tuple #[]) ((Prg.pin me).runC c)) := by
  have hR : (Prg.ask 0 3 0 0 fun e => Prg.ask 1 ((pinN me : Nat) : Int) (upN e 1) 0 fun _ => Prg.ret 0).runC c = (Prg.pin me).runC c := rfl
  generalize (Prg.pin me).runC c = R at *
  have HC := refPin_at me hme
  have HL := rLoadP (cap := cap) (wb := wb) OK hR
  have HI := Lib.hid hI
  clear hI hme hR hb
  generalize pinN me = p at *
  go_enter Try.func30, Try.ntmps30
  go_wp2_with fail
  (with_reducible refine (HL _ HI.out).mono ?_)
  clear HL
  rintro e w2 ⟨x, c2, rfl, hd, hi, hr⟩
  have HS := rStoreP (cap := cap) (wb := wb) OK hr
  have hu : IntKind.u64.wrap ((x : Int) + 1) = ((upN x 1 : Nat) : Int) := by rw [IntKind.wrap_u64]; unfold upN; omega
  have HI2 := Lib.hid hi
  clear hd hi hr
  generalize upN x 1 = u at *
  go_wp2_with (first | (go_at_call 63; (with_reducible refine (HC _).mono ?_); rintro e w' ⟨rfl, rfl⟩))
  (with_reducible refine (HS _ HI2.out).mono ?_)
  clear HS
  rintro e w3 ⟨d, c3, rfl, hd, hi, hr⟩
  have HE := Lib.hid (RefEnd.fin (ret := fun _ => .tuple #[]) hr hi)
  clear hd hi hr
  go_wp2_with fail
  go_end0
  exact HE.out

/-! ### Retire -/
set_option maxHeartbeats 4000000 in
theorem rRetire_prg (t : Nat) (ht : t ≤ 64) (r : Nat) (h1 : 1 ≤ r) (hr : r < 1048576) (m : Nat) (c : CS) (hb : (Prg.retire t r m).runC c ≠ .bad) (w : World) (hI : CurI g A n cap log w0 wb c w) :
    Calls Try.prog 32 #[.pointer (some ⟨g, 0, none⟩), .int .i64 (t : Int), .int .i64 (r : Int)] w (RefEnd g A n cap log w0 wb (fun _ => .tuple #[]) ((Prg.retire t r m).runC c)) := by
  have hR : (Prg.ask 0 3 0 0 fun e => Prg.retireL t r (limboN e) m).runC c = (Prg.retire t r m).runC c := rfl
  generalize (Prg.retire t r m).runC c = R at *
  have HL := rLoadP (cap := cap) (wb := wb) OK hR
  have HB := Lib.hid hb
  have HI := Lib.hid hI
  have HK : ∀ w, Calls Try.prog 43 #[.int .i64 (t : Int), .int .i64 (r : Int), .int .i64 7] w fun e w' => e = .returned (.int .i64 (fieldN t r 7 : Nat)) ∧ w = w' := fun w => refField_any t r 7 (by omega) h1 (by omega) (by omega) w
  have hcv : IntKind.u64.wrap (r : Int) = (r : Int) := by rw [IntKind.wrap_u64]; omega
  clear hI hb hR ht h1 hr
  obtain ⟨fl, hfl⟩ : ∃ x, fieldN t r 7 = x := ⟨_, rfl⟩
  rw [hfl] at HK
  have HFL := Lib.hid hfl
  clear hfl
  go_enter Try.func32, Try.ntmps32
  go_wp2_with fail
  (with_reducible refine (HL _ HI.out).mono ?_)
  clear HL HI
  rintro e w2 ⟨x, c2, rfl, hd, hi, hr⟩
  dsimp only at hr
  have HLI := rLimbo_any x
  generalize limboN x = l at *
  obtain ⟨J, hJ⟩ : ∃ J : Nat → World → Prop, J = fun m wr => ∃ c, CurI g A n cap log w0 wb c wr ∧ (Prg.retireL t r l m).runC c = R := ⟨_, rfl⟩
  have HJ : ∀ m wr, J m wr ↔ ∃ c, CurI g A n cap log w0 wb c wr ∧ (Prg.retireL t r l m).runC c = R := fun m wr => by rw [hJ]
  have HJ0 := Lib.hid (show ∃ m, J m w2 from ⟨m, (HJ _ _).2 ⟨c2, hi, hr⟩⟩)
  have HJH := Lib.hid HJ
  clear hJ hd hi hr HJ
  go_wp2_with fail
  go_loopw [7, 8] (fun _ _ wr => ∃ m, J m wr) (fun _ _ wr => cnt J wr)
  case atStart => exact HJ0.out
  case round =>
    clear HJ0
    have hj := cnt_spec hrel
    clear hrel
    generalize hm : cnt J wr = m' at *
    have HM := Lib.hid hm
    clear hm
    obtain ⟨c3, hS, hr⟩ := (HJH.out _ _).1 hj
    clear hj
    have c2' := hS.two
    have hgw := hS.lt
    by_cases hst : c3.stops = true
    · rw [hst] at c2'
      have HE := Lib.hid (RefEnd.fin (ret := fun _ => .tuple #[]) (d := 0) ((runC_stop hst _).trans hr) hS)
      clear hS hst hr
      go_wp2_with fail
      go_end0
      exact HE.out
    have hst' : c3.stops = false := by simpa using hst
    rw [hst'] at c2'
    cases m' with
    | zero =>
      cases c3 with
      | «at» s => exact absurd hr.symm HB.out
      | stop k i a b => exact absurd rfl hst
    | succ m' =>
    have hr1 : (Prg.ask 0 ((l : Nat) : Int) 0 0 fun h => Prg.ask 1 ((fieldN t r 7 : Nat) : Int) h 0 fun _ => Prg.ask 2 ((l : Nat) : Int) h r fun d => if d = 1 then Prg.ret 0 else Prg.retireL t r l m').runC c3 = R := hr
    rw [HFL.out] at hr1
    have HL := rLoadP (cap := cap) (wb := wb) OK hr1
    have HI3 := Lib.hid hS
    clear hS hr hr1 hst hst'
    go_wp2_with (first | (go_at_call 64; (with_reducible refine (HLI _).mono ?_); rintro e w' ⟨rfl, rfl⟩))
    (with_reducible refine (HL _ HI3.out).mono ?_)
    clear HL HI3 c2' hgw
    rintro e w4 ⟨h, c4, rfl, hd, hi, hr⟩
    dsimp only at hr
    have HS := rStoreP (cap := cap) (wb := wb) OK hr
    have HI4 := Lib.hid hi
    clear hd hi hr
    go_wp2_with (first | (go_at_call 43; (with_reducible refine (HK _).mono ?_); rintro e w' ⟨rfl, rfl⟩))
    (with_reducible refine (HS _ HI4.out).mono ?_)
    clear HS HI4
    rintro e w5 ⟨h5, c5, rfl, hd, hi, hr⟩
    dsimp only at hr
    have HC := rCasP (cap := cap) (wb := wb) OK hr
    have HI5 := Lib.hid hi
    clear hd hi hr
    go_wp2_with (first | (go_at_call 64; (with_reducible refine (HLI _).mono ?_); rintro e w' ⟨rfl, rfl⟩))
    (with_reducible refine (HC _ HI5.out).mono ?_)
    clear HC HI5
    rintro e w6 ⟨d, c6, rfl, hd, hi, hr⟩
    dsimp only at hr
    clear hd
    by_cases hd : d = 1
    · rw [if_pos hd] at hr
      have dd := eq1 hd
      have HE := Lib.hid (RefEnd.fin (ret := fun _ => .tuple #[]) hr hi)
      clear hr hd hi
      go_wp2_with fail
      exact bodyPost_ret (v := .tuple #[]) (by simp [results, Try.results32, go_sem]) rfl HE.out
    · rw [if_neg hd] at hr
      have dd := ne1 hd
      have hj : J m' w6 := (HJH.out _ _).2 ⟨c6, hi, hr⟩
      have HJ6 := Lib.hid hj
      clear hr hd hi hj
      go_wp2_with fail
      go_roundw
      case rel => exact ⟨m', HJ6.out⟩
      case measure => exact cnt_lt HJ6.out (Nat.lt_succ_self m')

/-! ### Advance -/
set_option maxHeartbeats 8000000 in
set_option maxRecDepth 100000 in
theorem rAdvance_prg (t : Nat) (ht : t ≤ 64) (m f : Nat) (c : CS) (hb : (Prg.advance t m f).runC c ≠ .bad) (w : World) (hI : CurI g A n cap log w0 wb c w) :
    Calls Try.prog 34 #[.pointer (some ⟨g, 0, none⟩), .int .i64 (t : Int)] w (RefEnd g A n cap log w0 wb (fun d => .bool ((d : Int) == 1)) ((Prg.advance t m f).runC c)) := by
  obtain ⟨q, hq⟩ : ∃ q : Nat → Prg, q = fun e => Prg.cas 3 e (upN e 1) fun d => if d = 1 then Prg.swap (limboN (upN e 2)) 0 fun h => Prg.chain t m f (firstN h) else .ret 0 := ⟨_, rfl⟩
  have hR : (Prg.ask 0 3 0 0 fun e => Prg.pins e (q e) 0 t).runC c = (Prg.advance t m f).runC c := by rw [hq]; rfl
  generalize (Prg.advance t m f).runC c = R at *
  have HL := rLoadP (cap := cap) (wb := wb) OK hR
  have HB := Lib.hid hb
  have HI := Lib.hid hI
  have HT := Lib.hid ht
  have HQ := Lib.hid hq
  clear hI hb hR ht hq
  go_enter Try.func34, Try.ntmps34
  go_wp2_with fail
  (with_reducible refine (HL _ HI.out).mono ?_)
  clear HL HI
  rintro e w2 ⟨ep, c2, rfl, hep, hi, hr⟩
  dsimp only at hr
  have HS0 := Lib.hid (show ∃ c, CurI g A n cap log w0 wb c w2 ∧ (Prg.pins ep (q ep) 0 (t - 0)).runC c = R from ⟨c2, hi, hr⟩)
  have HEP := Lib.hid hep
  have hu := wrapUp ep 1 (by decide)
  have hu1 : IntKind.u64.wrap ((ep : Int) + 1) = ((upN ep 1 : Nat) : Int) := hu
  obtain ⟨u, huu⟩ : ∃ x, upN ep 1 = x := ⟨_, rfl⟩
  rw [huu] at hu1
  have HUE := Lib.hid huu
  clear hi hr hep hu huu
  go_wp2_with fail
  go_loopw [6, 7] (fun i _ wr => ∃ k : Nat, k ≤ t ∧ i = .int .i64 (k : Int) ∧ ∃ c, CurI g A n cap log w0 wb c wr ∧ (Prg.pins ep (q ep) k (t - k)).runC c = R) (fun i _ _ => t - (intOf i).toNat)
  case atStart => exact ⟨0, Nat.zero_le _, rfl, HS0.out⟩
  case round =>
    obtain ⟨k, hk, rfl, c3, hi, hr⟩ := hrel
    clear HS0
    have htt := HT.out
    by_cases hkt : k < t
    case pos =>
      obtain ⟨j, hj⟩ : ∃ j, t - k = j + 1 := ⟨t - k - 1, by omega⟩
      rw [hj] at hr
      have hr1 : (Prg.ask 0 ((pinN k : Nat) : Int) 0 0 fun p => if p = 0 ∨ p = upN ep 1 then Prg.pins ep (q ep) (k + 1) j else .ret 0).runC c3 = R := hr
      have HL := rLoadP (cap := cap) (wb := wb) OK hr1
      have HC := refPin_at k (by omega)
      have HM := Lib.hid (show j = t - (k + 1) by omega)
      have HI3 := Lib.hid hi
      clear hr hr1 hj hi
      generalize pinN k = p at *
      go_wp2_with (go_at_call 63; (with_reducible refine (HC _).mono ?_); rintro e w' ⟨rfl, rfl⟩)
      (with_reducible refine (HL _ HI3.out).mono ?_)
      clear HL HI3 HC
      rintro e w4 ⟨x, c4, rfl, hd, hi, hr⟩
      dsimp only at hr
      rw [HUE.out] at hr
      have HI4 := Lib.hid hi
      clear hi hd
      by_cases hp : x = 0 ∨ x = u
      · rw [if_pos hp, HM.out] at hr
        have HR := Lib.hid hr
        clear hr
        have hgo : ((x : Int) != 0) = false ∨ (((x : Int) != 0) = true ∧ ((x : Int) != (u : Int)) = false) := by
          rcases hp with hp | hp
          · exact .inl (by simp [bne, eq0 hp])
          · by_cases h0 : x = 0
            · exact .inl (by simp [bne, eq0 h0])
            · exact .inr ⟨by simp [bne, ne0 h0], by simp [bne, hp]⟩
        clear hp
        rcases hgo with g1 | ⟨g1, g2⟩
        · go_wp2_with fail
          go_roundw
          case rel => exact ⟨k + 1, by omega, rfl, c4, HI4.out, HR.out⟩
          case measure => simp [intOf]; omega
        · go_wp2_with fail
          go_roundw
          case rel => exact ⟨k + 1, by omega, rfl, c4, HI4.out, HR.out⟩
          case measure => simp [intOf]; omega
      · rw [if_neg hp] at hr
        have HE := Lib.hid (show RefEnd g A n cap log w0 wb (fun d => .bool ((d : Int) == 1)) R (.returned (.bool false)) w4 from RefEnd.fin (ret := fun d => .bool ((d : Int) == 1)) (d := 0) hr HI4.out)
        have g1 : ((x : Int) != 0) = true := by simp [bne, ne0 (fun h => hp (.inl h))]
        have g2 : ((x : Int) != (u : Int)) = true := by
          have : ((x : Int) == (u : Int)) = false := by rw [beq_eq_false_iff_ne]; exact fun h => hp (.inr (by omega))
          simp [bne, this]
        clear hp hr
        go_wp2_with fail
        go_ret
        exact HE.out
    obtain rfl : k = t := by omega
    rw [Nat.sub_self] at hr
    have hr1 : (Prg.ask 2 3 ep (upN ep 1) fun d => if d = 1 then Prg.swap (limboN (upN ep 2)) 0 fun h => Prg.chain k m f (firstN h) else .ret 0).runC c3 = R := by rw [← hr, HQ.out]; rfl
    rw [HUE.out] at hr1
    have HC := rCasP (cap := cap) (wb := wb) OK hr1 wr hi
    clear hr hr1 hi HQ
    go_wp2_with fail
    (with_reducible refine HC.mono ?_)
    clear HC
    rintro e w5 ⟨d, c5, rfl, hd', hi, hr⟩
    dsimp only at hr
    clear hd'
    by_cases hd : d = 1
    case neg =>
      rw [if_neg hd] at hr
      have dd := ne1 hd
      have HE := Lib.hid (show RefEnd g A n cap log w0 wb (fun d => .bool ((d : Int) == 1)) R (.returned (.bool false)) w5 from RefEnd.fin (ret := fun d => .bool ((d : Int) == 1)) (d := 0) hr hi)
      clear hr hi hd
      go_wp2_with fail
      go_ret
      exact HE.out
    rw [if_pos hd] at hr
    have dd := eq1 hd
    have hr1 : (Prg.ask 4 ((limboN (upN ep 2) : Nat) : Int) 0 0 fun h => Prg.chain k m f (firstN h)).runC c5 = R := hr
    have hu2 : IntKind.u64.wrap ((ep : Int) + 2) = ((upN ep 2 : Nat) : Int) := wrapUp ep 2 (by decide)
    have HLI := rLimbo_any (upN ep 2)
    have HSW := rSwapP (cap := cap) (wb := wb) OK hr1
    have HI5 := Lib.hid hi
    clear hr hr1 hi hd
    generalize limboN (upN ep 2) = li at *
    generalize upN ep 2 = u2 at *
    replace HSW : ∀ w, CurI g A n cap log w0 wb c5 w → Calls Try.prog 67 #[.pointer (some ⟨g, 0, none⟩), .int .i64 ((li : Nat) : Int), .int .u64 0] w (CGo g A n cap log w0 wb R (fun n => .int .u64 (n : Int)) fun h => Prg.chain k m f (firstN h)) := HSW
    go_wp2_with (first | (go_at_call 64; (with_reducible refine (HLI _).mono ?_); rintro e w' ⟨rfl, rfl⟩))
    (with_reducible refine (HSW _ HI5.out).mono ?_)
    clear HSW HI5 HLI
    rintro e w6 ⟨h, c6, rfl, hh, hi, hr⟩
    dsimp only at hr
    have HF := fun w => refFirst_any h hh w
    obtain ⟨J, hJ⟩ : ∃ J : Nat → Value → World → Prop, J = fun m' rv wr => ∃ (r : Nat) (c : CS), rv = .int .i64 (r : Int) ∧ r < 1048576 ∧ CurI g A n cap log w0 wb c wr ∧ (Prg.chain k m m' r).runC c = R := ⟨_, rfl⟩
    have HJ : ∀ m' rv wr, J m' rv wr ↔ ∃ (r : Nat) (c : CS), rv = .int .i64 (r : Int) ∧ r < 1048576 ∧ CurI g A n cap log w0 wb c wr ∧ (Prg.chain k m m' r).runC c = R := fun m' rv wr => by rw [hJ]
    have HJ0 := Lib.hid (show ∃ m', J m' (.int .i64 ((firstN h : Nat) : Int)) w6 from ⟨f, (HJ _ _ _).2 ⟨firstN h, c6, rfl, first_lt h, hi, hr⟩⟩)
    have HJH := Lib.hid HJ
    clear hJ HJ hi hr hh hkt hk hu1 hu2
    generalize firstN h = r0 at *
    go_wp2_with (first | (go_at_call 42; (with_reducible refine (HF _).mono ?_); rintro e w' ⟨rfl, rfl⟩))
    clear HF
    obtain ⟨wo, hwo⟩ : ∃ wo : World, wo = wr := ⟨_, rfl⟩
    clear hwo
    go_loopw [9, 10] (fun r _ wr => ∃ m', J m' r wr) (fun r _ wr => cnt (fun m' wr => J m' r wr) wr)
    case atStart => exact HJ0.out
    case round =>
      clear HJ0
      have hj := cnt_spec (J := fun m wr => J m u9 wr) hrel
      clear hrel
      generalize hm : cnt (fun m wr => J m u9 wr) wr = m' at *
      have HM := Lib.hid hm
      clear hm
      obtain ⟨r, c7, rfl, hrl, hS, hr⟩ := (HJH.out _ _ _).1 hj
      clear hj
      have c2' := hS.two
      have hgw := hS.lt
      by_cases h0 : r = 0
      · subst h0
        have hr1 : (Prg.ret 1).runC c7 = R := by
          cases m' with
          | zero =>
            cases c7 with
            | «at» s => exact absurd hr.symm HB.out
            | stop k i a b => exact hr
          | succ m' => exact hr
        have HE := Lib.hid (show RefEnd g A n cap log w0 wb (fun d => .bool ((d : Int) == 1)) R (.returned (.bool true)) wr from RefEnd.fin (ret := fun d => .bool ((d : Int) == 1)) (d := 1) hr1 hS)
        clear hr hr1 hS c2' hgw
        go_wp2_with fail
        go_ret
        exact HE.out
      have e0 : ((r : Int) != 0) = true := by simp [bne, ne0 h0]
      by_cases hst : c7.stops = true
      · rw [hst] at c2'
        have HE := Lib.hid (show RefEnd g A n cap log w0 wb (fun d => .bool ((d : Int) == 1)) R (.returned (.bool true)) wr from RefEnd.fin (ret := fun d => .bool ((d : Int) == 1)) (d := 1) ((runC_stop hst _).trans hr) hS)
        clear hr hS hst h0
        go_wp2_with fail
        go_ret
        exact HE.out
      have hst' : c7.stops = false := by simpa using hst
      rw [hst'] at c2'
      cases m' with
      | zero =>
        cases c7 with
        | «at» s => exact absurd hr.symm HB.out
        | stop k i a b => exact absurd rfl hst
      | succ m' =>
      have hr1 : (Prg.ask 0 ((fieldN k r 7 : Nat) : Int) 0 0 fun x => (Prg.push k r m).bind fun _ => Prg.chain k m m' (firstN x)).runC c7 = R := by
        unfold Prg.chain at hr
        rw [if_neg h0] at hr
        exact hr
      have htt := HT.out
      have HL := rLoadP (cap := cap) (wb := wb) OK hr1
      have HK : ∀ w, Calls Try.prog 43 #[.int .i64 (k : Int), .int .i64 (r : Int), .int .i64 7] w fun e w' => e = .returned (.int .i64 (fieldN k r 7 : Nat)) ∧ w = w' := fun w => refField_any k r 7 (by omega) (by omega) (by omega) (by omega) w
      have HI7 := Lib.hid hS
      have H0 := Lib.hid (And.intro h0 hrl)
      clear hr hr1 hS hst hst' h0 hrl htt
      generalize fieldN k r 7 = fl at *
      go_wp2_with (first | (go_at_call 43; (with_reducible refine (HK _).mono ?_); rintro e w' ⟨rfl, rfl⟩))
      (with_reducible refine (HL _ HI7.out).mono ?_)
      clear HL HI7 HK c2' hgw
      rintro e w8 ⟨x, c8, rfl, hx, hi, hr⟩
      dsimp only at hr
      have HP := rPart HB.out hr w8 fun hh => refPush_prg OK k HT.out r (by have := H0.out.1; omega) H0.out.2 m c8 hh w8 hi
      have HX := Lib.hid hx
      clear hr hi hx
      go_wp2_with fail
      (with_reducible refine HP.mono ?_)
      clear HP
      rintro e w9 ⟨d, c9, rfl, hi, hr⟩
      dsimp only at hr
      have HJ9 := Lib.hid (show J m' (.int .i64 ((firstN x : Nat) : Int)) w9 from (HJH.out _ _ _).2 ⟨firstN x, c9, rfl, first_lt x, hi, hr⟩)
      have HF := fun w => refFirst_any x HX.out w
      clear hi hr
      generalize firstN x = r2 at *
      go_wp2_with (first | (go_at_call 42; (with_reducible refine (HF _).mono ?_); rintro e w' ⟨rfl, rfl⟩))
      go_roundw
      case rel => exact ⟨m', HJ9.out⟩
      case measure => exact Nat.lt_of_lt_of_eq (cnt_lt (J := fun m wr => J m (.int .i64 (r2 : Int)) wr) HJ9.out (Nat.lt_succ_self m')) HM.out.symm

/-! ### Alloc -/
set_option maxHeartbeats 8000000 in
set_option maxRecDepth 100000 in
theorem rAlloc_prg (t : Nat) (ht : t ≤ 64) (me : Nat) (hme : me < 1000000) (m f : Nat) (c : CS) (hb : (Prg.alloc t me m f).runC c ≠ .bad) (w : World) (hI : CurI g A n cap log w0 wb c w) :
    Calls Try.prog 33 #[.pointer (some ⟨g, 0, none⟩), .int .i64 (t : Int), .int .i64 (me : Int)] w (RefEnd g A n cap log w0 wb (fun d => .int .i64 (d : Int)) ((Prg.alloc t me m f).runC c)) := by
  obtain ⟨R, hR⟩ : ∃ R, (Prg.alloc t me m f).runC c = R := ⟨_, rfl⟩
  rw [hR] at hb ⊢
  have hR1 : ((Prg.pop t m).bind fun r => Prg.allocL t me m f 3 r).runC c = R := hR
  have HP := rPart hb hR1 w fun h => refPop_prg OK t ht m c h w hI
  have HB := Lib.hid hb
  have HT := Lib.hid (And.intro ht hme)
  clear hI hb hR hR1 ht hme
  go_enter Try.func33, Try.ntmps33
  go_wp2_with fail
  (with_reducible refine HP.mono ?_)
  clear HP
  rintro e w2 ⟨r0, c2, rfl, hi, hr⟩
  dsimp only at hr
  have HS0 := Lib.hid (show ∃ c, CurI g A n cap log w0 wb c w2 ∧ (Prg.allocL t me m f (3 - 0) r0).runC c = R from ⟨c2, hi, hr⟩)
  clear hi hr
  go_wp2_with fail
  go_loopw [7, 8] (fun r i wr => ∃ k d : Nat, k ≤ 3 ∧ r = .int .i64 (d : Int) ∧ i = .int .i64 (k : Int) ∧ ∃ c, CurI g A n cap log w0 wb c wr ∧ (Prg.allocL t me m f (3 - k) d).runC c = R) (fun _ i _ => 3 - (intOf i).toNat)
  case atStart => exact ⟨0, r0, by omega, rfl, rfl, HS0.out⟩
  case round =>
    obtain ⟨k, d, hk, rfl, rfl, c3, hi, hr⟩ := hrel
    clear HS0
    by_cases hk3 : k < 3
    case neg =>
      obtain rfl : k = 3 := by omega
      have HE := Lib.hid (RefEnd.fin (R := R) (ret := fun d => .int .i64 (d : Int)) (d := d) (c := c3) (w' := wr) hr hi)
      clear hi hr
      go_wp2_with fail
      go_ret
      exact HE.out
    by_cases hd : d = 0
    case neg =>
      have g1 : ((d : Int) != 0) = true := by simp [bne, ne0 hd]
      have HE := Lib.hid (RefEnd.fin (R := R) (ret := fun d => .int .i64 (d : Int)) (d := d) (c := c3) (w' := wr) (by
        rw [← hr]
        cases 3 - k with
        | zero => rfl
        | succ n => unfold Prg.allocL; rw [if_pos hd]) hi)
      clear hi hr hd
      go_wp2_with fail
      go_ret
      exact HE.out
    subst hd
    obtain ⟨j, hj⟩ : ∃ j, 3 - k = j + 1 := ⟨3 - k - 1, by omega⟩
    rw [hj] at hr
    have hr1 : ((Prg.pin me).bind fun _ => (Prg.advance t m f).bind fun _ => (Prg.pop t m).bind fun r => Prg.allocL t me m f j r).runC c3 = R := hr
    have HJ := Lib.hid (show j = 3 - (k + 1) by omega)
    have HP := rPart HB.out hr1 wr fun h => rPin_prg OK me HT.out.2 c3 h wr hi
    clear hi hr hr1 hj
    go_wp2_with fail
    (with_reducible refine HP.mono ?_)
    clear HP
    rintro e w4 ⟨n4, c4, rfl, hi, hr⟩
    dsimp only at hr
    have HP := rPart HB.out hr w4 fun h => rAdvance_prg OK t HT.out.1 m f c4 h w4 hi
    clear hi hr
    go_wp2_with fail
    (with_reducible refine HP.mono ?_)
    clear HP
    rintro e w5 ⟨n5, c5, rfl, hi, hr⟩
    dsimp only at hr
    have HP := rPart HB.out hr w5 fun h => refPop_prg OK t HT.out.1 m c5 h w5 hi
    clear hi hr
    go_wp2_with fail
    (with_reducible refine HP.mono ?_)
    clear HP
    rintro e w6 ⟨r6, c6, rfl, hi, hr⟩
    dsimp only at hr
    rw [HJ.out] at hr
    have HR := Lib.hid hr
    have HI6 := Lib.hid hi
    clear hi hr
    go_wp2_with fail
    go_roundw
    case rel => exact ⟨k + 1, r6, by omega, rfl, rfl, c6, HI6.out, HR.out⟩
    case measure => simp [intOf]; omega
end
end Go.Proofs.Ythcifknnppohfaa
namespace Go.Proofs.Ythcifknnppohfaa
open Go.ChangeShapes Go.WideShapes Go.ChangeAt Go.RowKit Go.BigFrame
set_option linter.unusedVariables false
set_option maxRecDepth 100000

def eNextRun (t me : Nat) (k u : Int) (log : List Res) : Ran (List Res) := (ePrg t me k u (log.length + 1)).run tapeTell log
theorem eNextRun_ok (t me : Nat) (k u : Int) (log : List Res) : eNextRun t me k u log ≠ .bad := Prg.ok_run _ _ (ePrg_ok t me k u _ _ (Nat.lt_succ_self _))
/-- What is told behind a run. -/
structure ToldE where
  k : Int
  i : Int
  a : Nat
  b : Nat
  er : Int
  oi : Bool
  n : Int
  is : Bool
def toldW (k : Int) (d : Nat) : CS → ToldE
  | .at _ => ⟨0, 0, 0, 0, eErr k, eIs k d, eN k d, true⟩
  | .stop k i a b => ⟨k, i, a, b, 0, false, 0, false⟩
def eTell (k : Int) : Ran (List Res) → ToldE
  | .done d _ => ⟨0, 0, 0, 0, eErr k, eIs k d, eN k d, true⟩
  | .left k i a b => ⟨k, i, a, b, 0, false, 0, false⟩
  | .bad => ⟨0, 0, 0, 0, 0, false, 0, false⟩
theorem eTell_of {k : Int} {d : Nat} {c : CS} {R : Ran (List Res)} (h : (Prg.ret d).runC c = R) : eTell k R = toldW k d c := by
  subst h
  cases c <;> rfl
def ToldE.val (v : ToldE) : Value := .tuple #[.agg #[.int .i64 v.k, .int .i64 v.i, .int .u64 (v.a : Int), .int .u64 (v.b : Int), .slice none 0 0, .slice none 0 0], .agg #[.int .i64 v.er, .bool v.oi, .int .i64 v.n, .int .u64 0, .slice none 0 0], .bool v.is]
theorem toldCE {g : Nat} {A : Option Addr} {n cap : Nat} {log : List Res} {c : CS} {w : World} (h : CurV g A n cap log c w) (k : Int) (d : Nat) :
    Calls Try.prog 35 #[.pointer (some ⟨g, 0, none⟩), eOut k d] w (Kept w (toldW k d c).val) := by
  cases c with
  | «at» s =>
    obtain ⟨j, h1, h2, h3⟩ := h
    exact toldE_yes g A n cap _ _ _ _ _ _ (j : Int) (eErr k) (eIs k d) (eN k d : Int) 0 w (Lib.hid h3)
  | stop k' i a b => exact toldE_no g A n cap (n : Int) (accK k' i a b) none 0 none 0 (eErr k) (eIs k d) (eN k d : Int) 0 w (Lib.hid h)
theorem RefEnd.open {g : Nat} {A : Option Addr} {n cap : Nat} {log : List Res} {w0 wb : World} {ret : Nat → Value} {R : Ran (List Res)} (hb : R ≠ .bad) {e : Ending} {w' : World} (h : RefEnd g A n cap log w0 wb ret R e w') : CGoC g A n cap log w0 wb R ret (fun d => .ret d) e w' := by
  cases R with
  | bad => exact absurd rfl hb
  | done d s => exact ⟨d, .at s, h.1, h.2, rfl⟩
  | left k i a b =>
    obtain ⟨d, he, hc⟩ := h
    exact ⟨d, .stop k i a b, he, hc, rfl⟩
set_option maxHeartbeats 8000000 in
set_option maxRecDepth 100000 in
theorem rNext_at (t : Nat) (ht : t ≤ 64) (me : Nat) (hme : me < 1000000) (k u v : Int) (x : Nat) (hu : k = 5 → 1 ≤ u ∧ u < 1048576) (A : Option Addr) (n cap : Nat) (log : List Res) (hc : n ≤ cap) (w : World) (hl : Hid (LogAt w A n log)) :
    Calls Try.prog 12 #[.int .i64 (t : Int), .int .i64 (me : Int), .agg #[.int .i64 k, .int .i64 u, .int .i64 v, .int .u64 (x : Int)], .slice A n cap] w (Kept w (eTell k (eNextRun t me k u log)).val) := by
  have hbb := eNextRun_ok t me k u log
  unfold eNextRun at *
  by_cases h3 : k = 3
  · subst h3
    have hp : ePrg t me 3 u (log.length + 1) = Prg.pin me := by unfold ePrg; rfl
    rw [hp] at hbb ⊢
    obtain ⟨R, hR⟩ : ∃ R, (Prg.pin me).run tapeTell log = R := ⟨_, rfl⟩
    have hRC : (Prg.pin me).runC (.at log) = R := hR
    rw [hR] at hbb ⊢
    have HBR := Lib.hid hbb
    have HBB : Hid ((Prg.pin me).runC (.at log) ≠ .bad) := Lib.hid (by rw [hRC]; exact hbb)
    have HRC := Lib.hid hRC
    have HT := Lib.hid (And.intro ht hme)
    clear ht hme hu hc hbb hp hR hRC
    go_enter Try.func12, Try.ntmps12
    go_wp2_with fail
    refine gen_w (P := fun W => Calls _ _ _ W _) (fun y => Below w.heap.size w y ∧ y.heap.size = w.heap.size + 1 + 1 + 1 + 1 + 1 ∧ VarAt y (w.heap.size + 1) [.int .i64 0, .int .i64 0, .int .u64 0, .int .u64 0, .slice none 0 0, .slice none 0 0] ∧ VarAt y (w.heap.size + 1 + 1) [.int .i64 0, .bool false, .int .i64 0, .int .u64 0, .slice none 0 0] ∧ VarAt y (w.heap.size + 1 + 1 + 1) (curV A n cap 0 false (.int .i64 0) (.int .i64 0) (.int .u64 0) (.int .u64 0) (.slice none 0 0) (.slice none 0 0)) ∧ VarAt y (w.heap.size + 1 + 1 + 1 + 1) [.int .i64 0, .bool false, .int .i64 0, .int .u64 0, .slice none 0 0]) ⟨(by repeat (first | with_reducible assumption | with_reducible exact Below.refl _ _ | with_reducible refine Below.drew ?_ | with_reducible refine below_al ?_ | (with_reducible refine below_set1 (by omega) _ ?_))), by simp, VarAt.mk6 (by simp <;> omega) (by go_simp) (by go_simp) (by go_simp) (by go_simp) (by go_simp) (by go_simp) (by go_simp) (by go_simp) (by go_simp) (by go_simp) (by go_simp) (by go_simp), VarAt.mk5 (by simp <;> omega) (by go_simp) (by go_simp) (by go_simp) (by go_simp) (by go_simp) (by go_simp) (by go_simp) (by go_simp) (by go_simp) (by go_simp), VarAt.mk9 (by simp <;> omega) (by go_simp) (by go_simp) (by go_simp) (by go_simp) (by go_simp) (by go_simp) (by go_simp) (by go_simp) (by go_simp) (by go_simp) (by go_simp) (by go_simp) (by go_simp) (by go_simp) (by go_simp) (by go_simp) (by go_simp) (by go_simp), VarAt.mk5 (by simp <;> omega) (by go_simp) (by go_simp) (by go_simp) (by go_simp) (by go_simp) (by go_simp) (by go_simp) (by go_simp) (by go_simp) (by go_simp)⟩ ?_
    rintro y ⟨k0, k1, k2, k3, k4, k5⟩
    obtain ⟨g, hg⟩ : ∃ g, w.heap.size + 1 + 1 + 1 = g := ⟨_, rfl⟩
    rw [hg] at k4 k5 ⊢
    have HG := Lib.hid hg
    have hok : CurOk g A n log w y := ⟨hl.out, by omega, k0⟩
    have hcur : CurI g A n cap log w y (.at log) y := ⟨⟨0, Nat.zero_le _, rfl, k4⟩, But.refl _ _⟩
    have K0 := Lib.hid k0
    have K1 := Lib.hid k1
    have K2 := Lib.hid k2
    have K3 := Lib.hid k3
    have K5 := Lib.hid k5
    have HOK := Lib.hid hok
    (with_reducible refine (rPin_prg HOK me HT.out.2 (.at log) HBB.out y hcur).mono ?_)
    clear hcur k0 k1 k2 k3 k4 k5 hok hg
    intro e w2 hre
    rw [HRC.out] at hre
    obtain ⟨d, c, rfl, hc, hrd⟩ := RefEnd.open HBR.out hre
    have HTE := Lib.hid (eTell_of (k := 3) hrd)
    have hgg := HG.out
    have hyz := K1.out
    have hbt := hc.but
    have HCV : Hid (CurV g A n cap log c w2) := Lib.hid hc.cur
    have HV1 := Lib.hid (K2.out.but hbt (by omega))
    have HV2 := Lib.hid (K3.out.but hbt (by omega))
    have HV5 := Lib.hid (K5.out.but hbt (by omega))
    obtain ⟨_, ⟨o1, o2, o3, o4, o5⟩, p1, p2, p3, p4, p5⟩ := HV5.out.five
    have hsz := hbt.size
    have m3 : g + 1 < w2.heap.size := by omega
    have HBW : Hid (Below w.heap.size w w2) := Lib.hid (K0.out.trans (hbt.below.mono (by omega)))
    clear hc hbt hyz hgg K0 K1 K2 K3 K5 HOK hre hrd HBB HRC HBR
    go_upto_region 15 with fail
    have hgg := HG.out
    have hbw := HBW.out
    refine gen_w (P := fun W => Code.wp _ _ _ _ W) (fun x => Below w.heap.size w x ∧ VarAt x (w.heap.size + 1) [.int .i64 0, .int .i64 0, .int .u64 0, .int .u64 0, .slice none 0 0, .slice none 0 0] ∧ VarAt x (w.heap.size + 1 + 1) [.int .i64 0, .bool false, .int .i64 0, .int .u64 0, .slice none 0 0] ∧ VarAt x (g + 1) [.int .i64 0, .bool false, .int .i64 0, .int .u64 0, .slice none 0 0] ∧ CurV g A n cap log c x) ⟨hbw, HV1.out, HV2.out, HV5.out, HCV.out⟩ ?_
    rintro z ⟨k0, k1, k2, k3, k4⟩
    have hg := HG.out
    clear o1 o2 o3 o4 o5 p1 p2 p3 p4 p5 m3 hsz hbw hgg HBW HV1 HV2 HV5 HCV
    have Z0 := Lib.hid k0
    have Z1 := Lib.hid k1
    have Z2 := Lib.hid k2
    have hsz := k3.1
    obtain ⟨_, ⟨o1, o2, o3, o4, o5⟩, _⟩ := k3.five
    have HTC : Calls Try.prog 35 #[.pointer (some ⟨g, 0, none⟩), .agg #[.int .i64 0, .bool false, .int .i64 0, .int .u64 0, .slice none 0 0]] z (Kept z (toldW 3 d c).val) := toldCE k4 3 d
    clear k0 k1 k2 k3 k4
    generalize toldW 3 d c = V at *
    obtain ⟨vk, vi, va, vb, ve, vo, vn, vis⟩ := V
    unfold ToldE.val at *
    simp only at *
    go_wp2_with fail
    (with_reducible refine HTC.mono ?_)
    clear HTC
    rintro e w3 ⟨rfl, hb3⟩
    obtain ⟨m1, ⟨a0, a1, a2, a3, a4, a5⟩, b0, b1, b2, b3, b4, b5⟩ := (Z1.out.below hb3).six
    obtain ⟨m2, ⟨r1, r2, r3, r4, r5⟩, s1, s2, s3, s4, s5⟩ := (Z2.out.below hb3).five
    have HB3 := Lib.hid (Z0.out.trans (hb3.mono Z0.out.size))
    clear hb3
    go_wp2_with fail
    have hb := HB3.out
    exact bodyPost_ret (v := .tuple #[.agg #[.int .i64 vk, .int .i64 vi, .int .u64 (va : Int), .int .u64 (vb : Int), .slice none 0 0, .slice none 0 0], .agg #[.int .i64 ve, .bool vo, .int .i64 vn, .int .u64 0, .slice none 0 0], .bool vis]) (by simp [results, Try.results12, go_sem, a0, a1, a2, a3, a4, a5, r1, r2, r3, r4, r5]) rfl ⟨by rw [HTE.out], (by repeat (first | with_reducible assumption | with_reducible exact Below.refl _ _ | with_reducible refine Below.drew ?_ | with_reducible refine below_al ?_ | (with_reducible refine below_set1 (by omega) _ ?_)))⟩
  by_cases h4 : k = 4
  · subst h4
    have hp : ePrg t me 4 u (log.length + 1) = Prg.unpin me := by unfold ePrg; rfl
    rw [hp] at hbb ⊢
    obtain ⟨R, hR⟩ : ∃ R, (Prg.unpin me).run tapeTell log = R := ⟨_, rfl⟩
    have hRC : (Prg.unpin me).runC (.at log) = R := hR
    rw [hR] at hbb ⊢
    have HBR := Lib.hid hbb
    have HBB : Hid ((Prg.unpin me).runC (.at log) ≠ .bad) := Lib.hid (by rw [hRC]; exact hbb)
    have HRC := Lib.hid hRC
    have HT := Lib.hid (And.intro ht hme)
    clear ht hme hu hc hbb hp hR hRC
    go_enter Try.func12, Try.ntmps12
    go_wp2_with fail
    refine gen_w (P := fun W => Calls _ _ _ W _) (fun y => Below w.heap.size w y ∧ y.heap.size = w.heap.size + 1 + 1 + 1 + 1 + 1 ∧ VarAt y (w.heap.size + 1) [.int .i64 0, .int .i64 0, .int .u64 0, .int .u64 0, .slice none 0 0, .slice none 0 0] ∧ VarAt y (w.heap.size + 1 + 1) [.int .i64 0, .bool false, .int .i64 0, .int .u64 0, .slice none 0 0] ∧ VarAt y (w.heap.size + 1 + 1 + 1) (curV A n cap 0 false (.int .i64 0) (.int .i64 0) (.int .u64 0) (.int .u64 0) (.slice none 0 0) (.slice none 0 0)) ∧ VarAt y (w.heap.size + 1 + 1 + 1 + 1) [.int .i64 0, .bool false, .int .i64 0, .int .u64 0, .slice none 0 0]) ⟨(by repeat (first | with_reducible assumption | with_reducible exact Below.refl _ _ | with_reducible refine Below.drew ?_ | with_reducible refine below_al ?_ | (with_reducible refine below_set1 (by omega) _ ?_))), by simp, VarAt.mk6 (by simp <;> omega) (by go_simp) (by go_simp) (by go_simp) (by go_simp) (by go_simp) (by go_simp) (by go_simp) (by go_simp) (by go_simp) (by go_simp) (by go_simp) (by go_simp), VarAt.mk5 (by simp <;> omega) (by go_simp) (by go_simp) (by go_simp) (by go_simp) (by go_simp) (by go_simp) (by go_simp) (by go_simp) (by go_simp) (by go_simp), VarAt.mk9 (by simp <;> omega) (by go_simp) (by go_simp) (by go_simp) (by go_simp) (by go_simp) (by go_simp) (by go_simp) (by go_simp) (by go_simp) (by go_simp) (by go_simp) (by go_simp) (by go_simp) (by go_simp) (by go_simp) (by go_simp) (by go_simp) (by go_simp), VarAt.mk5 (by simp <;> omega) (by go_simp) (by go_simp) (by go_simp) (by go_simp) (by go_simp) (by go_simp) (by go_simp) (by go_simp) (by go_simp) (by go_simp)⟩ ?_
    rintro y ⟨k0, k1, k2, k3, k4, k5⟩
    obtain ⟨g, hg⟩ : ∃ g, w.heap.size + 1 + 1 + 1 = g := ⟨_, rfl⟩
    rw [hg] at k4 k5 ⊢
    have HG := Lib.hid hg
    have hok : CurOk g A n log w y := ⟨hl.out, by omega, k0⟩
    have hcur : CurI g A n cap log w y (.at log) y := ⟨⟨0, Nat.zero_le _, rfl, k4⟩, But.refl _ _⟩
    have K0 := Lib.hid k0
    have K1 := Lib.hid k1
    have K2 := Lib.hid k2
    have K3 := Lib.hid k3
    have K5 := Lib.hid k5
    have HOK := Lib.hid hok
    (with_reducible refine (rUnpin_prg HOK me HT.out.2 (.at log) HBB.out y hcur).mono ?_)
    clear hcur k0 k1 k2 k3 k4 k5 hok hg
    intro e w2 hre
    rw [HRC.out] at hre
    obtain ⟨d, c, rfl, hc, hrd⟩ := RefEnd.open HBR.out hre
    have HTE := Lib.hid (eTell_of (k := 4) hrd)
    have hgg := HG.out
    have hyz := K1.out
    have hbt := hc.but
    have HCV : Hid (CurV g A n cap log c w2) := Lib.hid hc.cur
    have HV1 := Lib.hid (K2.out.but hbt (by omega))
    have HV2 := Lib.hid (K3.out.but hbt (by omega))
    have HV5 := Lib.hid (K5.out.but hbt (by omega))
    obtain ⟨_, ⟨o1, o2, o3, o4, o5⟩, p1, p2, p3, p4, p5⟩ := HV5.out.five
    have hsz := hbt.size
    have m3 : g + 1 < w2.heap.size := by omega
    have HBW : Hid (Below w.heap.size w w2) := Lib.hid (K0.out.trans (hbt.below.mono (by omega)))
    clear hc hbt hyz hgg K0 K1 K2 K3 K5 HOK hre hrd HBB HRC HBR
    go_upto_region 15 with fail
    have hgg := HG.out
    have hbw := HBW.out
    refine gen_w (P := fun W => Code.wp _ _ _ _ W) (fun x => Below w.heap.size w x ∧ VarAt x (w.heap.size + 1) [.int .i64 0, .int .i64 0, .int .u64 0, .int .u64 0, .slice none 0 0, .slice none 0 0] ∧ VarAt x (w.heap.size + 1 + 1) [.int .i64 0, .bool false, .int .i64 0, .int .u64 0, .slice none 0 0] ∧ VarAt x (g + 1) [.int .i64 0, .bool false, .int .i64 0, .int .u64 0, .slice none 0 0] ∧ CurV g A n cap log c x) ⟨hbw, HV1.out, HV2.out, HV5.out, HCV.out⟩ ?_
    rintro z ⟨k0, k1, k2, k3, k4⟩
    have hg := HG.out
    clear o1 o2 o3 o4 o5 p1 p2 p3 p4 p5 m3 hsz hbw hgg HBW HV1 HV2 HV5 HCV
    have Z0 := Lib.hid k0
    have Z1 := Lib.hid k1
    have Z2 := Lib.hid k2
    have hsz := k3.1
    obtain ⟨_, ⟨o1, o2, o3, o4, o5⟩, _⟩ := k3.five
    have HTC : Calls Try.prog 35 #[.pointer (some ⟨g, 0, none⟩), .agg #[.int .i64 0, .bool false, .int .i64 0, .int .u64 0, .slice none 0 0]] z (Kept z (toldW 4 d c).val) := toldCE k4 4 d
    clear k0 k1 k2 k3 k4
    generalize toldW 4 d c = V at *
    obtain ⟨vk, vi, va, vb, ve, vo, vn, vis⟩ := V
    unfold ToldE.val at *
    simp only at *
    go_wp2_with fail
    (with_reducible refine HTC.mono ?_)
    clear HTC
    rintro e w3 ⟨rfl, hb3⟩
    obtain ⟨m1, ⟨a0, a1, a2, a3, a4, a5⟩, b0, b1, b2, b3, b4, b5⟩ := (Z1.out.below hb3).six
    obtain ⟨m2, ⟨r1, r2, r3, r4, r5⟩, s1, s2, s3, s4, s5⟩ := (Z2.out.below hb3).five
    have HB3 := Lib.hid (Z0.out.trans (hb3.mono Z0.out.size))
    clear hb3
    go_wp2_with fail
    have hb := HB3.out
    exact bodyPost_ret (v := .tuple #[.agg #[.int .i64 vk, .int .i64 vi, .int .u64 (va : Int), .int .u64 (vb : Int), .slice none 0 0, .slice none 0 0], .agg #[.int .i64 ve, .bool vo, .int .i64 vn, .int .u64 0, .slice none 0 0], .bool vis]) (by simp [results, Try.results12, go_sem, a0, a1, a2, a3, a4, a5, r1, r2, r3, r4, r5]) rfl ⟨by rw [HTE.out], (by repeat (first | with_reducible assumption | with_reducible exact Below.refl _ _ | with_reducible refine Below.drew ?_ | with_reducible refine below_al ?_ | (with_reducible refine below_set1 (by omega) _ ?_)))⟩
  by_cases h5 : k = 5
  · subst h5
    obtain ⟨u1, u2⟩ := hu rfl
    obtain ⟨ur, rfl⟩ : ∃ ur : Nat, u = (ur : Int) := ⟨u.toNat, by omega⟩
    have hut : ((ur : Int)).toNat = ur := Int.toNat_natCast ur
    have HU := Lib.hid (show 1 ≤ ur ∧ ur < 1048576 by omega)
    have hp : ePrg t me 5 (ur : Int) (log.length + 1) = Prg.retire t ur (log.length + 1) := by unfold ePrg; rw [hut]; rfl
    rw [hp] at hbb ⊢
    obtain ⟨R, hR⟩ : ∃ R, (Prg.retire t ur (log.length + 1)).run tapeTell log = R := ⟨_, rfl⟩
    have hRC : (Prg.retire t ur (log.length + 1)).runC (.at log) = R := hR
    rw [hR] at hbb ⊢
    have HBR := Lib.hid hbb
    have HBB : Hid ((Prg.retire t ur (log.length + 1)).runC (.at log) ≠ .bad) := Lib.hid (by rw [hRC]; exact hbb)
    have HRC := Lib.hid hRC
    have HT := Lib.hid (And.intro ht hme)
    clear ht hme hu hc hbb hp hR hRC hut u1 u2
    go_enter Try.func12, Try.ntmps12
    go_wp2_with fail
    refine gen_w (P := fun W => Calls _ _ _ W _) (fun y => Below w.heap.size w y ∧ y.heap.size = w.heap.size + 1 + 1 + 1 + 1 + 1 ∧ VarAt y (w.heap.size + 1) [.int .i64 0, .int .i64 0, .int .u64 0, .int .u64 0, .slice none 0 0, .slice none 0 0] ∧ VarAt y (w.heap.size + 1 + 1) [.int .i64 0, .bool false, .int .i64 0, .int .u64 0, .slice none 0 0] ∧ VarAt y (w.heap.size + 1 + 1 + 1) (curV A n cap 0 false (.int .i64 0) (.int .i64 0) (.int .u64 0) (.int .u64 0) (.slice none 0 0) (.slice none 0 0)) ∧ VarAt y (w.heap.size + 1 + 1 + 1 + 1) [.int .i64 0, .bool false, .int .i64 0, .int .u64 0, .slice none 0 0]) ⟨(by repeat (first | with_reducible assumption | with_reducible exact Below.refl _ _ | with_reducible refine Below.drew ?_ | with_reducible refine below_al ?_ | (with_reducible refine below_set1 (by omega) _ ?_))), by simp, VarAt.mk6 (by simp <;> omega) (by go_simp) (by go_simp) (by go_simp) (by go_simp) (by go_simp) (by go_simp) (by go_simp) (by go_simp) (by go_simp) (by go_simp) (by go_simp) (by go_simp), VarAt.mk5 (by simp <;> omega) (by go_simp) (by go_simp) (by go_simp) (by go_simp) (by go_simp) (by go_simp) (by go_simp) (by go_simp) (by go_simp) (by go_simp), VarAt.mk9 (by simp <;> omega) (by go_simp) (by go_simp) (by go_simp) (by go_simp) (by go_simp) (by go_simp) (by go_simp) (by go_simp) (by go_simp) (by go_simp) (by go_simp) (by go_simp) (by go_simp) (by go_simp) (by go_simp) (by go_simp) (by go_simp) (by go_simp), VarAt.mk5 (by simp <;> omega) (by go_simp) (by go_simp) (by go_simp) (by go_simp) (by go_simp) (by go_simp) (by go_simp) (by go_simp) (by go_simp) (by go_simp)⟩ ?_
    rintro y ⟨k0, k1, k2, k3, k4, k5⟩
    obtain ⟨g, hg⟩ : ∃ g, w.heap.size + 1 + 1 + 1 = g := ⟨_, rfl⟩
    rw [hg] at k4 k5 ⊢
    have HG := Lib.hid hg
    have hok : CurOk g A n log w y := ⟨hl.out, by omega, k0⟩
    have hcur : CurI g A n cap log w y (.at log) y := ⟨⟨0, Nat.zero_le _, rfl, k4⟩, But.refl _ _⟩
    have K0 := Lib.hid k0
    have K1 := Lib.hid k1
    have K2 := Lib.hid k2
    have K3 := Lib.hid k3
    have K5 := Lib.hid k5
    have HOK := Lib.hid hok
    (with_reducible refine (rRetire_prg HOK t HT.out.1 ur HU.out.1 HU.out.2 (log.length + 1) (.at log) HBB.out y hcur).mono ?_)
    clear hcur k0 k1 k2 k3 k4 k5 hok hg
    intro e w2 hre
    rw [HRC.out] at hre
    obtain ⟨d, c, rfl, hc, hrd⟩ := RefEnd.open HBR.out hre
    have HTE := Lib.hid (eTell_of (k := 5) hrd)
    have hgg := HG.out
    have hyz := K1.out
    have hbt := hc.but
    have HCV : Hid (CurV g A n cap log c w2) := Lib.hid hc.cur
    have HV1 := Lib.hid (K2.out.but hbt (by omega))
    have HV2 := Lib.hid (K3.out.but hbt (by omega))
    have HV5 := Lib.hid (K5.out.but hbt (by omega))
    obtain ⟨_, ⟨o1, o2, o3, o4, o5⟩, p1, p2, p3, p4, p5⟩ := HV5.out.five
    have hsz := hbt.size
    have m3 : g + 1 < w2.heap.size := by omega
    have HBW : Hid (Below w.heap.size w w2) := Lib.hid (K0.out.trans (hbt.below.mono (by omega)))
    clear hc hbt hyz hgg K0 K1 K2 K3 K5 HOK hre hrd HBB HRC HBR
    go_upto_region 15 with fail
    have hgg := HG.out
    have hbw := HBW.out
    refine gen_w (P := fun W => Code.wp _ _ _ _ W) (fun x => Below w.heap.size w x ∧ VarAt x (w.heap.size + 1) [.int .i64 0, .int .i64 0, .int .u64 0, .int .u64 0, .slice none 0 0, .slice none 0 0] ∧ VarAt x (w.heap.size + 1 + 1) [.int .i64 0, .bool false, .int .i64 0, .int .u64 0, .slice none 0 0] ∧ VarAt x (g + 1) [.int .i64 0, .bool false, .int .i64 0, .int .u64 0, .slice none 0 0] ∧ CurV g A n cap log c x) ⟨hbw, HV1.out, HV2.out, HV5.out, HCV.out⟩ ?_
    rintro z ⟨k0, k1, k2, k3, k4⟩
    have hg := HG.out
    clear o1 o2 o3 o4 o5 p1 p2 p3 p4 p5 m3 hsz hbw hgg HBW HV1 HV2 HV5 HCV
    have Z0 := Lib.hid k0
    have Z1 := Lib.hid k1
    have Z2 := Lib.hid k2
    have hsz := k3.1
    obtain ⟨_, ⟨o1, o2, o3, o4, o5⟩, _⟩ := k3.five
    have HTC : Calls Try.prog 35 #[.pointer (some ⟨g, 0, none⟩), .agg #[.int .i64 0, .bool false, .int .i64 0, .int .u64 0, .slice none 0 0]] z (Kept z (toldW 5 d c).val) := toldCE k4 5 d
    clear k0 k1 k2 k3 k4
    generalize toldW 5 d c = V at *
    obtain ⟨vk, vi, va, vb, ve, vo, vn, vis⟩ := V
    unfold ToldE.val at *
    simp only at *
    go_wp2_with fail
    (with_reducible refine HTC.mono ?_)
    clear HTC
    rintro e w3 ⟨rfl, hb3⟩
    obtain ⟨m1, ⟨a0, a1, a2, a3, a4, a5⟩, b0, b1, b2, b3, b4, b5⟩ := (Z1.out.below hb3).six
    obtain ⟨m2, ⟨r1, r2, r3, r4, r5⟩, s1, s2, s3, s4, s5⟩ := (Z2.out.below hb3).five
    have HB3 := Lib.hid (Z0.out.trans (hb3.mono Z0.out.size))
    clear hb3
    go_wp2_with fail
    have hb := HB3.out
    exact bodyPost_ret (v := .tuple #[.agg #[.int .i64 vk, .int .i64 vi, .int .u64 (va : Int), .int .u64 (vb : Int), .slice none 0 0, .slice none 0 0], .agg #[.int .i64 ve, .bool vo, .int .i64 vn, .int .u64 0, .slice none 0 0], .bool vis]) (by simp [results, Try.results12, go_sem, a0, a1, a2, a3, a4, a5, r1, r2, r3, r4, r5]) rfl ⟨by rw [HTE.out], (by repeat (first | with_reducible assumption | with_reducible exact Below.refl _ _ | with_reducible refine Below.drew ?_ | with_reducible refine below_al ?_ | (with_reducible refine below_set1 (by omega) _ ?_)))⟩
  by_cases h6 : k = 6
  · subst h6
    have hp : ePrg t me 6 u (log.length + 1) = Prg.alloc t me (log.length + 1) (log.length + 1) := by unfold ePrg; rfl
    rw [hp] at hbb ⊢
    obtain ⟨R, hR⟩ : ∃ R, (Prg.alloc t me (log.length + 1) (log.length + 1)).run tapeTell log = R := ⟨_, rfl⟩
    have hRC : (Prg.alloc t me (log.length + 1) (log.length + 1)).runC (.at log) = R := hR
    rw [hR] at hbb ⊢
    have HBR := Lib.hid hbb
    have HBB : Hid ((Prg.alloc t me (log.length + 1) (log.length + 1)).runC (.at log) ≠ .bad) := Lib.hid (by rw [hRC]; exact hbb)
    have HRC := Lib.hid hRC
    have HT := Lib.hid (And.intro ht hme)
    clear ht hme hu hc hbb hp hR hRC
    go_enter Try.func12, Try.ntmps12
    go_wp2_with fail
    refine gen_w (P := fun W => Calls _ _ _ W _) (fun y => Below w.heap.size w y ∧ y.heap.size = w.heap.size + 1 + 1 + 1 + 1 + 1 ∧ VarAt y (w.heap.size + 1) [.int .i64 0, .int .i64 0, .int .u64 0, .int .u64 0, .slice none 0 0, .slice none 0 0] ∧ VarAt y (w.heap.size + 1 + 1) [.int .i64 0, .bool false, .int .i64 0, .int .u64 0, .slice none 0 0] ∧ VarAt y (w.heap.size + 1 + 1 + 1) (curV A n cap 0 false (.int .i64 0) (.int .i64 0) (.int .u64 0) (.int .u64 0) (.slice none 0 0) (.slice none 0 0)) ∧ VarAt y (w.heap.size + 1 + 1 + 1 + 1) [.int .i64 0, .bool false, .int .i64 0, .int .u64 0, .slice none 0 0]) ⟨(by repeat (first | with_reducible assumption | with_reducible exact Below.refl _ _ | with_reducible refine Below.drew ?_ | with_reducible refine below_al ?_ | (with_reducible refine below_set1 (by omega) _ ?_))), by simp, VarAt.mk6 (by simp <;> omega) (by go_simp) (by go_simp) (by go_simp) (by go_simp) (by go_simp) (by go_simp) (by go_simp) (by go_simp) (by go_simp) (by go_simp) (by go_simp) (by go_simp), VarAt.mk5 (by simp <;> omega) (by go_simp) (by go_simp) (by go_simp) (by go_simp) (by go_simp) (by go_simp) (by go_simp) (by go_simp) (by go_simp) (by go_simp), VarAt.mk9 (by simp <;> omega) (by go_simp) (by go_simp) (by go_simp) (by go_simp) (by go_simp) (by go_simp) (by go_simp) (by go_simp) (by go_simp) (by go_simp) (by go_simp) (by go_simp) (by go_simp) (by go_simp) (by go_simp) (by go_simp) (by go_simp) (by go_simp), VarAt.mk5 (by simp <;> omega) (by go_simp) (by go_simp) (by go_simp) (by go_simp) (by go_simp) (by go_simp) (by go_simp) (by go_simp) (by go_simp) (by go_simp)⟩ ?_
    rintro y ⟨k0, k1, k2, k3, k4, k5⟩
    obtain ⟨g, hg⟩ : ∃ g, w.heap.size + 1 + 1 + 1 = g := ⟨_, rfl⟩
    rw [hg] at k4 k5 ⊢
    have HG := Lib.hid hg
    have hok : CurOk g A n log w y := ⟨hl.out, by omega, k0⟩
    have hcur : CurI g A n cap log w y (.at log) y := ⟨⟨0, Nat.zero_le _, rfl, k4⟩, But.refl _ _⟩
    have K0 := Lib.hid k0
    have K1 := Lib.hid k1
    have K2 := Lib.hid k2
    have K3 := Lib.hid k3
    have K5 := Lib.hid k5
    have HOK := Lib.hid hok
    (with_reducible refine (rAlloc_prg HOK t HT.out.1 me HT.out.2 (log.length + 1) (log.length + 1) (.at log) HBB.out y hcur).mono ?_)
    clear hcur k0 k1 k2 k3 k4 k5 hok hg
    intro e w2 hre
    rw [HRC.out] at hre
    obtain ⟨d, c, rfl, hc, hrd⟩ := RefEnd.open HBR.out hre
    have HTE := Lib.hid (eTell_of (k := 6) hrd)
    have hgg := HG.out
    have hyz := K1.out
    have hbt := hc.but
    have HCV : Hid (CurV g A n cap log c w2) := Lib.hid hc.cur
    have HV1 := Lib.hid (K2.out.but hbt (by omega))
    have HV2 := Lib.hid (K3.out.but hbt (by omega))
    have HV5 := Lib.hid (K5.out.but hbt (by omega))
    obtain ⟨_, ⟨o1, o2, o3, o4, o5⟩, p1, p2, p3, p4, p5⟩ := HV5.out.five
    have hsz := hbt.size
    have m3 : g + 1 < w2.heap.size := by omega
    have HBW : Hid (Below w.heap.size w w2) := Lib.hid (K0.out.trans (hbt.below.mono (by omega)))
    clear hc hbt hyz hgg K0 K1 K2 K3 K5 HOK hre hrd HBB HRC HBR
    go_upto_region 15 with fail
    have hgg := HG.out
    have hbw := HBW.out
    refine gen_w (P := fun W => Code.wp _ _ _ _ W) (fun x => Below w.heap.size w x ∧ VarAt x (w.heap.size + 1) [.int .i64 0, .int .i64 0, .int .u64 0, .int .u64 0, .slice none 0 0, .slice none 0 0] ∧ VarAt x (w.heap.size + 1 + 1) [.int .i64 0, .bool false, .int .i64 0, .int .u64 0, .slice none 0 0] ∧ VarAt x (g + 1) [.int .i64 0, .bool false, .int .i64 (d : Int), .int .u64 0, .slice none 0 0] ∧ CurV g A n cap log c x) ⟨(by repeat (first | with_reducible assumption | with_reducible exact Below.refl _ _ | with_reducible refine Below.drew ?_ | with_reducible refine below_al ?_ | (with_reducible refine below_set1 (by omega) _ ?_))), (HV1.out.apart _ _ (by omega)), (HV2.out.apart _ _ (by omega)), VarAt.mk5 (by simp; omega) (by go_simp) (by go_simp) (by go_simp) (by go_simp) (by go_simp) (by go_simp) (by go_simp) (by go_simp) (by go_simp) (by go_simp), HCV.out.apart _ _ (by omega)⟩ ?_
    rintro z ⟨k0, k1, k2, k3, k4⟩
    have hg := HG.out
    clear o1 o2 o3 o4 o5 p1 p2 p3 p4 p5 m3 hsz hbw hgg HBW HV1 HV2 HV5 HCV
    have Z0 := Lib.hid k0
    have Z1 := Lib.hid k1
    have Z2 := Lib.hid k2
    have hsz := k3.1
    obtain ⟨_, ⟨o1, o2, o3, o4, o5⟩, _⟩ := k3.five
    have HTC : Calls Try.prog 35 #[.pointer (some ⟨g, 0, none⟩), .agg #[.int .i64 0, .bool false, .int .i64 (d : Int), .int .u64 0, .slice none 0 0]] z (Kept z (toldW 6 d c).val) := toldCE k4 6 d
    clear k0 k1 k2 k3 k4
    generalize toldW 6 d c = V at *
    obtain ⟨vk, vi, va, vb, ve, vo, vn, vis⟩ := V
    unfold ToldE.val at *
    simp only at *
    go_wp2_with fail
    (with_reducible refine HTC.mono ?_)
    clear HTC
    rintro e w3 ⟨rfl, hb3⟩
    obtain ⟨m1, ⟨a0, a1, a2, a3, a4, a5⟩, b0, b1, b2, b3, b4, b5⟩ := (Z1.out.below hb3).six
    obtain ⟨m2, ⟨r1, r2, r3, r4, r5⟩, s1, s2, s3, s4, s5⟩ := (Z2.out.below hb3).five
    have HB3 := Lib.hid (Z0.out.trans (hb3.mono Z0.out.size))
    clear hb3
    go_wp2_with fail
    have hb := HB3.out
    exact bodyPost_ret (v := .tuple #[.agg #[.int .i64 vk, .int .i64 vi, .int .u64 (va : Int), .int .u64 (vb : Int), .slice none 0 0, .slice none 0 0], .agg #[.int .i64 ve, .bool vo, .int .i64 vn, .int .u64 0, .slice none 0 0], .bool vis]) (by simp [results, Try.results12, go_sem, a0, a1, a2, a3, a4, a5, r1, r2, r3, r4, r5]) rfl ⟨by rw [HTE.out], (by repeat (first | with_reducible assumption | with_reducible exact Below.refl _ _ | with_reducible refine Below.drew ?_ | with_reducible refine below_al ?_ | (with_reducible refine below_set1 (by omega) _ ?_)))⟩
  by_cases h19 : k = 19
  · subst h19
    have hp : ePrg t me 19 u (log.length + 1) = Prg.advance t (log.length + 1) (log.length + 1) := by unfold ePrg; rfl
    rw [hp] at hbb ⊢
    obtain ⟨R, hR⟩ : ∃ R, (Prg.advance t (log.length + 1) (log.length + 1)).run tapeTell log = R := ⟨_, rfl⟩
    have hRC : (Prg.advance t (log.length + 1) (log.length + 1)).runC (.at log) = R := hR
    rw [hR] at hbb ⊢
    have HBR := Lib.hid hbb
    have HBB : Hid ((Prg.advance t (log.length + 1) (log.length + 1)).runC (.at log) ≠ .bad) := Lib.hid (by rw [hRC]; exact hbb)
    have HRC := Lib.hid hRC
    have HT := Lib.hid (And.intro ht hme)
    clear ht hme hu hc hbb hp hR hRC
    go_enter Try.func12, Try.ntmps12
    go_wp2_with fail
    refine gen_w (P := fun W => Calls _ _ _ W _) (fun y => Below w.heap.size w y ∧ y.heap.size = w.heap.size + 1 + 1 + 1 + 1 + 1 ∧ VarAt y (w.heap.size + 1) [.int .i64 0, .int .i64 0, .int .u64 0, .int .u64 0, .slice none 0 0, .slice none 0 0] ∧ VarAt y (w.heap.size + 1 + 1) [.int .i64 0, .bool false, .int .i64 0, .int .u64 0, .slice none 0 0] ∧ VarAt y (w.heap.size + 1 + 1 + 1) (curV A n cap 0 false (.int .i64 0) (.int .i64 0) (.int .u64 0) (.int .u64 0) (.slice none 0 0) (.slice none 0 0)) ∧ VarAt y (w.heap.size + 1 + 1 + 1 + 1) [.int .i64 0, .bool false, .int .i64 0, .int .u64 0, .slice none 0 0]) ⟨(by repeat (first | with_reducible assumption | with_reducible exact Below.refl _ _ | with_reducible refine Below.drew ?_ | with_reducible refine below_al ?_ | (with_reducible refine below_set1 (by omega) _ ?_))), by simp, VarAt.mk6 (by simp <;> omega) (by go_simp) (by go_simp) (by go_simp) (by go_simp) (by go_simp) (by go_simp) (by go_simp) (by go_simp) (by go_simp) (by go_simp) (by go_simp) (by go_simp), VarAt.mk5 (by simp <;> omega) (by go_simp) (by go_simp) (by go_simp) (by go_simp) (by go_simp) (by go_simp) (by go_simp) (by go_simp) (by go_simp) (by go_simp), VarAt.mk9 (by simp <;> omega) (by go_simp) (by go_simp) (by go_simp) (by go_simp) (by go_simp) (by go_simp) (by go_simp) (by go_simp) (by go_simp) (by go_simp) (by go_simp) (by go_simp) (by go_simp) (by go_simp) (by go_simp) (by go_simp) (by go_simp) (by go_simp), VarAt.mk5 (by simp <;> omega) (by go_simp) (by go_simp) (by go_simp) (by go_simp) (by go_simp) (by go_simp) (by go_simp) (by go_simp) (by go_simp) (by go_simp)⟩ ?_
    rintro y ⟨k0, k1, k2, k3, k4, k5⟩
    obtain ⟨g, hg⟩ : ∃ g, w.heap.size + 1 + 1 + 1 = g := ⟨_, rfl⟩
    rw [hg] at k4 k5 ⊢
    have HG := Lib.hid hg
    have hok : CurOk g A n log w y := ⟨hl.out, by omega, k0⟩
    have hcur : CurI g A n cap log w y (.at log) y := ⟨⟨0, Nat.zero_le _, rfl, k4⟩, But.refl _ _⟩
    have K0 := Lib.hid k0
    have K1 := Lib.hid k1
    have K2 := Lib.hid k2
    have K3 := Lib.hid k3
    have K5 := Lib.hid k5
    have HOK := Lib.hid hok
    (with_reducible refine (rAdvance_prg HOK t HT.out.1 (log.length + 1) (log.length + 1) (.at log) HBB.out y hcur).mono ?_)
    clear hcur k0 k1 k2 k3 k4 k5 hok hg
    intro e w2 hre
    rw [HRC.out] at hre
    obtain ⟨d, c, rfl, hc, hrd⟩ := RefEnd.open HBR.out hre
    have HTE := Lib.hid (eTell_of (k := 19) hrd)
    have hgg := HG.out
    have hyz := K1.out
    have hbt := hc.but
    have HCV : Hid (CurV g A n cap log c w2) := Lib.hid hc.cur
    have HV1 := Lib.hid (K2.out.but hbt (by omega))
    have HV2 := Lib.hid (K3.out.but hbt (by omega))
    have HV5 := Lib.hid (K5.out.but hbt (by omega))
    obtain ⟨_, ⟨o1, o2, o3, o4, o5⟩, p1, p2, p3, p4, p5⟩ := HV5.out.five
    have hsz := hbt.size
    have m3 : g + 1 < w2.heap.size := by omega
    have HBW : Hid (Below w.heap.size w w2) := Lib.hid (K0.out.trans (hbt.below.mono (by omega)))
    clear hc hbt hyz hgg K0 K1 K2 K3 K5 HOK hre hrd HBB HRC HBR
    go_upto_region 15 with fail
    have hgg := HG.out
    have hbw := HBW.out
    refine gen_w (P := fun W => Code.wp _ _ _ _ W) (fun x => Below w.heap.size w x ∧ VarAt x (w.heap.size + 1) [.int .i64 0, .int .i64 0, .int .u64 0, .int .u64 0, .slice none 0 0, .slice none 0 0] ∧ VarAt x (w.heap.size + 1 + 1) [.int .i64 0, .bool false, .int .i64 0, .int .u64 0, .slice none 0 0] ∧ VarAt x (g + 1) [.int .i64 0, .bool ((d : Int) == 1), .int .i64 0, .int .u64 0, .slice none 0 0] ∧ CurV g A n cap log c x) ⟨(by repeat (first | with_reducible assumption | with_reducible exact Below.refl _ _ | with_reducible refine Below.drew ?_ | with_reducible refine below_al ?_ | (with_reducible refine below_set1 (by omega) _ ?_))), (HV1.out.apart _ _ (by omega)), (HV2.out.apart _ _ (by omega)), VarAt.mk5 (by simp; omega) (by go_simp) (by go_simp) (by go_simp) (by go_simp) (by go_simp) (by go_simp) (by go_simp) (by go_simp) (by go_simp) (by go_simp), HCV.out.apart _ _ (by omega)⟩ ?_
    rintro z ⟨k0, k1, k2, k3, k4⟩
    have hg := HG.out
    clear o1 o2 o3 o4 o5 p1 p2 p3 p4 p5 m3 hsz hbw hgg HBW HV1 HV2 HV5 HCV
    have Z0 := Lib.hid k0
    have Z1 := Lib.hid k1
    have Z2 := Lib.hid k2
    have hsz := k3.1
    obtain ⟨_, ⟨o1, o2, o3, o4, o5⟩, _⟩ := k3.five
    have HTC : Calls Try.prog 35 #[.pointer (some ⟨g, 0, none⟩), .agg #[.int .i64 0, .bool ((d : Int) == 1), .int .i64 0, .int .u64 0, .slice none 0 0]] z (Kept z (toldW 19 d c).val) := toldCE k4 19 d
    clear k0 k1 k2 k3 k4
    generalize toldW 19 d c = V at *
    obtain ⟨vk, vi, va, vb, ve, vo, vn, vis⟩ := V
    unfold ToldE.val at *
    simp only at *
    go_wp2_with fail
    (with_reducible refine HTC.mono ?_)
    clear HTC
    rintro e w3 ⟨rfl, hb3⟩
    obtain ⟨m1, ⟨a0, a1, a2, a3, a4, a5⟩, b0, b1, b2, b3, b4, b5⟩ := (Z1.out.below hb3).six
    obtain ⟨m2, ⟨r1, r2, r3, r4, r5⟩, s1, s2, s3, s4, s5⟩ := (Z2.out.below hb3).five
    have HB3 := Lib.hid (Z0.out.trans (hb3.mono Z0.out.size))
    clear hb3
    go_wp2_with fail
    have hb := HB3.out
    exact bodyPost_ret (v := .tuple #[.agg #[.int .i64 vk, .int .i64 vi, .int .u64 (va : Int), .int .u64 (vb : Int), .slice none 0 0, .slice none 0 0], .agg #[.int .i64 ve, .bool vo, .int .i64 vn, .int .u64 0, .slice none 0 0], .bool vis]) (by simp [results, Try.results12, go_sem, a0, a1, a2, a3, a4, a5, r1, r2, r3, r4, r5]) rfl ⟨by rw [HTE.out], (by repeat (first | with_reducible assumption | with_reducible exact Below.refl _ _ | with_reducible refine Below.drew ?_ | with_reducible refine below_al ?_ | (with_reducible refine below_set1 (by omega) _ ?_)))⟩
  have hp : ePrg t me k u (log.length + 1) = .ret 0 := by unfold ePrg; rw [if_neg h3, if_neg h4, if_neg h5, if_neg h19, if_neg h6]
  rw [hp]
  have hee : eOut k 0 = .agg #[.int .i64 1, .bool false, .int .i64 0, .int .u64 0, .slice none 0 0] := by unfold eOut eErr eIs eN; rw [if_neg (by omega), if_neg h19, if_neg h6]; rfl
  have e3 : ((k : Int) == 3) = false := by rw [beq_eq_false_iff_ne]; exact h3
  have e4 : ((k : Int) == 4) = false := by rw [beq_eq_false_iff_ne]; exact h4
  have e5 : ((k : Int) == 5) = false := by rw [beq_eq_false_iff_ne]; exact h5
  have e6 : ((k : Int) == 6) = false := by rw [beq_eq_false_iff_ne]; exact h6
  have e19 : ((k : Int) == 19) = false := by rw [beq_eq_false_iff_ne]; exact h19
  have ht0 : eTell k ((Prg.ret 0).run tapeTell log) = toldW k 0 (.at log) := rfl
  rw [ht0]
  obtain ⟨c, hcc⟩ : ∃ c, CS.at log = c := ⟨_, rfl⟩
  rw [hcc]
  have HCC := Lib.hid hcc
  have HEE := Lib.hid hee
  clear ht hme hu h3 h4 h5 h6 h19 hc hcc hp hbb hee ht0
  go_enter Try.func12, Try.ntmps12
  go_upto_region 15 with fail
  refine gen_w (P := fun W => Code.wp _ _ _ _ W) (fun y => Below w.heap.size w y ∧ y.heap.size = w.heap.size + 1 + 1 + 1 + 1 + 1 ∧ VarAt y (w.heap.size + 1) [.int .i64 0, .int .i64 0, .int .u64 0, .int .u64 0, .slice none 0 0, .slice none 0 0] ∧ VarAt y (w.heap.size + 1 + 1) [.int .i64 0, .bool false, .int .i64 0, .int .u64 0, .slice none 0 0] ∧ VarAt y (w.heap.size + 1 + 1 + 1) (curV A n cap 0 false (.int .i64 0) (.int .i64 0) (.int .u64 0) (.int .u64 0) (.slice none 0 0) (.slice none 0 0)) ∧ VarAt y (w.heap.size + 1 + 1 + 1 + 1) [.int .i64 1, .bool false, .int .i64 0, .int .u64 0, .slice none 0 0]) ⟨(by repeat (first | with_reducible assumption | with_reducible exact Below.refl _ _ | with_reducible refine Below.drew ?_ | with_reducible refine below_al ?_ | (with_reducible refine below_set1 (by omega) _ ?_))), by simp, VarAt.mk6 (by simp <;> omega) (by go_simp) (by go_simp) (by go_simp) (by go_simp) (by go_simp) (by go_simp) (by go_simp) (by go_simp) (by go_simp) (by go_simp) (by go_simp) (by go_simp), VarAt.mk5 (by simp <;> omega) (by go_simp) (by go_simp) (by go_simp) (by go_simp) (by go_simp) (by go_simp) (by go_simp) (by go_simp) (by go_simp) (by go_simp), VarAt.mk9 (by simp <;> omega) (by go_simp) (by go_simp) (by go_simp) (by go_simp) (by go_simp) (by go_simp) (by go_simp) (by go_simp) (by go_simp) (by go_simp) (by go_simp) (by go_simp) (by go_simp) (by go_simp) (by go_simp) (by go_simp) (by go_simp) (by go_simp), VarAt.mk5 (by simp <;> omega) (by go_simp) (by go_simp) (by go_simp) (by go_simp) (by go_simp) (by go_simp) (by go_simp) (by go_simp) (by go_simp) (by go_simp)⟩ ?_
  rintro y ⟨k0, k1, k2, k3, k4, k5⟩
  obtain ⟨g, hg⟩ : ∃ g, w.heap.size + 1 + 1 + 1 = g := ⟨_, rfl⟩
  rw [hg] at k4 k5 ⊢
  have HG := Lib.hid hg
  have hcv : CurV g A n cap log (.at log) y := ⟨0, Nat.zero_le _, rfl, k4⟩
  rw [HCC.out] at hcv
  have q1 := k2
  have q2 := k3
  have q3 := k5
  clear k1 k2 k3 k4 k5
  have k1 := q1
  have k2 := q2
  have k3 := q3
  have k4 := hcv
  clear q1 q2 q3 hcv
  have Z0 := Lib.hid k0
  have Z1 := Lib.hid k1
  have Z2 := Lib.hid k2
  have hsz := k3.1
  obtain ⟨_, ⟨o1, o2, o3, o4, o5⟩, _⟩ := k3.five
  have HTC : Calls Try.prog 35 #[.pointer (some ⟨g, 0, none⟩), .agg #[.int .i64 1, .bool false, .int .i64 0, .int .u64 0, .slice none 0 0]] y (Kept y (toldW k 0 c).val) := (by have := toldCE k4 k 0; rwa [HEE.out] at this)
  clear k0 k1 k2 k3 k4
  generalize toldW k 0 c = V at *
  obtain ⟨vk, vi, va, vb, ve, vo, vn, vis⟩ := V
  unfold ToldE.val at *
  simp only at *
  go_wp2_with fail
  (with_reducible refine HTC.mono ?_)
  clear HTC
  rintro e w3 ⟨rfl, hb3⟩
  obtain ⟨m1, ⟨a0, a1, a2, a3, a4, a5⟩, b0, b1, b2, b3, b4, b5⟩ := (Z1.out.below hb3).six
  obtain ⟨m2, ⟨r1, r2, r3, r4, r5⟩, s1, s2, s3, s4, s5⟩ := (Z2.out.below hb3).five
  have HB3 := Lib.hid (Z0.out.trans (hb3.mono Z0.out.size))
  clear hb3
  go_wp2_with fail
  have hb := HB3.out
  exact bodyPost_ret (v := .tuple #[.agg #[.int .i64 vk, .int .i64 vi, .int .u64 (va : Int), .int .u64 (vb : Int), .slice none 0 0, .slice none 0 0], .agg #[.int .i64 ve, .bool vo, .int .i64 vn, .int .u64 0, .slice none 0 0], .bool vis]) (by simp [results, Try.results12, go_sem, a0, a1, a2, a3, a4, a5, r1, r2, r3, r4, r5]) rfl ⟨rfl, (by repeat (first | with_reducible assumption | with_reducible exact Below.refl _ _ | with_reducible refine Below.drew ?_ | with_reducible refine below_al ?_ | (with_reducible refine below_set1 (by omega) _ ?_)))⟩
end Go.Proofs.Ythcifknnppohfaa
