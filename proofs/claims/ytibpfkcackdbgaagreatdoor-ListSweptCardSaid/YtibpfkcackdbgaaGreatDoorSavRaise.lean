/- SavRaise -/
import Derived.Test.YtibpfkcackdbgaaGreatDoorSavCalls
import Derived.Test.YtibpfkcackdbgaaGreatDoorPolB
import Derived.Test.YtibpfkcackdbgaaGreatDoorSmal
namespace Go.Proofs.YtibpfkcackdbgaaGreatDoor
open Go.ChangeShapes Go.WideShapes Go.ChangeAt Go.RowKit Go.BigFrame
set_option linter.unusedVariables false
set_option maxRecDepth 100000
theorem set1_any (p b g : Nat) (hg : g < 18446744073709551616) (w : World) (h : w.cell? ⟨p, 0, none⟩ = some (.int .i64 (b : Int))) :
  Calls Tryz.prog 92 #[.int .u64 (g : Int), .pointer (some ⟨p, 0, none⟩)] w fun e w' => e = .returned (.bool (hasF g (b : Int))) ∧ Below w.heap.size w w' := by
 have HH := fun w => has_any g (b : Int) hg w
 go_enter Tryz.func92, Tryz.ntmps92
 go_wp2_with (go_at_call 93; (with_reducible refine (HH _).mono ?_); rintro e w' ⟨rfl, rfl⟩)
 go_ret
 exact ⟨rfl, Below.refl _ _⟩
theorem over1_any (p q b st g : Nat) (hg : g < 18446744073709551616) (w : World) (h : w.cell? ⟨p, 0, none⟩ = some (.int .u64 (st : Int))) (h2 : w.cell? ⟨q, 0, none⟩ = some (.int .i64 (b : Int))) :
  Calls Tryz.prog 197 #[.int .u64 (g : Int), .pointer (some ⟨p, 0, none⟩), .pointer (some ⟨q, 0, none⟩)] w fun e w' => e = .returned (.bool (Prd.over st b g)) ∧ Below w.heap.size w w' := by
 have HH := fun w => has_any g (b : Int) hg w
 have HS := fun w => stamp_any g w
 unfold Prd.over
 by_cases hs : stampN g = st
 ·have ds : (((stampN g : Nat) : Int) != (st : Int)) = false := by rw [bne_eq_false_iff_eq]; omega
  have e : (decide (stampN g ≠ st) || hasF g (b : Int)) = hasF g (b : Int) := by simp [hs]
  rw [e]
  clear hs e
  generalize stampN g = s at *
  generalize hasF g (b : Int) = z at *
  go_enter Tryz.func197, Tryz.ntmps197
  go_wp2_with fail
  go_quiet (first | (go_at_call 93; with_reducible exact quiet_call (HH _)) | (go_at_call 148; with_reducible exact quiet_call (HS _)))
  go_wp2_with fail
  go_ret
  exact ⟨rfl, below_draw (Below.refl _ _) _⟩
 ·have ds : (((stampN g : Nat) : Int) != (st : Int)) = true := by rw [bne_iff_ne]; omega
  have e : (decide (stampN g ≠ st) || hasF g (b : Int)) = true := by simp [hs]
  rw [e]
  clear hs e
  generalize stampN g = s at *
  generalize hasF g (b : Int) = z at *
  go_enter Tryz.func197, Tryz.ntmps197
  go_wp2_with fail
  go_quiet (first | (go_at_call 93; with_reducible exact quiet_call (HH _)) | (go_at_call 148; with_reducible exact quiet_call (HS _)))
  go_wp2_with fail
  go_ret
  exact ⟨rfl, below_draw (Below.refl _ _) _⟩
theorem or_bit {g b : Nat} (hg : g < 18446744073709551616) (hb : b = 1 ∨ b = 2) (h : hasF g (b : Int) = false) : bits .or .u64 (g : Int) ((flagN 0 (b : Int) : Nat) : Int) = ((g + b : Nat) : Int) ∧ g + b < 18446744073709551616 := by
 have hn : hasF g (b : Int) = false := h
 unfold hasF at hn
 rw [decide_eq_false_iff_not] at hn
 rcases hb with rfl | rfl
 ·have e : flagN 0 ((1 : Nat) : Int) = 1 := by decide
  have e2 : bitsN ((1 : Nat) : Int) = 1 := by decide
  rw [e2] at hn
  have hm : g % 2 = 0 := by omega
  have h3 : 2 ^ 1 * (g / 2) + 1 = 2 ^ 1 * (g / 2) ||| 1 := Nat.two_pow_add_eq_or_of_lt (i := 1) (by decide) (g / 2)
  have h4 : 2 ^ 1 * (g / 2) = g := by omega
  rw [h4] at h3
  rw [e, u64_or_nat g 1 hg (by decide), ← h3]
  exact ⟨rfl, by omega⟩
 ·have e : flagN 0 ((2 : Nat) : Int) = 2 := by decide
  have e2 : bitsN ((2 : Nat) : Int) = 2 := by decide
  rw [e2] at hn
  have hm : g / 2 % 2 = 0 := by omega
  have h3 : ∀ m, m < 2 ^ 2 → 2 ^ 2 * (g / 4) + m = 2 ^ 2 * (g / 4) ||| m := fun m hm => Nat.two_pow_add_eq_or_of_lt (i := 2) hm (g / 4)
  have h5 : g % 2 ||| 2 = g % 2 + 2 := by
   have := Nat.mod_two_eq_zero_or_one g
   rcases this with h | h <;> rw [h] <;> rfl
  have h6 : g ||| 2 = g + 2 := by
   have e1 := h3 (g % 2) (by omega)
   have e3 := h3 (g % 2 + 2) (by omega)
   have e4 : 2 ^ 2 * (g / 4) + g % 2 = g := by omega
   rw [e4] at e1
   rw [e1, Nat.or_assoc, h5, ← e3]
   omega
  rw [e, u64_or_nat g 2 hg (by decide), h6]
  exact ⟨rfl, by omega⟩
section
variable {dv : Value} {S : Type} (V : SrvD dv S)
set_option maxHeartbeats 4000000 in
set_option maxRecDepth 100000 in
theorem raise_prg (t r b : Nat) (ht : t ≤ 64) (h1 : 1 ≤ r) (hr : r < 1048576) (hbit : b = 1 ∨ b = 2) (ov : Nat → Bool) (hov : ∀ g, ov g = false → hasF g (b : Int) = false) (fo : FuncId) (caps : Array Value) (KO : World → Prop) (hK : ∀ w w', KO w → But V.M.g w w' → KO w')
  (hcall : ∀ (args : Array Value) (W : World), (callFunc fo args).run Tryz.prog W = .ok (.enter fo args) W)
  (hc : ∀ g w, g < 18446744073709551616 → KO w → Calls Tryz.prog fo (#[.int .u64 (g : Int)] ++ caps) w fun e w' => e = .returned (.bool (ov g)) ∧ Below w.heap.size w w')
  (n : Nat) (s : S) (hb : (Prd.raise (fieldN t r 2) b ov n).run V.tell s ≠ .bad) (w : World) (hI : V.M.I s w) (hko : KO w) :
  Calls Tryz.prog 91 #[dv, .int .i64 (t : Int), .int .i64 (r : Int), .int .i64 (b : Int), .func (.func fo) #[] caps] w (RunD14 V w (fun _ => .tuple #[]) ((Prd.raise (fieldN t r 2) b ov n).run V.tell s)) := by
 generalize hR : (Prd.raise (fieldN t r 2) b ov n).run V.tell s = R at hb ⊢
 have HK : ∀ w, Calls Tryz.prog 87 #[.int .i64 (t : Int), .int .i64 (r : Int), .int .i64 2] w fun e w' => e = .returned (.int .i64 (fieldN t r 2 : Nat)) ∧ w = w' := fun w => field_any t r 2 (by omega) h1 (by omega) (by omega) w
 have HF := Lib.hid (fieldI ht hr (f := 2) (by omega))
 have HFG : ∀ w, Calls Tryz.prog 138 #[.int .u64 0, .int .i64 (b : Int)] w fun e w' => e = .returned (.int .u64 (flagN 0 (b : Int) : Nat)) ∧ w = w' := fun w => flag_any 0 (b : Int) w
 obtain ⟨df, d1, d2, rfl⟩ := V.M.isFn
 have hsm := eql_do df d1 d2
 have HB := Lib.hid hb
 obtain ⟨J, hJ⟩ : ∃ J : Nat → Value → World → Prop, J = fun m d wr => (d = .bool false ∧ ∃ s, V.M.I s wr ∧ But V.M.g w wr ∧ KO wr ∧ (Prd.raise (fieldN t r 2) b ov m).run V.tell s = R) ∨ (m = 0 ∧ d = .bool true ∧ ∃ s, V.M.I s wr ∧ But V.M.g w wr ∧ KO wr ∧ (Prd.ret 0).run V.tell s = R) := ⟨_, rfl⟩
 have HJ : ∀ m d wr, J m d wr ↔ (d = .bool false ∧ ∃ s, V.M.I s wr ∧ But V.M.g w wr ∧ KO wr ∧ (Prd.raise (fieldN t r 2) b ov m).run V.tell s = R) ∨ (m = 0 ∧ d = .bool true ∧ ∃ s, V.M.I s wr ∧ But V.M.g w wr ∧ KO wr ∧ (Prd.ret 0).run V.tell s = R) := fun m d wr => by rw [hJ]
 have HJ0 := Lib.hid (show ∃ m, J m (.bool false) w from ⟨n, (HJ _ _ _).2 (.inl ⟨rfl, s, hI, But.refl _ _, hko, hR⟩)⟩)
 have HJH := Lib.hid HJ
 have HKK := Lib.hid hK
 have HOV := Lib.hid hov
 have HBI := Lib.hid hbit
 have HC := Lib.hid hc
 clear hJ hI hR HJ hK hov hbit hc hko ht h1 hr hb
 generalize hp : fieldN t r 2 = p at *
 have HPP := Lib.hid hp
 clear hp
 go_enter Tryz.func91, Tryz.ntmps91
 go_wp2_with (go_at_call 87; (with_reducible refine (HK _).mono ?_); rintro e w' ⟨rfl, rfl⟩)
 go_loopw [11, 12] (fun d _ wr => ∃ m, J m d wr) (fun d _ wr => cnt (fun m wr => J m d wr) wr)
 case atStart => exact HJ0.out
 case round =>
  clear HJ0
  have hj := cnt_spec (J := fun m wr => J m u11 wr) hrel
  clear hrel
  generalize hm : cnt (fun m wr => J m u11 wr) wr = m at *
  have HM := Lib.hid hm
  clear hm
  rcases (HJH.out _ _ _).1 hj with ⟨rfl, s3, hi, hbt, hko, hr⟩ | ⟨rfl, rfl, s3, hi, hbt, hko, hr⟩
  ·clear hj
   cases m with
   | zero => exact absurd hr.symm HB.out
   | succ m =>
   have hr1 : (Prd.ask 0 ((p : Nat) : Int) 0 0 [] fun g => if ov g = true then Prd.ret 0 else Prd.ask 2 ((p : Nat) : Int) g (g + b) [] fun d => if d = 1 then Prd.ret 0 else Prd.raise p b ov m).run V.tell s3 = R := hr
   have HL := loadD V HB.out HF.out hr1
   have HI3 := Lib.hid hi
   have HB3 := Lib.hid hbt
   have HKO := Lib.hid hko
   clear hi hbt hr hr1 hko
   go_wp2_with fail
   (with_reducible refine (HL _ HI3.out).mono ?_)
   clear HL HI3
   rintro e w4 (⟨g, s4, rfl, hn, hi, hbt, hr⟩ | ⟨k, j, a, b, d, hr, rfl, hl⟩)
   case inr => exact ⟨rfl, RunD14.quit V ⟨k, j, a, b, d, hr, rfl, hl⟩⟩
   dsimp only at hr
   have HCG := HC.out g w4 hn (HKK.out _ _ HKO.out hbt)
   have HI4 := Lib.hid hi
   have HB4 := Lib.hid (HB3.out.trans hbt)
   have HK4 := Lib.hid (HKK.out _ _ HKO.out hbt)
   have HN := Lib.hid hn
   clear hn hi hbt HB3 HKO
   cases ho : ov g with
   | true =>
    rw [ho] at HCG hr
    rw [if_pos rfl] at hr
    have hj : ∀ w5, Below w4.heap.size w4 w5 → J 0 (.bool true) w5 := fun w5 h5 => by
     have h6 := But.of (g := V.M.g) h5 (Nat.le_of_lt (V.lt HI4.out))
     exact (HJH.out _ _ _).2 (.inr ⟨rfl, rfl, s4, V.M.later HI4.out h5, HB4.out.trans h6, HKK.out _ _ HK4.out h6, hr⟩)
    have HJ6 := Lib.hid hj
    clear hj hr ho
    go_wp2_with fail
    (with_reducible refine HCG.mono ?_)
    clear HCG
    rintro e w5 ⟨rfl, h5⟩
    replace HJ6 := Lib.hid (HJ6.out w5 h5)
    clear h5
    go_wp2_with fail
    go_roundw
    case rel => exact ⟨0, HJ6.out⟩
    case measure => exact Nat.lt_of_lt_of_eq (cnt_lt (J := fun m wr => J m (.bool true) wr) HJ6.out (Nat.succ_pos m)) HM.out.symm
   | false =>
    rw [ho] at HCG hr
    rw [if_neg (by simp)] at hr
    obtain ⟨hor, hlt⟩ := or_bit HN.out HBI.out (HOV.out g ho)
    have HCS := casD V HB.out HF.out HN.out hlt hr
    clear ho hr hlt
    generalize flagN 0 (b : Int) = fb at *
    generalize g + b = gb at *
    go_wp2_with fail
    (with_reducible refine HCG.mono ?_)
    clear HCG
    rintro e w5 ⟨rfl, h5⟩
    have h6 := But.of (g := V.M.g) h5 (Nat.le_of_lt (V.lt HI4.out))
    replace HI4 := Lib.hid (V.M.later HI4.out h5)
    replace HB4 := Lib.hid (HB4.out.trans h6)
    replace HK4 := Lib.hid (HKK.out _ _ HK4.out h6)
    clear h5 h6
    go_wp2_with (go_at_call 138; (with_reducible refine (HFG _).mono ?_); rintro e w' ⟨rfl, rfl⟩)
    (with_reducible refine (HCS _ HI4.out).mono ?_)
    clear HCS HI4
    rintro e w6 (⟨d, s6, rfl, hn, hi, hbt, hr⟩ | ⟨k, j, a, b, d, hr, rfl, hl⟩)
    case inr => exact ⟨rfl, RunD14.quit V ⟨k, j, a, b, d, hr, rfl, hl⟩⟩
    dsimp only at hr
    have HI6 := Lib.hid hi
    have HB6 := Lib.hid (HB4.out.trans hbt)
    have HK6 := Lib.hid (HKK.out _ _ HK4.out hbt)
    clear hn hi hbt HB4 HK4
    by_cases hd : d = 1
    ·rw [if_pos hd] at hr
     have dd := eq1 hd
     have hj : J 0 (.bool true) w6 := (HJH.out _ _ _).2 (.inr ⟨rfl, rfl, s6, HI6.out, HB6.out, HK6.out, hr⟩)
     have HJ6 := Lib.hid hj
     clear hr hd hj
     go_wp2_with fail
     go_roundw
     case rel => exact ⟨0, HJ6.out⟩
     case measure => exact Nat.lt_of_lt_of_eq (cnt_lt (J := fun m wr => J m (.bool true) wr) HJ6.out (Nat.succ_pos m)) HM.out.symm
    ·rw [if_neg hd] at hr
     have dd := ne1 hd
     have hj : J m (.bool false) w6 := (HJH.out _ _ _).2 (.inl ⟨rfl, s6, HI6.out, HB6.out, HK6.out, hr⟩)
     have HJ6 := Lib.hid hj
     clear hr hd hj
     go_wp2_with fail
     go_roundw
     case rel => exact ⟨m, HJ6.out⟩
     case measure => exact Nat.lt_of_lt_of_eq (cnt_lt (J := fun m wr => J m (.bool false) wr) HJ6.out (Nat.lt_succ_self m)) HM.out.symm
  ·have HE := Lib.hid (RunD14.fin V (w := w) (ret := fun _ => .tuple #[]) hr hi hbt)
   clear hj hr hi hbt hko
   go_wp2_with fail
   go_end0
   exact HE.out
end
end Go.Proofs.YtibpfkcackdbgaaGreatDoor
