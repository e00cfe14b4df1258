/-
  FrameTurned: for every one to eight rows of one to 60 bytes: of their frames, one behind the other, one bit of whose bytes, or of a Sum, is turned, all frames ahead of it are told, and none from there on. No condition but that the table of the program's text lies where it is laid.
-/
import Derived.Test.YtalfjdlpmhmjkaaDoorFrmDoor
import Derived.Test.YtalfjdlpmhmjkaaDoorCopies
import Derived.Test.YtalfjdlpmhmjkaaDoorCards
import Derived.Test.YtalfjdlpmhmjkaaDoorTie
namespace Go.Proofs.YtalfjdlpmhmjkaaDoor.frameTurned
open Go.ChangeShapes Go.WideShapes Go.ChangeAt Go.RowKit
set_option linter.unusedVariables false

theorem walkLongA (A : Option Addr) (n cap at_ bit : Nat) (h : n < 1) (w : World) (hT : Hid (Tab w)) :
    Calls Tryd.prog 5 #[.slice A n cap, .int .u16 (at_ : Int), .int .u8 (bit : Int)] w fun e w' => e = .returned (.bool true) ∧ Below w.heap.size w w' := by
  have d1 : decide ((n : Int) < 1) = true := by rw [decide_eq_true_iff]; omega
  go_enter Tryd.func5, Tryd.ntmps5
  go_wp2_with fail
  refine (shown_below _ hT).mono ?_
  rintro e w1 ⟨rfl, hb⟩
  have HB := Lib.hid hb
  clear hb
  go_wp2_with fail
  go_ret
  exact ⟨rfl, HB.out⟩

theorem walkLongB (A : Option Addr) (n cap at_ bit : Nat) (h1 : 1 ≤ n) (h : 8 < n) (w : World) (hT : Hid (Tab w)) :
    Calls Tryd.prog 5 #[.slice A n cap, .int .u16 (at_ : Int), .int .u8 (bit : Int)] w fun e w' => e = .returned (.bool true) ∧ Below w.heap.size w w' := by
  have d1 : decide ((n : Int) < 1) = false := by rw [decide_eq_false_iff_not]; omega
  have d2 : decide ((8 : Int) < (n : Int)) = true := by rw [decide_eq_true_iff]; omega
  go_enter Tryd.func5, Tryd.ntmps5
  go_wp2_with fail
  refine (shown_below _ hT).mono ?_
  rintro e w1 ⟨rfl, hb⟩
  have HB := Lib.hid hb
  clear hb
  go_wp2_with fail
  go_ret
  exact ⟨rfl, HB.out⟩

/-- Behind j frames: the text, and the place that will be turned, once its frame is laid. -/
def TuRel (w1 : World) (ll : List (List Nat)) (K P : Nat) (v p i : Value) (wr : World) : Prop :=
  ∃ j pp : Nat, j ≤ ll.length ∧ i = .int .i64 (j : Int) ∧ p = .int .i64 (pp : Int) ∧ pp = (if K < j then P else 0) ∧ Own wr w1.heap.size v (usedN (ll.take j)) (framesN (ll.take j)) ∧ Below w1.heap.size w1 wr ∧ Fits ll 60 j
theorem if_next {j K P : Nat} (h : ¬ j = K) : (if K < j then P else 0) = (if K < j + 1 then P else 0) := by
  by_cases h1 : K < j
  · rw [if_pos h1, if_pos (by omega)]
  · rw [if_neg h1, if_neg (by omega)]
def SumRel (ll : List (List Nat)) (K : Nat) (s i : Value) : Prop := ∃ j : Nat, j ≤ K ∧ i = .int .i64 (j : Int) ∧ s = .int .i64 ((usedN (ll.take j) : Nat) : Int)

set_option maxRecDepth 100000 in
set_option maxHeartbeats 8000000 in
theorem walkShort (A : Option Addr) (n cap at_ bit K r m P : Nat) (ll : List (List Nat)) (h1 : 1 ≤ n) (h8 : n ≤ 8) (hc : n ≤ cap) (hbit : bit < 256) (hat : at_ < 65536) (w : World) (hT : Hid (Tab w)) (hA : Hid (AtRows w A n ll))
    (eK : (at_ : Int) % (n : Int) = (K : Int)) (hK : K < n) (er : (bit : Int) % 8 = (r : Int)) (hr : r < 8) (hm : Hid (m = 2 ^ r)) (hm0 : 0 < m) (hm1 : m < 256) (hP : Hid (P = usedN (ll.take K) + 2 + bit / 8 % ((ll.getD K []).length + 4))) :
    Calls Tryd.prog 5 #[.slice A n cap, .int .u16 (at_ : Int), .int .u8 (bit : Int)] w fun e w' => e = .returned (.bool true) ∧ Below w.heap.size w w' := by
  have d1 : decide ((n : Int) < 1) = false := by rw [decide_eq_false_iff_not]; omega
  have d2 : decide ((8 : Int) < (n : Int)) = false := by rw [decide_eq_false_iff_not]; omega
  have HL : Hid (ll.length = n) := Lib.hid hA.out.1
  have HBY : Hid (∀ b ∈ ll, Bytes b) := Lib.hid hA.out.bytes
  go_enter Tryd.func5, Tryd.ntmps5
  go_wp2_with fail
  refine (shown_below _ hT).mono ?_
  rintro e w1 ⟨rfl, hb⟩
  have HB1 := Lib.hid hb
  have HA1 := Lib.hid (AtRows.later hA.out hb)
  have HT1 := Tab.later hT hb
  clear hb hA hT
  go_wp2_with fail
  clear d1 d2
  rw [eK]
  clear eK
  go_loopw [9, 10, 11] (fun v p i wr => TuRel w1 ll K P v p i wr) (fun _ _ i _ => n - (intOf i).toNat)
  case atStart => exact ⟨0, 0, Nat.zero_le _, rfl, rfl, by simp, ⟨fun x hx => by simp [framesN] at hx, World.ownsRow_nil _ _ _ _⟩, Below.refl _ _, fun q hq => by omega⟩
  case round =>
    obtain ⟨j, pp, hj, rfl, rfl, hpp, hown, hbel, hfit⟩ := hrel
    rw [HL.out] at hj
    have HO := Lib.hid hown
    have HB := Lib.hid hbel
    have HF := Lib.hid hfit
    have HPP := Lib.hid hpp
    clear hown hbel hfit hpp
    by_cases hlt : j < n
    · obtain ⟨b, off, e2, hb2, hc2⟩ := HA1.out.2.2 (by omega)
      subst e2
      obtain ⟨Aj, lj, cj, hcell, _, hatj⟩ := hc2 j hlt
      have hcj := (HB.out.cell (p := ⟨b, off + j, none⟩) hb2).trans hcell
      have HAj := Lib.hid (hatj.below HB.out (Nat.le_refl _))
      have HTj := Tab.later HT1 HB.out
      have hus : usedN (ll.take j) ≤ 528 := by have := Fits.used HF.out (by rw [HL.out]; omega); omega
      have EL : Hid ((ll.getD j []).length = lj) := Lib.hid hatj.1
      have E1 := Lib.hid (take_used (ll := ll) (k := j) (by rw [HL.out]; exact hlt))
      have E2 := Lib.hid (take_frames (ll := ll) (k := j) (by rw [HL.out]; exact hlt))
      have EP : Hid (j = K → P = usedN (ll.take j) + 2 + bit / 8 % (lj + 4)) := Lib.hid (fun e => by rw [hP.out, ← e, EL.out])
      have hlb : lj ≤ 9223372036854775807 := hatj.2.2.1
      clear hc2 hatj hcell
      by_cases hbad : lj < 1 ∨ 60 < lj
      · by_cases hl1 : lj < 1
        · have d1 : decide ((lj : Int) < 1) = true := by rw [decide_eq_true_iff]; omega
          clear hbad
          go_wp2_with fail
          go_ret
          exact ⟨rfl, HB1.out.trans (HB.out.mono HB1.out.size)⟩
        · have d1 : decide ((lj : Int) < 1) = false := by rw [decide_eq_false_iff_not]; omega
          have d2 : decide ((60 : Int) < (lj : Int)) = true := by rw [decide_eq_true_iff]; omega
          clear hbad
          go_wp2_with fail
          go_ret
          exact ⟨rfl, HB1.out.trans (HB.out.mono HB1.out.size)⟩
      have d1 : decide ((lj : Int) < 1) = false := by rw [decide_eq_false_iff_not]; omega
      have d2 : decide ((60 : Int) < (lj : Int)) = false := by rw [decide_eq_false_iff_not]; omega
      have hl1 : 1 ≤ lj := by omega
      have hl2 : lj ≤ 60 := by omega
      have HF2 := Lib.hid (HF.out.next (by rw [EL.out]; omega) (by rw [EL.out]; omega))
      clear hbad
      generalize ll.getD j [] = bj at *
      generalize usedN (ll.take j) = uj at *
      generalize framesN (ll.take j) = fj at *
      obtain ⟨Av, kv, e9, _, _⟩ := HO.out.at_ (by omega)
      subst e9
      go_wp2_with fail
      refine (put_at Aj lj cj bj hl1 (by omega) wr HTj HAj).mono ?_
      rintro e w3 ⟨v3, rfl, hO3, hb3⟩
      obtain ⟨A3, k3, rfl, _, hat3⟩ := hO3.at_ (by omega)
      have HX3 := Lib.hid hat3
      have HO3 := Lib.hid (HO.out.later hb3)
      have HB3 := Lib.hid (HB.out.trans (hb3.mono HB.out.size))
      have hcj3 := (hb3.cell (p := ⟨b, off + j, none⟩) (World.block_lt_of_cell? _ ⟨b, off + j, none⟩ hcj)).trans hcj
      clear hO3 hat3 hb3 HO HB HTj HAj d1 d2 hcj
      by_cases hjk : j = K
      · have q1 : ((j : Int) == (K : Int)) = true := by rw [beq_iff_eq]; omega
        have EPK := Lib.hid (EP.out hjk)
        have HJK := Lib.hid hjk
        clear hjk
        have em : (bit : Int) / 8 % ((lj : Int) + 4) = ((bit / 8 % (lj + 4) : Nat) : Int) := by rw [Int.natCast_emod, Int.natCast_ediv, Int.natCast_add]; rfl
        have hmo : bit / 8 % (lj + 4) < lj + 4 := Nat.mod_lt _ (by omega)
        generalize bit / 8 % (lj + 4) = mo at *
        go_wp2_with (at_builtin; (refine wpList_append_bytes (by rfl) (.tmp 88) (.tmp 89) (by rfl) w1.heap.size _ uj fj (by rfl) HO3.out A3 (lj + 6) k3 (frameN bj) (by rfl) HX3.out (by omega) HB3.out.size ?_); (intro v4 w4 hown4 hgrow4; have HB4 := Lib.hid (HB3.out.grown hgrow4 HB3.out.size (fun k hk => (HO3.out.2.lt k hk).1)); have HO4 := Lib.hid hown4; clear hown4 hgrow4))
        go_roundw
        case rel => exact ⟨j + 1, P, by rw [HL.out]; omega, by go_num, by rw [EPK.out]; go_num, by rw [if_pos (by have := HJK.out; omega)], by rw [E1.out, E2.out, EL.out]; exact HO4.out, HB4.out, HF2.out⟩
        case measure => simp [intOf]; omega
      · have q1 : ((j : Int) == (K : Int)) = false := by rw [beq_eq_false_iff_ne]; omega
        have q2 : (j == K) = false := by rw [beq_eq_false_iff_ne]; exact hjk
        have HIF : Hid ((if K < j then P else 0) = (if K < j + 1 then P else 0)) := Lib.hid (if_next hjk)
        clear hjk
        go_wp2_with (at_builtin; (refine wpList_append_bytes (by rfl) (.tmp 88) (.tmp 89) (by rfl) w1.heap.size _ uj fj (by rfl) HO3.out A3 (lj + 6) k3 (frameN bj) (by rfl) HX3.out (by omega) HB3.out.size ?_); (intro v4 w4 hown4 hgrow4; have HB4 := Lib.hid (HB3.out.grown hgrow4 HB3.out.size (fun k hk => (HO3.out.2.lt k hk).1)); have HO4 := Lib.hid hown4; clear hown4 hgrow4))
        go_roundw
        case rel => exact ⟨j + 1, pp, by rw [HL.out]; omega, by go_num, rfl, by rw [HPP.out]; exact HIF.out, by rw [E1.out, E2.out, EL.out]; exact HO4.out, HB4.out, HF2.out⟩
        case measure => simp [intOf]; omega
    · obtain rfl : j = n := by omega
      have hO := HO.out
      rw [List.take_of_length_le (by rw [HL.out]; exact Nat.le_refl _)] at hO
      have hPP : pp = P := by rw [HPP.out, if_pos hK]
      subst hPP
      have hmay := HF.out
      rw [← HL.out] at hmay
      have hMay := Fits.may hmay (by omega) HBY.out
      have hKl : K < ll.length := by rw [HL.out]; exact hK
      have hmo : bit / 8 % ((ll.getD K []).length + 4) < (ll.getD K []).length + 4 := Nat.mod_lt _ (by omega)
      have hlt : pp < usedN ll := by
        have h1 := take_used hKl
        have h2 := used_take_le ll (K + 1)
        have := hP.out; omega
      have HSPL : Hid (∀ y, y < 256 → y ≠ (framesN ll).getD pp 0 → splitN ((framesN ll).set pp y) = ll.take K) := Lib.hid (fun y h1 h2 => by
        have e : pp = usedN (ll.take K) + (2 + bit / 8 % ((ll.getD K []).length + 4)) := by rw [hP.out]; omega
        rw [e] at h2 ⊢
        exact split_turned hMay hKl (by omega) (by omega) h1 h2)
      have hU : usedN ll ≤ 528 := by
        have := Fits.used HF.out (by rw [HL.out]; exact Nat.le_refl _)
        rw [List.take_of_length_le (by rw [HL.out]; exact Nat.le_refl _)] at this; omega
      obtain ⟨g, cv, e9, hbg, hgl, hUc⟩ := hO.form (by omega)
      subst e9
      have hcell := hO.cell pp hlt
      have hfree := hO.free pp
      have hx := hO.1.getD pp
      have hstored := hO.stored pp
      have HST : Hid (∀ y : Nat, y < 256 → Own (wr.setCell ⟨g, pp, none⟩ (.int .u8 (y : Int))) w1.heap.size (.slice (some ⟨g, 0, none⟩) (usedN ll) cv) (usedN ll) ((framesN ll).set pp y)) := Lib.hid hstored
      generalize hxx : (framesN ll).getD pp 0 = x at *
      clear hxx
      have hy : x ^^^ m < 256 := Nat.xor_lt_two_pow (n := 8) hx hm1
      have hne : x ^^^ m ≠ x := fun e => by
        have : (0 ^^^ x) = (m ^^^ x) := by rw [Nat.zero_xor, Nat.xor_comm m x, e]
        have := xor_canc this; omega
      have X1 : bits .xor .u8 (x : Int) (m : Int) = ((x ^^^ m : Nat) : Int) := u8_xor_nat x m hx hm1
      have s1 : IntKind.u8.wrap (2 ^ r) = (m : Int) := by
        rw [hm.out]
        have : r = 0 ∨ r = 1 ∨ r = 2 ∨ r = 3 ∨ r = 4 ∨ r = 5 ∨ r = 6 ∨ r = 7 := by omega
        rcases this with h | h | h | h | h | h | h | h <;> rw [h] <;> rfl
      have HO2 := Lib.hid (HST.out (x ^^^ m) hy)
      have HSP2 := Lib.hid (HSPL.out (x ^^^ m) hy hne)
      generalize x ^^^ m = y at *
      have hUI : (0 : Int) ≤ (pp : Int) := by omega
      have hUJ : (pp : Int) < (usedN ll : Int) := by omega
      have HBS : Hid (Below w1.heap.size w1 (wr.setCell ⟨g, pp, none⟩ (.int .u8 (y : Int)))) := Lib.hid (HB.out.setCell (p := ⟨g, pp, none⟩) hbg _)
      clear hO hmay hMay hmo hstored HST HSPL HPP hne HO
      generalize usedN ll = U at *
      go_wp2_with fail
      have HT4 := Tab.later HT1 HBS.out
      have HA4 := Lib.hid (AtRows.later HA1.out HBS.out)
      generalize wr.setCell ⟨g, pp, none⟩ (.int .u8 (y : Int)) = w4 at *
      refine (split_own _ w1.heap.size U _ w4 HT4 HO2.out (by omega)).mono ?_
      rintro e w5 ⟨v5, rfl, hO5, hb5⟩
      rw [HSP2.out] at hO5
      rw [HSP2.out]
      have hO5' : OwnRows w5 w4.heap.size v5 K (ll.take K) := by rwa [List.length_take, Nat.min_eq_left (by omega)] at hO5
      obtain ⟨A5, k5, rfl, _, hat5⟩ := hO5'.at_ (by omega)
      have HR5 := Lib.hid hat5
      have HA5 := Lib.hid (AtRows.later HA4.out hb5)
      have HB5 := Lib.hid (HB1.out.trans ((HBS.out.trans (hb5.mono HBS.out.size)).mono HB1.out.size))
      have hu5 : Hid (∀ q, usedN (ll.take q) ≤ 528) := Lib.hid (fun q => by
        have := Fits.used HF.out (by rw [HL.out]; exact Nat.le_refl _)
        rw [List.take_of_length_le (by rw [HL.out]; exact Nat.le_refl _)] at this
        have := used_take_le ll q; omega)
      clear hO5 hO5' hat5 hb5 HB1 HBS HT4 HA4 HO2 HSP2 HT1 HA1 HB hcell hfree X1 s1
      go_wp2_with fail
      go_loop [16, 17] (fun s i => SumRel ll K s i) (fun _ i => K - (intOf i).toNat)
      case atStart => exact ⟨0, Nat.zero_le _, rfl, rfl⟩
      case round =>
        obtain ⟨q, hq, rfl, rfl⟩ := hrel
        by_cases hqk : q < K
        · obtain ⟨b, off, e2, hb2, hc2⟩ := HA5.out.2.2 (by omega)
          subst e2
          obtain ⟨Aq, lq, cq, hcq, hlq, hatq⟩ := hc2 q (by omega)
          have E1 : Hid (usedN (ll.take (q + 1)) = usedN (ll.take q) + (lq + 6)) := Lib.hid (by rw [take_used (by rw [HL.out]; omega), hatq.1])
          have hx1 := hu5.out q
          have hx2 := hu5.out (q + 1)
          have hx3 : lq ≤ 528 := by have := E1.out; omega
          clear hc2 hatq hx2
          generalize usedN (ll.take q) = uq at *
          go_wp2_with fail
          go_round
          case rel => exact ⟨q + 1, by omega, by go_num, by rw [E1.out]; go_num⟩
          case measure => simp [intOf]; omega
        · obtain rfl : q = K := by omega
          have HP5 := Lib.hid (HA5.out.ahead q (by omega))
          generalize ll.take q = lk at *
          generalize usedN lk = uk at *
          go_wp2_with fail
          refine (rows_at A5 A q k5 cap lk w5 HR5.out HP5.out).mono ?_
          rintro e w6 ⟨rfl, mm, rfl⟩
          go_wp2_with fail
          go_ret
          exact ⟨rfl, below_quiet HB5.out mm⟩

set_option maxRecDepth 100000 in
theorem lifted (os : Os) (started : os.Started) (H : Type) (enc : TypeId × Value → H) :
    ReturnsInHanded {} Tryd.checked os 5 .any (fun w args => (Rows.frameTurnedSpec.pre enc Tryd.prog Tryd.f5 [] false w args ∧ laidMetH Tryd.prog laidHalf w) ∧ sizedMet enc Tryd.prog Tryd.f5 (OpenSpec.ofChange Rows.frameTurnedSpec) false w args)
      (Rows.frameTurnedSpec.post enc Tryd.prog Tryd.f5 false true false false) := by
  refine law_lifted_laid (C := Tryd.checked) (X := fun w _ => laidMetH Tryd.prog laidHalf w) (fun _ _ _ hh h => h.of_heap hh) own started (by kernel_rfl) Tryd.func5
    (ChangeSpec.witness_shaped (enc := enc) (C := Tryd.checked) (os := os) (X := fun w _ => laidMetH Tryd.prog laidHalf w) false (World.doorLaid Tryd.prog 400 os) #[.slice none 0 0, .int .u16 0, .int .u8 0] 8 rfl (World.shaped_of_RefB (by kernel_rfl) (by kernel_rfl)) (by kernel_rfl) (by kernel_rfl) (by kernel_rfl) (door_met os _))
    (by kernel_rfl) (by kernel_rfl) Tryd.underlying4 rfl (by kernel_rfl) ?_
  intro W base args ds before hval hA _ hlt hL
  have hT := Lib.hid (tab_of_laid hL)
  have hA' : DataW.TrodAll enc Tryd.prog W 0 (fun _ => true) true Tryd.f5.params.toList args.toList ds before := hA
  have hval' : ∀ (j : Nat) t v, Tryd.f5.params[j]? = some t → args[j]? = some v → Value.okWide Tryd.prog W .any base t v := hval
  rw [Tryd.params5] at hA' hval'
  obtain ⟨v0, vs0, d0, ds0, p0, q0, hargs, rfl, rfl, h0, r0⟩ := trodAll_cons hA'
  obtain ⟨v1, vs1, d1, ds1, p1, q1, rfl, rfl, rfl, h1, r1⟩ := trodAll_cons r0
  obtain ⟨v2, vs2, d2, ds2, p2, q2, rfl, rfl, rfl, h2, r2⟩ := trodAll_cons r1
  obtain ⟨rfl, rfl, rfl⟩ := trodAll_nil r2
  obtain rfl : args = #[v0, v1, v2] := by cases args; simp_all
  obtain ⟨Al, lenl, capl, l, rfl, hcl, hatl⟩ := open_rows (hval' 0 29 v0 rfl rfl) h0 (fun x hx => hlt x (by simp [hx]))
  obtain ⟨at_, rfl, _, rfl, w1⟩ := open_int Tryd.underlying34 (hval' 1 34 v1 rfl rfl) h1
  have b1 := wf_u16 w1
  obtain ⟨at_, rfl⟩ := Int.eq_ofNat_of_zero_le b1.1
  obtain ⟨bit, rfl, _, rfl, w2⟩ := open_int Tryd.underlying5 (hval' 2 5 v2 rfl rfl) h2
  have b2 := wf_u8 w2
  obtain ⟨bit, rfl⟩ := Int.eq_ofNat_of_zero_le b2.1
  refine ⟨rfl, ?_⟩
  by_cases h1 : lenl < 1
  · exact walkLongA Al lenl capl at_ bit h1 W hT
  · by_cases h2 : 8 < lenl
    · exact walkLongB Al lenl capl at_ bit (by omega) h2 W hT
    · have hr : bit % 8 < 8 := Nat.mod_lt _ (by omega)
      have hm : 2 ^ (bit % 8) < 256 := by
        have : bit % 8 = 0 ∨ bit % 8 = 1 ∨ bit % 8 = 2 ∨ bit % 8 = 3 ∨ bit % 8 = 4 ∨ bit % 8 = 5 ∨ bit % 8 = 6 ∨ bit % 8 = 7 := by omega
        rcases this with h | h | h | h | h | h | h | h <;> rw [h] <;> decide
      exact walkShort Al lenl capl at_ bit (at_ % lenl) (bit % 8) (2 ^ (bit % 8)) _ l (by omega) (by omega) hcl (by omega) (by omega) W hT (Lib.hid hatl) (by rw [← Int.natCast_emod]) (Nat.mod_lt _ (by omega)) (by omega) hr (Lib.hid rfl) (Nat.pow_pos (by omega)) hm (Lib.hid rfl)

theorem over : Rows.frameTurnedRow.holds Tryd.pinned (OpenSpec.ofChange Rows.frameTurnedSpec) :=
  OpenClaim.holds_of_wide 5 Tryd.f5 rfl rfl rfl rfl rfl rfl rfl ⟨rfl, rfl, rfl, rfl, rfl⟩ rfl rfl rfl rfl rfl (by kernel_rfl) Tryd.func5 (by kernel_rfl)
    (of_decide_eq_true (by kernel_rfl)) (by unfold Func.isWrapper; first | (rw [if_pos (by decide +kernel)]; kernel_rfl) | (rw [if_neg (by decide +kernel)]; exact ⟨rfl, rfl⟩))
    (fun os started H enc _ => lifted os started H enc)

/-- The statement: the card, tied to the program's text. -/
theorem proved : Rows.FrameTurnedCardSaid :=
  Claim7.holds_tied_plain_at .later [] [.data] true (true, "9b6314bd2c376ad85478bd446ba648b9fdee3dca184135e774d1516cf3558f15") false
    over (fun _ h => by cases h) (by kernel_rfl) (fun _ h => by cases h) frameTurned_row_tie rfl ⟨rfl, rfl⟩ (by kernel_rfl) rfl
    (fun f fn hf hfn => by
      obtain rfl : f = 5 := Option.some.inj ((show Tryd.prog.funcNamed "weald/wealdlaw04.FrameTurned" = some 5 by kernel_rfl).symm.trans hf) |>.symm
      obtain rfl : fn = Tryd.f5 := (Option.some.inj (Tryd.func5.symm.trans hfn)).symm
      exact ⟨by kernel_rfl, fun j t ht => by
        rw [Tryd.params5] at ht
        have hm : t ∈ [29, 34, 5] := by simpa using Array.mem_of_getElem? ht
        have hall : ([29, 34, 5].all fun u => !Tryd.prog.wantsStandIn u) = true := by kernel_rfl
        exact (show Tryd.prog.wantsStandIn t = false by simpa using List.all_eq_true.1 hall t hm)⟩)
    (by kernel_rfl)
#print axioms proved
end Go.Proofs.YtalfjdlpmhmjkaaDoor.frameTurned
