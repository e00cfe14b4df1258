/-
  CrcBurst: of every row of 4 to 500 bytes, four of them turned, next to each other, by whatever 32 bits that are not all nought, the check is another one. No condition but that the table of the program's text lies where it is laid.
-/
import Derived.Test.YtnjbhjlcibmknaaDoorSlices
import Derived.Test.YtnjbhjlcibmknaaDoorCards
import Derived.Test.YtnjbhjlcibmknaaDoorTie
import Derived.Test.YtnjbhjlcibmknaaDoorBytes
import Derived.RegionTactic
import Derived.BigRegion
namespace Go.Proofs.YtnjbhjlcibmknaaDoor.crcBurst
open Go.ChangeShapes Go.WideShapes Go.ChangeAt Go.RowKit
set_option linter.unusedVariables false

/-- Byte number j of the turn. -/
def bt (t j : Nat) : Nat := t / 256 ^ j % 256
theorem bt_lt (t j : Nat) : bt t j < 256 := Nat.mod_lt _ (by omega)
def burstN (xs : List Nat) (k t : Nat) : Nat → List Nat
  | 0 => xs
  | j + 1 => (burstN xs k t j).set (k + j) (xs.getD (k + j) 0 ^^^ bt t j)
theorem burst_length (xs : List Nat) (k t j : Nat) : (burstN xs k t j).length = xs.length := by
  induction j with
  | zero => rfl
  | succ j ih => unfold burstN; rw [List.length_set, ih]
theorem burst_get (xs : List Nat) (k t j i : Nat) (h : i < xs.length) : (burstN xs k t j)[i]'(by rw [burst_length]; exact h) = if k ≤ i ∧ i < k + j then xs[i] ^^^ bt t (i - k) else xs[i] := by
  induction j with
  | zero => rw [if_neg (by omega)]; rfl
  | succ j ih =>
    unfold burstN
    rw [List.getElem_set]
    by_cases e : k + j = i
    · subst e
      rw [if_pos rfl, if_pos (by omega), Nat.add_sub_cancel_left, List.getD_eq_getElem?_getD, List.getElem?_eq_getElem h]
      rfl
    · rw [if_neg e, ih]
      by_cases e2 : k ≤ i ∧ i < k + j
      · rw [if_pos e2, if_pos (by omega)]
      · rw [if_neg e2, if_neg (by omega)]
theorem burst_old (xs : List Nat) (k t j : Nat) (h : k + j < xs.length) : (burstN xs k t j).getD (k + j) 0 = xs.getD (k + j) 0 := by
  rw [List.getD_eq_getElem?_getD, List.getD_eq_getElem?_getD, List.getElem?_eq_getElem (by rw [burst_length]; exact h), List.getElem?_eq_getElem h, burst_get xs k t j _ h, if_neg (by omega)]
theorem burst_zip (xs : List Nat) (k t : Nat) (h : k + 4 ≤ xs.length) :
    burstN xs k t 4 = List.zipWith (· ^^^ ·) xs (List.replicate k 0 ++ [t % 256, t / 256 % 256, t / 65536 % 256, t / 16777216 % 256] ++ List.replicate (xs.length - k - 4) 0) := by
  apply List.ext_getElem
  · rw [burst_length]; simp; omega
  · intro i h1 h2
    have hi : i < xs.length := by rw [burst_length] at h1; exact h1
    rw [burst_get xs k t 4 i hi, List.getElem_zipWith]
    by_cases e : k ≤ i ∧ i < k + 4
    · rw [if_pos e]
      have : (List.replicate k 0 ++ [t % 256, t / 256 % 256, t / 65536 % 256, t / 16777216 % 256] ++ List.replicate (xs.length - k - 4) 0)[i]'(by simp; omega) = bt t (i - k) := by
        obtain ⟨j, rfl⟩ : ∃ j, i = k + j := ⟨i - k, by omega⟩
        have hj : j = 0 ∨ j = 1 ∨ j = 2 ∨ j = 3 := by omega
        rw [Nat.add_sub_cancel_left]
        rcases hj with rfl | rfl | rfl | rfl <;> simp [bt]
      rw [this]
    · rw [if_neg e]
      have : (List.replicate k 0 ++ [t % 256, t / 256 % 256, t / 65536 % 256, t / 16777216 % 256] ++ List.replicate (xs.length - k - 4) 0)[i]'(by simp; omega) = 0 := by
        by_cases hlt : i < k
        · rw [List.getElem_append_left (by simp; omega), List.getElem_append_left (by simpa using hlt)]; simp
        · rw [List.getElem_append_right (by simp; omega)]; simp
      rw [this, Nat.xor_zero]

def Rel (w1 : World) (g len cp : Nat) (xs : List Nat) (k t : Nat) (wr : World) (j : Nat) : Prop := Own wr w1.heap.size (.slice (some ⟨g, 0, none⟩) len cp) len (burstN xs k t j) ∧ Below w1.heap.size w1 wr
theorem Rel.drew {w1 wr : World} {g len cp k t j : Nat} {xs : List Nat} (h : Rel w1 g len cp xs k t wr j) : Rel w1 g len cp xs k t wr.drew j := ⟨h.1, h.2.drew⟩

theorem walkLong (i t : Nat) (A : Option Addr) (len cap : Nat) (h : len < 4 ∨ 500 < len ∨ t = 0) (w : World) (hT : Hid (Tab w)) :
    Calls Tryd.prog 5 #[.slice A len cap, .int .u16 (i : Int), .int .u32 (t : Int)] w fun e w' => e = .returned (.bool true) ∧ Below w.heap.size w w' := by
  by_cases h1 : len < 4
  · have d1 : decide ((len : Int) < 4) = true := by rw [decide_eq_true_eq]; omega
    clear h
    go_enter Tryd.func5, Tryd.ntmps5
    go_wp2_with fail
    refine (shown_below _ hT).mono ?_
    rintro e w1 ⟨rfl, hb⟩
    have HB := Lib.hid hb
    clear hb
    go_wp2_with fail
    go_ret
    exact ⟨rfl, HB.out⟩
  · have d1 : decide ((len : Int) < 4) = false := by rw [decide_eq_false_iff_not]; omega
    by_cases h2 : 500 < len
    · have d2 : decide ((500 : Int) < (len : Int)) = true := by rw [decide_eq_true_eq]; omega
      clear h h1
      go_enter Tryd.func5, Tryd.ntmps5
      go_wp2_with fail
      refine (shown_below _ hT).mono ?_
      rintro e w1 ⟨rfl, hb⟩
      have HB := Lib.hid hb
      clear hb
      go_wp2_with fail
      go_ret
      exact ⟨rfl, HB.out⟩
    · have d2 : decide ((500 : Int) < (len : Int)) = false := by rw [decide_eq_false_iff_not]; omega
      have h3 : t = 0 := by omega
      subst h3
      clear h h1 h2
      go_enter Tryd.func5, Tryd.ntmps5
      go_wp2_with fail
      refine (shown_below _ hT).mono ?_
      rintro e w1 ⟨rfl, hb⟩
      have HB := Lib.hid hb
      clear hb
      go_wp2_with fail
      go_ret
      exact ⟨rfl, HB.out⟩

set_option maxRecDepth 100000 in
theorem walkShort (i k t : Nat) (i1 : i < 65536) (t0 : 0 < t) (t1 : t < 4294967296) (A : Option Addr) (len cap : Nat) (xs : List Nat) (h4 : 4 ≤ len) (h : len ≤ 500) (hk : k + 4 ≤ len) (w : World) (hT : Hid (Tab w)) (hA : Hid (AtB w A len xs))
    (e1 : (i : Int) % ((len : Int) - 3) = (k : Int)) (m n : Nat) (hm : Hid (moreN 0 xs = m)) (hn : Hid (moreN 0 (burstN xs k t 4) = n)) (hq : ((m : Int) == (n : Int)) = false) (hq' : ((m : Int) != (n : Int)) = true) :
    Calls Tryd.prog 5 #[.slice A len cap, .int .u16 (i : Int), .int .u32 (t : Int)] w fun e w' => e = .returned (.bool true) ∧ Below w.heap.size w w' := by
  have d1 : decide ((len : Int) < 4) = false := by rw [decide_eq_false_iff_not]; omega
  have d2 : decide ((500 : Int) < (len : Int)) = false := by rw [decide_eq_false_iff_not]; omega
  have d3 : ((t : Int) == 0) = false := by rw [beq_eq_false_iff_ne]; omega
  go_enter Tryd.func5, Tryd.ntmps5
  go_wp2_with fail
  refine (shown_below _ hT).mono ?_
  rintro e w1 ⟨rfl, hb⟩
  have HB := Lib.hid hb
  have HA := Lib.hid (AtB.later hA hb)
  have HT := Tab.later hT hb
  clear hb hA hT
  go_wp2_with (at_builtin; refine wpList_append_new (by rfl) (.tmp 31) (.tmp 32) (by rfl) w1.heap.size _ 0 [] (by rfl) (Own.made w1) A len cap xs (by rfl) (AtB.later HA (below_made w1)) len (by omega) xs (by rfl) (by omega) (by omega) (by simp) ?_; intro g cp w3 hown hcap hbg hgrow; have S := Lib.hid (show Rel w1 g len cp xs k t w3 0 from ⟨hown, Own.below hgrow⟩); clear hown hgrow)
  clear e1
  go_loopw [11] (fun i wr => ∃ j : Nat, j ≤ 4 ∧ i = .int .i64 j ∧ Rel w1 g len cp xs k t wr j) (fun i _ => 4 - (intOf i).toNat)
  case atStart => exact ⟨0, Nat.zero_le _, rfl, S.out⟩
  case round =>
    obtain ⟨j, hj, rfl, hrel⟩ := hrel
    have O := Lib.hid hrel.1
    have BB := Lib.hid hrel.2
    clear hrel S
    by_cases hlt : j < 4
    · have gk := O.out.cell (k + j) (by omega)
      have fk := O.out.free (k + j)
      have bx := HA.out.2.1.getD (k + j)
      rw [burst_old xs k t j (by rw [HA.out.1]; omega)] at gk
      have U : Hid (burstN xs k t (j + 1) = (burstN xs k t j).set (k + j) (xs.getD (k + j) 0 ^^^ bt t j)) := Lib.hid rfl
      generalize xs.getD (k + j) 0 = x at *
      have l2 : x ^^^ bt t j < 256 := Nat.xor_lt_two_pow (n := 8) bx (bt_lt t j)
      have S3 : Hid (Rel w1 g len cp xs k t (wr.setCell ⟨g, k + j, none⟩ (.int .u8 ((x ^^^ bt t j : Nat) : Int))) (j + 1)) := Lib.hid (by
        refine ⟨?_, BB.out.setCell (p := ⟨g, k + j, none⟩) hbg _⟩
        rw [U.out]
        exact O.out.stored (k + j) _ l2)
      have X : bits .xor .u8 (x : Int) ((bt t j : Nat) : Int) = ((x ^^^ bt t j : Nat) : Int) := u8_xor_nat x (bt t j) bx (bt_lt t j)
      clear HA O U
      have hj4 : j = 0 ∨ j = 1 ∨ j = 2 ∨ j = 3 := by omega
      rcases hj4 with rfl | rfl | rfl | rfl
      · have eb : ((bt t 0 : Nat) : Int) = (t : Int) % 256 := by simp [bt]
        rw [eb] at X
        clear eb
        rw [Nat.add_zero] at gk fk S3
        go_wp2_with fail
        go_region
        all_goals go_wp2_with fail
        all_goals go_roundw
        case rel => exact ⟨1, by omega, by rfl, S3.out.drew⟩
        case measure => simp [intOf]
      · have eb : ((bt t 1 : Nat) : Int) = (t : Int) / 256 % 256 := by simp [bt]
        rw [eb] at X
        clear eb
        go_wp2_with fail
        go_region
        all_goals go_wp2_with fail
        all_goals go_roundw
        case rel => exact ⟨2, by omega, by rfl, S3.out.drew⟩
        case measure => simp [intOf]
      · have eb : ((bt t 2 : Nat) : Int) = (t : Int) / 65536 % 256 := by simp [bt]
        rw [eb] at X
        clear eb
        go_wp2_with fail
        go_region
        all_goals go_wp2_with fail
        all_goals go_roundw
        case rel => exact ⟨3, by omega, by rfl, S3.out.drew⟩
        case measure => simp [intOf]
      · have eb : ((bt t 3 : Nat) : Int) = (t : Int) / 16777216 := by
          have e : bt t 3 = t / 16777216 % 256 := by simp [bt]
          omega
        rw [eb] at X
        clear eb
        go_wp2_with fail
        go_region
        all_goals go_wp2_with fail
        all_goals go_roundw
        case rel => exact ⟨4, by omega, by rfl, S3.out.drew⟩
        case measure => simp [intOf]
    · have hj4 : j = 4 := by omega
      subst hj4
      have HA' := Lib.hid (AtB.later HA BB.out)
      have TT := Tab.later HT BB.out
      go_wp2_with (first
        | (go_at_call 11; (with_reducible refine (sum_own (.slice (some ⟨g, 0, none⟩) len cp) w1.heap.size len (burstN xs k t 4) n _ TT O.out (by omega) hn.out).mono ?_); rintro e w' ⟨rfl, rfl⟩)
        | (go_at_call 11; (with_reducible refine (sum_is' A len cap xs m _ TT HA'.out hm.out).mono ?_); rintro e w' ⟨rfl, rfl⟩))
      go_ret
      exact ⟨rfl, HB.out.trans (BB.out.mono HB.out.size)⟩

set_option maxRecDepth 100000 in
theorem lifted (os : Os) (started : os.Started) (H : Type) (enc : TypeId × Value → H) :
    ReturnsInHanded {} Tryd.checked os 5 .any (fun w args => (Rows.crcBurstSpec.pre enc Tryd.prog Tryd.f5 [] false w args ∧ laidMetH Tryd.prog laidHalf w) ∧ sizedMet enc Tryd.prog Tryd.f5 (OpenSpec.ofChange Rows.crcBurstSpec) false w args)
      (Rows.crcBurstSpec.post enc Tryd.prog Tryd.f5 false true false false) := by
  refine law_lifted_laid (C := Tryd.checked) (X := fun w _ => laidMetH Tryd.prog laidHalf w) (fun _ _ _ hh h => h.of_heap hh) own started (by kernel_rfl) Tryd.func5
    (ChangeSpec.witness_shaped (enc := enc) (C := Tryd.checked) (os := os) (X := fun w _ => laidMetH Tryd.prog laidHalf w) false (World.doorLaid Tryd.prog 400 os) #[.slice none 0 0, .int .u16 0, .int .u32 0] 8 rfl (World.shaped_of_RefB (by kernel_rfl) (by kernel_rfl)) (by kernel_rfl) (by kernel_rfl) (by kernel_rfl) (door_met os _))
    (by kernel_rfl) (by kernel_rfl) Tryd.underlying4 rfl (by kernel_rfl) ?_
  intro W base args ds before hval hA _ hlt hL
  have hT := Lib.hid (tab_of_laid hL)
  have hA' : DataW.TrodAll enc Tryd.prog W 0 (fun _ => true) true Tryd.f5.params.toList args.toList ds before := hA
  have hval' : ∀ (j : Nat) t v, Tryd.f5.params[j]? = some t → args[j]? = some v → Value.okWide Tryd.prog W .any base t v := hval
  rw [Tryd.params5] at hA' hval'
  obtain ⟨v0, vs0, d0, ds0, p0, q0, hargs, rfl, rfl, h0, r0⟩ := trodAll_cons hA'
  obtain ⟨v1, vs1, d1, ds1, p1, q1, rfl, rfl, rfl, h1, r1⟩ := trodAll_cons r0
  obtain ⟨v2, vs2, d2, ds2, p2, q2, rfl, rfl, rfl, h2, r2⟩ := trodAll_cons r1
  obtain ⟨rfl, rfl, rfl⟩ := trodAll_nil r2
  obtain rfl : args = #[v0, v1, v2] := by cases args; simp_all
  obtain ⟨Axs, lenxs, capxs, xs, rfl, hatxs⟩ := open_at (hval' 0 23 v0 rfl rfl) h0 (fun x hx => hlt x (by simp [hx]))
  obtain ⟨i, rfl, _, rfl, w1⟩ := open_int Tryd.underlying29 (hval' 1 29 v1 rfl rfl) h1
  have b1 := wf_u16 w1
  obtain ⟨i, rfl⟩ := Int.eq_ofNat_of_zero_le b1.1
  obtain ⟨t, rfl, _, rfl, w2⟩ := open_int Tryd.underlying22 (hval' 2 22 v2 rfl rfl) h2
  have b2 := wf_u32 w2
  obtain ⟨t, rfl⟩ := Int.eq_ofNat_of_zero_le b2.1
  refine ⟨rfl, ?_⟩
  by_cases h : lenxs < 4 ∨ 500 < lenxs ∨ t = 0
  · exact walkLong i t Axs lenxs capxs h W hT
  · have hl := hatxs.1
    have hk0 : i % (lenxs - 3) < lenxs - 3 := Nat.mod_lt i (by omega)
    have ek : ((i % (lenxs - 3) : Nat) : Int) = (i : Int) % ((lenxs : Int) - 3) := by rw [Int.natCast_emod]; congr 1; omega
    generalize i % (lenxs - 3) = k at *
    have f := fold_burst t k (xs.length - k - 4) (by omega) (by omega)
    have g := more_diff (b := xs) (d := List.replicate k 0 ++ [t % 256, t / 256 % 256, t / 65536 % 256, t / 16777216 % 256] ++ List.replicate (xs.length - k - 4) 0) (by simp; omega) hatxs.2.1 (by
      intro z hz
      simp only [List.mem_append, List.mem_replicate, List.mem_cons, List.not_mem_nil, or_false] at hz
      omega)
    rw [← burst_zip xs k t (by omega)] at g
    have ne : moreN 0 xs ≠ moreN 0 (burstN xs k t 4) := fun e => f (g.1 e)
    exact walkShort i k t (by omega) (by omega) (by omega) Axs lenxs capxs xs (by omega) (by omega) (by omega) W hT (Lib.hid hatxs) (by omega) _ _ (Lib.hid rfl) (Lib.hid rfl) (by rw [beq_eq_false_iff_ne]; omega) (by rw [bne_iff_ne]; omega)

theorem over : Rows.crcBurstRow.holds Tryd.pinned (OpenSpec.ofChange Rows.crcBurstSpec) :=
  OpenClaim.holds_of_wide 5 Tryd.f5 rfl rfl rfl rfl rfl rfl rfl ⟨rfl, rfl, rfl, rfl, rfl⟩ rfl rfl rfl rfl rfl (by kernel_rfl) Tryd.func5 (by kernel_rfl)
    (of_decide_eq_true (by kernel_rfl)) (by unfold Func.isWrapper; first | (rw [if_pos (by decide +kernel)]; kernel_rfl) | (rw [if_neg (by decide +kernel)]; exact ⟨rfl, rfl⟩))
    (fun os started H enc _ => lifted os started H enc)

/-- The statement: the card, tied to the program's text. -/
theorem proved : Rows.CrcBurstCardSaid :=
  Claim7.holds_tied_plain_at .later [] [.data] true (true, "0e8ec7097c4b4dee8426ac6a055dd1ad84e808743d20e417da0e6eea88e908fd") false
    over (fun _ h => by cases h) (by kernel_rfl) (fun _ h => by cases h) crcBurst_row_tie rfl ⟨rfl, rfl⟩ (by kernel_rfl) rfl
    (fun f fn hf hfn => by
      obtain rfl : f = 5 := Option.some.inj ((show Tryd.prog.funcNamed "weald/wealdlaw03.CrcBurst" = some 5 by kernel_rfl).symm.trans hf) |>.symm
      obtain rfl : fn = Tryd.f5 := (Option.some.inj (Tryd.func5.symm.trans hfn)).symm
      exact ⟨by kernel_rfl, fun j t ht => by
        rw [Tryd.params5] at ht
        have hm : t ∈ [23, 29, 22] := by simpa using Array.mem_of_getElem? ht
        have hall : ([23, 29, 22].all fun u => !Tryd.prog.wantsStandIn u) = true := by kernel_rfl
        exact (show Tryd.prog.wantsStandIn t = false by simpa using List.all_eq_true.1 hall t hm)⟩)
    (by kernel_rfl)
#print axioms proved
end Go.Proofs.YtnjbhjlcibmknaaDoor.crcBurst
