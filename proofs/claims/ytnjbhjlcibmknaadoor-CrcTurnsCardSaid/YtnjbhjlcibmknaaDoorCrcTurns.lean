/-
  CrcTurns: of every three rows of bytes (the first of up to 500, the others at least as long), exclusive-or together as far as the first goes, the check is their checks' exclusive-or. No condition but that the table of the program's text lies where it is laid.
-/
import Derived.Test.YtnjbhjlcibmknaaDoorSlices
import Derived.Test.YtnjbhjlcibmknaaDoorCards
import Derived.Test.YtnjbhjlcibmknaaDoorTie
import Derived.Test.YtnjbhjlcibmknaaDoorBytes
import Derived.RegionTactic
import Derived.BigRegion
namespace Go.Proofs.YtnjbhjlcibmknaaDoor.crcTurns
open Go.ChangeShapes Go.WideShapes Go.ChangeAt Go.RowKit
set_option linter.unusedVariables false

/-- What the loop has made behind k rounds. -/
def part (us : List Nat) (k : Nat) : List Nat := us.take k ++ List.replicate (us.length - k) 0
theorem part_zero (us : List Nat) : part us 0 = List.replicate us.length 0 := rfl
theorem part_all (us : List Nat) : part us us.length = us := by unfold part; simp
theorem part_step (us : List Nat) (k : Nat) (h : k < us.length) : part us (k + 1) = (part us k).set k (us.getD k 0) := by
  unfold part
  obtain ⟨m, hm⟩ : ∃ m, us.length - k = m + 1 := ⟨us.length - k - 1, by omega⟩
  have e1 : us.length - (k + 1) = m := by omega
  rw [e1, hm, List.replicate_succ, List.set_append_right _ _ (by simp; omega), List.length_take, Nat.min_eq_left (by omega), Nat.sub_self, List.set_cons_zero, take_snoc us k h, List.append_assoc]
  rfl
theorem zip_getD (xs ys : List Nat) (k : Nat) (hx : k < xs.length) (hy : k < ys.length) : (List.zipWith (· ^^^ ·) xs ys).getD k 0 = xs.getD k 0 ^^^ ys.getD k 0 := by
  rw [List.getD_eq_getElem?_getD, List.getD_eq_getElem?_getD, List.getD_eq_getElem?_getD, List.getElem?_eq_getElem hx, List.getElem?_eq_getElem hy, List.getElem?_eq_getElem (by simp; omega)]
  simp
theorem zip_bytes {xs ys : List Nat} (hx : Bytes xs) (hy : Bytes ys) : Bytes (List.zipWith (· ^^^ ·) xs ys) := by
  intro z hz
  obtain ⟨i, hi, rfl⟩ := List.mem_iff_getElem.1 hz
  rw [List.getElem_zipWith]
  exact Nat.xor_lt_two_pow (n := 8) (hx _ (List.getElem_mem _)) (hy _ (List.getElem_mem _))

def Rel (w1 : World) (g n : Nat) (us : List Nat) (wr : World) (k : Nat) : Prop := Own wr w1.heap.size (.slice (some ⟨g, 0, none⟩) n n) n (part us k) ∧ Below w1.heap.size w1 wr

theorem Rel.drew {w1 wr : World} {g n k : Nat} {us : List Nat} (h : Rel w1 g n us wr k) : Rel w1 g n us wr.drew k := ⟨h.1, h.2.drew⟩
theorem rel_made {w1 w2 : World} {n : Nat} {us : List Nat} (hl : us.length = n) (hown : w2.ownsRow w1.heap.size 5 1 (.slice (some ⟨w1.heap.size, 0, none⟩) n n) n (madeCells (Value.int .u8 0).cells (n * 1)).toList) (hgrow : w1.grownBy w2 none) :
    Rel w1 w1.heap.size n us w2 0 := by
  have e : (madeCells (Value.int .u8 0).cells (n * 1)).toList = vals (part us 0) := by
    rw [Nat.mul_one, show (Value.int .u8 0).cells = #[Value.int .u8 0] from rfl, toList_madeCells_one, part_zero, hl]
    unfold vals
    rw [List.map_replicate]
    rfl
  refine ⟨⟨?_, by rw [← e]; exact hown⟩, (Below.refl _ _).grown hgrow (Nat.le_refl _) (fun _ h => by cases h)⟩
  rw [part_zero]
  intro z hz
  rw [(List.mem_replicate.1 hz).2]
  omega

theorem walkLong (A1 A2 A3 : Option Addr) (len1 cap1 len2 cap2 len3 cap3 : Nat) (h : 500 < len1 ∨ len2 < len1 ∨ len3 < len1) (w : World) (hT : Hid (Tab w)) :
    Calls Tryd.prog 6 #[.slice A1 len1 cap1, .slice A2 len2 cap2, .slice A3 len3 cap3] w fun e w' => e = .returned (.bool true) ∧ Below w.heap.size w w' := by
  by_cases h1 : 500 < len1
  · clear h
    go_enter Tryd.func6, Tryd.ntmps6
    go_wp2_with fail
    refine (shown_below _ hT).mono ?_
    rintro e w1 ⟨rfl, hb⟩
    have HB := Lib.hid hb
    clear hb
    go_wp2_with fail
    go_ret
    exact ⟨rfl, HB.out⟩
  · have d1 : decide ((500 : Int) < (len1 : Int)) = false := by rw [decide_eq_false_iff_not]; omega
    by_cases h2 : len2 < len1
    · clear h h1
      go_enter Tryd.func6, Tryd.ntmps6
      go_wp2_with fail
      refine (shown_below _ hT).mono ?_
      rintro e w1 ⟨rfl, hb⟩
      have HB := Lib.hid hb
      clear hb
      go_wp2_with fail
      go_ret
      exact ⟨rfl, HB.out⟩
    · have d2 : decide (len2 < len1) = false := by rw [decide_eq_false_iff_not]; omega
      have h3 : len3 < len1 := by omega
      clear h h1 h2
      go_enter Tryd.func6, Tryd.ntmps6
      go_wp2_with fail
      refine (shown_below _ hT).mono ?_
      rintro e w1 ⟨rfl, hb⟩
      have HB := Lib.hid hb
      clear hb
      go_wp2_with fail
      go_ret
      exact ⟨rfl, HB.out⟩

theorem info5' : (Tryd.prog.info? 5).map (fun i => (i.zero, i.size, i.bytes)) = some (some (.int .u8 0), 1, 1) := info5

set_option maxRecDepth 100000 in
theorem walkShort (A1 A2 A3 : Option Addr) (n cap1 len2 cap2 len3 cap3 : Nat) (xs ys zs us : List Nat) (h : n ≤ 500) (h2 : n ≤ len2) (h3 : n ≤ len3) (hc2 : len2 ≤ cap2) (hc3 : len3 ≤ cap3) (w : World) (hT : Hid (Tab w))
    (hA : Hid (AtB w A1 n xs)) (hB : Hid (AtB w A2 len2 ys)) (hC : Hid (AtB w A3 len3 zs)) (hl : Hid (us.length = n)) (hu : Hid (Bytes us)) (hus : Hid (∀ k, k < n → us.getD k 0 = (xs.getD k 0 ^^^ ys.getD k 0) ^^^ zs.getD k 0)) (m p q r : Nat)
    (p1 : p < 4294967296) (q1 : q < 4294967296) (r1 : r < 4294967296) (hm : Hid (moreN 0 us = m)) (hp : Hid (moreN 0 xs = p)) (hq : Hid (moreN 0 ((ys.drop 0).take (n - 0)) = q)) (hr : Hid (moreN 0 ((zs.drop 0).take (n - 0)) = r)) (he : Hid (m = (p ^^^ q) ^^^ r)) :
    Calls Tryd.prog 6 #[.slice A1 n cap1, .slice A2 len2 cap2, .slice A3 len3 cap3] w fun e w' => e = .returned (.bool true) ∧ Below w.heap.size w w' := by
  have d1 : decide ((500 : Int) < (n : Int)) = false := by rw [decide_eq_false_iff_not]; omega
  have d2 : decide (len2 < n) = false := by rw [decide_eq_false_iff_not]; omega
  have d3 : decide (len3 < n) = false := by rw [decide_eq_false_iff_not]; omega
  have R2 := run_cut_h A2 len2 cap2 n (by omega)
  have R3 := run_cut_h A3 len3 cap3 n (by omega)
  have C2 : Hid (AtB w (cutA A2 cap2 0) n ((ys.drop 0).take (n - 0))) := Lib.hid (hB.out.cutA hc2 0 n (by omega) h2)
  have C3 : Hid (AtB w (cutA A3 cap3 0) n ((zs.drop 0).take (n - 0))) := Lib.hid (hC.out.cutA hc3 0 n (by omega) h3)
  generalize cutA A2 cap2 0 = D2 at *
  generalize cutA A3 cap3 0 = D3 at *
  generalize hpl : (ys.drop 0).take (n - 0) = ys1 at *
  generalize hql : (zs.drop 0).take (n - 0) = zs1 at *
  clear hpl hql
  obtain ⟨i0, hi0, hz0, hz1, hz2⟩ := info_parts info5
  have HI := Lib.hid hi0
  have HZ0 := Lib.hid hz0
  have HZ1 := Lib.hid hz1
  have hz2' : i0.bytes * n ≤ 281474976710656 := by rw [hz2]; omega
  clear hi0 hz0 hz1 hz2
  go_enter Tryd.func6, Tryd.ntmps6
  go_wp2_with fail
  refine (shown_below _ hT).mono ?_
  rintro e w1 ⟨rfl, hb⟩
  have HB := Lib.hid hb
  have HA := Lib.hid (AtB.later hA hb)
  have H2 := Lib.hid (AtB.later hB hb)
  have H3 := Lib.hid (AtB.later hC hb)
  have K2 := Lib.hid (AtB.later C2 hb)
  have K3 := Lib.hid (AtB.later C3 hb)
  have HT := Tab.later hT hb
  clear hb hA hB hC hT C2 C3
  go_wp2_with (at_make; (refine wpList_make_full w1 rfl (.tmp 29) (.tmp 29) 23 rfl w1.heap.size 5 i0 (.int .u8 0) 1 Tryd.underlying23 HI.out HZ0.out HZ1.out .i64 .i64 _ _ n rfl rfl rfl rfl hz2' (by unfold maxLen; omega) (Nat.le_refl _) ?_); intro w2 hown hgrow; have S2 := Lib.hid (rel_made hl.out hown hgrow); clear hown hgrow)
  go_loopw [10] (fun i wr => ∃ k : Nat, k ≤ n ∧ i = .int .i64 k ∧ Rel w1 w1.heap.size n us wr k) (fun i _ => n - (intOf i).toNat)
  case atStart => exact ⟨0, Nat.zero_le _, rfl, S2.out⟩
  case round =>
    obtain ⟨k, hk, rfl, hrel⟩ := hrel
    have O := Lib.hid hrel.1
    have BB := Lib.hid hrel.2
    clear hrel S2
    by_cases hlt : k < n
    · obtain ⟨b1, o1, rfl, _, _⟩ := HA.out.2.2.2 (by omega)
      obtain ⟨b2, o2, rfl, _, _⟩ := H2.out.2.2.2 (by omega)
      obtain ⟨b3, o3, rfl, _, _⟩ := H3.out.2.2.2 (by omega)
      have hb1 := (HA.out.cell k hlt).1
      have hb2 := (H2.out.cell k (by omega)).1
      have hb3 := (H3.out.cell k (by omega)).1
      have cx := ((AtB.later HA BB.out).cell k hlt).2
      have cy := ((AtB.later H2 BB.out).cell k (by omega)).2
      have cz := ((AtB.later H3 BB.out).cell k (by omega)).2
      have gk := O.out.cell k hlt
      have fk := O.out.free k
      have bx := HA.out.2.1.getD k
      have by_ := H2.out.2.1.getD k
      have bz := H3.out.2.1.getD k
      have U := Lib.hid (hus.out k hlt)
      generalize xs.getD k 0 = x at *
      generalize ys.getD k 0 = y at *
      generalize zs.getD k 0 = z at *
      generalize hold : (part us k).getD k 0 = old at *
      clear hold
      have l1 : x ^^^ y < 256 := Nat.xor_lt_two_pow (n := 8) bx by_
      have l2 : (x ^^^ y) ^^^ z < 256 := Nat.xor_lt_two_pow (n := 8) l1 bz
      have X1 : bits .xor .u8 (x : Int) (y : Int) = ((x ^^^ y : Nat) : Int) := u8_xor_nat x y bx by_
      have X2 : bits .xor .u8 ((x ^^^ y : Nat) : Int) (z : Int) = (((x ^^^ y) ^^^ z : Nat) : Int) := u8_xor_nat (x ^^^ y) z l1 bz
      generalize (x ^^^ y) ^^^ z = u at *
      generalize x ^^^ y = v at *
      have S3 : Hid (Rel w1 w1.heap.size n us (wr.setCell ⟨w1.heap.size, k, none⟩ (.int .u8 (u : Int))) (k + 1)) := Lib.hid (by
        refine ⟨?_, BB.out.setCell (p := ⟨w1.heap.size, k, none⟩) (Nat.le_refl _) _⟩
        rw [part_step us k (by rw [hl.out]; exact hlt), U.out]
        exact O.out.stored k u l2)
      clear HA H2 H3 O
      go_wp2_with fail
      go_region
      all_goals go_wp2_with fail
      all_goals go_roundw
      case rel => exact ⟨k + 1, by omega, by go_num, S3.out.drew⟩
      case measure => simp [intOf]; omega
    · have hkn : k = n := by omega
      subst hkn
      have O2 : Hid (Own wr w1.heap.size (.slice (some ⟨w1.heap.size, 0, none⟩) k k) k us) := by
        have := O.out
        rw [← hl.out, part_all, hl.out] at this
        exact Lib.hid this
      have A1' := Lib.hid (AtB.later HA BB.out)
      have A2' := Lib.hid (AtB.later K2 BB.out)
      have A3' := Lib.hid (AtB.later K3 BB.out)
      have TT := Tab.later HT BB.out
      have X1 : bits .xor .u32 (p : Int) (q : Int) = ((p ^^^ q : Nat) : Int) := u32_xor_nat p q p1 q1
      have l1 : p ^^^ q < 4294967296 := Nat.xor_lt_two_pow (n := 32) p1 q1
      have X2 : bits .xor .u32 ((p ^^^ q : Nat) : Int) (r : Int) = ((m : Nat) : Int) := by rw [he.out]; exact u32_xor_nat (p ^^^ q) r l1 r1
      generalize p ^^^ q = v at *
      clear O hus
      go_wp2_with fail
      go_quiet ((first
        | (go_at_call 11; with_reducible exact quietly (sum_own (.slice (some ⟨w1.heap.size, 0, none⟩) k k) w1.heap.size k us m _ (Tab.quiet TT _) (Own.quiet O2.out _) (by omega) hm.out))
        | (go_at_call 11; with_reducible exact quietly (sum_is' A1 k cap1 xs p _ (Tab.quiet TT _) (AtB.drewN A1'.out _) hp.out))
        | (go_at_call 11; with_reducible exact quietly (sum_is' D2 k cap2 ys1 q _ (Tab.quiet TT _) (AtB.drewN A2'.out _) hq.out))
        | (go_at_call 11; with_reducible exact quietly (sum_is' D3 k cap3 zs1 r _ (Tab.quiet TT _) (AtB.drewN A3'.out _) hr.out))))
      go_wp2_with fail
      go_ret
      exact ⟨rfl, HB.out.trans ((below_quiet BB.out _).mono HB.out.size)⟩

set_option maxRecDepth 100000 in
theorem lifted (os : Os) (started : os.Started) (H : Type) (enc : TypeId × Value → H) :
    ReturnsInHanded {} Tryd.checked os 6 .any (fun w args => (Rows.crcTurnsSpec.pre enc Tryd.prog Tryd.f6 [] false w args ∧ laidMetH Tryd.prog laidHalf w) ∧ sizedMet enc Tryd.prog Tryd.f6 (OpenSpec.ofChange Rows.crcTurnsSpec) false w args)
      (Rows.crcTurnsSpec.post enc Tryd.prog Tryd.f6 false true false false) := by
  refine law_lifted_laid (C := Tryd.checked) (X := fun w _ => laidMetH Tryd.prog laidHalf w) (fun _ _ _ hh h => h.of_heap hh) own started (by kernel_rfl) Tryd.func6
    (ChangeSpec.witness_shaped (enc := enc) (C := Tryd.checked) (os := os) (X := fun w _ => laidMetH Tryd.prog laidHalf w) false (World.doorLaid Tryd.prog 400 os) #[.slice none 0 0, .slice none 0 0, .slice none 0 0] 8 rfl (World.shaped_of_RefB (by kernel_rfl) (by kernel_rfl)) (by kernel_rfl) (by kernel_rfl) (by kernel_rfl) (door_met os _))
    (by kernel_rfl) (by kernel_rfl) Tryd.underlying4 rfl (by kernel_rfl) ?_
  intro W base args ds before hval hA _ hlt hL
  have hT := Lib.hid (tab_of_laid hL)
  have hA' : DataW.TrodAll enc Tryd.prog W 0 (fun _ => true) true Tryd.f6.params.toList args.toList ds before := hA
  have hval' : ∀ (j : Nat) t v, Tryd.f6.params[j]? = some t → args[j]? = some v → Value.okWide Tryd.prog W .any base t v := hval
  rw [Tryd.params6] at hA' hval'
  obtain ⟨v0, vs0, d0, ds0, p0, q0, hargs, rfl, rfl, h0, r0⟩ := trodAll_cons hA'
  obtain ⟨v1, vs1, d1, ds1, p1, q1, rfl, rfl, rfl, h1, r1⟩ := trodAll_cons r0
  obtain ⟨v2, vs2, d2, ds2, p2, q2, rfl, rfl, rfl, h2, r2⟩ := trodAll_cons r1
  obtain ⟨rfl, rfl, rfl⟩ := trodAll_nil r2
  obtain rfl : args = #[v0, v1, v2] := by cases args; simp_all
  obtain ⟨Axs, lenxs, capxs, xs, rfl, hatxs⟩ := open_at (hval' 0 23 v0 rfl rfl) h0 (fun x hx => hlt x (by simp [hx]))
  obtain ⟨Ays, lenys, capys, ys, rfl, hcys, hatys⟩ := open_at2 (hval' 1 23 v1 rfl rfl) h1 (fun x hx => hlt x (by simp [hx]))
  obtain ⟨Azs, lenzs, capzs, zs, rfl, hczs, hatzs⟩ := open_at2 (hval' 2 23 v2 rfl rfl) h2 (fun x hx => hlt x (by simp [hx]))
  refine ⟨rfl, ?_⟩
  by_cases h : 500 < lenxs ∨ lenys < lenxs ∨ lenzs < lenxs
  · exact walkLong Axs Ays Azs lenxs capxs lenys capys lenzs capzs h W hT
  · have h1 := hatxs.1
    have h2 := hatys.1
    have h3 := hatzs.1
    have by1 : Bytes ((ys.drop 0).take (lenxs - 0)) := fun u hu => hatys.2.1 u (List.mem_of_mem_drop (List.mem_of_mem_take hu))
    have bz1 : Bytes ((zs.drop 0).take (lenxs - 0)) := fun u hu => hatzs.2.1 u (List.mem_of_mem_drop (List.mem_of_mem_take hu))
    have ly : ((ys.drop 0).take (lenxs - 0)).length = lenxs := by simp; omega
    have lz : ((zs.drop 0).take (lenxs - 0)).length = lenxs := by simp; omega
    have gy : ∀ k, k < lenxs → ((ys.drop 0).take (lenxs - 0)).getD k 0 = ys.getD k 0 := fun k hk => by simp [hk]
    have gz : ∀ k, k < lenxs → ((zs.drop 0).take (lenxs - 0)).getD k 0 = zs.getD k 0 := fun k hk => by simp [hk]
    refine walkShort Axs Ays Azs lenxs capxs lenys capys lenzs capzs xs ys zs (List.zipWith (· ^^^ ·) (List.zipWith (· ^^^ ·) xs ((ys.drop 0).take (lenxs - 0))) ((zs.drop 0).take (lenxs - 0))) (by omega) (by omega) (by omega) hcys hczs W hT (Lib.hid hatxs) (Lib.hid hatys) (Lib.hid hatzs)
      (Lib.hid (by rw [List.length_zipWith, List.length_zipWith]; omega)) (Lib.hid (zip_bytes (zip_bytes hatxs.2.1 by1) bz1)) (Lib.hid fun k hk => ?_) _ _ _ _ (more_lt _ _) (more_lt _ _) (more_lt _ _) (Lib.hid rfl) (Lib.hid rfl) (Lib.hid rfl) (Lib.hid rfl) (Lib.hid (more_turns (by omega) (by omega) hatxs.2.1 by1 bz1))
    rw [zip_getD _ _ k (by rw [List.length_zipWith]; omega) (by omega), zip_getD _ _ k (by omega) (by omega), gy k hk, gz k hk]

theorem over : Rows.crcTurnsRow.holds Tryd.pinned (OpenSpec.ofChange Rows.crcTurnsSpec) :=
  OpenClaim.holds_of_wide 6 Tryd.f6 rfl rfl rfl rfl rfl rfl rfl ⟨rfl, rfl, rfl, rfl, rfl⟩ rfl rfl rfl rfl rfl (by kernel_rfl) Tryd.func6 (by kernel_rfl)
    (of_decide_eq_true (by kernel_rfl)) (by unfold Func.isWrapper; first | (rw [if_pos (by decide +kernel)]; kernel_rfl) | (rw [if_neg (by decide +kernel)]; exact ⟨rfl, rfl⟩))
    (fun os started H enc _ => lifted os started H enc)

/-- The statement: the card, tied to the program's text. -/
theorem proved : Rows.CrcTurnsCardSaid :=
  Claim7.holds_tied_plain_at .later [] [.data] true (true, "0e8ec7097c4b4dee8426ac6a055dd1ad84e808743d20e417da0e6eea88e908fd") false
    over (fun _ h => by cases h) (by kernel_rfl) (fun _ h => by cases h) crcTurns_row_tie rfl ⟨rfl, rfl⟩ (by kernel_rfl) rfl
    (fun f fn hf hfn => by
      obtain rfl : f = 6 := Option.some.inj ((show Tryd.prog.funcNamed "weald/wealdlaw03.CrcTurns" = some 6 by kernel_rfl).symm.trans hf) |>.symm
      obtain rfl : fn = Tryd.f6 := (Option.some.inj (Tryd.func6.symm.trans hfn)).symm
      exact ⟨by kernel_rfl, fun j t ht => by
        rw [Tryd.params6] at ht
        have hm : t ∈ [23, 23, 23] := by simpa using Array.mem_of_getElem? ht
        have hall : ([23, 23, 23].all fun u => !Tryd.prog.wantsStandIn u) = true := by kernel_rfl
        exact (show Tryd.prog.wantsStandIn t = false by simpa using List.all_eq_true.1 hall t hm)⟩)
    (by kernel_rfl)
#print axioms proved
end Go.Proofs.YtnjbhjlcibmknaaDoor.crcTurns
