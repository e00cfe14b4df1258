/-
  CrcSwap: of every row of 2 to 600 bytes, two next to each other that change places change the check, just if they differ. No condition but that the table of the program's text lies where it is laid.
-/
import Derived.Test.YtnjbhjlcibmknaaDoorSlices
import Derived.Test.YtnjbhjlcibmknaaDoorCards
import Derived.Test.YtnjbhjlcibmknaaDoorTie
import Derived.Test.YtnjbhjlcibmknaaDoorBytes
namespace Go.Proofs.YtnjbhjlcibmknaaDoor.crcSwap
open Go.ChangeShapes Go.WideShapes Go.ChangeAt Go.RowKit
set_option linter.unusedVariables false

/-- Two numbers that change places: what it is, by rows turned. -/
theorem swap_zip (xs : List Nat) (k x y d : Nat) (h : k + 1 < xs.length) (hx : xs.getD k 0 = x) (hy : xs.getD (k + 1) 0 = y) (hd : x ^^^ y = d) :
    (xs.set k y).set (k + 1) x = List.zipWith (· ^^^ ·) xs (List.replicate k 0 ++ [d, d] ++ List.replicate (xs.length - k - 2) 0) := by
  have gk : xs[k]'(by omega) = x := by rw [← hx, List.getD_eq_getElem?_getD, List.getElem?_eq_getElem (by omega)]; rfl
  have gk1 : xs[k + 1] = y := by rw [← hy, List.getD_eq_getElem?_getD, List.getElem?_eq_getElem (by omega)]; rfl
  apply List.ext_getElem
  · simp; omega
  · intro i h1 h2
    have hi : i < xs.length := by simpa using h1
    rw [List.getElem_set, List.getElem_set, List.getElem_zipWith]
    by_cases e1 : k + 1 = i
    · subst e1
      rw [if_pos rfl]
      have : (List.replicate k 0 ++ [d, d] ++ List.replicate (xs.length - k - 2) 0)[k + 1]'(by simp) = d := by
        simp
      simp only [this, gk1]
      rw [← hd, Nat.xor_comm x, ← Nat.xor_assoc, Nat.xor_self, Nat.zero_xor]
    · rw [if_neg e1]
      by_cases e2 : k = i
      · subst e2
        rw [if_pos rfl]
        have : (List.replicate k 0 ++ [d, d] ++ List.replicate (xs.length - k - 2) 0)[k]'(by simp) = d := by
          simp
        simp only [this, gk]
        rw [← hd, ← Nat.xor_assoc, Nat.xor_self, Nat.zero_xor]
      · rw [if_neg e2]
        have : (List.replicate k 0 ++ [d, d] ++ List.replicate (xs.length - k - 2) 0)[i]'(by simp; omega) = 0 := by
          by_cases hlt : i < k
          · rw [List.getElem_append_left (by simp; omega), List.getElem_append_left (by simpa using hlt)]; simp
          · rw [List.getElem_append_right (by simp; omega)]; simp
        rw [this, Nat.xor_zero]

theorem walkLong (i : Nat) (A : Option Addr) (len cap : Nat) (h : len < 2 ∨ 600 < len) (w : World) (hT : Hid (Tab w)) :
    Calls Tryd.prog 8 #[.slice A len cap, .int .u16 (i : Int)] w fun e w' => e = .returned (.bool true) ∧ Below w.heap.size w w' := by
  by_cases h1 : len < 2
  · clear h
    have d1 : decide ((len : Int) < 2) = true := by rw [decide_eq_true_eq]; omega
    go_enter Tryd.func8, Tryd.ntmps8
    go_wp2_with fail
    refine (shown_below _ hT).mono ?_
    rintro e w1 ⟨rfl, hb⟩
    have HB := Lib.hid hb
    clear hb
    go_wp2_with fail
    go_ret
    exact ⟨rfl, HB.out⟩
  · have d1 : decide ((len : Int) < 2) = false := by rw [decide_eq_false_iff_not]; omega
    have d2 : decide ((600 : Int) < (len : Int)) = true := by rw [decide_eq_true_eq]; omega
    clear h h1
    go_enter Tryd.func8, Tryd.ntmps8
    go_wp2_with fail
    refine (shown_below _ hT).mono ?_
    rintro e w1 ⟨rfl, hb⟩
    have HB := Lib.hid hb
    clear hb
    go_wp2_with fail
    go_ret
    exact ⟨rfl, HB.out⟩

set_option maxRecDepth 100000 in
theorem walkShort (i k : Nat) (i1 : i < 65536) (b off len cap : Nat) (xs : List Nat) (h2 : 2 ≤ len) (h : len ≤ 600) (hk : k + 1 < len) (w : World) (hT : Hid (Tab w)) (hA : Hid (AtB w (some ⟨b, off, none⟩) len xs))
    (e1 : (i : Int) % ((len : Int) - 1) = (k : Int)) (x y m n : Nat) (x1 : x < 256) (y1 : y < 256) (hx : Hid (xs.getD k 0 = x)) (hy : Hid (xs.getD (k + 1) 0 = y)) (hm : Hid (moreN 0 xs = m)) (hn : Hid (moreN 0 ((xs.set k y).set (k + 1) x) = n))
    (hq : (((n : Int) == (m : Int)) = true ∧ ((x : Int) == (y : Int)) = true) ∨ (((n : Int) == (m : Int)) = false ∧ ((x : Int) == (y : Int)) = false)) :
    Calls Tryd.prog 8 #[.slice (some ⟨b, off, none⟩) len cap, .int .u16 (i : Int)] w fun e w' => e = .returned (.bool true) ∧ Below w.heap.size w w' := by
  have d1 : decide ((len : Int) < 2) = false := by rw [decide_eq_false_iff_not]; omega
  have d2 : decide ((600 : Int) < (len : Int)) = false := by rw [decide_eq_false_iff_not]; omega
  rcases hq with ⟨q1, q2⟩ | ⟨q1, q2⟩
  all_goals
    go_enter Tryd.func8, Tryd.ntmps8
    go_wp2_with fail
    refine (shown_below _ hT).mono ?_
    rintro e w1 ⟨rfl, hb⟩
    have HB := Lib.hid hb
    have HA := Lib.hid (AtB.later hA hb)
    have HT := Tab.later hT hb
    clear hb hA hT
    go_wp2_with (first
      | (at_builtin; (refine wpList_append_new (by rfl) (.tmp 24) (.tmp 25) (by rfl) w1.heap.size _ 0 [] (by rfl) (Own.made w1) (some ⟨b, off, none⟩) len cap xs (by rfl) (AtB.later HA (below_made w1)) len (by omega) xs (by rfl) (by omega) (by omega) (by simp) ?_); (intro g cp w3 hown hcap hbg hgrow; have B3 := Lib.hid (Own.below hgrow); have O3 := Lib.hid hown; have H3 := Lib.hid (AtB.later HA B3.out); have hbb := (HA.out.cell k (by omega)).1; have hne : b < g := (by omega); have cx := (H3.out.cell k (by omega)).2; have cy := (H3.out.cell (k + 1) (by omega)).2; have gx := O3.out.cell k (by omega); have gy := O3.out.cell (k + 1) (by omega); have fx := O3.out.free k; have fy := O3.out.free (k + 1); rw [hx.out] at cx gx; rw [hy.out] at cy gy; clear hown hgrow)))
    have BW := Lib.hid ((B3.out.setCell (p := ⟨g, k, none⟩) hbg (.int .u8 (y : Int))).setCell (p := ⟨g, k + 1, none⟩) hbg (.int .u8 (x : Int)))
    have OW := Lib.hid ((O3.out.stored k y y1).stored (k + 1) x x1)
    have HW := Lib.hid (AtB.later HA BW.out)
    have TW := Tab.later HT BW.out
    clear gx gy fx fy cx cy O3 H3 B3
    generalize (w3.setCell ⟨g, k, none⟩ (.int .u8 (y : Int))).setCell ⟨g, k + 1, none⟩ (.int .u8 (x : Int)) = w4 at *
    have cx := (HW.out.cell k (by omega)).2
    have cy := (HW.out.cell (k + 1) (by omega)).2
    rw [hx.out] at cx
    rw [hy.out] at cy
    go_quiet ((first
      | (go_at_call 11; with_reducible exact quietly (sum_own (.slice (some ⟨g, 0, none⟩) len cp) w1.heap.size len ((xs.set k y).set (k + 1) x) n _ (Tab.quiet TW _) (Own.quiet OW.out _) (by omega) hn.out))
      | (go_at_call 11; with_reducible exact quietly (sum_is' (some ⟨b, off, none⟩) len cap xs m _ (Tab.quiet TW _) (AtB.drewN HW.out _) hm.out))))
    go_wp2_with fail
    go_ret
    exact ⟨rfl, HB.out.trans ((below_quiet BW.out _).mono HB.out.size)⟩

set_option maxRecDepth 100000 in
theorem lifted (os : Os) (started : os.Started) (H : Type) (enc : TypeId × Value → H) :
    ReturnsInHanded {} Tryd.checked os 8 .any (fun w args => (Rows.crcSwapSpec.pre enc Tryd.prog Tryd.f8 [] false w args ∧ laidMetH Tryd.prog laidHalf w) ∧ sizedMet enc Tryd.prog Tryd.f8 (OpenSpec.ofChange Rows.crcSwapSpec) false w args)
      (Rows.crcSwapSpec.post enc Tryd.prog Tryd.f8 false true false false) := by
  refine law_lifted_laid (C := Tryd.checked) (X := fun w _ => laidMetH Tryd.prog laidHalf w) (fun _ _ _ hh h => h.of_heap hh) own started (by kernel_rfl) Tryd.func8
    (ChangeSpec.witness_shaped (enc := enc) (C := Tryd.checked) (os := os) (X := fun w _ => laidMetH Tryd.prog laidHalf w) false (World.doorLaid Tryd.prog 400 os) #[.slice none 0 0, .int .u16 0] 8 rfl (World.shaped_of_RefB (by kernel_rfl) (by kernel_rfl)) (by kernel_rfl) (by kernel_rfl) (by kernel_rfl) (door_met os _))
    (by kernel_rfl) (by kernel_rfl) Tryd.underlying4 rfl (by kernel_rfl) ?_
  intro W base args ds before hval hA _ hlt hL
  have hT := Lib.hid (tab_of_laid hL)
  have hA' : DataW.TrodAll enc Tryd.prog W 0 (fun _ => true) true Tryd.f8.params.toList args.toList ds before := hA
  have hval' : ∀ (j : Nat) t v, Tryd.f8.params[j]? = some t → args[j]? = some v → Value.okWide Tryd.prog W .any base t v := hval
  rw [Tryd.params8] at hA' hval'
  obtain ⟨v0, vs0, d0, ds0, p0, q0, hargs, rfl, rfl, h0, r0⟩ := trodAll_cons hA'
  obtain ⟨v1, vs1, d1, ds1, p1, q1, rfl, rfl, rfl, h1, r1⟩ := trodAll_cons r0
  obtain ⟨rfl, rfl, rfl⟩ := trodAll_nil r1
  obtain rfl : args = #[v0, v1] := by cases args; simp_all
  obtain ⟨Axs, lenxs, capxs, xs, rfl, hatxs⟩ := open_at (hval' 0 23 v0 rfl rfl) h0 (fun x hx => hlt x (by simp [hx]))
  obtain ⟨i, rfl, _, rfl, w1⟩ := open_int Tryd.underlying29 (hval' 1 29 v1 rfl rfl) h1
  have b1 := wf_u16 w1
  obtain ⟨i, rfl⟩ := Int.eq_ofNat_of_zero_le b1.1
  refine ⟨rfl, ?_⟩
  by_cases h : lenxs < 2 ∨ 600 < lenxs
  · exact walkLong i Axs lenxs capxs h W hT
  · obtain ⟨b, off, rfl, _, _⟩ := hatxs.2.2.2 (by omega)
    have hl := hatxs.1
    have hk0 : i % (lenxs - 1) < lenxs - 1 := Nat.mod_lt i (by omega)
    have ek : ((i % (lenxs - 1) : Nat) : Int) = (i : Int) % ((lenxs : Int) - 1) := by rw [Int.natCast_emod]; congr 1; omega
    generalize i % (lenxs - 1) = k at *
    refine walkShort i k (by omega) b off lenxs capxs xs (by omega) (by omega) (by omega) W hT (Lib.hid hatxs) (by omega) _ _ _ _ (hatxs.2.1.getD k) (hatxs.2.1.getD (k + 1)) (Lib.hid rfl) (Lib.hid rfl) (Lib.hid rfl) (Lib.hid rfl) ?_
    have hd : xs.getD k 0 ^^^ xs.getD (k + 1) 0 < 256 := Nat.xor_lt_two_pow (n := 8) (hatxs.2.1.getD k) (hatxs.2.1.getD (k + 1))
    rw [swap_zip xs k _ _ _ (by omega) rfl rfl rfl]
    have f := fold_two (xs.getD k 0 ^^^ xs.getD (k + 1) 0) k (xs.length - k - 2) hd
    have g := more_diff (b := xs) (d := List.replicate k 0 ++ [xs.getD k 0 ^^^ xs.getD (k + 1) 0, xs.getD k 0 ^^^ xs.getD (k + 1) 0] ++ List.replicate (xs.length - k - 2) 0) (by simp; omega) hatxs.2.1 (by
      intro z hz
      simp only [List.mem_append, List.mem_replicate, List.mem_cons, List.not_mem_nil, or_false] at hz
      omega)
    rw [f, xor_eq_zero] at g
    by_cases hxy : xs.getD k 0 = xs.getD (k + 1) 0
    · left; exact ⟨by rw [beq_iff_eq]; have := g.2 hxy; omega, by rw [beq_iff_eq]; omega⟩
    · right; exact ⟨by rw [beq_eq_false_iff_ne]; intro e; exact hxy (g.1 (by omega)), by rw [beq_eq_false_iff_ne]; omega⟩

theorem over : Rows.crcSwapRow.holds Tryd.pinned (OpenSpec.ofChange Rows.crcSwapSpec) :=
  OpenClaim.holds_of_wide 8 Tryd.f8 rfl rfl rfl rfl rfl rfl rfl ⟨rfl, rfl, rfl, rfl, rfl⟩ rfl rfl rfl rfl rfl (by kernel_rfl) Tryd.func8 (by kernel_rfl)
    (of_decide_eq_true (by kernel_rfl)) (by unfold Func.isWrapper; first | (rw [if_pos (by decide +kernel)]; kernel_rfl) | (rw [if_neg (by decide +kernel)]; exact ⟨rfl, rfl⟩))
    (fun os started H enc _ => lifted os started H enc)

/-- The statement: the card, tied to the program's text. -/
theorem proved : Rows.CrcSwapCardSaid :=
  Claim7.holds_tied_plain_at .later [] [.data] true (true, "0e8ec7097c4b4dee8426ac6a055dd1ad84e808743d20e417da0e6eea88e908fd") false
    over (fun _ h => by cases h) (by kernel_rfl) (fun _ h => by cases h) crcSwap_row_tie rfl ⟨rfl, rfl⟩ (by kernel_rfl) rfl
    (fun f fn hf hfn => by
      obtain rfl : f = 8 := Option.some.inj ((show Tryd.prog.funcNamed "weald/wealdlaw03.CrcSwap" = some 8 by kernel_rfl).symm.trans hf) |>.symm
      obtain rfl : fn = Tryd.f8 := (Option.some.inj (Tryd.func8.symm.trans hfn)).symm
      exact ⟨by kernel_rfl, fun j t ht => by
        rw [Tryd.params8] at ht
        have hm : t ∈ [23, 29] := by simpa using Array.mem_of_getElem? ht
        have hall : ([23, 29].all fun u => !Tryd.prog.wantsStandIn u) = true := by kernel_rfl
        exact (show Tryd.prog.wantsStandIn t = false by simpa using List.all_eq_true.1 hall t hm)⟩)
    (by kernel_rfl)
#print axioms proved
end Go.Proofs.YtnjbhjlcibmknaaDoor.crcSwap
