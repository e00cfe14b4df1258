/-
  CrcParts: of every row of bytes (of up to 600), cut anywhere in three, the check of the first part, gone on with the second and the third, is that of the row. No condition but that the table of the program's text lies where it is laid.
-/
import Derived.Test.YtnjbhjlcibmknaaDoorSlices
import Derived.Test.YtnjbhjlcibmknaaDoorCards
import Derived.Test.YtnjbhjlcibmknaaDoorTie
import Derived.Test.YtnjbhjlcibmknaaDoorBytes
namespace Go.Proofs.YtnjbhjlcibmknaaDoor.crcParts
open Go.ChangeShapes Go.WideShapes Go.ChangeAt Go.RowKit
set_option linter.unusedVariables false

theorem walkLong (i j : Nat) (A : Option Addr) (len cap : Nat) (h : 600 < len) (w : World) (hT : Hid (Tab w)) :
    Calls Tryd.prog 7 #[.slice A len cap, .int .u16 (i : Int), .int .u16 (j : Int)] w fun e w' => e = .returned (.bool true) ∧ Below w.heap.size w w' := by
  go_enter Tryd.func7, Tryd.ntmps7
  go_wp2_with fail
  refine (shown_below _ hT).mono ?_
  rintro e w1 ⟨rfl, hb⟩
  have HB := Lib.hid hb
  clear hb
  go_wp2_with fail
  go_ret
  exact ⟨rfl, HB.out⟩

set_option maxRecDepth 100000 in
theorem walkShort (i j x y z : Nat) (i1 : i < 65536) (j1 : j < 65536) (A : Option Addr) (len cap : Nat) (xs : List Nat) (h : len ≤ 600) (hx : x ≤ y) (hy : y ≤ len) (hc : len ≤ cap) (w : World) (hT : Hid (Tab w)) (hA : Hid (AtB w A len xs))
    (e1 : (i : Int) % ((len : Int) + 1) = (x : Int)) (e2 : (j : Int) % ((len : Int) - (x : Int) + 1) = (z : Int)) (e3 : (x : Int) + (z : Int) = (y : Int)) (p q m : Nat) (p1 : p < 4294967296) (q1 : q < 4294967296)
    (hp : Hid (moreN 0 ((xs.drop 0).take (x - 0)) = p)) (hq : Hid (moreN p ((xs.drop x).take (y - x)) = q)) (hm : Hid (moreN q ((xs.drop y).take (len - y)) = m)) (hz : Hid (moreN 0 xs = m)) :
    Calls Tryd.prog 7 #[.slice A len cap, .int .u16 (i : Int), .int .u16 (j : Int)] w fun e w' => e = .returned (.bool true) ∧ Below w.heap.size w w' := by
  have R1 := run_cut_h A len cap x (by omega)
  have R2 := run_cut_lh A len cap x y hx (by omega)
  have R3 := run_cut_l A len cap y hy
  have C1 : Hid (AtB w (cutA A cap 0) x ((xs.drop 0).take (x - 0))) := Lib.hid (hA.out.cutA hc 0 x (by omega) (by omega))
  have C2 := Lib.hid (hA.out.cutA hc x y hx hy)
  have C3 := Lib.hid (hA.out.cutA hc y len hy (by omega))
  generalize cutA A cap 0 = A1 at *
  generalize cutA A cap x = A2 at *
  generalize cutA A cap y = A3 at *
  generalize hpl : (xs.drop 0).take (x - 0) = xs1 at *
  generalize hql : (xs.drop x).take (y - x) = xs2 at *
  generalize hml : (xs.drop y).take (len - y) = xs3 at *
  clear hpl hql hml
  go_enter Tryd.func7, Tryd.ntmps7
  go_wp2_with fail
  refine (shown_below _ hT).mono ?_
  rintro e w1 ⟨rfl, hb⟩
  have HB := Lib.hid hb
  have HA := Lib.hid (AtB.later hA hb)
  have H1 := Lib.hid (AtB.later C1 hb)
  have H2 := Lib.hid (AtB.later C2 hb)
  have H3 := Lib.hid (AtB.later C3 hb)
  have HT := Tab.later hT hb
  clear hb hA hT C1 C2 C3
  go_wp2_with fail
  go_quiet ((first
    | (go_at_call 11; with_reducible exact quietly (sum_is' A1 x cap xs1 p _ (Tab.quiet HT _) (AtB.drewN H1.out _) hp.out))
    | (go_at_call 13; with_reducible exact quietly (more_is' p p1 A2 (y - x) (cap - x) xs2 q _ (Tab.quiet HT _) (AtB.drewN H2.out _) hq.out))
    | (go_at_call 13; with_reducible exact quietly (more_is' q q1 A3 (len - y) (cap - y) xs3 m _ (Tab.quiet HT _) (AtB.drewN H3.out _) hm.out))
    | (go_at_call 11; with_reducible exact quietly (sum_is' A len cap xs m _ (Tab.quiet HT _) (AtB.drewN HA.out _) hz.out))))
  go_wp2_with fail
  go_ret
  exact ⟨rfl, below_quiet HB.out _⟩

set_option maxRecDepth 100000 in
theorem lifted (os : Os) (started : os.Started) (H : Type) (enc : TypeId × Value → H) :
    ReturnsInHanded {} Tryd.checked os 7 .any (fun w args => (Rows.crcPartsSpec.pre enc Tryd.prog Tryd.f7 [] false w args ∧ laidMetH Tryd.prog laidHalf w) ∧ sizedMet enc Tryd.prog Tryd.f7 (OpenSpec.ofChange Rows.crcPartsSpec) false w args)
      (Rows.crcPartsSpec.post enc Tryd.prog Tryd.f7 false true false false) := by
  refine law_lifted_laid (C := Tryd.checked) (X := fun w _ => laidMetH Tryd.prog laidHalf w) (fun _ _ _ hh h => h.of_heap hh) own started (by kernel_rfl) Tryd.func7
    (ChangeSpec.witness_shaped (enc := enc) (C := Tryd.checked) (os := os) (X := fun w _ => laidMetH Tryd.prog laidHalf w) false (World.doorLaid Tryd.prog 400 os) #[.slice none 0 0, .int .u16 0, .int .u16 0] 8 rfl (World.shaped_of_RefB (by kernel_rfl) (by kernel_rfl)) (by kernel_rfl) (by kernel_rfl) (by kernel_rfl) (door_met os _))
    (by kernel_rfl) (by kernel_rfl) Tryd.underlying4 rfl (by kernel_rfl) ?_
  intro W base args ds before hval hA _ hlt hL
  have hT := Lib.hid (tab_of_laid hL)
  have hA' : DataW.TrodAll enc Tryd.prog W 0 (fun _ => true) true Tryd.f7.params.toList args.toList ds before := hA
  have hval' : ∀ (j : Nat) t v, Tryd.f7.params[j]? = some t → args[j]? = some v → Value.okWide Tryd.prog W .any base t v := hval
  rw [Tryd.params7] at hA' hval'
  obtain ⟨v0, vs0, d0, ds0, p0, q0, hargs, rfl, rfl, h0, r0⟩ := trodAll_cons hA'
  obtain ⟨v1, vs1, d1, ds1, p1, q1, rfl, rfl, rfl, h1, r1⟩ := trodAll_cons r0
  obtain ⟨v2, vs2, d2, ds2, p2, q2, rfl, rfl, rfl, h2, r2⟩ := trodAll_cons r1
  obtain ⟨rfl, rfl, rfl⟩ := trodAll_nil r2
  obtain rfl : args = #[v0, v1, v2] := by cases args; simp_all
  obtain ⟨Axs, lenxs, capxs, xs, rfl, hcxs, hatxs⟩ := open_at2 (hval' 0 23 v0 rfl rfl) h0 (fun x hx => hlt x (by simp [hx]))
  obtain ⟨i, rfl, _, rfl, w1⟩ := open_int Tryd.underlying29 (hval' 1 29 v1 rfl rfl) h1
  have b1 := wf_u16 w1
  obtain ⟨i, rfl⟩ := Int.eq_ofNat_of_zero_le b1.1
  obtain ⟨j, rfl, _, rfl, w2⟩ := open_int Tryd.underlying29 (hval' 2 29 v2 rfl rfl) h2
  have b2 := wf_u16 w2
  obtain ⟨j, rfl⟩ := Int.eq_ofNat_of_zero_le b2.1
  refine ⟨rfl, ?_⟩
  by_cases h : 600 < lenxs
  · exact walkLong i j Axs lenxs capxs h W hT
  · have hl := hatxs.1
    have hx0 : i % (lenxs + 1) ≤ lenxs := by have := Nat.mod_lt i (show 0 < lenxs + 1 by omega); omega
    have hz0 : j % (lenxs - i % (lenxs + 1) + 1) ≤ lenxs - i % (lenxs + 1) := by have := Nat.mod_lt j (show 0 < lenxs - i % (lenxs + 1) + 1 by omega); omega
    have ex : ((i % (lenxs + 1) : Nat) : Int) = (i : Int) % ((lenxs : Int) + 1) := by rw [Int.natCast_emod]; rfl
    generalize i % (lenxs + 1) = x at *
    have ez : ((j % (lenxs - x + 1) : Nat) : Int) = (j : Int) % ((lenxs : Int) - (x : Int) + 1) := by rw [Int.natCast_emod]; congr 1; omega
    generalize j % (lenxs - x + 1) = z at *
    have s1 : Bytes ((xs.drop 0).take (x - 0)) := fun u hu => hatxs.2.1 u (List.mem_of_mem_drop (List.mem_of_mem_take hu))
    have s2 : Bytes ((xs.drop x).take (x + z - x)) := fun u hu => hatxs.2.1 u (List.mem_of_mem_drop (List.mem_of_mem_take hu))
    have s12 : Bytes ((xs.drop 0).take (x - 0) ++ (xs.drop x).take (x + z - x)) := fun u hu => (List.mem_append.1 hu).elim (s1 u) (s2 u)
    have f1 := more_append 0 _ ((xs.drop x).take (x + z - x)) (by omega) s1
    have f2 := more_append 0 _ ((xs.drop (x + z)).take (lenxs - (x + z))) (by omega) s12
    have f3 : ((xs.drop 0).take (x - 0) ++ (xs.drop x).take (x + z - x)) ++ (xs.drop (x + z)).take (lenxs - (x + z)) = xs := by
      rw [List.drop_zero, Nat.sub_zero, Nat.add_sub_cancel_left, ← List.take_add, List.take_of_length_le (l := xs.drop (x + z)) (by rw [List.length_drop]; omega), List.take_append_drop]
    refine walkShort i j x (x + z) z (by omega) (by omega) Axs lenxs capxs xs (by omega) (by omega) (by omega) hcxs W hT (Lib.hid hatxs) (by omega) (by omega) (by omega) _ _ _ (more_lt _ _) (more_lt _ _) (Lib.hid rfl) (Lib.hid f1) (Lib.hid f2) (Lib.hid (by rw [f3]))

theorem over : Rows.crcPartsRow.holds Tryd.pinned (OpenSpec.ofChange Rows.crcPartsSpec) :=
  OpenClaim.holds_of_wide 7 Tryd.f7 rfl rfl rfl rfl rfl rfl rfl ⟨rfl, rfl, rfl, rfl, rfl⟩ rfl rfl rfl rfl rfl (by kernel_rfl) Tryd.func7 (by kernel_rfl)
    (of_decide_eq_true (by kernel_rfl)) (by unfold Func.isWrapper; first | (rw [if_pos (by decide +kernel)]; kernel_rfl) | (rw [if_neg (by decide +kernel)]; exact ⟨rfl, rfl⟩))
    (fun os started H enc _ => lifted os started H enc)

/-- The statement: the card, tied to the program's text. -/
theorem proved : Rows.CrcPartsCardSaid :=
  Claim7.holds_tied_plain_at .later [] [.data] true (true, "0e8ec7097c4b4dee8426ac6a055dd1ad84e808743d20e417da0e6eea88e908fd") false
    over (fun _ h => by cases h) (by kernel_rfl) (fun _ h => by cases h) crcParts_row_tie rfl ⟨rfl, rfl⟩ (by kernel_rfl) rfl
    (fun f fn hf hfn => by
      obtain rfl : f = 7 := Option.some.inj ((show Tryd.prog.funcNamed "weald/wealdlaw03.CrcParts" = some 7 by kernel_rfl).symm.trans hf) |>.symm
      obtain rfl : fn = Tryd.f7 := (Option.some.inj (Tryd.func7.symm.trans hfn)).symm
      exact ⟨by kernel_rfl, fun j t ht => by
        rw [Tryd.params7] at ht
        have hm : t ∈ [23, 29, 29] := by simpa using Array.mem_of_getElem? ht
        have hall : ([23, 29, 29].all fun u => !Tryd.prog.wantsStandIn u) = true := by kernel_rfl
        exact (show Tryd.prog.wantsStandIn t = false by simpa using List.all_eq_true.1 hall t hm)⟩)
    (by kernel_rfl)
#print axioms proved
end Go.Proofs.YtnjbhjlcibmknaaDoor.crcParts
