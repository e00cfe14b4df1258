/-
  StreamTells: streams behind what is done with them (appended to, synced, cut by a crash) are as the document says, and which are right; for every stream and every row of bytes (of up to 500), every number. No condition.
-/
import Derived.Test.YtocnndpfpplleaaStrmShown
import Derived.Test.YtocnndpfpplleaaStrmOpen
import Derived.Test.YtocnndpfpplleaaLaw
import Derived.Deep.RegionHeld3
namespace Go.Proofs.Ytocnndpfpplleaa.streamTells
open Go.ChangeShapes Go.WideShapes Go.ChangeAt Go.RowKit
set_option linter.unusedVariables false
theorem own : ownKnob Try.prog.godebug = none := by kernel_rfl

theorem walkLong (A : Option Addr) (len cap : Nat) (s : Int) (B : Option Addr) (m c : Nat) (more : Int) (l1 : 500 < len) (w : World) :
    Calls Try.prog 3 #[.agg #[.slice A len cap, .int .i64 s], .slice B m c, .int .i64 more] w fun e w' => e = .returned (.bool true) ∧ Below w.heap.size w w' := by
  have d1 : decide ((500 : Int) < (len : Int)) = true := by rw [decide_eq_true_iff]; omega
  go_enter Try.func3, Try.ntmps3
  go_wp2_with fail
  refine (shown_below _).mono ?_
  rintro e w1 ⟨rfl, hb⟩
  have HB1 := Lib.hid (below_box hb)
  have V1 := ((VarAt.made w #[.slice A len cap, .int .i64 s] 24).below hb).two
  obtain ⟨hz1, hc0, hc1, hf0, hf1⟩ := V1
  clear hb
  go_wp2_with fail
  go_ret
  exact ⟨rfl, HB1.out⟩

theorem walkLongB (A : Option Addr) (len cap : Nat) (s : Int) (B : Option Addr) (m c : Nat) (more : Int) (l1 : len ≤ 500) (l2 : 500 < m) (w : World) :
    Calls Try.prog 3 #[.agg #[.slice A len cap, .int .i64 s], .slice B m c, .int .i64 more] w fun e w' => e = .returned (.bool true) ∧ Below w.heap.size w w' := by
  have d1 : decide ((500 : Int) < (len : Int)) = false := by rw [decide_eq_false_iff_not]; omega
  have d2 : decide ((500 : Int) < (m : Int)) = true := by rw [decide_eq_true_iff]; omega
  go_enter Try.func3, Try.ntmps3
  go_wp2_with fail
  refine (shown_below _).mono ?_
  rintro e w1 ⟨rfl, hb⟩
  have HB1 := Lib.hid (below_box hb)
  have V1 := ((VarAt.made w #[.slice A len cap, .int .i64 s] 24).below hb).two
  obtain ⟨hz1, hc0, hc1, hf0, hf1⟩ := V1
  clear hb
  go_wp2_with fail
  go_ret
  exact ⟨rfl, HB1.out⟩

theorem walkWrong (A : Option Addr) (len cap : Nat) (s : Int) (B : Option Addr) (m c : Nat) (more : Int) (l1 : len ≤ 500) (l2 : m ≤ 500) (hr : rightB s len = false) (w : World) :
    Calls Try.prog 3 #[.agg #[.slice A len cap, .int .i64 s], .slice B m c, .int .i64 more] w fun e w' => e = .returned (.bool true) ∧ Below w.heap.size w w' := by
  have d1 : decide ((500 : Int) < (len : Int)) = false := by rw [decide_eq_false_iff_not]; omega
  have d2 : decide ((500 : Int) < (m : Int)) = false := by rw [decide_eq_false_iff_not]; omega
  have HRR := fun w => refRight_any A len cap s w
  have HR := fun w => right_any A len cap s w
  rw [hr] at HR HRR
  clear hr
  go_enter Try.func3, Try.ntmps3
  go_wp2_with fail
  refine (shown_below _).mono ?_
  rintro e w1 ⟨rfl, hb⟩
  have HB1 := Lib.hid (below_box hb)
  have V1 := Lib.hid ((VarAt.made w #[.slice A len cap, .int .i64 s] 24).below hb)
  clear hb
  obtain ⟨hz1, hc0, hc1, hf0, hf1⟩ := V1.out.two
  go_wp2_with fail
  (with_reducible refine (HRR _).mono ?_)
  rintro e w2 ⟨rfl, hb⟩
  have HB2 := Lib.hid (HB1.out.trans (hb.mono HB1.out.size))
  have V2 := Lib.hid (V1.out.below hb)
  clear hz1 hc0 hc1 hf0 hf1 hb V1 HB1
  obtain ⟨hz1, hc0, hc1, hf0, hf1⟩ := V2.out.two
  go_wp2_with fail
  (with_reducible refine (HR _).mono ?_)
  rintro e w3 ⟨rfl, hb⟩
  have HB3 := Lib.hid (HB2.out.trans (hb.mono HB2.out.size))
  have V3 := Lib.hid (V2.out.below hb)
  clear hz1 hc0 hc1 hf0 hf1 hb V2 HB2
  obtain ⟨hz1, hc0, hc1, hf0, hf1⟩ := V3.out.two
  go_wp2_with fail
  go_ret
  exact ⟨rfl, HB3.out⟩

set_option maxRecDepth 100000 in
set_option maxHeartbeats 8000000 in
theorem walk (A : Option Addr) (len cap : Nat) (xs : List Nat) (hl : len ≤ cap) (l1 : len ≤ 500) (k : Nat) (hk : k ≤ len) (B : Option Addr) (m c : Nat) (ys : List Nat) (l2 : m ≤ 500) (more : Int) (hi : -9223372036854775808 ≤ more ∧ more < 9223372036854775808) (w : World) (hA : Hid (AtB w A len xs)) (hB : Hid (AtB w B m ys)) :
    Calls Try.prog 3 #[.agg #[.slice A len cap, .int .i64 (k : Int)], .slice B m c, .int .i64 more] w fun e w' => e = .returned (.bool true) ∧ Below w.heap.size w w' := by
  have d1 : decide ((500 : Int) < (len : Int)) = false := by rw [decide_eq_false_iff_not]; omega
  have d2 : decide ((500 : Int) < (m : Int)) = false := by rw [decide_eq_false_iff_not]; omega
  have HRR := fun w => refRight_any A len cap (k : Int) w
  have HR := fun w => right_any A len cap (k : Int) w
  rw [rightB_nat hk] at HR HRR
  have HAPP := fun w hA hB => append_at A len cap xs hl (k : Int) B m c ys (by omega) w hA hB
  have HRAPP := fun w hA hB => refAppend_at A len cap xs (k : Int) B m c ys (by omega) w hA hB
  have HSY := fun w => sync_at A len cap hl (k : Int) w
  have HRSY := fun w => refSync_at A len cap (k : Int) w
  have HCT := fun w => cut_at A len cap hl (by omega) k hk more w
  have HRCT := fun w hA => refCut_at A len cap xs (by omega) k hk more hi.1 hi.2 w hA
  have hj := cutN_le hk more
  generalize cutN k len more = j at *
  obtain ⟨s, hs⟩ : ∃ s : Int, s = (k : Int) := ⟨_, rfl⟩
  clear hk hi s hs
  go_enter Try.func3, Try.ntmps3
  go_wp2_with fail
  refine (shown_below _).mono ?_
  rintro e w1 ⟨rfl, hb⟩
  have HB1 := Lib.hid (below_box hb)
  have HX1 := Lib.hid (AtB.later hA (below_box hb))
  have HY1 := Lib.hid (AtB.later hB (below_box hb))
  clear hA hB
  have V1 := Lib.hid ((VarAt.made w #[.slice A len cap, .int .i64 (k : Int)] 24).below hb)
  clear hb
  obtain ⟨hz1, hc0, hc1, hf0, hf1⟩ := V1.out.two
  go_wp2_with fail
  (with_reducible refine (HRR _).mono ?_)
  rintro e w2 ⟨rfl, hb⟩
  have HB2 := Lib.hid (HB1.out.trans (hb.mono HB1.out.size))
  have V2 := Lib.hid (V1.out.below hb)
  have HX2 := Lib.hid (AtB.later HX1 hb)
  have HY2 := Lib.hid (AtB.later HY1 hb)
  clear HX1 HY1 HRR
  clear hz1 hc0 hc1 hf0 hf1 hb V1 HB1
  obtain ⟨hz1, hc0, hc1, hf0, hf1⟩ := V2.out.two
  go_wp2_with fail
  (with_reducible refine (HR _).mono ?_)
  rintro e w3 ⟨rfl, hb⟩
  have HB3 := Lib.hid (HB2.out.trans (hb.mono HB2.out.size))
  have V3 := Lib.hid (V2.out.below hb)
  have HX3 := Lib.hid (AtB.later HX2 hb)
  have HY3 := Lib.hid (AtB.later HY2 hb)
  have HZ3 := Lib.hid (HX3.out.ahead j hj)
  clear HX2 HY2 HR
  clear hz1 hc0 hc1 hf0 hf1 hb V2 HB2
  have hC0 : ∀ w', Below w3.heap.size w3 w' → w'.cell? ⟨w.heap.size, 0, none⟩ = some (.slice A len cap) := fun w' hb => (V3.out.below hb).two.2.1
  have hC1 : ∀ w', Below w3.heap.size w3 w' → w'.cell? ⟨w.heap.size, 1, none⟩ = some (.int .i64 (k : Int)) := fun w' hb => (V3.out.below hb).two.2.2.1
  have hB0 : Below w3.heap.size w3 w3 := Below.refl _ _
  generalize hzs : xs.take j = zs at *
  clear hzs hj
  go_wp2_with fail
  go_region_held3 (fun w' => Below w3.heap.size w3 w') (first | assumption | (exact Below.drew (by assumption)) | (exact Below.drew (Below.refl _ _)))
    (first
      | (go_at_call 12; (with_reducible refine (HAPP _ (Lib.hid (AtB.below HX3.out (by first | assumption | (exact Below.drew (Below.refl _ _)) | (exact Below.drew (by assumption))) (Nat.le_refl _))) (Lib.hid (AtB.below HY3.out (by first | assumption | (exact Below.drew (Below.refl _ _)) | (exact Below.drew (by assumption))) (Nat.le_refl _)))).mono ?_); rintro e w4 ⟨A4, c4, rfl, hc4, hat4, hbw4⟩; have hBw4 : Below w3.heap.size w3 w4 := below_step hbw4 (by first | assumption | (exact Below.drew (Below.refl _ _)) | (exact Below.drew (by assumption))); (try (have HRPn := AtB.on HRP rfl hbw4; clear HRP; have HRP := HRPn; clear HRPn)); have HAP := Lib.hid hat4; clear hat4; clear hbw4)
      | (go_at_call 13; (with_reducible refine (HRAPP _ (Lib.hid (AtB.below HX3.out (by first | assumption | (exact Below.drew (Below.refl _ _)) | (exact Below.drew (by assumption))) (Nat.le_refl _))) (Lib.hid (AtB.below HY3.out (by first | assumption | (exact Below.drew (Below.refl _ _)) | (exact Below.drew (by assumption))) (Nat.le_refl _)))).mono ?_); rintro e w5 ⟨A5, c5, rfl, hc5, hat5, hbw5⟩; have hBw5 : Below w3.heap.size w3 w5 := below_step hbw5 (by first | assumption | (exact Below.drew (Below.refl _ _)) | (exact Below.drew (by assumption))); (try (have HAPn := AtB.on HAP rfl hbw5; clear HAP; have HAP := HAPn; clear HAPn)); have HRP := Lib.hid hat5; clear hat5; clear hbw5)
      | (go_at_call 11; (with_reducible refine (same_at A4 A5 (len + m) c4 c5 (xs ++ ys) (k : Int) _ (AtB.hidD HAP rfl) (AtB.hidD HRP rfl)).mono ?_); rintro e w6 ⟨rfl, hbw6⟩; have hBw6 : Below w3.heap.size w3 w6 := below_step hbw6 (by first | assumption | (exact Below.drew (Below.refl _ _)) | (exact Below.drew (by assumption))); skip; clear hbw6)
      | (go_at_call 14; (with_reducible refine (HSY _).mono ?_); rintro e w7 ⟨rfl, hbw7⟩; have hBw7 : Below w3.heap.size w3 w7 := below_step hbw7 (by first | assumption | (exact Below.drew (Below.refl _ _)) | (exact Below.drew (by assumption))); skip; clear hbw7)
      | (go_at_call 15; (with_reducible refine (HRSY _).mono ?_); rintro e w8 ⟨rfl, hbw8⟩; have hBw8 : Below w3.heap.size w3 w8 := below_step hbw8 (by first | assumption | (exact Below.drew (Below.refl _ _)) | (exact Below.drew (by assumption))); skip; clear hbw8)
      | (go_at_call 11; (with_reducible refine (same_at A A len len cap xs (len : Int) _ (Lib.hid (AtB.below HX3.out (by first | assumption | (exact Below.drew (Below.refl _ _)) | (exact Below.drew (by assumption))) (Nat.le_refl _))) (Lib.hid (AtB.below HX3.out (by first | assumption | (exact Below.drew (Below.refl _ _)) | (exact Below.drew (by assumption))) (Nat.le_refl _)))).mono ?_); rintro e w9 ⟨rfl, hbw9⟩; have hBw9 : Below w3.heap.size w3 w9 := below_step hbw9 (by first | assumption | (exact Below.drew (Below.refl _ _)) | (exact Below.drew (by assumption))); skip; clear hbw9)
      | (go_at_call 16; (with_reducible refine (HCT _).mono ?_); rintro e w10 ⟨rfl, hbw10⟩; have hBw10 : Below w3.heap.size w3 w10 := below_step hbw10 (by first | assumption | (exact Below.drew (Below.refl _ _)) | (exact Below.drew (by assumption))); (try (have HRCn := AtB.on HRC rfl hbw10; clear HRC; have HRC := HRCn; clear HRCn)); skip; clear hbw10)
      | (go_at_call 17; (with_reducible refine (HRCT _ (Lib.hid (AtB.below HX3.out (by first | assumption | (exact Below.drew (Below.refl _ _)) | (exact Below.drew (by assumption))) (Nat.le_refl _)))).mono ?_); rintro e w11 ⟨A11, c11, rfl, hc11, hat11, hbw11⟩; have hBw11 : Below w3.heap.size w3 w11 := below_step hbw11 (by first | assumption | (exact Below.drew (Below.refl _ _)) | (exact Below.drew (by assumption))); have HRC := Lib.hid hat11; clear hat11; clear hbw11)
      | (go_at_call 11; (with_reducible refine (same_at A A11 j j c11 zs (j : Int) _ (Lib.hid (AtB.below HZ3.out (by first | assumption | (exact Below.drew (Below.refl _ _)) | (exact Below.drew (by assumption))) (Nat.le_refl _))) (AtB.hidD HRC rfl)).mono ?_); rintro e w12 ⟨rfl, hbw12⟩; have hBw12 : Below w3.heap.size w3 w12 := below_step hbw12 (by first | assumption | (exact Below.drew (Below.refl _ _)) | (exact Below.drew (by assumption))); skip; clear hbw12))
  all_goals
    go_wp2_with fail
    go_ret
    exact ⟨rfl, HB3.out.trans (Below.mono (by assumption) HB3.out.size)⟩

set_option maxRecDepth 100000 in
theorem lifted (os : Os) (started : os.Started) (H : Type) (enc : TypeId × Value → H) :
    ReturnsInHanded {} Try.checked os 3 .any (Rows.streamTellsSpec.pre6 enc Try.prog Try.f3 Rows.streamTellsRow.domain false) (Rows.streamTellsSpec.post enc Try.prog Try.f3 false true false false) := by
  refine law_lifted (C := Try.checked) own started (by kernel_rfl) Try.func3
    (ChangeSpec.witness6 (enc := enc) (C := Try.checked) false ⟨#[], #[.agg #[.slice none 0 0, .int .i64 0], .slice none 0 0, .int .i64 0], []⟩ 8 (by kernel_rfl) (by kernel_rfl) (by kernel_rfl) (by kernel_rfl))
    (by kernel_rfl) (by kernel_rfl) Try.underlying4 rfl (by kernel_rfl) ?_
  intro W base args ds before hval hA _ hlt
  have hA' : DataW.TrodAll enc Try.prog W 0 (fun _ => true) true Try.f3.params.toList args.toList ds before := hA
  have hval' : ∀ (j : Nat) t v, Try.f3.params[j]? = some t → args[j]? = some v → Value.okWide Try.prog W .any base t v := hval
  rw [Try.params3] at hA' hval'
  obtain ⟨v0, vs0, d0, ds0, p0, q0, hargs, rfl, rfl, h0, r0⟩ := trodAll_cons hA'
  obtain ⟨v1, vs1, d1, ds1, p1, q1, rfl, rfl, rfl, h1, r1⟩ := trodAll_cons r0
  obtain ⟨v2, vs2, d2, ds2, p2, q2, rfl, rfl, rfl, h2, r2⟩ := trodAll_cons r1
  obtain ⟨rfl, rfl, rfl⟩ := trodAll_nil r2
  obtain rfl : args = #[v0, v1, v2] := by cases args; simp_all
  obtain ⟨As, lens, caps, s, Ss, rfl, hcs, hats, hbs⟩ := open_stm (hval' 0 24 v0 rfl rfl) h0 (fun x hx => hlt x (by simp [hx]))
  obtain ⟨Ab, lenb, capb, b, rfl, hcb, hatb⟩ := open_at2 (hval' 1 22 v1 rfl rfl) h1 (fun x hx => hlt x (by simp [hx]))
  obtain ⟨more, rfl, _, rfl, w2⟩ := open_int Try.underlying3 (hval' 2 3 v2 rfl rfl) h2
  have b2 := wf_i64 w2
  refine ⟨rfl, ?_⟩
  by_cases h : 500 < lens
  · exact walkLong As lens caps Ss Ab lenb capb more h W
  · by_cases h2 : 500 < lenb
    · exact walkLongB As lens caps Ss Ab lenb capb more (by omega) h2 W
    · by_cases hr : rightB Ss lens = true
      · obtain ⟨k, rfl, hk⟩ := rightB_iff hr
        exact walk As lens caps s hcs (by omega) k hk Ab lenb capb b (by omega) more (by assumption) W (Lib.hid hats) (Lib.hid hatb)
      · exact walkWrong As lens caps Ss Ab lenb capb more (by omega) (by omega) (by simpa using hr) W

theorem over : Rows.streamTellsRow.holds Try.pinned (OpenSpec.ofChange Rows.streamTellsSpec) :=
  OpenClaim.holds_of_wide 3 Try.f3 rfl rfl rfl rfl rfl rfl rfl ⟨rfl, rfl, rfl, rfl, rfl⟩ rfl rfl rfl rfl rfl (by kernel_rfl) Try.func3 (by kernel_rfl)
    (of_decide_eq_true (by kernel_rfl)) (by unfold Func.isWrapper; first | (rw [if_pos (by decide +kernel)]; kernel_rfl) | (rw [if_neg (by decide +kernel)]; exact ⟨rfl, rfl⟩))
    (fun os started H enc _ => lifted os started H enc)

/-- The statement. -/
theorem proved : Rows.StreamTellsSaid :=
  over
#print axioms proved
end Go.Proofs.Ytocnndpfpplleaa.streamTells
