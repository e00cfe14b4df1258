/-
  StreamOld: two streams that are gone on with from one are apart: neither turns the other, nor the one; for every stream and every two rows of bytes (of up to 300). No condition.
-/
import Derived.Test.YtocnndpfpplleaaStrmShown
import Derived.Test.YtocnndpfpplleaaStrmOpen
import Derived.Test.YtocnndpfpplleaaStrmText
import Derived.Test.YtocnndpfpplleaaLaw
namespace Go.Proofs.Ytocnndpfpplleaa.streamOld
open Go.ChangeShapes Go.WideShapes Go.ChangeAt Go.RowKit
set_option linter.unusedVariables false
theorem own : ownKnob Try.prog.godebug = none := by kernel_rfl

theorem walkLong (A : Option Addr) (len cap : Nat) (s : Int) (B : Option Addr) (m c : Nat) (C : Option Addr) (n d : Nat) (l1 : 300 < len) (w : World) :
    Calls Try.prog 5 #[.agg #[.slice A len cap, .int .i64 s], .slice B m c, .slice C n d] w fun e w' => e = .returned (.bool true) ∧ Below w.heap.size w w' := by
  have d1 : decide ((300 : Int) < (len : Int)) = true := by rw [decide_eq_true_iff]; omega
  go_enter Try.func5, Try.ntmps5
  go_wp2_with fail
  refine (shown_below _).mono ?_
  rintro e w1 ⟨rfl, hb⟩
  have HB1 := Lib.hid (below_box hb)
  have V1 := Lib.hid ((VarAt.made w #[.slice A len cap, .int .i64 s] 24).below hb)
  clear hb
  obtain ⟨hz1, hc0, hc1, hf0, hf1⟩ := V1.out.two
  go_wp2_with fail
  go_ret
  exact ⟨rfl, HB1.out⟩

theorem walkLongA (A : Option Addr) (len cap : Nat) (s : Int) (B : Option Addr) (m c : Nat) (C : Option Addr) (n d : Nat) (l1 : len ≤ 300) (l2 : 300 < m) (w : World) :
    Calls Try.prog 5 #[.agg #[.slice A len cap, .int .i64 s], .slice B m c, .slice C n d] w fun e w' => e = .returned (.bool true) ∧ Below w.heap.size w w' := by
  have d1 : decide ((300 : Int) < (len : Int)) = false := by rw [decide_eq_false_iff_not]; omega
  have d2 : decide ((300 : Int) < (m : Int)) = true := by rw [decide_eq_true_iff]; omega
  go_enter Try.func5, Try.ntmps5
  go_wp2_with fail
  refine (shown_below _).mono ?_
  rintro e w1 ⟨rfl, hb⟩
  have HB1 := Lib.hid (below_box hb)
  have V1 := Lib.hid ((VarAt.made w #[.slice A len cap, .int .i64 s] 24).below hb)
  clear hb
  obtain ⟨hz1, hc0, hc1, hf0, hf1⟩ := V1.out.two
  go_wp2_with fail
  go_ret
  exact ⟨rfl, HB1.out⟩

theorem walkLongB (A : Option Addr) (len cap : Nat) (s : Int) (B : Option Addr) (m c : Nat) (C : Option Addr) (n d : Nat) (l1 : len ≤ 300) (l2 : m ≤ 300) (l3 : 300 < n) (w : World) :
    Calls Try.prog 5 #[.agg #[.slice A len cap, .int .i64 s], .slice B m c, .slice C n d] w fun e w' => e = .returned (.bool true) ∧ Below w.heap.size w w' := by
  have d1 : decide ((300 : Int) < (len : Int)) = false := by rw [decide_eq_false_iff_not]; omega
  have d2 : decide ((300 : Int) < (m : Int)) = false := by rw [decide_eq_false_iff_not]; omega
  have d3 : decide ((300 : Int) < (n : Int)) = true := by rw [decide_eq_true_iff]; omega
  go_enter Try.func5, Try.ntmps5
  go_wp2_with fail
  refine (shown_below _).mono ?_
  rintro e w1 ⟨rfl, hb⟩
  have HB1 := Lib.hid (below_box hb)
  have V1 := Lib.hid ((VarAt.made w #[.slice A len cap, .int .i64 s] 24).below hb)
  clear hb
  obtain ⟨hz1, hc0, hc1, hf0, hf1⟩ := V1.out.two
  go_wp2_with fail
  go_ret
  exact ⟨rfl, HB1.out⟩

theorem walkWrong (A : Option Addr) (len cap : Nat) (s : Int) (B : Option Addr) (m c : Nat) (C : Option Addr) (n d : Nat) (l1 : len ≤ 300) (l2 : m ≤ 300) (l3 : n ≤ 300) (hr : rightB s len = false) (w : World) :
    Calls Try.prog 5 #[.agg #[.slice A len cap, .int .i64 s], .slice B m c, .slice C n d] w fun e w' => e = .returned (.bool true) ∧ Below w.heap.size w w' := by
  have d1 : decide ((300 : Int) < (len : Int)) = false := by rw [decide_eq_false_iff_not]; omega
  have d2 : decide ((300 : Int) < (m : Int)) = false := by rw [decide_eq_false_iff_not]; omega
  have d3 : decide ((300 : Int) < (n : Int)) = false := by rw [decide_eq_false_iff_not]; omega
  have HRR := fun w => refRight_any A len cap s w
  rw [hr] at HRR
  clear hr
  go_enter Try.func5, Try.ntmps5
  go_wp2_with fail
  refine (shown_below _).mono ?_
  rintro e w1 ⟨rfl, hb⟩
  have HB1 := Lib.hid (below_box hb)
  have V1 := Lib.hid ((VarAt.made w #[.slice A len cap, .int .i64 s] 24).below hb)
  clear hb
  obtain ⟨hz1, hc0, hc1, hf0, hf1⟩ := V1.out.two
  go_wp2_with (go_at_call 9; (with_reducible refine (HRR _).mono ?_); rintro e w2 ⟨rfl, hb⟩; have HB2 := Lib.hid (HB1.out.trans (hb.mono HB1.out.size)); clear hb)
  go_ret
  exact ⟨rfl, HB2.out⟩

set_option maxRecDepth 100000 in
set_option maxHeartbeats 8000000 in
theorem walk (A : Option Addr) (len cap : Nat) (xs : List Nat) (hl : len ≤ cap) (l1 : len ≤ 300) (q : Nat) (hq : q ≤ len) (B : Option Addr) (m c : Nat) (ys : List Nat) (l2 : m ≤ 300) (C : Option Addr) (n d : Nat) (zs : List Nat) (l3 : n ≤ 300) (w : World)
    (hA : Hid (AtB w A len xs)) (hB : Hid (AtB w B m ys)) (hC : Hid (AtB w C n zs)) :
    Calls Try.prog 5 #[.agg #[.slice A len cap, .int .i64 (q : Int)], .slice B m c, .slice C n d] w fun e w' => e = .returned (.bool true) ∧ Below w.heap.size w w' := by
  have d1 : decide ((300 : Int) < (len : Int)) = false := by rw [decide_eq_false_iff_not]; omega
  have d2 : decide ((300 : Int) < (m : Int)) = false := by rw [decide_eq_false_iff_not]; omega
  have d3 : decide ((300 : Int) < (n : Int)) = false := by rw [decide_eq_false_iff_not]; omega
  have HRR := fun w => refRight_any A len cap (q : Int) w
  rw [rightB_nat hq] at HRR
  have HAPP := fun w hA hB => append_at A len cap xs hl (q : Int) B m c ys (by omega) w hA hB
  have HAPP2 := fun w hA hB => append_at A len cap xs hl (q : Int) C n d zs (by omega) w hA hB
  have Z1 : (strN xs).size = len := by rw [strN_size, hA.out.1]
  have Z2 : (strN ys).size = m := by rw [strN_size, hB.out.1]
  have Z3 : (strN zs).size = n := by rw [strN_size, hC.out.1]
  go_enter Try.func5, Try.ntmps5
  go_wp2_with fail
  refine (shown_below _).mono ?_
  rintro e w1 ⟨rfl, hb⟩
  have HB1 := Lib.hid (below_box hb)
  have V1 := Lib.hid ((VarAt.made w #[.slice A len cap, .int .i64 (q : Int)] 24).below hb)
  have HX1 := Lib.hid (AtB.later hA (below_box hb))
  have HY1 := Lib.hid (AtB.later hB (below_box hb))
  have HZ1 := Lib.hid (AtB.later hC (below_box hb))
  clear hb hA hB hC
  obtain ⟨hz1, hc0, hc1, hf0, hf1⟩ := V1.out.two
  go_wp2_with (go_at_call 9; (with_reducible refine (HRR _).mono ?_); rintro e w2 ⟨rfl, hb⟩; have HB2 := Lib.hid (HB1.out.trans (hb.mono HB1.out.size)); have HX2 := Lib.hid (AtB.later HX1 hb); have HY2 := Lib.hid (AtB.later HY1 hb); have HZ2 := Lib.hid (AtB.later HZ1 hb); have V2 := Lib.hid (V1.out.below hb); have t0 := run_str HX2.out cap; clear hb; clear hz1 hc0 hc1 hf0 hf1 HB1 HX1 HY1 HZ1 V1; obtain ⟨hz1, hc0, hc1, hf0, hf1⟩ := V2.out.two)
  clear t0
  (refine (HAPP _ HX2 HY2).mono ?_)
  rintro e w3 ⟨A3, c3, rfl, hc3, hat3, hb⟩
  have hba : Below w2.heap.size w2 (w3.alloc (.cells #[.slice A3 (len + m) c3, .int .i64 (q : Int)] 24)) := hb.alloc hb.size _
  have hbz : Below w3.heap.size w3 (w3.alloc (.cells #[.slice A3 (len + m) c3, .int .i64 (q : Int)] 24)) := below_al (Below.refl _ _)
  have HB3 := Lib.hid (HB2.out.trans (hba.mono HB2.out.size))
  have HX3 := Lib.hid (AtB.later HX2 hba)
  have HY3 := Lib.hid (AtB.later HY2 hba)
  have HZ3 := Lib.hid (AtB.later HZ2 hba)
  have HP3 := Lib.hid (AtB.later (Lib.hid hat3) hbz)
  have V3 := Lib.hid (V2.out.below hba)
  have X3 := Lib.hid (VarAt.made w3 #[.slice A3 (len + m) c3, .int .i64 (q : Int)] 24)
  clear hb hba hbz HB2 HX2 HY2 HZ2 V2 hz1 hc0 hc1 hf0 hf1 hat3
  obtain ⟨hz1, hc0, hc1, hf0, hf1⟩ := V3.out.two
  go_wp2_with fail
  (refine (HAPP2 _ HX3 HZ3).mono ?_)
  rintro e w5 ⟨A5, c5, rfl, hc5, hat5, hb⟩
  obtain ⟨w7, hw7⟩ : ∃ w7, w5.alloc (.cells #[.slice A5 (len + n) c5, .int .i64 (q : Int)] 24) = w7 := ⟨_, rfl⟩
  have hba : Below (w3.alloc (.cells #[.slice A3 (len + m) c3, .int .i64 (q : Int)] 24)).heap.size (w3.alloc (.cells #[.slice A3 (len + m) c3, .int .i64 (q : Int)] 24)) w7 := by rw [← hw7]; exact hb.alloc hb.size _
  have hbz : Below w5.heap.size w5 w7 := by rw [← hw7]; exact below_al (Below.refl _ _)
  have HB7 := Lib.hid (HB3.out.trans (hba.mono HB3.out.size))
  have V7 := (V3.out.below hba).two
  have X7 := (X3.out.below hba).two
  have Y7 : VarAt w7 w5.heap.size [.slice A5 (len + n) c5, .int .i64 (q : Int)] := by rw [← hw7]; exact VarAt.made w5 #[.slice A5 (len + n) c5, .int .i64 (q : Int)] 24
  have s1 := run_str (AtB.later HX3 hba) cap
  have s2 := run_str (AtB.later HY3 hba) c
  have s3 := run_str (AtB.later HZ3 hba) d
  have s4 := run_str (AtB.later HP3 hba) c3
  have s5 := run_str (AtB.later (Lib.hid hat5) hbz) c5
  rw [strN_app] at s4 s5
  generalize strN xs = U at *
  generalize strN ys = V at *
  generalize strN zs = W at *
  clear hb hba hbz HB3 HX3 HY3 HZ3 HP3 V3 X3 hz1 hc0 hc1 hf0 hf1 hat5
  obtain ⟨hz1, hc0, hc1, hf0, hf1⟩ := V7
  obtain ⟨hx1, hd0, hd1, hg0, hg1⟩ := X7
  obtain ⟨hy1, he0, he1, hh0, hh1⟩ := Y7.two
  clear Y7
  go_wp2_with fail
  go_ret
  exact ⟨rfl, HB7.out⟩

set_option maxRecDepth 100000 in
theorem lifted (os : Os) (started : os.Started) (H : Type) (enc : TypeId × Value → H) :
    ReturnsInHanded {} Try.checked os 5 .any (Rows.streamOldSpec.pre6 enc Try.prog Try.f5 Rows.streamOldRow.domain false) (Rows.streamOldSpec.post enc Try.prog Try.f5 false true false false) := by
  refine law_lifted (C := Try.checked) own started (by kernel_rfl) Try.func5
    (ChangeSpec.witness6 (enc := enc) (C := Try.checked) false ⟨#[], #[.agg #[.slice none 0 0, .int .i64 0], .slice none 0 0, .slice none 0 0], []⟩ 8 (by kernel_rfl) (by kernel_rfl) (by kernel_rfl) (by kernel_rfl))
    (by kernel_rfl) (by kernel_rfl) Try.underlying4 rfl (by kernel_rfl) ?_
  intro W base args ds before hval hA _ hlt
  have hA' : DataW.TrodAll enc Try.prog W 0 (fun _ => true) true Try.f5.params.toList args.toList ds before := hA
  have hval' : ∀ (j : Nat) t v, Try.f5.params[j]? = some t → args[j]? = some v → Value.okWide Try.prog W .any base t v := hval
  rw [Try.params5] at hA' hval'
  obtain ⟨v0, vs0, d0, ds0, p0, q0, hargs, rfl, rfl, h0, r0⟩ := trodAll_cons hA'
  obtain ⟨v1, vs1, d1, ds1, p1, q1, rfl, rfl, rfl, h1, r1⟩ := trodAll_cons r0
  obtain ⟨v2, vs2, d2, ds2, p2, q2, rfl, rfl, rfl, h2, r2⟩ := trodAll_cons r1
  obtain ⟨rfl, rfl, rfl⟩ := trodAll_nil r2
  obtain rfl : args = #[v0, v1, v2] := by cases args; simp_all
  obtain ⟨As, lens, caps, s, Ss, rfl, hcs, hats, hbs⟩ := open_stm (hval' 0 24 v0 rfl rfl) h0 (fun x hx => hlt x (by simp [hx]))
  obtain ⟨Aa, lena, capa, a, rfl, hca, hata⟩ := open_at2 (hval' 1 22 v1 rfl rfl) h1 (fun x hx => hlt x (by simp [hx]))
  obtain ⟨Ab, lenb, capb, b, rfl, hcb, hatb⟩ := open_at2 (hval' 2 22 v2 rfl rfl) h2 (fun x hx => hlt x (by simp [hx]))
  refine ⟨rfl, ?_⟩
  by_cases h : 300 < lens
  · exact walkLong As lens caps Ss Aa lena capa Ab lenb capb h W
  · by_cases h2 : 300 < lena
    · exact walkLongA As lens caps Ss Aa lena capa Ab lenb capb (by omega) h2 W
    · by_cases h3 : 300 < lenb
      · exact walkLongB As lens caps Ss Aa lena capa Ab lenb capb (by omega) (by omega) h3 W
      · by_cases hr : rightB Ss lens = true
        · obtain ⟨q, rfl, hq⟩ := rightB_iff hr
          exact walk As lens caps s hcs (by omega) q hq Aa lena capa a (by omega) Ab lenb capb b (by omega) W (Lib.hid hats) (Lib.hid hata) (Lib.hid hatb)
        · exact walkWrong As lens caps Ss Aa lena capa Ab lenb capb (by omega) (by omega) (by omega) (by simpa using hr) W

theorem over : Rows.streamOldRow.holds Try.pinned (OpenSpec.ofChange Rows.streamOldSpec) :=
  OpenClaim.holds_of_wide 5 Try.f5 rfl rfl rfl rfl rfl rfl rfl ⟨rfl, rfl, rfl, rfl, rfl⟩ rfl rfl rfl rfl rfl (by kernel_rfl) Try.func5 (by kernel_rfl)
    (of_decide_eq_true (by kernel_rfl)) (by unfold Func.isWrapper; first | (rw [if_pos (by decide +kernel)]; kernel_rfl) | (rw [if_neg (by decide +kernel)]; exact ⟨rfl, rfl⟩))
    (fun os started H enc _ => lifted os started H enc)

/-- The statement. -/
theorem proved : Rows.StreamOldSaid :=
  over
#print axioms proved
end Go.Proofs.Ytocnndpfpplleaa.streamOld
