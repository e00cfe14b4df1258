/-
  The contracts of play.Line's program, and of play.Line: what a row of accesses asks next, or answers.
-/
import Derived.Test.YtjbhichgojjakaaPlyLine
namespace Go.Proofs.Ytjbhichgojjakaa
open Go.ChangeShapes Go.WideShapes Go.ChangeAt Go.RowKit Go.BigFrame
set_option linter.unusedVariables false
set_option maxRecDepth 100000

theorem field_n (a b c : Value) (W : World) : (Instr.field 39 (.agg #[a, b, c]) 0).run Try.prog W = .ok a W := by kernel_rfl
/-- The sum of the first numbers that a log tells. -/
def sumR (log : List Res) : Nat → Nat
  | 0 => 0
  | k + 1 => (sumR log k + (log.getD k Res.zero).n) % 18446744073709551616
theorem sumR_lt (log : List Res) (k : Nat) : sumR log k < 18446744073709551616 := by
  cases k with
  | zero => show (0 : Nat) < 18446744073709551616; decide
  | succ k => exact Nat.mod_lt _ (by decide)
/-- Behind j rounds: the log's rest lies in the tape; the sum in the variable. -/
structure RunL (w0 w : World) (g n j : Nat) (log : List Res) (N : Int) (x : World) : Prop where
  below : Below w0.heap.size w0 x
  but : But g w x
  tape : ∃ A cap, VarAt x g (tapeV A (n - j) cap true false (.int .i64 0) (.int .i64 0) (.int .u64 0) (.int .u64 0) (.slice none 0 0) (.slice none 0 0)) ∧ LogAt w0 A (n - j) (log.drop j) ∧ n - j ≤ cap
  out : VarAt x (w.heap.size + 1) [.int .i64 0, .bool false, .int .i64 N, .int .u64 (sumR log j : Int), .slice none 0 0]
  res : VarAt x w.heap.size [.int .i64 0, .bool false, .int .i64 0, .int .u64 0, .slice none 0 0]

set_option maxRecDepth 100000 in
set_option maxHeartbeats 4000000 in
theorem line1_yes (L : Option Addr) (ln lc : Nat) (l : List Acc) (A : Option Addr) (n cap : Nat) (log : List Res) (lb g : Nat) (hln : ln ≤ n) (hm : ∀ x ∈ l, x.m ≤ 1000000) (w0 w : World) (hl : Hid (VarAt w lb [.slice L ln lc])) (hL : Hid (AccsAt w0 L ln l)) (hA : Hid (LogAt w0 A n log)) (hc : n ≤ cap)
    (hT : Hid (VarAt w g (tapeV A n cap true false (.int .i64 0) (.int .i64 0) (.int .u64 0) (.int .u64 0) (.slice none 0 0) (.slice none 0 0)))) (h0 : Hid (Below w0.heap.size w0 w)) (hg : w0.heap.size ≤ g) (hlg : lb ≠ g) :
    Calls Try.prog 37 #[.func (.func 72) #[.pointer (some ⟨g, 0, none⟩)] #[], .pointer (some ⟨lb, 0, none⟩)] w (ProgYes g false (ln : Int) (sumR log ln : Int) false (.int .i64 0) (.int .i64 0) (.int .u64 0) (.int .u64 0) (.slice none 0 0) (.slice none 0 0) w) := by
  have HM := Lib.hid hm
  have HG := Lib.hid hg
  have HLN := Lib.hid hln
  have HGW := Lib.hid hT.out.1
  have hlb := hl.out.1
  have hlc := hl.out.2.1 0 _ rfl
  have hgw := hT.out.1
  have hll : ln ≤ 140737488355328 := hL.out.2.1
  have k1 : ¬ (lb = w.heap.size) := by omega
  have k2 : lb < w.heap.size + 1 := by omega
  have k3 : lb < w.heap.size + 1 + 1 := by omega
  have k4 : ¬ (lb = w.heap.size + 1) := by omega
  have HC := Lib.hid hc
  clear hm hg hln hlg hgw hc
  go_enter Try.func37, Try.ntmps37
  go_upto_region 3 with fail
  have hgw2 := HGW.out
  refine gen_w (P := fun W => Code.wp _ _ _ _ W) (fun y => RunL w0 w g n 0 log (ln : Int) y) ⟨h0.out.trans (Below.mono (B := w.heap.size) (by repeat (first | with_reducible assumption | with_reducible exact Below.refl _ _ | with_reducible refine Below.drew ?_ | with_reducible refine below_al ?_ | (with_reducible refine below_set1 (by omega) _ ?_))) h0.out.size), (by repeat (first | with_reducible assumption | with_reducible exact But.refl _ _ | with_reducible refine But.drew ?_ | (with_reducible refine But.alloc ?_ _ (by omega)) | (with_reducible refine But.set ?_ _ _) | (with_reducible refine But.new ?_ _ _ _ (by omega) (by omega)))), ⟨A, cap, VarAt.below hT.out (by repeat (first | with_reducible assumption | with_reducible exact Below.refl _ _ | with_reducible refine Below.drew ?_ | with_reducible refine below_al ?_ | (with_reducible refine below_set1 (by omega) _ ?_))), hA.out, HC.out⟩, VarAt.mk5 (by simp) (by go_simp) (by go_simp) (by go_simp) (by go_simp; rfl) (by go_simp) (by go_simp) (by go_simp) (by go_simp) (by go_simp) (by go_simp), VarAt.mk5 (by simp; omega) (by go_simp) (by go_simp) (by go_simp) (by go_simp) (by go_simp) (by go_simp) (by go_simp) (by go_simp) (by go_simp) (by go_simp)⟩ ?_
  clear hgw2
  intro y RUN0
  have RUN := Lib.hid RUN0
  clear RUN0
  go_loopw [12] (fun u12 wr => ∃ j : Nat, j ≤ ln ∧ j ≤ n ∧ u12 = .int .i64 (j : Int) ∧ RunL w0 w g n j log (ln : Int) wr) (fun i _ => ln - (intOf i).toNat)
  case atStart => exact ⟨0, Nat.zero_le _, Nat.zero_le _, rfl, RUN.out⟩
  case round =>
    obtain ⟨j, hj1, hj2, rfl, hrun⟩ := hrel
    have HR := Lib.hid hrun
    clear hrun
    by_cases hlt : j < ln
    · have i1 : (0 : Int) ≤ (j : Int) := by omega
      have i2 : (j : Int) < (ln : Int) := by omega
      have i3 : (0 : Int) ≤ (j : Int) ∧ (j : Int) < (ln : Int) := ⟨i1, i2⟩
      have d1 : decide ((j : Int) < (ln : Int)) = true := by rw [decide_eq_true_iff]; omega
      obtain ⟨x, hx⟩ : ∃ x, l[j]? = some x := ⟨_, List.getElem?_eq_getElem (show j < l.length by have := hL.out.1; omega)⟩
      obtain ⟨bl, ol, D, dc, E, ec, rfl, hbl, hcl0, hxp⟩ := hL.out.at_ j x hx
      have hcl := hcl0.below HR.out.below hbl
      have hblr := Nat.lt_of_lt_of_le hbl HR.out.below.size
      have hxm := HM.out x (List.mem_of_getElem? hx)
      have HXP := Lib.hid hxp
      have HX := Lib.hid hx
      obtain ⟨e0, e1, e2, e3, e4, e5⟩ := hcl
      clear hcl0 hxp hx
      go_upto_region 5 with fail
      refine gen_w (P := fun W => Code.wp _ _ _ _ W) (fun z => Below wr.heap.size wr z ∧ z.heap.size = wr.heap.size + 1 ∧ VarAt z wr.heap.size (accA x D dc E ec)) ⟨(by repeat (first | with_reducible assumption | with_reducible exact Below.refl _ _ | with_reducible refine Below.drew ?_ | with_reducible refine below_al ?_ | (with_reducible refine below_set1 (by omega) _ ?_))), by simp, VarAt.mk6 (by simp) (by go_simp) (by go_simp) (by go_simp) (by go_simp) (by go_simp) (by go_simp) (by go_simp) (by go_simp) (by go_simp) (by go_simp) (by go_simp) (by go_simp)⟩ ?_
      rintro z ⟨k0, k1', k2'⟩
      have K0 := Lib.hid k0
      have K1 := Lib.hid k1'
      have K2 := Lib.hid k2'
      have HZ0 : Hid (Below w0.heap.size w0 z.drew) := Lib.hid ((HR.out.below.trans (k0.mono HR.out.below.size)).drew)
      obtain ⟨A3, cap3, hT3, hL3, hc3⟩ := HR.out.tape
      have HT3 : Hid (VarAt z.drew g _) := Lib.hid ((hT3.below k0).drewN 1)
      have HL3 := Lib.hid hL3
      have HO3 := Lib.hid (HR.out.out.below k0)
      obtain ⟨_, ⟨o0, o1, o2, o3, o4⟩, p0, p1, p2, p3, p4⟩ := HO3.out.five
      obtain ⟨_, ⟨a0, a1, a2, a3, a4, a5⟩, _⟩ := k2'.six
      clear hT3 hL3 k0 k1' k2' e0 e1 e2 e3 e4 e5
      have hjn : j < n := by have := HLN.out; omega
      obtain ⟨r, rest, hrr, hdr⟩ : ∃ r rest, log.getD j Res.zero = r ∧ log.drop j = r :: rest := by
        have hjl : j < log.length := by have := hA.out.1; omega
        exact ⟨_, _, rfl, by rw [List.getD_eq_getElem?_getD, List.getElem?_eq_getElem hjl]; exact List.drop_eq_getElem_cons hjl⟩
      have hdr1 : log.drop (j + 1) = rest := by rw [← List.drop_drop, hdr]; rfl
      rw [hdr] at HL3
      have HD1 := Lib.hid hdr1
      have hnm : n - j = (n - (j + 1)) + 1 := by omega
      have hsl := sumR_lt log j
      have hs : IntKind.u64.wrap ((sumR log j : Int) + (r.n : Int)) = (sumR log (j + 1) : Int) := by
        rw [IntKind.wrap_u64]
        show _ = (((sumR log j + (log.getD j Res.zero).n) % 18446744073709551616 : Nat) : Int)
        rw [hrr]
        omega
      obtain ⟨s1, hs1⟩ : ∃ s, sumR log (j + 1) = s := ⟨_, rfl⟩
      rw [hs1] at hs
      have HS1 := Lib.hid hs1
      have HDO := fun (w : World) => do_told g A3 (n - j) (n - (j + 1)) cap3 hnm r rest true false (.int .i64 0) (.int .i64 0) (.int .u64 0) (.int .u64 0) (.slice none 0 0) (.slice none 0 0) x.k x.c x.a x.b D x.d.length dc E x.m ec w0 z.drew HT3 HL3 hc3 HZ0 HG.out
      clear hdr hdr1 hrr hnm hs1 hsl
      generalize sumR log j = s0 at *
      have hfield := field_n
      go_region_with (go_at_call 72; (with_reducible refine (HDO w).mono ?_); rintro e w4 ⟨B4, bc4, A4, cap4, rfl, hR4, hT4, hL4, hc4, hb4⟩; have HB4 := Lib.hid hb4; have HT4 := Lib.hid hT4; have HL4 := Lib.hid hL4; have HC4 := Lib.hid hc4; have hgz := HGW.out; have hbt := HR.out.but.size; obtain ⟨oz, ⟨t0, t1, t2, t3, t4⟩, u0, u1, u2, u3, u4⟩ := (VarAt.but (w := z.drew) HO3.out hb4 (by omega)).five; clear hR4 hT4 hL4 hc4 hb4)
      all_goals
        go_wp2_with fail
        go_roundw
        case rel =>
          have hb4 := HB4.out
          have hgz := HGW.out
          have h0s := h0.out.size
          have hgg := HG.out
          have hbt := HR.out.but.size
          have hwb : But g w z.drew := (HR.out.but.later K0.out (by omega)).drew
          have hwb4 := hwb.trans hb4
          have hres : VarAt z.drew _ _ := (HR.out.res.below K0.out).drewN 1
          have hv4 := (hres.but hb4 (by omega)).apart (b' := w.heap.size + 1) 3 (.int .u64 (s1 : Int)) (by omega)
          have h1 := HS1.out
          refine ⟨j + 1, by omega, by omega, by go_num, (HZ0.out.trans (hb4.below.mono (by omega))).setCell (show w0.heap.size ≤ w.heap.size + 1 by omega) _, hwb4.new _ _ _ (by omega) (by omega), ⟨A4, cap4, HT4.out.apart _ _ (by omega), by rw [HD1.out]; exact HL4.out, HC4.out⟩, by rw [h1]; exact VarAt.mk5 (by simp; omega) (by go_simp) (by go_simp) (by go_simp) (by go_simp) (by go_simp) (by go_simp) (by go_simp) (by go_simp) (by go_simp) (by go_simp), hv4⟩
        case measure => simp [intOf]; omega
    · have hje : j = ln := by omega
      subst hje
      have d1 : decide ((j : Int) < (j : Int)) = false := by rw [decide_eq_false_iff_not]; omega
      obtain ⟨_, ⟨o0, o1, o2, o3, o4⟩, p0, p1, p2, p3, p4⟩ := HR.out.out.five
      obtain ⟨_, ⟨r1, r2, r3, r4, r5⟩, q0, q1, q2, q3, q4⟩ := HR.out.res.five
      go_wp2_with fail
      obtain ⟨A3, cap3, hT3, _, _⟩ := HR.out.tape
      have hbb := HR.out.but
      have hgz := HGW.out
      exact bodyPost_ret (v := .agg #[.int .i64 0, .bool false, .int .i64 (j : Int), .int .u64 (sumR log j : Int), .slice none 0 0]) (by simp [results, Try.results37, go_sem, r1, r2, r3, r4, r5]) rfl
        ⟨rfl, ⟨A3, _, cap3, (((((hT3.apart _ _ (by omega)).apart _ _ (by omega)).apart _ _ (by omega)).apart _ _ (by omega)).apart _ _ (by omega))⟩, (by repeat (first | with_reducible assumption | with_reducible exact But.refl _ _ | with_reducible refine But.drew ?_ | (with_reducible refine But.alloc ?_ _ (by omega)) | (with_reducible refine But.set ?_ _ _) | (with_reducible refine But.new ?_ _ _ _ (by omega) (by omega))))⟩

set_option maxRecDepth 100000 in
set_option maxHeartbeats 4000000 in
theorem line1_no (L : Option Addr) (ln lc : Nat) (l : List Acc) (A : Option Addr) (n cap : Nat) (log : List Res) (lb g : Nat) (hln : n < ln) (hm : ∀ x ∈ l, x.m ≤ 1000000) (w0 w : World) (hl : Hid (VarAt w lb [.slice L ln lc])) (hL : Hid (AccsAt w0 L ln l)) (hA : Hid (LogAt w0 A n log)) (hc : n ≤ cap)
    (hT : Hid (VarAt w g (tapeV A n cap true false (.int .i64 0) (.int .i64 0) (.int .u64 0) (.int .u64 0) (.slice none 0 0) (.slice none 0 0)))) (h0 : Hid (Below w0.heap.size w0 w)) (hg : w0.heap.size ≤ g) (hlg : lb ≠ g) :
    Calls Try.prog 37 #[.func (.func 72) #[.pointer (some ⟨g, 0, none⟩)] #[], .pointer (some ⟨lb, 0, none⟩)] w (LeftPost w g (l.getD n Acc.zero) true) := by
  have HM := Lib.hid hm
  have HG := Lib.hid hg
  have HLN := Lib.hid hln
  have HGW := Lib.hid hT.out.1
  have hlb := hl.out.1
  have hlc := hl.out.2.1 0 _ rfl
  have hgw := hT.out.1
  have hll : ln ≤ 140737488355328 := hL.out.2.1
  have k1 : ¬ (lb = w.heap.size) := by omega
  have k2 : lb < w.heap.size + 1 := by omega
  have k3 : lb < w.heap.size + 1 + 1 := by omega
  have k4 : ¬ (lb = w.heap.size + 1) := by omega
  have HC := Lib.hid hc
  clear hm hg hln hlg hgw hc
  go_enter Try.func37, Try.ntmps37
  go_upto_region 3 with fail
  have hgw2 := HGW.out
  refine gen_w (P := fun W => Code.wp _ _ _ _ W) (fun y => RunL w0 w g n 0 log (ln : Int) y) ⟨h0.out.trans (Below.mono (B := w.heap.size) (by repeat (first | with_reducible assumption | with_reducible exact Below.refl _ _ | with_reducible refine Below.drew ?_ | with_reducible refine below_al ?_ | (with_reducible refine below_set1 (by omega) _ ?_))) h0.out.size), (by repeat (first | with_reducible assumption | with_reducible exact But.refl _ _ | with_reducible refine But.drew ?_ | (with_reducible refine But.alloc ?_ _ (by omega)) | (with_reducible refine But.set ?_ _ _) | (with_reducible refine But.new ?_ _ _ _ (by omega) (by omega)))), ⟨A, cap, VarAt.below hT.out (by repeat (first | with_reducible assumption | with_reducible exact Below.refl _ _ | with_reducible refine Below.drew ?_ | with_reducible refine below_al ?_ | (with_reducible refine below_set1 (by omega) _ ?_))), hA.out, HC.out⟩, VarAt.mk5 (by simp) (by go_simp) (by go_simp) (by go_simp) (by go_simp; rfl) (by go_simp) (by go_simp) (by go_simp) (by go_simp) (by go_simp) (by go_simp), VarAt.mk5 (by simp; omega) (by go_simp) (by go_simp) (by go_simp) (by go_simp) (by go_simp) (by go_simp) (by go_simp) (by go_simp) (by go_simp) (by go_simp)⟩ ?_
  clear hgw2
  intro y RUN0
  have RUN := Lib.hid RUN0
  clear RUN0
  go_loopw [12] (fun u12 wr => ∃ j : Nat, j ≤ ln ∧ j ≤ n ∧ u12 = .int .i64 (j : Int) ∧ RunL w0 w g n j log (ln : Int) wr) (fun i _ => ln - (intOf i).toNat)
  case atStart => exact ⟨0, Nat.zero_le _, Nat.zero_le _, rfl, RUN.out⟩
  case round =>
    obtain ⟨j, hj1, hj2, rfl, hrun⟩ := hrel
    have HR := Lib.hid hrun
    clear hrun
    by_cases hlt : j < ln
    · have i1 : (0 : Int) ≤ (j : Int) := by omega
      have i2 : (j : Int) < (ln : Int) := by omega
      have i3 : (0 : Int) ≤ (j : Int) ∧ (j : Int) < (ln : Int) := ⟨i1, i2⟩
      have d1 : decide ((j : Int) < (ln : Int)) = true := by rw [decide_eq_true_iff]; omega
      obtain ⟨x, hx⟩ : ∃ x, l[j]? = some x := ⟨_, List.getElem?_eq_getElem (show j < l.length by have := hL.out.1; omega)⟩
      obtain ⟨bl, ol, D, dc, E, ec, rfl, hbl, hcl0, hxp⟩ := hL.out.at_ j x hx
      have hcl := hcl0.below HR.out.below hbl
      have hblr := Nat.lt_of_lt_of_le hbl HR.out.below.size
      have hxm := HM.out x (List.mem_of_getElem? hx)
      have HXP := Lib.hid hxp
      have HX := Lib.hid hx
      obtain ⟨e0, e1, e2, e3, e4, e5⟩ := hcl
      clear hcl0 hxp hx
      go_upto_region 5 with fail
      refine gen_w (P := fun W => Code.wp _ _ _ _ W) (fun z => Below wr.heap.size wr z ∧ z.heap.size = wr.heap.size + 1 ∧ VarAt z wr.heap.size (accA x D dc E ec)) ⟨(by repeat (first | with_reducible assumption | with_reducible exact Below.refl _ _ | with_reducible refine Below.drew ?_ | with_reducible refine below_al ?_ | (with_reducible refine below_set1 (by omega) _ ?_))), by simp, VarAt.mk6 (by simp) (by go_simp) (by go_simp) (by go_simp) (by go_simp) (by go_simp) (by go_simp) (by go_simp) (by go_simp) (by go_simp) (by go_simp) (by go_simp) (by go_simp)⟩ ?_
      rintro z ⟨k0, k1', k2'⟩
      have K0 := Lib.hid k0
      have K1 := Lib.hid k1'
      have K2 := Lib.hid k2'
      have HZ0 : Hid (Below w0.heap.size w0 z.drew) := Lib.hid ((HR.out.below.trans (k0.mono HR.out.below.size)).drew)
      obtain ⟨A3, cap3, hT3, hL3, hc3⟩ := HR.out.tape
      have HT3 : Hid (VarAt z.drew g _) := Lib.hid ((hT3.below k0).drewN 1)
      have HL3 := Lib.hid hL3
      have HO3 := Lib.hid (HR.out.out.below k0)
      obtain ⟨_, ⟨o0, o1, o2, o3, o4⟩, p0, p1, p2, p3, p4⟩ := HO3.out.five
      obtain ⟨_, ⟨a0, a1, a2, a3, a4, a5⟩, _⟩ := k2'.six
      clear hT3 hL3 k0 k1' k2' e0 e1 e2 e3 e4 e5
      by_cases hjn : j < n
      · obtain ⟨r, rest, hrr, hdr⟩ : ∃ r rest, log.getD j Res.zero = r ∧ log.drop j = r :: rest := by
          have hjl : j < log.length := by have := hA.out.1; omega
          exact ⟨_, _, rfl, by rw [List.getD_eq_getElem?_getD, List.getElem?_eq_getElem hjl]; exact List.drop_eq_getElem_cons hjl⟩
        have hdr1 : log.drop (j + 1) = rest := by rw [← List.drop_drop, hdr]; rfl
        rw [hdr] at HL3
        have HD1 := Lib.hid hdr1
        have hnm : n - j = (n - (j + 1)) + 1 := by omega
        have hsl := sumR_lt log j
        have hs : IntKind.u64.wrap ((sumR log j : Int) + (r.n : Int)) = (sumR log (j + 1) : Int) := by
          rw [IntKind.wrap_u64]
          show _ = (((sumR log j + (log.getD j Res.zero).n) % 18446744073709551616 : Nat) : Int)
          rw [hrr]
          omega
        obtain ⟨s1, hs1⟩ : ∃ s, sumR log (j + 1) = s := ⟨_, rfl⟩
        rw [hs1] at hs
        have HS1 := Lib.hid hs1
        have HDO := fun (w : World) => do_told g A3 (n - j) (n - (j + 1)) cap3 hnm r rest true false (.int .i64 0) (.int .i64 0) (.int .u64 0) (.int .u64 0) (.slice none 0 0) (.slice none 0 0) x.k x.c x.a x.b D x.d.length dc E x.m ec w0 z.drew HT3 HL3 hc3 HZ0 HG.out
        clear hdr hdr1 hrr hnm hs1 hsl
        generalize sumR log j = s0 at *
        have hfield := field_n
        go_region_with (go_at_call 72; (with_reducible refine (HDO w).mono ?_); rintro e w4 ⟨B4, bc4, A4, cap4, rfl, hR4, hT4, hL4, hc4, hb4⟩; have HB4 := Lib.hid hb4; have HT4 := Lib.hid hT4; have HL4 := Lib.hid hL4; have HC4 := Lib.hid hc4; have hgz := HGW.out; have hbt := HR.out.but.size; obtain ⟨oz, ⟨t0, t1, t2, t3, t4⟩, u0, u1, u2, u3, u4⟩ := (VarAt.but (w := z.drew) HO3.out hb4 (by omega)).five; clear hR4 hT4 hL4 hc4 hb4)
        all_goals
          go_wp2_with fail
          go_roundw
          case rel =>
            have hb4 := HB4.out
            have hgz := HGW.out
            have h0s := h0.out.size
            have hgg := HG.out
            have hbt := HR.out.but.size
            have hwb : But g w z.drew := (HR.out.but.later K0.out (by omega)).drew
            have hwb4 := hwb.trans hb4
            have hres : VarAt z.drew _ _ := (HR.out.res.below K0.out).drewN 1
            have hv4 := (hres.but hb4 (by omega)).apart (b' := w.heap.size + 1) 3 (.int .u64 (s1 : Int)) (by omega)
            have h1 := HS1.out
            refine ⟨j + 1, by omega, by omega, by go_num, (HZ0.out.trans (hb4.below.mono (by omega))).setCell (show w0.heap.size ≤ w.heap.size + 1 by omega) _, hwb4.new _ _ _ (by omega) (by omega), ⟨A4, cap4, HT4.out.apart _ _ (by omega), by rw [HD1.out]; exact HL4.out, HC4.out⟩, by rw [h1]; exact VarAt.mk5 (by simp; omega) (by go_simp) (by go_simp) (by go_simp) (by go_simp) (by go_simp) (by go_simp) (by go_simp) (by go_simp) (by go_simp) (by go_simp), hv4⟩
          case measure => simp [intOf]; omega
      · have hje : j = n := by omega
        subst hje
        have hgd : l.getD j Acc.zero = x := by rw [List.getD_eq_getElem?_getD, HX.out]; rfl
        rw [Nat.sub_self] at HT3
        have HDO := fun (w : World) => do_left g A3 cap3 true (.int .i64 0) (.int .i64 0) (.int .u64 0) (.int .u64 0) (.slice none 0 0) (.slice none 0 0) x hxm D dc E ec w0 z.drew HT3 HXP HZ0 HG.out
        have HGD := Lib.hid hgd
        clear hgd
        refine wp_region_any (by kernel_rfl) ?_
        (try (change wpAny _ _ _ _ _ _ _ (World.drew _)))
        refine wpAny_take (i := 0) (v := ?_) rfl (by kernel_rfl) (by kernel_rfl) (by kernel_rfl) (fun _ _ _ h => h) (Or.inl ⟨by rfl, ?_⟩) ?_
        rotate_left
        · intro w
          go_simp
          try with_reducible rfl
        refine wpAny_take (i := 2) (v := ?_) rfl (by kernel_rfl) (by kernel_rfl) (by kernel_rfl) (fun _ _ _ h => h) (Or.inl ⟨by rfl, ?_⟩) ?_
        rotate_left
        · intro w
          go_simp
          try with_reducible rfl
        refine wpAny_ready (rs := [1, 3]) (by kernel_rfl) (by simp) ?_
        refine AllReady.cons rfl (fun K hK => ?_) ?_
        · go_simp
          refine hK _ _ ?_
          clear hK K
          refine wpAny_ready (rs := [3]) (by kernel_rfl) (by simp) ?_
          refine AllReady.cons rfl (fun K hK => ?_) AllReady.nil
          · go_simp
            refine hK _ _ ?_
            clear hK K
            refine wpAny_ready (rs := [4]) (by kernel_rfl) (by simp) ?_
            refine AllReady.cons rfl (fun K hK => ?_) AllReady.nil
            · go_simp
              (go_at_call 72; (with_reducible refine (HDO w).mono ?_); rintro e w4 ⟨D4, dc4, E4, ec4, A4, cap4, rfl, hT4, hX4, hb4, hD4, hE4⟩; have hwb : But g w z.drew := (HR.out.but.later K0.out (by have := HGW.out; have := HR.out.but.size; omega)).drew; have hsz : w.heap.size ≤ z.drew.heap.size := hwb.size; exact ⟨rfl, by rw [HGD.out]; exact ⟨D4, dc4, E4, ec4, A4, cap4, rfl, hT4, hX4, hwb.trans hb4, hD4.mono fun b h => by omega, hE4.mono fun b h => by omega⟩⟩)
        refine AllReady.cons rfl (fun K hK => ?_) AllReady.nil
        · go_simp
          refine hK _ _ ?_
          clear hK K
          refine wpAny_ready (rs := [1, 4]) (by kernel_rfl) (by simp) ?_
          refine AllReady.cons rfl (fun K hK => ?_) ?_
          · go_simp
            refine hK _ _ ?_
            clear hK K
            refine wpAny_ready (rs := [4]) (by kernel_rfl) (by simp) ?_
            refine AllReady.cons rfl (fun K hK => ?_) AllReady.nil
            · go_simp
              (go_at_call 72; (with_reducible refine (HDO w).mono ?_); rintro e w4 ⟨D4, dc4, E4, ec4, A4, cap4, rfl, hT4, hX4, hb4, hD4, hE4⟩; have hwb : But g w z.drew := (HR.out.but.later K0.out (by have := HGW.out; have := HR.out.but.size; omega)).drew; have hsz : w.heap.size ≤ z.drew.heap.size := hwb.size; exact ⟨rfl, by rw [HGD.out]; exact ⟨D4, dc4, E4, ec4, A4, cap4, rfl, hT4, hX4, hwb.trans hb4, hD4.mono fun b h => by omega, hE4.mono fun b h => by omega⟩⟩)
          refine AllReady.cons rfl (fun K hK => ?_) AllReady.nil
          · go_simp
            (go_at_call 72; (with_reducible refine (HDO w).mono ?_); rintro e w4 ⟨D4, dc4, E4, ec4, A4, cap4, rfl, hT4, hX4, hb4, hD4, hE4⟩; have hwb : But g w z.drew := (HR.out.but.later K0.out (by have := HGW.out; have := HR.out.but.size; omega)).drew; have hsz : w.heap.size ≤ z.drew.heap.size := hwb.size; exact ⟨rfl, by rw [HGD.out]; exact ⟨D4, dc4, E4, ec4, A4, cap4, rfl, hT4, hX4, hwb.trans hb4, hD4.mono fun b h => by omega, hE4.mono fun b h => by omega⟩⟩)
    · exact absurd HLN.out (by omega)

set_option maxHeartbeats 2000000 in
theorem line_yes (L : Option Addr) (ln lc : Nat) (l : List Acc) (A : Option Addr) (n cap : Nat) (log : List Res) (hln : ln ≤ n) (hc : n ≤ cap) (hm : ∀ x ∈ l, x.m ≤ 1000000) (w : World) (hL : Hid (AccsAt w L ln l)) (hA : Hid (LogAt w A n log)) :
    Calls Try.prog 14 #[.slice L ln lc, .slice A n cap] w (RunYes false (ln : Int) (sumR log ln : Int) w) := by
  have HLN := Lib.hid hln
  have HM := Lib.hid hm
  have HC := Lib.hid hc
  clear hln hm hc
  have hmf : ∀ (fn : Fn) (first cap : Array Value) (w : World), (Instr.makeFunc fn first cap).run Try.prog w = .ok (.func fn first cap) w := fun _ _ _ _ => rfl
  go_enter Try.func14, Try.ntmps14
  go_wp2_with fail
  refine gen_w (P := fun W => Calls _ _ _ W _) (fun y => Below w.heap.size w y ∧ y.heap.size = w.heap.size + 1 + 1 + 1 ∧ VarAt y w.heap.size [.slice L ln lc] ∧ VarAt y (w.heap.size + 1) [.int .i64 0, .int .i64 0, .int .u64 0, .int .u64 0, .slice none 0 0, .slice none 0 0] ∧ VarAt y (w.heap.size + 1 + 1) [.int .i64 0, .bool false, .int .i64 0, .int .u64 0, .slice none 0 0]) ⟨(by repeat (first | with_reducible assumption | with_reducible exact Below.refl _ _ | with_reducible refine Below.drew ?_ | with_reducible refine below_al ?_ | (with_reducible refine below_set1 (by omega) _ ?_))), by simp, VarAt.mk1 (by simp; omega) (by go_simp) (by go_simp), VarAt.mk6 (by simp) (by go_simp) (by go_simp) (by go_simp) (by go_simp) (by go_simp) (by go_simp) (by go_simp) (by go_simp) (by go_simp) (by go_simp) (by go_simp) (by go_simp), VarAt.mk5 (by simp) (by go_simp) (by go_simp) (by go_simp) (by go_simp) (by go_simp) (by go_simp) (by go_simp) (by go_simp) (by go_simp) (by go_simp)⟩ ?_
  rintro y ⟨k0, k1, k2, k3, k4⟩
  have K0 := Lib.hid k0
  have K1 := Lib.hid k1
  have K3 := Lib.hid k3
  have K4 := Lib.hid k4
  have hp := fun (g : Nat) (w1 : World) (hg : y.heap.size ≤ g) (hb : Below y.heap.size y w1) (hT : VarAt w1 g (tapeV A n cap true false (.int .i64 0) (.int .i64 0) (.int .u64 0) (.int .u64 0) (.slice none 0 0) (.slice none 0 0))) =>
    line1_yes L ln lc l A n cap log w.heap.size g HLN.out HM.out w w1 (Lib.hid (k2.below hb)) hL hA HC.out (Lib.hid hT) (Lib.hid (k0.trans (hb.mono k0.size))) (by omega) (by omega)
  refine (runL_yes A n cap w.heap.size false (ln : Int) (sumR log ln : Int) y hp).mono ?_
  clear hp k0 k1 k2 k3 k4
  rintro e w2 ⟨rfl, hb2⟩
  obtain ⟨m1, ⟨a0, a1, a2, a3, a4, a5⟩, b0, b1, b2, b3, b4, b5⟩ := (K3.out.below hb2).six
  obtain ⟨m2, ⟨r1, r2, r3, r4, r5⟩, s1, s2, s3, s4, s5⟩ := (K4.out.below hb2).five
  have HB2 := Lib.hid (K0.out.trans (hb2.mono K0.out.size))
  clear hb2
  go_wp2_with fail
  have hb := HB2.out
  exact bodyPost_ret (v := .tuple #[.agg #[.int .i64 0, .int .i64 0, .int .u64 0, .int .u64 0, .slice none 0 0, .slice none 0 0], .agg #[.int .i64 0, .bool false, .int .i64 (ln : Int), .int .u64 (sumR log ln : Int), .slice none 0 0], .bool true]) (by simp [results, Try.results14, go_sem, a0, a1, a2, a3, a4, a5, r1, r2, r3, r4, r5]) rfl ⟨rfl, (by repeat (first | with_reducible assumption | with_reducible exact Below.refl _ _ | with_reducible refine Below.drew ?_ | with_reducible refine below_al ?_ | (with_reducible refine below_set1 (by omega) _ ?_)))⟩

set_option maxHeartbeats 2000000 in
theorem line_no (L : Option Addr) (ln lc : Nat) (l : List Acc) (A : Option Addr) (n cap : Nat) (log : List Res) (hln : n < ln) (hc : n ≤ cap) (hm : ∀ x ∈ l, x.m ≤ 1000000) (w : World) (hL : Hid (AccsAt w L ln l)) (hA : Hid (LogAt w A n log)) :
    Calls Try.prog 14 #[.slice L ln lc, .slice A n cap] w (RunLeft (l.getD n Acc.zero) w) := by
  have HLN := Lib.hid hln
  have HM := Lib.hid hm
  have HC := Lib.hid hc
  clear hln hm hc
  have hmf : ∀ (fn : Fn) (first cap : Array Value) (w : World), (Instr.makeFunc fn first cap).run Try.prog w = .ok (.func fn first cap) w := fun _ _ _ _ => rfl
  go_enter Try.func14, Try.ntmps14
  go_wp2_with fail
  refine gen_w (P := fun W => Calls _ _ _ W _) (fun y => Below w.heap.size w y ∧ y.heap.size = w.heap.size + 1 + 1 + 1 ∧ VarAt y w.heap.size [.slice L ln lc] ∧ VarAt y (w.heap.size + 1) [.int .i64 0, .int .i64 0, .int .u64 0, .int .u64 0, .slice none 0 0, .slice none 0 0] ∧ VarAt y (w.heap.size + 1 + 1) [.int .i64 0, .bool false, .int .i64 0, .int .u64 0, .slice none 0 0]) ⟨(by repeat (first | with_reducible assumption | with_reducible exact Below.refl _ _ | with_reducible refine Below.drew ?_ | with_reducible refine below_al ?_ | (with_reducible refine below_set1 (by omega) _ ?_))), by simp, VarAt.mk1 (by simp; omega) (by go_simp) (by go_simp), VarAt.mk6 (by simp) (by go_simp) (by go_simp) (by go_simp) (by go_simp) (by go_simp) (by go_simp) (by go_simp) (by go_simp) (by go_simp) (by go_simp) (by go_simp) (by go_simp), VarAt.mk5 (by simp) (by go_simp) (by go_simp) (by go_simp) (by go_simp) (by go_simp) (by go_simp) (by go_simp) (by go_simp) (by go_simp) (by go_simp)⟩ ?_
  rintro y ⟨k0, k1, k2, k3, k4⟩
  have K0 := Lib.hid k0
  have K1 := Lib.hid k1
  have K3 := Lib.hid k3
  have K4 := Lib.hid k4
  have hp := fun (g : Nat) (w1 : World) (hg : y.heap.size ≤ g) (hb : Below y.heap.size y w1) (hT : VarAt w1 g (tapeV A n cap true false (.int .i64 0) (.int .i64 0) (.int .u64 0) (.int .u64 0) (.slice none 0 0) (.slice none 0 0))) =>
    line1_no L ln lc l A n cap log w.heap.size g HLN.out HM.out w w1 (Lib.hid (k2.below hb)) hL hA HC.out (Lib.hid hT) (Lib.hid (k0.trans (hb.mono k0.size))) (by omega) (by omega)
  refine (runL_left A n cap w.heap.size (l.getD n Acc.zero) y hp).mono ?_
  clear hp k0 k1 k2 k3 k4
  generalize l.getD n Acc.zero = x at *
  rintro e w2 ⟨D, dc, E, ec, rfl, hX, hb2, hD, hE⟩
  have HD := Lib.hid hD
  have HE := Lib.hid hE
  obtain ⟨m1, ⟨a0, a1, a2, a3, a4, a5⟩, b0, b1, b2, b3, b4, b5⟩ := (K3.out.below hb2).six
  obtain ⟨m2, ⟨r1, r2, r3, r4, r5⟩, s1, s2, s3, s4, s5⟩ := (K4.out.below hb2).five
  have HB2 := Lib.hid (K0.out.trans (hb2.mono K0.out.size))
  have HX := Lib.hid hX
  clear hb2 hX hD hE
  go_wp2_with fail
  have hyz := K1.out
  have hb := HB2.out
  have hx := HX.out
  exact bodyPost_ret (v := .tuple #[.agg #[.int .i64 x.k, .int .i64 x.c, .int .u64 (x.a : Int), .int .u64 (x.b : Int), .slice D x.d.length dc, .slice E x.m ec], .agg #[.int .i64 0, .bool false, .int .i64 0, .int .u64 0, .slice none 0 0], .bool false]) (by simp [results, Try.results14, go_sem, a0, a1, a2, a3, a4, a5, r1, r2, r3, r4, r5]) rfl ⟨D, dc, E, ec, rfl, ⟨hx.k, hx.c, hx.a, hx.b, hx.dl, hx.ml, hx.d.svd (Q := fun b => y.heap.size ≤ b) (by repeat (first | with_reducible exact Svd.refl _ _ | with_reducible refine Svd.drew ?_ | with_reducible refine Svd.alloc ?_ _ | (with_reducible refine Svd.set ?_ _ _ _ (by omega)))) HD.out, hx.f.svd (Q := fun b => y.heap.size ≤ b) (by repeat (first | with_reducible exact Svd.refl _ _ | with_reducible refine Svd.drew ?_ | with_reducible refine Svd.alloc ?_ _ | (with_reducible refine Svd.set ?_ _ _ _ (by omega)))) HE.out⟩, (by repeat (first | with_reducible assumption | with_reducible exact Below.refl _ _ | with_reducible refine Below.drew ?_ | with_reducible refine below_al ?_ | (with_reducible refine below_set1 (by omega) _ ?_))), HD.out.mono fun b h => by omega, HE.out.mono fun b h => by omega⟩
end Go.Proofs.Ytjbhichgojjakaa
