/-
  The contract of the document's own answer for what a text is split into (layer 4).
-/
import Derived.Test.YtalfjdlpmhmjkaaDoorFrmRef
import Derived.Test.YtalfjdlpmhmjkaaDoorFrmSplit
import Derived.Lib.SliceRun
namespace Go.Proofs.YtalfjdlpmhmjkaaDoor
open Go.ChangeShapes Go.WideShapes Go.ChangeAt Go.RowKit
set_option linter.unusedVariables false

/-- What holds at the loop's head: behind the frames of pre. -/
def RefRel (w : World) (s : List Nat) (v at_ : Value) (wr : World) : Prop :=
  ∃ (pre : List (List Nat)) (t : Nat), at_ = .int .i64 (t : Int) ∧ t = usedN pre ∧ t ≤ s.length ∧ splitN s = pre ++ splitN (s.drop t) ∧ pre.length ≤ t ∧ OwnRows wr w.heap.size v pre.length pre ∧ Below w.heap.size w wr
def EqUpto (f s : List Nat) (t k : Nat) : Prop := ∀ q, 2 ≤ q → q < k → f.getD q 0 = s.getD (t + q) 0
def InRel (w3 : World) (f s : List Nat) (t : Nat) (i : Value) (wq : World) : Prop := ∃ k m : Nat, 2 ≤ k ∧ k ≤ 6 ∧ i = .int .i64 (k : Int) ∧ wq = w3.drewN m ∧ EqUpto f s t k
theorem EqUpto.next {f s : List Nat} {t k : Nat} (h : EqUpto f s t k) (e : f.getD k 0 = s.getD (t + k) 0) : EqUpto f s t (k + 1) := fun q h2 hq => by
  rcases Nat.lt_or_ge q k with h' | h'
  · exact h q h2 h'
  · obtain rfl : q = k := by omega
    exact e
theorem split_post {w wr : World} {s : List Nat} {v : Value} {pre : List (List Nat)} {t : Nat} (ht : t = usedN pre) (hs : splitN s = pre ++ splitN (s.drop t)) (hno : ¬ Stands (s.drop t)) (hr : OwnRows wr w.heap.size v pre.length pre) (hb : Below w.heap.size w wr) :
    SplitPost w s (.returned (.tuple #[v, .int .i64 (t : Int)])) wr := by
  have e : splitN s = pre := by rw [hs, split_no hno, List.append_nil]
  exact ⟨v, by rw [e, ht], by rw [e]; exact hr, hb⟩

set_option maxRecDepth 100000 in
set_option maxHeartbeats 2000000 in
theorem refSplit_some (b off len cap : Nat) (s : List Nat) (hl : len ≤ cap) (hb : len ≤ 999999999999) (w : World) (hA : Hid (AtB w (some ⟨b, off, none⟩) len s)) :
    Calls Tryd.prog 13 #[.slice (some ⟨b, off, none⟩) len cap] w (SplitPost w s) := by
  have hlen := Lib.hid hA.out.1
  go_enter Tryd.func13, Tryd.ntmps13
  go_wp2_with fail
  go_loopw [4, 5] (fun v t wr => RefRel w s v t wr) (fun _ t _ => len - (intOf t).toNat)
  case atStart => exact ⟨[], 0, rfl, rfl, Nat.zero_le _, rfl, Nat.zero_le _, OwnRows.nil _ _, Below.refl _ _⟩
  case round =>
    obtain ⟨pre, t, rfl, ht, htl, hsp, hpl, hrows, hbel⟩ := hrel
    rw [hlen.out] at htl
    have HT := Lib.hid ht
    have HSP := Lib.hid hsp
    have HR := Lib.hid hrows
    have HB := Lib.hid hbel
    have HAr := Lib.hid (hA.out.below hbel (Nat.le_refl _))
    clear ht hsp hrows hbel
    by_cases h6 : t + 6 ≤ len
    · have c0 := (HAr.out.cell t (by omega)).2
      have c1 := (HAr.out.cell (t + 1) (by omega)).2
      have y0 := hA.out.2.1.getD t
      have y1 := hA.out.2.1.getD (t + 1)
      have HC : Hid (cntN (s.drop t) = s.getD t 0 + 256 * s.getD (t + 1) 0) := Lib.hid (cnt_at (by rw [hlen.out]; omega))
      generalize s.getD t 0 = a0 at *
      generalize s.getD (t + 1) 0 = a1 at *
      obtain ⟨c, hc⟩ : ∃ c, c = a0 + 256 * a1 := ⟨_, rfl⟩
      have HCC : Hid (cntN (s.drop t) = c) := Lib.hid (by rw [HC.out, hc])
      have ec : (a0 : Int) + 256 * (a1 : Int) = (c : Int) := by omega
      have lc : c ≤ 65535 := by omega
      clear hc HC
      have i1 : IntKind.i64.wrap ((t : Int) + 1) = (t : Int) + 1 := IntWalk.i64_in _ (by omega)
      have i2 : (0 : Int) ≤ (t : Int) + 1 := by omega
      have i3 : ((t : Int) + 1).toNat = t + 1 := by omega
      have i4 : (t : Int) < (len : Int) := by omega
      have i5 : (t : Int) + 1 < (len : Int) := by omega
      by_cases h0 : c = 0
      · have HNO : Hid (¬ Stands (s.drop t)) := Lib.hid (fun h => by have := h.2.1; rw [HCC.out] at this; omega)
        subst h0
        go_wp2_with fail
        go_quiet (fail)
        clear i1 i2 i3 i4 i5
        go_wp2_with fail
        go_ret2
        exact split_post HT.out HSP.out HNO.out (HR.out.drewN _) (below_quiet HB.out _)
      have d0 : ((c : Int) == 0) = false := by rw [beq_eq_false_iff_ne]; omega
      by_cases h7 : len < t + 6 + c
      · have HNO : Hid (¬ Stands (s.drop t)) := Lib.hid (fun h => by have := h.2.2.1; rw [HCC.out, List.length_drop, hlen.out] at this; omega)
        go_wp2_with fail
        go_quiet (fail)
        clear i1 i2 i3 i4 i5
        go_wp2_with fail
        go_ret2
        exact split_post HT.out HSP.out HNO.out (HR.out.drewN _) (below_quiet HB.out _)
      have d1 : decide ((len : Int) < (t : Int) + 6 + (c : Int)) = false := by rw [decide_eq_false_iff_not]; omega
      have R : ∀ W, (Instr.slice 22 (.slice (some ⟨b, off, none⟩) len cap) (some (.int .i64 ((t : Int) + 6))) (some (.int .i64 ((t : Int) + 6 + (c : Int)))) none).run Tryd.prog W = .ok (.slice (cutA (some ⟨b, off, none⟩) cap (t + 6)) c (cap - (t + 6))) W := fun W => by
        have := run_cut_lh (some ⟨b, off, none⟩) len cap (t + 6) (t + 6 + c) (by omega) (by omega) W
        rwa [show t + 6 + c - (t + 6) = c by omega, show ((t + 6 + c : Nat) : Int) = (t : Int) + 6 + (c : Int) by omega, show ((t + 6 : Nat) : Int) = (t : Int) + 6 by omega] at this
      have HAt : Hid (AtB wr (cutA (some ⟨b, off, none⟩) cap (t + 6)) c (bodyN (s.drop t))) := Lib.hid (by
        have := HAr.out.cutA hl (t + 6) (t + 6 + c) (by omega) (by omega)
        rw [show t + 6 + c - (t + 6) = c by omega] at this
        rw [bodyN, HCC.out, List.drop_drop]; exact this)
      have HSB : Hid (Stands (s.drop t) ↔ ∀ k, 2 ≤ k → k < 6 → (frameN (bodyN (s.drop t))).getD k 0 = s.getD (t + k) 0) := Lib.hid (sum_bytes hA.out.2.1 (by rw [hlen.out]; omega) (by rw [HCC.out]; omega) (by rw [HCC.out, hlen.out]; omega))
      have HBody : Hid (∀ h : Stands (s.drop t), splitN (s.drop t) = bodyN (s.drop t) :: splitN ((s.drop t).drop (6 + c))) := Lib.hid (fun h => by rw [split_yes h, HCC.out])
      have HBL : Hid ((bodyN (s.drop t)).length = c) := Lib.hid HAt.out.1
      generalize bodyN (s.drop t) = body at *
      generalize cutA (some ⟨b, off, none⟩) cap (t + 6) = D at *
      generalize cap - (t + 6) = dcap at *
      go_wp2_with fail
      go_quiet (fail)
      clear i1 i2 i3 i4 i5 c0 c1 y0 y1 ec
      have HA1 : Hid (AtB (wr.drewN nq) (some ⟨b, off, none⟩) len s) := HAr
      have HT1 : Hid (AtB (wr.drewN nq) D c body) := HAt
      have HR1 : Hid (OwnRows (wr.drewN nq) w.heap.size u4 pre.length pre) := HR
      have HB1 : Hid (Below w.heap.size w (wr.drewN nq)) := Lib.hid (below_quiet HB.out nq)
      clear HAr HAt HR HB
      generalize wr.drewN nq = w1 at *
      go_wp2_with (at_builtin; (refine wpList_append_bytes (by rfl) (.tmp 42) (.tmp 50) (by rfl) w1.heap.size _ 0 [] (by rfl) (Own.made w1) D c dcap body (by rfl) (AtB.later HT1 (below_made w1)) (by omega) (by simp) ?_); (intro v2 w2 hown2 hgrow2; have B2 := Own.below hgrow2; rw [Nat.zero_add, List.nil_append] at hown2; obtain ⟨A2, k2, rfl, hk2, hat2⟩ := hown2.at_ (by omega); have HE2 := Lib.hid (hown2.elem (by omega)); have HT2 := Lib.hid hat2; have HA2 := Lib.hid (AtB.later HA1 B2); have HR2 := Lib.hid (HR1.out.below B2); have HB2 := Lib.hid (HB1.out.trans (B2.mono HB1.out.size)); clear hown2 hgrow2 hat2 B2 HA1 HR1 HB1 HT1))
      (with_reducible refine (refPut_at A2 c k2 body (by omega) lc w2 HT2).mono ?_)
      rintro e w3 ⟨v3, rfl, hO3, hB3⟩
      obtain ⟨A3, k3, rfl, hk3, hat3⟩ := hO3.at_ (by omega)
      obtain ⟨b3, o3, rfl, hlt3, hc3⟩ := hat3.2.2.2 (by omega)
      have HC3 := Lib.hid hc3
      have HE3 := Lib.hid (HE2.out.kept (row := none) ⟨hB3.os, hB3.tape, hB3.output, hB3.size, fun k hk _ => hB3.block k hk⟩ (fun r e => by cases e))
      have HA3 := Lib.hid (AtB.later HA2 hB3)
      have HR3 := Lib.hid (HR2.out.below hB3)
      have HB3 := Lib.hid (HB2.out.trans (hB3.mono HB2.out.size))
      have HF3 : Hid (∀ k, (frameN body).getD k 0 < 256) := Lib.hid (fun k => hat3.2.1.getD k)
      clear hO3 hB3 hat3 hlt3 hc3 HE2 HA2 HR2 HB2 HT2 hk2 hk3
      go_wp2_with fail
      obtain ⟨wo, hwo⟩ : ∃ wo : World, wo = wr := ⟨_, rfl⟩
      go_loopw [10] (fun i wq => InRel w3 (frameN body) s t i wq) (fun i _ => 6 - (intOf i).toNat)
      case atStart => exact ⟨2, 0, by omega, by omega, rfl, rfl, fun q h2 hq => by omega⟩
      case round =>
        obtain ⟨k, m, hk2, hk6, rfl, rfl, heq⟩ := hrel
        have HEQ := Lib.hid heq
        clear heq
        by_cases hlt : k < 6
        · have cs := (AtB.cell (w := w3) HA3.out (t + k) (by omega)).2
          have cf := HC3.out k (by omega)
          have ys := HA3.out.2.1.getD (t + k)
          have yf := HF3.out k
          have j1 : IntKind.i64.wrap ((t : Int) + (k : Int)) = (t : Int) + (k : Int) := IntWalk.i64_in _ (by omega)
          have j2 : (0 : Int) ≤ (t : Int) + (k : Int) := by omega
          have j3 : ((t : Int) + (k : Int)).toNat = t + k := by omega
          have j4 : (t : Int) + (k : Int) < (len : Int) := by omega
          have j5 : (k : Int) < (c : Int) + 6 := by omega
          have j6 : (0 : Int) ≤ (k : Int) := by omega
          have HX : Hid ((frameN body).getD k 0 = s.getD (t + k) 0 → EqUpto (frameN body) s t (k + 1)) := Lib.hid (fun e => HEQ.out.next e)
          have HY : Hid ((frameN body).getD k 0 ≠ s.getD (t + k) 0 → ¬ Stands (s.drop t)) := Lib.hid (fun e h => e (HSB.out.1 h k hk2 hlt))
          generalize (frameN body).getD k 0 = x at *
          generalize s.getD (t + k) 0 = y at *
          by_cases hxy : x = y
          · have HZ := Lib.hid (HX.out hxy)
            subst hxy
            clear HX HY
            go_wp2_with fail
            go_quiet (fail)
            clear j1 j2 j3 j4 j5 j6
            go_wp2_with fail
            go_roundw
            case rel => exact ⟨k + 1, _, by omega, by omega, by go_num, rfl, HZ.out⟩
            case measure => simp [intOf]; omega
          · have HZ := Lib.hid (HY.out hxy)
            have x1 : ((x : Int) != (y : Int)) = true := by rw [bne_iff_ne]; omega
            have x2 : ((x : Int) == (y : Int)) = false := by rw [beq_eq_false_iff_ne]; omega
            have x3 : (x == y) = false := by rw [beq_eq_false_iff_ne]; exact hxy
            clear HX HY hxy
            go_wp2_with fail
            go_quiet (fail)
            clear j1 j2 j3 j4 j5 j6
            go_wp2_with fail
            go_ret2
            exact split_post HT.out HSP.out HZ.out HR3.out (below_quiet (below_quiet HB3.out _) _)
        · obtain rfl : k = 6 := by omega
          have HST := Lib.hid (HSB.out.2 HEQ.out)
          have HE4 : Hid (Elem (w3.drewN m) (.slice A2 c k2) body) := HE3
          have HR4 : Hid (OwnRows (w3.drewN m) w.heap.size u4 pre.length pre) := HR3
          have HB4 : Hid (Below w.heap.size w (w3.drewN m)) := Lib.hid (below_quiet HB3.out m)
          clear HA3 HR3 HB3 HE3 HC3 HF3 HSB HEQ
          generalize w3.drewN m = w4 at *
          go_wp2_with (at_builtin; (refine wpList_append_row (by rfl) (.tmp 74) (.tmp 76) (by rfl) w.heap.size u4 pre.length pre (by rfl) (HR4.out.alloc _) ⟨w4.heap.size, 0, none⟩ 1 (.slice A2 c k2) body (by rfl) (by simp) (HE4.out.kept (World.grownBy_alloc w4 _ none) (fun r e => by cases e)) (by omega) (by have := HB4.out.size; simp; omega) ?_); (intro g cp w5 hown hgrow; have O5 := Lib.hid hown; have B5 := Lib.hid (HR4.out.grew HB4.out hgrow); clear hown hgrow))
          go_roundw
          case rel => exact ⟨pre ++ [body], t + (6 + c), by go_num, by rw [used_snoc, HT.out, HBL.out], by rw [hlen.out]; omega, by rw [HSP.out, HBody.out HST.out, List.drop_drop, List.append_assoc]; rfl, by rw [List.length_append, List.length_singleton]; omega, by rw [List.length_append]; exact O5.out, B5.out⟩
          case measure => simp [intOf]; omega
    · have HNO : Hid (¬ Stands (s.drop t)) := Lib.hid (fun h => by have := h.1; rw [List.length_drop, hlen.out] at this; omega)
      go_wp2_with fail
      go_ret2
      exact split_post HT.out HSP.out HNO.out HR.out HB.out

theorem refSplit_short (A : Option Addr) (len cap : Nat) (s : List Nat) (h6 : len < 6) (hs : s.length = len) (w : World) :
    Calls Tryd.prog 13 #[.slice A len cap] w (SplitPost w s) := by
  have HE := Lib.hid (split_short (s := s) (by omega))
  clear hs
  go_enter Tryd.func13, Tryd.ntmps13
  go_wp2_with fail
  go_loop [4, 5] (fun v t => v = .slice none 0 0 ∧ t = .int .i64 0) (fun _ _ => 0)
  case atStart => exact ⟨rfl, rfl⟩
  case round =>
    obtain ⟨rfl, rfl⟩ := hrel
    go_wp2_with fail
    go_ret2
    exact ⟨_, by rw [HE.out]; rfl, by rw [HE.out]; exact OwnRows.nil _ _, Below.refl _ _⟩
theorem refSplit_at (A : Option Addr) (len cap : Nat) (s : List Nat) (hl : len ≤ cap) (hb : len ≤ 999999999999) (w : World) (hA : Hid (AtB w A len s)) :
    Calls Tryd.prog 13 #[.slice A len cap] w (SplitPost w s) := by
  by_cases h6 : len < 6
  · exact refSplit_short A len cap s h6 hA.out.1 w
  · obtain ⟨b, off, rfl, _⟩ := hA.out.2.2.2 (by omega)
    exact refSplit_some b off len cap s hl hb w hA
end Go.Proofs.YtalfjdlpmhmjkaaDoor
