/-
  AccessCounts: so many are added, one behind the other, by any threads: each is told the sum of those ahead of it, and the word is the sum of all; for every 60 numbers. No condition beyond the statement's own.
-/
import Derived.Test.YtieepdpelkpfkaaAccShown
import Derived.Test.YtieepdpelkpfkaaAccLeaf
import Derived.Test.YtieepdpelkpfkaaAccKeep
import Derived.Test.YtieepdpelkpfkaaLaw
import Derived.Test.YtieepdpelkpfkaaFields
import Derived.Deep.Cut
import Derived.Deep.CutRange
import Derived.Deep.RegionHeld3
namespace Go.Proofs.Ytieepdpelkpfkaa.accessCounts
open Go.ChangeShapes Go.WideShapes Go.ChangeAt Go.RowKit Go.Deep Go.BigFrame
set_option linter.unusedVariables false
theorem own : ownKnob Try.prog.godebug = none := by kernel_rfl

/-- The sum of the first k words. -/
def sumF (f : Nat → Nat) : Nat → Nat
  | 0 => 0
  | k + 1 => (sumF f k + f k) % 18446744073709551616
theorem sumF_lt (f : Nat → Nat) (k : Nat) : sumF f k < 18446744073709551616 := by
  cases k with
  | zero => show (0 : Nat) < 18446744073709551616; decide
  | succ k => exact Nat.mod_lt _ (by decide)
/-- Behind k rounds: the variable that holds the world lies in a block g; its memory lies elsewhere. -/
structure Run (y : World) (g N : Nat) (x : World) : Prop where
  below : Below y.heap.size y x
  blk : y.heap.size ≤ g
  run : ∃ A ka R ra S sa G, WdAt x g 3 0 A 11 ka 0 R 3 ra S sa G (zerosS 3) (zerosS 3) ∧ G 2 = N ∧ OffW (Out g 1) A 11 ∧ OffS (Out g 1) x R 3 ∧ OffS (Out g 1) x S 3
/-- Behind the call: the new world's variable, and what was told; the old world's variable is as it was. -/
def End9 (wr : World) (g0 : Nat) (OLD : List Value) (G : Nat → Nat) (s0 : Nat) (v9 v10 : Value) (y : World) : Prop :=
  ∃ b9 b10 A ka R ra S sa X kx, v9 = .pointer (some ⟨b9, 0, none⟩) ∧ v10 = .pointer (some ⟨b10, 0, none⟩) ∧ b9 ≠ g0 ∧ b10 ≠ g0 ∧ VarAt y b9 [.int .i64 3, .int .i64 0, .slice A 11 ka, .int .u64 0, .slice R 3 ra, .slice S 3 sa] ∧ VarAt y b10 [.int .u64 (s0 : Int), .slice X 0 kx, .bool false] ∧ VarAt y g0 OLD ∧
    AtW y A 11 G ∧ StmsAt y R 3 (zerosS 3) ∧ StmsAt y S 3 (zerosS 3) ∧ OffW (Out g0 1) A 11 ∧ OffS (Out g0 1) y R 3 ∧ OffS (Out g0 1) y S 3 ∧ Below wr.heap.size wr y
theorem End9.of {wr w4 y : World} {g0 N2 s0 b9 b10 ka ra sa kx : Nat} {OLD : List Value} {G : Nat → Nat} {A R S X : Option Addr} (hk : Keep (Qn g0 wr.heap.size N2) w4 y) (n1 : b9 ≠ g0) (n2 : b10 ≠ g0) (v9 : VarAt y b9 [.int .i64 3, .int .i64 0, .slice A 11 ka, .int .u64 0, .slice R 3 ra, .slice S 3 sa]) (v10 : VarAt y b10 [.int .u64 (s0 : Int), .slice X 0 kx, .bool false]) (vg : VarAt y g0 OLD)
    (hA : AtW w4 A 11 G) (h0 : StmsAt w4 R 3 (zerosS 3)) (h1 : StmsAt w4 S 3 (zerosS 3)) (o0 : OffW (Qn g0 wr.heap.size N2) A 11) (o1 : OffS (Qn g0 wr.heap.size N2) w4 R 3) (o2 : OffS (Qn g0 wr.heap.size N2) w4 S 3) (hb : Below wr.heap.size wr y) :
    End9 wr g0 OLD G s0 (.pointer (some ⟨b9, 0, none⟩)) (.pointer (some ⟨b10, 0, none⟩)) y :=
  ⟨b9, b10, A, ka, R, ra, S, sa, X, kx, rfl, rfl, n1, n2, v9, v10, vg, hA.keep hk o0, h0.keep hk o1, h1.keep hk o2, o0.mono fun b hb => by unfold Qn at hb; unfold Out; omega,
    (o1.keep h0 hk o1).mono fun b hb => by unfold Qn at hb; unfold Out; omega, (o2.keep h1 hk o2).mono fun b hb => by unfold Qn at hb; unfold Out; omega, hb⟩
theorem cnt_new (w : World) : Calls Try.prog 20 #[.int .i64 3, .int .i64 0] w (NewWd w 3 0 11 (newF 3 0)) := newWd_at 3 0 (by decide) (by decide) (by decide) w
section
variable (A : Option Addr) (k : Nat) (G : Nat → Nat) (R S : Option Addr) (ra sa : Nat) (me : Int) (a s N : Nat)
theorem cnt_add (hG : ∀ j, G j < 18446744073709551616) (ha : a < 18446744073709551616) (hN : G 2 = N) (hs : (N + a) % 18446744073709551616 = s) (pf : Bool) (hpf : pf = false) (w : World) (hA : Hid (AtW w A 11 G)) (h0 : Hid (StmsAt w R 3 (zerosS 3))) (h1 : Hid (StmsAt w S 3 (zerosS 3))) :
    Calls Try.prog 14 #[.agg #[.int .i64 3, .int .i64 0, .slice A 11 k, .int .u64 0, .slice R 3 ra, .slice S 3 sa], .int .i64 me, .agg #[.int .i64 3, .int .i64 2, .int .u64 (a : Int), .int .u64 0, .slice none 0 0, .slice none 0 0], .bool true] w (DoW w 3 0 A 11 0 R S 3 (setW G 2 s) (zerosS 3) (zerosS 3) N [] pf) := by
  subst hpf
  have h := doWord 3 0 A 11 k G 0 R S 3 ra sa (zerosS 3) (zerosS 3) me a 0 none 0 0 none 0 0 3 2 (by decide) (by decide) (by decide) hG ha (by decide) true w hA h0 h1
  have e1 : isN 3 a 0 (G 2) = s := by rw [hN]; exact hs
  have e2 : toldN 3 a 0 (G 2) = N := hN
  rw [e1, e2] at h
  exact h
theorem cnt_swap (hG : ∀ j, G j < 18446744073709551616) (hN : G 2 = N) (pf : Bool) (hpf : pf = false) (w : World) (hA : Hid (AtW w A 11 G)) (h0 : Hid (StmsAt w R 3 (zerosS 3))) (h1 : Hid (StmsAt w S 3 (zerosS 3))) :
    Calls Try.prog 14 #[.agg #[.int .i64 3, .int .i64 0, .slice A 11 k, .int .u64 0, .slice R 3 ra, .slice S 3 sa], .int .i64 0, .agg #[.int .i64 4, .int .i64 2, .int .u64 1, .int .u64 0, .slice none 0 0, .slice none 0 0], .bool false] w (DoW w 3 0 A 11 0 R S 3 (setW G 2 1) (zerosS 3) (zerosS 3) N [] pf) := by
  subst hpf
  have h := doWord 3 0 A 11 k G 0 R S 3 ra sa (zerosS 3) (zerosS 3) 0 1 0 none 0 0 none 0 0 4 2 (by decide) (by decide) (by decide) hG (by decide) (by decide) false w hA h0 h1
  have e2 : toldN 4 1 0 (G 2) = N := hN
  rw [e2] at h
  exact h
end

set_option maxRecDepth 100000 in
set_option maxHeartbeats 16000000 in
theorem walkLong (A : Option Addr) (n cap : Nat) (f : Nat → Nat) (B : Option Addr) (m mc : Nat) (g : List Nat) (h1 : 60 < n) (w : World) (hA : Hid (AtW w A n f)) (hB : Hid (AtB w B m g)) :
    Calls Try.prog 7 #[.slice A n cap, .slice B m mc] w fun e w' => e = .returned (.bool true) ∧ Below w.heap.size w w' := by
  have d1 : decide ((60 : Int) < (n : Int)) = true := by rw [decide_eq_true_iff]; omega
  go_enter Try.func7, Try.ntmps7
  go_wp2_with fail
  (with_reducible refine (shown_any _).mono ?_)
  rintro e w1 ⟨rfl, hb⟩
  have BB := Lib.hid hb
  have HA1 := Lib.hid (hA.out.later hb)
  have HB1 := Lib.hid (AtB.later hB hb)
  clear hb
  go_wp2_with fail
  go_ret
  exact ⟨rfl, BB.out⟩

set_option maxRecDepth 100000 in
set_option maxHeartbeats 16000000 in
theorem walkLess (A : Option Addr) (n cap : Nat) (f : Nat → Nat) (B : Option Addr) (m mc : Nat) (g : List Nat) (h1 : n ≤ 60) (h2 : m < n) (w : World) (hA : Hid (AtW w A n f)) (hB : Hid (AtB w B m g)) :
    Calls Try.prog 7 #[.slice A n cap, .slice B m mc] w fun e w' => e = .returned (.bool true) ∧ Below w.heap.size w w' := by
  have d1 : decide ((60 : Int) < (n : Int)) = false := by rw [decide_eq_false_iff_not]; omega
  have d2 : decide ((m : Int) < (n : Int)) = true := by rw [decide_eq_true_iff]; omega
  have d2' : decide (m < n) = true := by rw [decide_eq_true_iff]; omega
  go_enter Try.func7, Try.ntmps7
  go_wp2_with fail
  (with_reducible refine (shown_any _).mono ?_)
  rintro e w1 ⟨rfl, hb⟩
  have BB := Lib.hid hb
  have HA1 := Lib.hid (hA.out.later hb)
  have HB1 := Lib.hid (AtB.later hB hb)
  clear hb
  go_wp2_with fail
  go_ret
  exact ⟨rfl, BB.out⟩

set_option maxRecDepth 100000 in
set_option maxHeartbeats 16000000 in
theorem walk (A : Option Addr) (n cap : Nat) (f : Nat → Nat) (B : Option Addr) (m mc : Nat) (g : List Nat) (h1 : n ≤ 60) (h2 : n ≤ m) (w : World) (hA : Hid (AtW w A n f)) (hB : Hid (AtB w B m g)) :
    Calls Try.prog 7 #[.slice A n cap, .slice B m mc] w fun e w' => e = .returned (.bool true) ∧ Below w.heap.size w w' := by
  have d1 : decide ((60 : Int) < (n : Int)) = false := by rw [decide_eq_false_iff_not]; omega
  have d2 : decide ((m : Int) < (n : Int)) = false := by rw [decide_eq_false_iff_not]; omega
  have d2' : decide (m < n) = false := by rw [decide_eq_false_iff_not]; omega
  go_enter Try.func7, Try.ntmps7
  go_wp2_with fail
  (with_reducible refine (shown_any _).mono ?_)
  rintro e w1 ⟨rfl, hb⟩
  have BB := Lib.hid hb
  have HA1 := Lib.hid (hA.out.later hb)
  have HB1 := Lib.hid (AtB.later hB hb)
  clear hb
  go_wp2_with fail
  (with_reducible refine (cnt_new _).mono ?_)
  rintro e w2 ⟨A2, ka2, R2, ra2, S2, sa2, rfl, ha, hs0, hs1, hb, hP⟩
  go_upto_region 5 with fail
  obtain ⟨x2, hx2⟩ : ∃ x, w2.alloc (.cells #[.int .i64 3, .int .i64 0, .slice A2 11 ka2, .int .u64 0, .slice R2 3 ra2, .slice S2 3 sa2] 31) = x := ⟨_, rfl⟩
  have RUN : Hid (Run w1 w2.heap.size 0 x2) := Lib.hid (by
    have hbx : Below w2.heap.size w2 x2 := by rw [← hx2]; exact al_below _ _
    obtain ⟨o0, o1, o2⟩ := hP (fun b => w1.heap.size ≤ b) (fun b hb => hb)
    refine ⟨hb.trans (hbx.mono hb.size), hb.size, A2, ka2, R2, ra2, S2, sa2, newF 3 0, by rw [← hx2]; exact WdAt.made0 w2 _ ha hs0 hs1, rfl, ?_, ?_, ?_⟩
    · exact fun hp b off e => .inl (ha.old hp b off e)
    · have h := (hs0.old.mono fun b hb => (Or.inl hb : Out w2.heap.size 1 b)).later hs0 hbx
      exact h
    · have h := (hs1.old.mono fun b hb => (Or.inl hb : Out w2.heap.size 1 b)).later hs1 hbx
      exact h)
  have HAx := Lib.hid (HA1.out.later RUN.out.below)
  have HBx := Lib.hid (AtB.later HB1 RUN.out.below)
  rw [hx2]
  clear hx2 ha hs0 hs1 hb hP
  obtain ⟨g0, hg0⟩ : ∃ x, w2.heap.size = x := ⟨_, rfl⟩
  rw [hg0] at RUN ⊢
  clear hg0
  go_wp2_with fail
  go_loopw [7, 8] (fun u7 u8 wr => ∃ k : Nat, k ≤ n ∧ u8 = .int .i64 (k : Int) ∧ u7 = .int .u64 (sumF f k : Int) ∧ Run w1 g0 (sumF f k) wr) (fun _ i _ => n - (intOf i).toNat)
  case atStart => exact ⟨0, Nat.zero_le _, rfl, rfl, RUN.out⟩
  case round =>
    obtain ⟨k, hkn, rfl, rfl, hrun⟩ := hrel
    have HR := Lib.hid hrun
    have hsl := sumF_lt f k
    clear hrun
    by_cases hlt : k < n
    · obtain ⟨hbel, hblk, A3, ka3, R3, ra3, S3, sa3, G3, hW3, hG3, o0, o1, o2⟩ := HR.out
      have HW3 := Lib.hid hW3
      have HO := Lib.hid (And.intro o0 (And.intro o1 o2))
      have HG3 := Lib.hid hG3
      have HBL := Lib.hid hbel
      have HBK := Lib.hid hblk
      obtain ⟨b1, o3, rfl, hl1, hc1⟩ := HA1.out.2 (by omega)
      obtain ⟨b2, o4, rfl, hl2, hc2⟩ := HB1.out.2.2.2 (by omega)
      have hm1 := hc1 k hlt
      have hm2 := hc2 k (by omega)
      have hgk : g.getD k 0 < 256 := by
        have hmem := HB1.out.2.1
        rw [List.getD_eq_getElem?_getD, List.getElem?_eq_getElem (show k < g.length by have := HB1.out.1; omega)]
        exact hmem _ (List.getElem_mem _)
      have HM1 : Hid (∀ w', Below w1.heap.size w1 w' → w'.cell? ⟨b1, o3 + k, none⟩ = some (.int .u64 ((f k : Nat) : Int))) := Lib.hid (fun w' hb => (hb.cell (p := ⟨b1, o3 + k, none⟩) hl1).trans hm1)
      have HM2 : Hid (∀ w', Below w1.heap.size w1 w' → w'.cell? ⟨b2, o4 + k, none⟩ = some (.int .u8 ((g.getD k 0 : Nat) : Int))) := Lib.hid (fun w' hb => (hb.cell (p := ⟨b2, o4 + k, none⟩) hl2).trans hm2)
      have hfk : f k < 18446744073709551616 := HA1.out.1 k
      have HADD := fun (me : Int) w => cnt_add A3 ka3 G3 R3 S3 ra3 sa3 me (f k) (sumF f (k + 1)) (sumF f k) HW3.out.2.1.1 hfk HG3.out rfl false rfl w
      have hs : IntKind.u64.wrap ((sumF f k : Int) + (f k : Int)) = (sumF f (k + 1) : Int) := by
        rw [IntKind.wrap_u64]
        show _ = (((sumF f k + f k) % 18446744073709551616 : Nat) : Int)
        omega
      have hmod1 : ((g.getD k 0 : Nat) : Int).tmod 3 = ((g.getD k 0 : Nat) : Int) % 3 := by rw [Int.tmod_eq_emod_of_nonneg (by omega)]
      have hmod2 : ((g.getD k 0 : Nat) : Int) % 3 < 3 := by omega
      clear hc1 hc2 hm1 hm2 hW3 hG3 o0 o1 o2 hbel hblk HR HA1 HB1
      generalize g.getD k 0 = gk at *
      obtain ⟨s1, hs1e⟩ : ∃ x, sumF f (k + 1) = x := ⟨_, rfl⟩
      rw [hs1e] at hs HADD
      have HS1 := Lib.hid hs1e
      clear hs1e
      generalize sumF f k = s0 at *
      generalize f k = fk at *
      obtain ⟨_, ⟨c0, c1, c2, c3, c4, c5⟩, q0, q1, q2, q3, q4, q5⟩ := HW3.out.1.six
      have rM1 : ∀ w', Below wr.heap.size wr w' → w'.cell? ⟨b1, o3 + k, none⟩ = some (.int .u64 (fk : Int)) := fun w' hb => HM1.out w' (HBL.out.trans (hb.mono HBL.out.size))
      have rM2 : ∀ w', Below wr.heap.size wr w' → w'.cell? ⟨b2, o4 + k, none⟩ = some (.int .u8 (gk : Int)) := fun w' hb => HM2.out w' (HBL.out.trans (hb.mono HBL.out.size))
      have rC0 : ∀ w', Below wr.heap.size wr w' → w'.cell? ⟨g0, 0, none⟩ = some (.int .i64 3) := fun w' hb => (HW3.out.later hb).cells.1
      have rC1 : ∀ w', Below wr.heap.size wr w' → w'.cell? ⟨g0, 1, none⟩ = some (.int .i64 0) := fun w' hb => (HW3.out.later hb).cells.2.1
      have rC2 : ∀ w', Below wr.heap.size wr w' → w'.cell? ⟨g0, 2, none⟩ = some (.slice A3 11 ka3) := fun w' hb => (HW3.out.later hb).cells.2.2.1
      have rC3 : ∀ w', Below wr.heap.size wr w' → w'.cell? ⟨g0, 3, none⟩ = some (.int .u64 0) := fun w' hb => (HW3.out.later hb).cells.2.2.2.1
      have rC4 : ∀ w', Below wr.heap.size wr w' → w'.cell? ⟨g0, 4, none⟩ = some (.slice R3 3 ra3) := fun w' hb => (HW3.out.later hb).cells.2.2.2.2.1
      have rC5 : ∀ w', Below wr.heap.size wr w' → w'.cell? ⟨g0, 5, none⟩ = some (.slice S3 3 sa3) := fun w' hb => (HW3.out.later hb).cells.2.2.2.2.2
      have i1 : (0 : Int) ≤ (k : Int) := by omega
      have i2 : (k : Int) < (n : Int) := by omega
      have i3 : (k : Int) < (m : Int) := by omega
      clear c0 c1 c2 c3 c4 c5 q0 q1 q2 q3 q4 q5
      have HCL := fun (w4 : World) (hb : Below wr.heap.size wr w4) => (HW3.out.later hb)
      have HSZ : Hid (g0 < wr.heap.size) := Lib.hid HW3.out.1.1
      go_upto_region 9 with fail
      go_cut [9, 10] from 26 to 62 (fun s9 s10 wx => End9 wr g0 [.int .i64 3, .int .i64 0, .slice A3 11 ka3, .int .u64 0, .slice R3 3 ra3, .slice S3 3 sa3] (setW G3 2 s1) s0 s9 s10 wx)
      case first =>
        have hB0 : Below wr.heap.size wr wr := Below.refl _ _
        go_region_held3 (fun w' => Below wr.heap.size wr w') (repeat (first | with_reducible assumption | with_reducible refine Below.drew ?_ | with_reducible refine below_al ?_ | (with_reducible refine below_set1 (by omega) _ ?_)))
          (first | (go_at_call 14; (with_reducible refine (HADD _ _ (HW3.out.later (by repeat (first | with_reducible assumption | with_reducible refine Below.drew ?_ | with_reducible refine below_al ?_))).gA (HW3.out.later (by repeat (first | with_reducible assumption | with_reducible refine Below.drew ?_ | with_reducible refine below_al ?_))).g0 (HW3.out.later (by repeat (first | with_reducible assumption | with_reducible refine Below.drew ?_ | with_reducible refine below_al ?_))).g1).mono ?_); rintro e w4 ⟨A4, ka4, R4, ra4, S4, sa4, X4, kx4, rfl, ha, hs0, hs1, hk, hx, hb, hP⟩; have hBw4 : Below wr.heap.size wr w4 := below_step hb (by repeat (first | with_reducible assumption | with_reducible refine Below.drew ?_ | with_reducible refine below_al ?_)); have hz4 := hBw4.size; have HA4 := Lib.hid ha; have HS4 := Lib.hid hs0; have HT4 := Lib.hid hs1; have HQ := Lib.hid (arm_fact (by repeat (first | with_reducible assumption | with_reducible refine Below.drew ?_ | with_reducible refine below_al ?_)) hb hP HW3.out.2.1 HW3.out.2.2.1 HW3.out.2.2.2 HO.out.1 HO.out.2.1 HO.out.2.2 HSZ.out); (try (have VBa : VarAt w4 wr.heap.size [.int .i64 0, .int .i64 0, .slice none 0 0, .int .u64 0, .slice none 0 0, .slice none 0 0] := VarAt.onto hb (VarAt.made wr #[.int .i64 0, .int .i64 0, .slice none 0 0, .int .u64 0, .slice none 0 0, .slice none 0 0] 31) rfl; obtain ⟨_, ⟨va0, va1, va2, va3, va4, va5⟩, wa0, wa1, wa2, wa3, wa4, wa5⟩ := VBa.six)); (try (have VBb : VarAt w4 wr.heap.size [.int .u64 0, .slice none 0 0, .bool false] := VarAt.onto hb (VarAt.made wr #[.int .u64 0, .slice none 0 0, .bool false] 42) rfl; obtain ⟨_, vb0, vb1, vb2, wb0, wb1, wb2⟩ := VBb.three)); (try (have VBc : VarAt w4 (wr.heap.size + 1) [.int .u64 0, .slice none 0 0, .bool false] := VarAt.onto hb (VarAt.made1 wr (.cells #[.int .i64 0, .int .i64 0, .slice none 0 0, .int .u64 0, .slice none 0 0, .slice none 0 0] 31) #[.int .u64 0, .slice none 0 0, .bool false] 42) rfl; obtain ⟨_, vc0, vc1, vc2, wc0, wc1, wc2⟩ := VBc.three)); (try (have VBd : VarAt w4 (wr.heap.size + 1) [.int .i64 0, .int .i64 0, .slice none 0 0, .int .u64 0, .slice none 0 0, .slice none 0 0] := VarAt.onto hb (VarAt.made1 wr (.cells #[.int .u64 0, .slice none 0 0, .bool false] 42) #[.int .i64 0, .int .i64 0, .slice none 0 0, .int .u64 0, .slice none 0 0, .slice none 0 0] 31) rfl; obtain ⟨_, ⟨vd0, vd1, vd2, vd3, vd4, vd5⟩, wd0, wd1, wd2, wd3, wd4, wd5⟩ := VBd.six)); (try (have VBe : VarAt w4 wr.heap.size [.int .i64 0, .int .i64 0, .slice none 0 0, .int .u64 0, .slice none 0 0, .slice none 0 0] := VarAt.onto hb ((VarAt.made wr #[.int .i64 0, .int .i64 0, .slice none 0 0, .int .u64 0, .slice none 0 0, .slice none 0 0] 31).below (al_below _ (.cells #[.int .u64 0, .slice none 0 0, .bool false] 42))) rfl; obtain ⟨_, ⟨ve0, ve1, ve2, ve3, ve4, ve5⟩, we0, we1, we2, we3, we4, we5⟩ := VBe.six)); (try (have VBf : VarAt w4 wr.heap.size [.int .u64 0, .slice none 0 0, .bool false] := VarAt.onto hb ((VarAt.made wr #[.int .u64 0, .slice none 0 0, .bool false] 42).below (al_below _ (.cells #[.int .i64 0, .int .i64 0, .slice none 0 0, .int .u64 0, .slice none 0 0, .slice none 0 0] 31))) rfl; obtain ⟨_, vf0, vf1, vf2, wf0, wf1, wf2⟩ := VBf.three)); clear ha hs0 hs1 hk hx hb hP))
        all_goals
          go_wp2_with fail
          go_meet
          obtain ⟨N2, hN2, hN3, hN4, o0, o1, o2⟩ := HQ.out
          have hgz := HSZ.out
          simp at hN2
          obtain ⟨_, ⟨c0, c1, c2, c3, c4, c5⟩, q0, q1, q2, q3, q4, q5⟩ := (HW3.out.later hBw4).1.six
          exact End9.of (N2 := N2) (w4 := w4) (ka := ka4) (ra := ra4) (sa := sa4) (X := X4) (kx := kx4) (by repeat (first | with_reducible exact Keep.refl _ _ | with_reducible refine Keep.drew ?_ | with_reducible refine Keep.alloc ?_ _ | (with_reducible refine Keep.set ?_ _ _ _ (by unfold Qn; omega)))) (by omega) (by omega) (VarAt.of6 (by first | (simp; done) | (simp; omega) | omega) (by go_simp) (by go_simp) (by go_simp) (by go_simp) (by go_simp) (by go_simp) (by go_simp) (by go_simp) (by go_simp) (by go_simp) (by go_simp) (by go_simp) ) (VarAt.of3 (by first | (simp; done) | (simp; omega) | omega) (by go_simp) (by go_simp) (by go_simp) (by go_simp) (by go_simp) (by go_simp) ) (VarAt.of6 (by first | (simp; done) | (simp; omega) | omega) (by go_simp) (by go_simp) (by go_simp) (by go_simp) (by go_simp) (by go_simp) (by go_simp) (by go_simp) (by go_simp) (by go_simp) (by go_simp) (by go_simp) ) HA4.out HS4.out HT4.out o0 o1 o2 (by repeat (first | with_reducible assumption | with_reducible refine Below.drew ?_ | with_reducible refine below_al ?_ | (with_reducible refine below_set1 (by omega) _ ?_)))
      case rest =>
        obtain ⟨b9, b10, A4, ka4, R4, ra4, S4, sa4, X4, kx4, rfl, rfl, hn9, hn10, hv9, hv10, hvg, hA4, hS4, hT4, o0, o1, o2, hby⟩ := hcut
        have n1 : ¬ (b9 = g0) := hn9
        have n2 : ¬ (g0 = b9) := fun e => hn9 e.symm
        have n3 : ¬ (b10 = g0) := hn10
        have n4 : ¬ (g0 = b10) := fun e => hn10 e.symm
        have n5 : ¬ (b1 = g0) := by have := HBK.out; omega
        have n6 : ¬ (g0 = b1) := fun e => n5 e.symm
        have m1 := rM1 wc hby
        have HBY := Lib.hid (HBL.out.trans (hby.mono HBL.out.size))
        have HF := Lib.hid (And.intro hA4 (And.intro hS4 (And.intro hT4 (And.intro o0 (And.intro o1 o2)))))
        have HV := Lib.hid hvg
        obtain ⟨_, ⟨c0, c1, c2, c3, c4, c5⟩, _⟩ := hv9.six
        obtain ⟨_, r0, r1, r2, _⟩ := hv10.three
        obtain ⟨_, ⟨d0, d1, d2, d3, d4, d5⟩, q0, q1, q2, q3, q4, q5⟩ := hvg.six
        clear hv9 hv10 hvg hA4 hS4 hT4 o0 o1 o2 hby HCL rC0 rC1 rC2 rC3 rC4 rC5 rM1 rM2 hn9 hn10
        go_wp2_with fail
        go_roundw
        case rel =>
          obtain ⟨hA4, hS4, hT4, o0, o1, o2⟩ := HF.out
          have hby := HBY.out
          have hbk := HBK.out
          have hgy := HV.out.1
          refine ⟨k + 1, by omega, by go_num, by rw [HS1.out], ⟨(by repeat (first | with_reducible assumption | with_reducible refine Below.drew ?_ | with_reducible refine below_al ?_ | (with_reducible refine below_set1 (by omega) _ ?_))), hbk, A4, ka4, R4, ra4, S4, sa4, setW G3 2 s1, ⟨VarAt.of6 (by first | (simp; done) | (simp; omega) | omega) (by go_simp) (by go_simp) (by go_simp) (by go_simp) (by go_simp) (by go_simp) (by go_simp) (by go_simp) (by go_simp) (by go_simp) (by go_simp) (by go_simp) , hA4.alike (N := g0) (k := 1) (by repeat (first | with_reducible exact Alike.refl _ _ _ | with_reducible refine Alike.drew ?_ | (with_reducible refine Alike.set ?_ _ _ _ (by omega) (by omega)))) o0, hS4.alike (N := g0) (k := 1) (by repeat (first | with_reducible exact Alike.refl _ _ _ | with_reducible refine Alike.drew ?_ | (with_reducible refine Alike.set ?_ _ _ _ (by omega) (by omega)))) o1, hT4.alike (N := g0) (k := 1) (by repeat (first | with_reducible exact Alike.refl _ _ _ | with_reducible refine Alike.drew ?_ | (with_reducible refine Alike.set ?_ _ _ _ (by omega) (by omega)))) o2⟩, by rw [HS1.out]; unfold setW; rw [if_pos rfl], o0, o1.alike (N := g0) (k := 1) (by repeat (first | with_reducible exact Alike.refl _ _ _ | with_reducible refine Alike.drew ?_ | (with_reducible refine Alike.set ?_ _ _ _ (by omega) (by omega)))) o1, o2.alike (N := g0) (k := 1) (by repeat (first | with_reducible exact Alike.refl _ _ _ | with_reducible refine Alike.drew ?_ | (with_reducible refine Alike.set ?_ _ _ _ (by omega) (by omega)))) o2⟩⟩
        case measure => simp [intOf]; omega
    · obtain rfl : k = n := by omega
      obtain ⟨hbel, hblk, A3, ka3, R3, ra3, S3, sa3, G3, hW3, hG3, _⟩ := HR.out
      have HW3 := Lib.hid hW3
      have BB2 := Lib.hid (BB.out.trans (hbel.mono BB.out.size))
      have HSW := fun w => cnt_swap A3 ka3 G3 R3 S3 ra3 sa3 (sumF f k) hW3.2.1.1 hG3 false rfl w
      obtain ⟨c0, c1, c2, c3, c4, c5⟩ := hW3.cells
      clear hW3 hG3 HR HA1 HB1 hbel hblk
      generalize sumF f k = s0 at *
      go_wp2_with fail
      (with_reducible refine (HSW _ HW3.out.gA HW3.out.g0 HW3.out.g1).mono ?_)
      rintro e w4 ⟨A4, ka4, R4, ra4, S4, sa4, X4, kx4, rfl, ha, hs0, hs1, hk, hx, hb, hP⟩
      have BB3 := Lib.hid (BB2.out.trans (hb.mono BB2.out.size))
      have HX := Lib.hid hx
      clear ha hs0 hs1 hk hx hb hP c0 c1 c2 c3 c4 c5
      have hb4 := BB3.out
      go_wp2_with fail
      go_ret
      exact ⟨rfl, (by repeat (first | with_reducible assumption | with_reducible refine Below.drew ?_ | with_reducible refine below_al ?_ | (with_reducible refine below_set1 (by omega) _ ?_)))⟩
section
set_option maxRecDepth 100000
set_option maxHeartbeats 2000000
variable {H : Type} {enc : TypeId × Value → H} {w : World}
theorem open_l {v : Value} {d : DataW H} {ps : List MemPlace} {base : Nat} (hval : Value.okWide Try.prog w .any base 22 v) (h : DataW.Trod enc Try.prog w 0 (fun _ => true) true 22 v d ps) (hs : Sized Try.prog 22 d) (hlt : ∀ z ∈ ps, z.block < w.heap.size) :
    ∃ (lA : Option Addr) (lL lC : Nat) (lf : Nat → Nat), v = .slice lA lL lC ∧ (lL ≤ lC ∧ lL ≤ 140737488355328 ∧ AtW w lA lL lf) := by
  obtain ⟨a0, len, cap, rfl⟩ := okWide_slice Try.underlying22 hval
  obtain ⟨fuel, hf0⟩ := h
  have hf : DataW.trod enc Try.prog w 0 (fun _ => true) true fuel 22 [.slice a0 len cap] = some (d, ps) := hf0
  obtain ⟨lA, lL, lC, lf, e0, hl⟩ := leaf_words hf hs hlt
  cases e0
  exact ⟨_, _, _, _, rfl, hl⟩
theorem open_m {v : Value} {d : DataW H} {ps : List MemPlace} {base : Nat} (hval : Value.okWide Try.prog w .any base 32 v) (h : DataW.Trod enc Try.prog w 0 (fun _ => true) true 32 v d ps) (hs : Sized Try.prog 32 d) (hlt : ∀ z ∈ ps, z.block < w.heap.size) :
    ∃ (mA : Option Addr) (mL mC : Nat) (mx : List Nat), v = .slice mA mL mC ∧ (mL ≤ mC ∧ mL ≤ 140737488355328 ∧ AtB w mA mL mx) := by
  obtain ⟨a0, len, cap, rfl⟩ := okWide_slice Try.underlying32 hval
  obtain ⟨fuel, hf0⟩ := h
  have hf : DataW.trod enc Try.prog w 0 (fun _ => true) true fuel 32 [.slice a0 len cap] = some (d, ps) := hf0
  obtain ⟨mA, mL, mC, mx, e0, hm⟩ := leaf_bytes hf hs hlt
  cases e0
  exact ⟨_, _, _, _, rfl, hm⟩
end

set_option maxRecDepth 100000 in
set_option maxHeartbeats 8000000 in
theorem lifted (os : Os) (started : os.Started) (H : Type) (enc : TypeId × Value → H) :
    ReturnsInHanded {} Try.checked os 7 .any (Rows.accessCountsSpec.pre6 enc Try.prog Try.f7 Rows.accessCountsRow.domain false) (Rows.accessCountsSpec.post enc Try.prog Try.f7 false true false false) := by
  refine law_lifted (C := Try.checked) own started (by kernel_rfl) Try.func7
    (ChangeSpec.witness6 (enc := enc) (C := Try.checked) false ⟨#[], #[.slice none 0 0, .slice none 0 0], []⟩ 8 (by kernel_rfl) (by kernel_rfl) (by kernel_rfl) (by kernel_rfl))
    (by kernel_rfl) (by kernel_rfl) Try.underlying4 rfl (by kernel_rfl) ?_
  intro W base args ds before hval hA hwt hlt
  have hA' : DataW.TrodAll enc Try.prog W 0 (fun _ => true) true Try.f7.params.toList args.toList ds before := hA
  have hval' : ∀ (j : Nat) t v, Try.f7.params[j]? = some t → args[j]? = some v → Value.okWide Try.prog W .any base t v := hval
  have hwt' : (DataW.weightsEach Try.prog Try.f7.params.toList ds).all (· ≤ reachBytes) = true := hwt
  rw [Try.params7] at hA' hval' hwt'
  obtain ⟨v0, vs0, d0, ds0, p0, q0, hargs, rfl, rfl, k0, r0⟩ := trodAll_cons hA'
  obtain ⟨v1, vs1, d1, ds1, p1, q1, rfl, rfl, rfl, k1, r1⟩ := trodAll_cons r0
  obtain ⟨rfl, rfl, rfl⟩ := trodAll_nil r1
  obtain rfl : args = #[v0, v1] := by cases args; simp_all
  obtain ⟨lA, lL, lC, lf, rfl, hl⟩ := open_l (hval' 0 22 v0 rfl rfl) k0 (sized_of hwt' (j := 0) (t := 22) rfl rfl) (fun x hx => hlt x (by simp [hx]))
  obtain ⟨mA, mL, mC, mx, rfl, hm⟩ := open_m (hval' 1 32 v1 rfl rfl) k1 (sized_of hwt' (j := 1) (t := 32) rfl rfl) (fun x hx => hlt x (by simp [hx]))
  refine ⟨rfl, ?_⟩
  obtain ⟨_, _, hlat⟩ := hl
  obtain ⟨_, _, hmat⟩ := hm
  by_cases h1 : 60 < lL
  · exact walkLong lA lL lC lf mA mL mC mx h1 W (Lib.hid hlat) (Lib.hid hmat)
  by_cases h2 : mL < lL
  · exact walkLess lA lL lC lf mA mL mC mx (by omega) h2 W (Lib.hid hlat) (Lib.hid hmat)
  exact walk lA lL lC lf mA mL mC mx (by omega) (by omega) W (Lib.hid hlat) (Lib.hid hmat)

theorem over : Rows.accessCountsRow.holds Try.pinned (OpenSpec.ofChange Rows.accessCountsSpec) :=
  OpenClaim.holds_of_wide 7 Try.f7 rfl rfl rfl rfl rfl rfl rfl ⟨rfl, rfl, rfl, rfl, rfl⟩ rfl rfl rfl rfl rfl (by kernel_rfl) Try.func7 (by kernel_rfl)
    (of_decide_eq_true (by kernel_rfl)) (by unfold Func.isWrapper; first | (rw [if_pos (by decide +kernel)]; kernel_rfl) | (rw [if_neg (by decide +kernel)]; exact ⟨rfl, rfl⟩))
    (fun os started H enc _ => lifted os started H enc)

/-- The statement. -/
theorem proved : Rows.AccessCountsSaid :=
  over
#print axioms proved
end Go.Proofs.Ytieepdpelkpfkaa.accessCounts
