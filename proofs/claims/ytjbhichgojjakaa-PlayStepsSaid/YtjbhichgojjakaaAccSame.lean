/-
  The document's own Same of two streams, of two rows of streams, and of two disks, whether they read alike or not.
-/
import Derived.Test.YtjbhichgojjakaaDskFew
import Derived.Test.YtjbhichgojjakaaCllCalls
import Derived.Deep.RegionHeld3
import Derived.Deep.Cut
namespace Go.Proofs.Ytjbhichgojjakaa
open Go.ChangeShapes Go.WideShapes Go.ChangeAt Go.RowKit
set_option linter.unusedVariables false
set_option maxRecDepth 100000

def sameS (x y : Stm) : Bool := decide ((strN x.bytes).toList = (strN y.bytes).toList) && (x.synced == y.synced)
theorem sameS_self (x : Stm) : sameS x x = true := by unfold sameS; simp
theorem sameS_any (A B : Option Addr) (ca cb : Nat) (x y : Stm) (w : World) (hA : Hid (AtB w A x.bytes.length x.bytes)) (hB : Hid (AtB w B y.bytes.length y.bytes)) :
    Calls Try.prog 89 #[.agg #[.slice A x.bytes.length ca, .int .i64 x.synced], .agg #[.slice B y.bytes.length cb, .int .i64 y.synced]] w (Kept w (.bool (sameS x y))) := by
  obtain ⟨w2, hw2⟩ : ∃ z, (w.alloc (.cells #[.slice A x.bytes.length ca, .int .i64 x.synced] 76)).alloc (.cells #[.slice B y.bytes.length cb, .int .i64 y.synced] 76) = z := ⟨_, rfl⟩
  have V0 : VarAt w2 w.heap.size [.slice A x.bytes.length ca, .int .i64 x.synced] := by rw [← hw2]; exact VarAt.pair0 w _ _ _ _
  have V1 : VarAt w2 (w.heap.size + 1) [.slice B y.bytes.length cb, .int .i64 y.synced] := by rw [← hw2]; exact VarAt.pair1 w _ _ _ _
  have HB : Hid (Below w.heap.size w w2) := Lib.hid (by rw [← hw2]; exact below_pair w _ _)
  have s1 := run_str (AtB.later hA HB.out) ca
  have s2 := run_str (AtB.later hB HB.out) cb
  obtain ⟨_, c0, c1, _⟩ := V0.two
  obtain ⟨_, d0, d1, _⟩ := V1.two
  obtain ⟨q, hq⟩ : ∃ q, (x.synced == y.synced) = q := ⟨_, rfl⟩
  have E : Hid (sameS x y = (decide ((strN x.bytes).toList = (strN y.bytes).toList) && q)) := Lib.hid (by unfold sameS; rw [hq])
  clear V0 V1
  generalize strN x.bytes = T at *
  generalize strN y.bytes = U at *
  generalize x.bytes.length = n at *
  generalize y.bytes.length = m at *
  generalize x.synced = sx at *
  generalize y.synced = sy at *
  go_enter Try.func89, Try.ntmps89
  go_upto_region 1 with fail
  try rw [hw2]
  clear hw2
  by_cases hp : T.toList = U.toList
  · have E2 : Hid (sameS x y = q) := Lib.hid (by rw [E.out, decide_eq_true hp, Bool.true_and])
    clear E
    cases q <;> (go_wp2_with fail; go_ret; exact ⟨ret_boolc E2.out.symm, HB.out⟩)
  · have E2 : Hid (sameS x y = false) := Lib.hid (by rw [E.out, decide_eq_false hp, Bool.false_and])
    clear E
    cases q <;> (go_wp2_with fail; go_ret; exact ⟨ret_boolc E2.out.symm, HB.out⟩)
/-- The first k streams of two rows read alike. -/
def sameL (l l' : List Stm) : Nat → Bool
  | 0 => true
  | k + 1 => sameL l l' k && sameS (l.getD k Stm.zero) (l'.getD k Stm.zero)
theorem sameL_no {l l' : List Stm} {k : Nat} (h : sameS (l.getD k Stm.zero) (l'.getD k Stm.zero) = false) : ∀ n, k < n → sameL l l' n = false
  | 0, hk => by omega
  | n + 1, hk => by
    by_cases e : k = n
    · subst e; unfold sameL; rw [h, Bool.and_false]
    · unfold sameL; rw [sameL_no h n (by omega), Bool.false_and]
set_option maxHeartbeats 1000000 in
theorem all_any (A : Option Addr) (n a : Nat) (B : Option Addr) (b : Nat) (l l' : List Stm) (w : World) (h0 : Hid (StmsAt w A n l)) (h1 : Hid (StmsAt w B n l')) :
    Calls Try.prog 70 #[.slice A n a, .slice B n b] w (Kept w (.bool (sameL l l' n))) := by
  have hm0 := h0.out.2.1
  have HL0 := Lib.hid h0.out.1
  have HL1 := Lib.hid h1.out.1
  go_enter Try.func70, Try.ntmps70
  go_wp2_with fail
  go_loopw [5, 6] (fun i _ wr => ∃ k : Nat, k ≤ n ∧ i = .int .i64 k ∧ sameL l l' k = true ∧ Below w.heap.size w wr) (fun i _ _ => n - (intOf i).toNat)
  case atStart => exact ⟨0, Nat.zero_le _, rfl, rfl, Below.refl _ _⟩
  case round =>
    obtain ⟨k, hk, rfl, hsm, hrel⟩ := hrel
    have HB := Lib.hid hrel
    have HSM := Lib.hid hsm
    clear hsm
    by_cases hlt : k < n
    · obtain ⟨x, b0, o0, A0, c0, hx, e0, hb0, hc0, hc1, hl0, hm0', hat0, hs0⟩ := (h0.out.later hrel).at_ k hlt
      obtain ⟨y, b1, o1, A1, c1, hy, e1, hb1, hd0, hd1, hl1, hm1', hat1, hs1⟩ := (h1.out.later hrel).at_ k hlt
      subst e0 e1
      have hgx : l.getD k Stm.zero = x := by rw [List.getD_eq_getElem?_getD, hx]; rfl
      have hgy : l'.getD k Stm.zero = y := by rw [List.getD_eq_getElem?_getD, hy]; rfl
      have HA0 := Lib.hid hat0
      have HA1 := Lib.hid hat1
      have HSS := fun w hA hB => sameS_any A0 A1 c0 c1 x y w hA hB
      obtain ⟨p, hp⟩ : ∃ p, sameS x y = p := ⟨_, rfl⟩
      rw [hp] at HSS
      have HP := Lib.hid hp
      have HGX := Lib.hid (And.intro hgx hgy)
      clear hx hy hat0 hat1 hrel hp hgx hgy
      go_wp2_with fail
      have hC0 : ∀ w', Below wr.heap.size wr w' → w'.cell? ⟨b0, o0 + k * 2, none⟩ = some (.slice A0 x.bytes.length c0) := fun w' hb => (hb.cell (p := ⟨b0, o0 + k * 2, none⟩) hb0).trans hc0
      have hC1 : ∀ w', Below wr.heap.size wr w' → w'.cell? ⟨b0, o0 + k * 2 + 1, none⟩ = some (.int .i64 x.synced) := fun w' hb => (hb.cell (p := ⟨b0, o0 + k * 2 + 1, none⟩) hb0).trans hc1
      have hD0 : ∀ w', Below wr.heap.size wr w' → w'.cell? ⟨b1, o1 + k * 2, none⟩ = some (.slice A1 y.bytes.length c1) := fun w' hb => (hb.cell (p := ⟨b1, o1 + k * 2, none⟩) hb1).trans hd0
      have hD1 : ∀ w', Below wr.heap.size wr w' → w'.cell? ⟨b1, o1 + k * 2 + 1, none⟩ = some (.int .i64 y.synced) := fun w' hb => (hb.cell (p := ⟨b1, o1 + k * 2 + 1, none⟩) hb1).trans hd1
      clear hc0 hc1 hd0 hd1
      have hB0 : Below wr.heap.size wr wr := Below.refl _ _
      first | (go_region_held3 (fun w' => Below wr.heap.size wr w') (first | assumption | (exact Below.drew (by assumption)) | (exact Below.drew (Below.refl _ _)))
        (first
          | (go_at_call 89; (with_reducible refine (HSS _ (Lib.hid (AtB.below HA0.out (by first | assumption | (exact Below.drew (Below.refl _ _)) | (exact Below.drew (by assumption))) (Nat.le_refl _))) (Lib.hid (AtB.below HA1.out (by first | assumption | (exact Below.drew (Below.refl _ _)) | (exact Below.drew (by assumption))) (Nat.le_refl _)))).mono ?_); rintro e w4 ⟨rfl, hbw4⟩; have hBw4 : Below wr.heap.size wr w4 := below_step hbw4 (by first | assumption | (exact Below.drew (Below.refl _ _)) | (exact Below.drew (by assumption))); have HB4 := Lib.hid (HB.out.trans (hBw4.mono HB.out.size)); clear hbw4))) | fail
      all_goals
        clear hC0 hC1 hD0 hD1
        cases p
        · go_wp2_with fail
          go_ret
          exact ⟨ret_boolc (sameL_no (k := k) (by rw [HGX.out.1, HGX.out.2]; exact HP.out) n hlt).symm, HB4.out⟩
        · go_wp2_with fail
          go_roundw
          case rel => exact ⟨k + 1, by omega, by go_num, by unfold sameL; rw [HSM.out, HGX.out.1, HGX.out.2, HP.out]; rfl, HB4.out⟩
          case measure => simp [intOf]; omega
    · obtain rfl : k = n := by omega
      go_wp2_with fail
      go_ret
      exact ⟨ret_boolc HSM.out.symm, HB.out⟩
def sameD (r r' : Int) (n m : Nat) (l0 l1 p0 p1 : List Stm) : Bool := (r == r') && (sameL l0 p0 n && sameL l1 p1 m)
set_option maxHeartbeats 1000000 in
theorem sameD_any (r r' : Int) (A : Option Addr) (n a : Nat) (B : Option Addr) (m b : Nat) (A' : Option Addr) (a' : Nat) (B' : Option Addr) (b' : Nat) (l0 l1 p0 p1 : List Stm) (w : World) (h0 : Hid (StmsAt w A n l0)) (h1 : Hid (StmsAt w B m l1))
    (h0' : Hid (StmsAt w A' n p0)) (h1' : Hid (StmsAt w B' m p1)) :
    Calls Try.prog 48 #[.agg #[.int .u64 r, .slice A n a, .slice B m b], .agg #[.int .u64 r', .slice A' n a', .slice B' m b']] w (Kept w (.bool (sameD r r' n m l0 l1 p0 p1))) := by
  have C0 := fun w h h' => all_any A n a A' a' l0 p0 w h h'
  have C1 := fun w h h' => all_any B m b B' b' l1 p1 w h h'
  obtain ⟨q0, hq0⟩ : ∃ q, sameL l0 p0 n = q := ⟨_, rfl⟩
  obtain ⟨q1, hq1⟩ : ∃ q, sameL l1 p1 m = q := ⟨_, rfl⟩
  obtain ⟨q2, hq2⟩ : ∃ q, (r == r') = q := ⟨_, rfl⟩
  have E : Hid (sameD r r' n m l0 l1 p0 p1 = (q2 && (q0 && q1))) := Lib.hid (by unfold sameD; rw [hq0, hq1, hq2])
  rw [hq0] at C0
  rw [hq1] at C1
  clear hq0 hq1
  go_enter Try.func48, Try.ntmps48
  go_wp2_with fail
  have HB := Lib.hid (below_pair w (.cells #[.int .u64 r, .slice A n a, .slice B m b] 33) (.cells #[.int .u64 r', .slice A' n a', .slice B' m b'] 33))
  have V0 := Lib.hid (VarAt.three0 w (.int .u64 r) (.slice A n a) (.slice B m b) (.cells #[.int .u64 r', .slice A' n a', .slice B' m b'] 33) 33)
  have V1 := Lib.hid (VarAt.three1 w (.int .u64 r') (.slice A' n a') (.slice B' m b') (.cells #[.int .u64 r, .slice A n a, .slice B m b] 33) 33)
  (with_reducible refine (C0 _ (StmsAt.hid h0 HB.out) (StmsAt.hid h0' HB.out)).mono ?_)
  rintro e w1 ⟨rfl, hb⟩
  have HB1 := Lib.hid (HB.out.trans (hb.mono HB.out.size))
  obtain ⟨hz, hc0, hc1, hc2, hf0, hf1, hf2⟩ := (V0.out.below hb).three
  obtain ⟨hzz, hd0, hd1, hd2, hg0, hg1, hg2⟩ := (V1.out.below hb).three
  clear hb
  go_wp2_with fail
  (with_reducible refine (C1 _ (StmsAt.hid h1 HB1.out) (StmsAt.hid h1' HB1.out)).mono ?_)
  rintro e w2 ⟨rfl, hb⟩
  have HB2 := Lib.hid (HB1.out.trans (hb.mono HB1.out.size))
  have k : ∀ b o, b < w1.heap.size → w2.cell? ⟨b, o, none⟩ = w1.cell? ⟨b, o, none⟩ := (fun b o h => keptCells hb b o h)
  have e0 := (k _ 0 hz).trans hc0
  have e1 := (k _ 0 hzz).trans hd0
  clear hb k hc0 hc1 hc2 hd0 hd1 hd2 hz hzz hf0 hf1 hf2 hg0 hg1 hg2
  cases q0 <;> cases q1 <;> cases q2 <;> (go_wp2_with fail; go_ret; exact ⟨ret_boolc E.out.symm, HB2.out⟩)
end Go.Proofs.Ytjbhichgojjakaa
