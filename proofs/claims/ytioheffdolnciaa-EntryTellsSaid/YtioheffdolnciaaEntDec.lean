/-
  The contract of package entry's Decode (layer 5): the entry of bytes, or none.
-/
import Derived.Test.YtioheffdolnciaaEntEnc
namespace Go.Proofs.Ytioheffdolnciaa
open Go.ChangeShapes Go.WideShapes Go.ChangeAt Go.RowKit
set_option linter.unusedVariables false

def DecPost (w : World) (k : Int) (s y u v x : Nat) (c : Int) (e : Ending) (w' : World) : Prop :=
  e = .returned (.tuple #[.agg #[.int .i64 k, .int .u64 (s : Int), .int .u64 (y : Int), .int .u64 (u : Int), .int .u64 (v : Int), .int .u64 (x : Int)], .int .i64 c]) ∧ Below w.heap.size w w'
theorem dec_none {w w' : World} (h : Below w.heap.size w w') : DecPost w 0 0 0 0 0 0 2 (.returned (.tuple #[.agg #[.int .i64 0, .int .u64 0, .int .u64 0, .int .u64 0, .int .u64 0, .int .u64 0], .int .i64 2])) w' := ⟨rfl, h⟩
/-- The array behind j rounds. -/
def numsV (L : List Nat) (j : Nat) : List Value := (L.take j).map (fun z : Nat => Value.int .u64 (z : Int)) ++ List.replicate (5 - j) (.int .u64 0)
def DecRel (w : World) (L : List Nat) (wr : World) (j : Nat) : Prop :=
  Below w.heap.size w wr ∧ VarAt wr w.heap.size [.int .i64 0, .int .u64 0, .int .u64 0, .int .u64 0, .int .u64 0, .int .u64 0] ∧ VarAt wr (w.heap.size + 1) (numsV L j)
theorem DecRel.start (w : World) (L : List Nat) (n : Nat) (o : Obj) (ho : o = .cells #[.int .i64 0, .int .u64 0, .int .u64 0, .int .u64 0, .int .u64 0, .int .u64 0] 24) :
    DecRel w L (((w.alloc o).drewN n).alloc arrO) 0 := by
  subst ho
  refine ⟨below_al (below_quiet (below_al (Below.refl _ _)) n), ?_, ?_⟩
  · exact ((VarAt.made w _ _).drewN n).below ((Below.refl _ _).alloc (Nat.le_refl _) _)
  · have := VarAt.made ((w.alloc (.cells #[.int .i64 0, .int .u64 0, .int .u64 0, .int .u64 0, .int .u64 0, .int .u64 0] 24)).drewN n) #[.int .u64 0, .int .u64 0, .int .u64 0, .int .u64 0, .int .u64 0] 41
    have e : ((w.alloc (.cells #[.int .i64 0, .int .u64 0, .int .u64 0, .int .u64 0, .int .u64 0, .int .u64 0] 24)).drewN n).heap.size = w.heap.size + 1 := by simp [World.drewN]
    rw [e] at this
    exact this
theorem DecRel.step {w wr : World} {L : List Nat} {j z : Nat} (h : DecRel w L wr j) (hj : L[j]? = some z) (hj5 : j < 5) : DecRel w L (wr.setCell ⟨w.heap.size + 1, j, none⟩ (.int .u64 (z : Int))) (j + 1) := by
  have hl : j < L.length := (List.getElem?_eq_some_iff.1 hj).1
  have hz : L[j] = z := (List.getElem?_eq_some_iff.1 hj).2
  refine ⟨h.1.setCell (by simp) _, h.2.1.apart _ _ (by omega), ?_⟩
  have := h.2.2.setAt j (.int .u64 (z : Int)) (by simp [numsV]; omega)
  have e : (numsV L j).set j (.int .u64 (z : Int)) = numsV L (j + 1) := by
    unfold numsV
    have ht : ((L.take j).map (fun z : Nat => Value.int .u64 (z : Int))).length = j := by simp; omega
    rw [List.set_append_right _ _ (by omega), ht, Nat.sub_self, List.take_succ_eq_append_getElem hl, hz]
    obtain ⟨m, hm⟩ : ∃ m, 5 - j = m + 1 := ⟨4 - j, by omega⟩
    rw [hm, List.replicate_succ, List.set_cons_zero, show 5 - (j + 1) = m by omega]
    simp
  rw [e] at this
  exact this
abbrev zeroO : Obj := .cells #[.int .i64 0, .int .u64 0, .int .u64 0, .int .u64 0, .int .u64 0, .int .u64 0] 24
theorem below_two {w : World} (o o2 : Obj) : Below w.heap.size w ((w.alloc o).alloc o2) := below_al (below_al (Below.refl _ _))

theorem decode_empty (A : Option Addr) (cap : Nat) (w : World) : Calls Try.prog 10 #[.slice A 0 cap] w (DecPost w 0 0 0 0 0 0 2) := by
  go_enter Try.func10, Try.ntmps10
  go_wp2_with fail
  exact bodyPost_ret (v := .tuple #[.agg #[.int .i64 0, .int .u64 0, .int .u64 0, .int .u64 0, .int .u64 0, .int .u64 0], .int .i64 2]) (by simp [results, Try.results10, go_sem]) rfl (dec_none ((Below.refl _ _).alloc (Nat.le_refl _) _))

set_option maxHeartbeats 400000 in
/-- The bytes at hand are not as many as the kind's numbers ask. -/
theorem decode_length (b off len cap : Nat) (k f : Nat) (h1 : 1 ≤ len) (hrq : len ≤ cap) (hr : len ≤ 9223372036854775807) (hk : k < 256) (hf : fieldsI (k : Int) = f) (hf5 : f ≤ 5) (hne : len ≠ 1 + 8 * f) (w : World)
    (hb : b < w.heap.size) (hc : w.cell? ⟨b, off, none⟩ = some (.int .u8 (k : Int))) :
    Calls Try.prog 10 #[.slice (some ⟨b, off, none⟩) len cap] w (DecPost w 0 0 0 0 0 0 2) := by
  obtain ⟨D1, e1⟩ : ∃ D1, cutA (some ⟨b, off, none⟩) cap 1 = D1 := ⟨_, rfl⟩
  obtain ⟨r, er⟩ : ∃ r, len - 1 = r := ⟨_, rfl⟩
  obtain ⟨q, eq⟩ : ∃ q, cap - 1 = q := ⟨_, rfl⟩
  have R1 : ∀ W, (Instr.slice 25 (.slice (some ⟨b, off, none⟩) len cap) (some (.int .i64 1)) none none).run Try.prog W = .ok (.slice D1 r q) W := fun W => by rw [← e1, ← er, ← eq]; exact run_cut_l _ len cap 1 (by omega) W
  have HF := fun w => fields_is (k : Int) f hf w
  have d1 : (((r : Nat) : Int) != 8 * (f : Int)) = true := by rw [bne_iff_ne]; omega
  have d2 : decide ((len : Int) < 1) = false := by rw [decide_eq_false_iff_not]; omega
  have i1 : (0 : Int) < (len : Int) := by omega
  clear e1 hf hne er eq
  go_enter Try.func10, Try.ntmps10
  go_wp2_with fail
  go_quiet (fail)
  go_wp2_with (go_at_call 15; (with_reducible refine (HF _).mono ?_); rintro e w' ⟨rfl, rfl⟩)
  obtain ⟨_, ⟨rc0, rc1, rc2, rc3, rc4, rc5⟩, _⟩ := VarAt.six (b := w.heap.size) (v0 := .int .i64 0) (v1 := .int .u64 0) (v2 := .int .u64 0) (v3 := .int .u64 0) (v4 := .int .u64 0) (v5 := .int .u64 0) (VarAt.drewN (VarAt.made w #[.int .i64 0, .int .u64 0, .int .u64 0, .int .u64 0, .int .u64 0, .int .u64 0] 24) nq)
  refine bodyPost_ret (v := .tuple #[.agg #[.int .i64 0, .int .u64 0, .int .u64 0, .int .u64 0, .int .u64 0, .int .u64 0], .int .i64 2]) ?_ rfl ⟨rfl, ?_⟩
  · simp [results, Try.results10, go_sem, rc0, rc1, rc2, rc3, rc4, rc5]
  · exact below_set6 (Nat.le_refl _) _ _ _ _ _ _ (below_quiet ((Below.refl _ _).alloc (Nat.le_refl _) _) nq)

set_option maxHeartbeats 2000000 in
theorem decode_41 (b off q : Nat) (xs : List Nat) (a0 : Nat) (la0 : a0 < 18446744073709551616) (a1 : Nat) (la1 : a1 < 18446744073709551616) (a2 : Nat) (la2 : a2 < 18446744073709551616) (a3 : Nat) (la3 : a3 < 18446744073709551616) (a4 : Nat) (la4 : a4 < 18446744073709551616) (hq : 40 ≤ q) (w : World) (hA : Hid (AtB w (some ⟨b, off, none⟩) 41 xs)) (hb : b < w.heap.size) (hc : w.cell? ⟨b, off, none⟩ = some (.int .u8 1)) (e0 : Hid (numN ((xs.drop 1).take 8) = a0)) (e1 : Hid (numN ((xs.drop 9).take 8) = a1)) (e2 : Hid (numN ((xs.drop 17).take 8) = a2)) (e3 : Hid (numN ((xs.drop 25).take 8) = a3)) (e4 : Hid (numN ((xs.drop 33).take 8) = a4))
    (my : Bool) (hm : (Ent.mk 1 a0 a1 a2 a3 a4).mayB = my) :
    Calls Try.prog 10 #[.slice (some ⟨b, off, none⟩) 41 (q + 1)] w (bif my then DecPost w 1 a0 a1 a2 a3 a4 0 else DecPost w 0 0 0 0 0 0 2) := by
  obtain ⟨D1, gD⟩ : ∃ D1, cutA (some ⟨b, off, none⟩) (q + 1) 1 = D1 := ⟨_, rfl⟩
  have R1 : ∀ W, (Instr.slice 25 (.slice (some ⟨b, off, none⟩) 41 (q + 1)) (some (.int .i64 1)) none none).run Try.prog W = .ok (.slice D1 40 q) W := fun W => by rw [← gD]; exact run_cut_l _ 41 (q + 1) 1 (by omega) W
  have HA1 : Hid (AtB w D1 40 ((xs.drop 1).take 40)) := Lib.hid (by rw [← gD]; exact hA.out.cutA (by omega) 1 41 (by omega) (by omega))
  obtain ⟨B0, g0⟩ : ∃ D, cutA D1 q 0 = D := ⟨_, rfl⟩
  have Q0 : ∀ W, (Instr.slice 25 (.slice D1 40 q) (some (.int .i64 0)) (some (.int .i64 8)) none).run Try.prog W = .ok (.slice B0 8 q) W := fun W => by rw [← g0]; exact run_cut_lh D1 40 q 0 8 (by omega) (by omega) W
  have HN0 : Hid (∀ w', AtB w' D1 40 ((xs.drop 1).take 40) → Calls Try.prog 18 #[.slice B0 8 q] w' fun e w'' => e = .returned (.int .u64 (a0 : Int)) ∧ w' = w'') := Lib.hid (fun w' h => by
    have h2 := h.cutA (by omega) 0 8 (by omega) (by omega)
    rw [g0, List.drop_take, List.drop_drop, List.take_take] at h2
    have h3 := number8_at B0 q _ w' h2
    have h4 : numN (List.take (min (8 - 0) (40 - 0)) (List.drop (1 + 0) xs)) = a0 := e0.out
    rw [h4] at h3
    exact h3)
  obtain ⟨B1, g1⟩ : ∃ D, cutA D1 q 8 = D := ⟨_, rfl⟩
  have Q1 : ∀ W, (Instr.slice 25 (.slice D1 40 q) (some (.int .i64 8)) (some (.int .i64 16)) none).run Try.prog W = .ok (.slice B1 8 (q - 8)) W := fun W => by rw [← g1]; exact run_cut_lh D1 40 q 8 16 (by omega) (by omega) W
  have HN1 : Hid (∀ w', AtB w' D1 40 ((xs.drop 1).take 40) → Calls Try.prog 18 #[.slice B1 8 (q - 8)] w' fun e w'' => e = .returned (.int .u64 (a1 : Int)) ∧ w' = w'') := Lib.hid (fun w' h => by
    have h2 := h.cutA (by omega) 8 16 (by omega) (by omega)
    rw [g1, List.drop_take, List.drop_drop, List.take_take] at h2
    have h3 := number8_at B1 (q - 8) _ w' h2
    have h4 : numN (List.take (min (16 - 8) (40 - 8)) (List.drop (1 + 8) xs)) = a1 := e1.out
    rw [h4] at h3
    exact h3)
  obtain ⟨B2, g2⟩ : ∃ D, cutA D1 q 16 = D := ⟨_, rfl⟩
  have Q2 : ∀ W, (Instr.slice 25 (.slice D1 40 q) (some (.int .i64 16)) (some (.int .i64 24)) none).run Try.prog W = .ok (.slice B2 8 (q - 16)) W := fun W => by rw [← g2]; exact run_cut_lh D1 40 q 16 24 (by omega) (by omega) W
  have HN2 : Hid (∀ w', AtB w' D1 40 ((xs.drop 1).take 40) → Calls Try.prog 18 #[.slice B2 8 (q - 16)] w' fun e w'' => e = .returned (.int .u64 (a2 : Int)) ∧ w' = w'') := Lib.hid (fun w' h => by
    have h2 := h.cutA (by omega) 16 24 (by omega) (by omega)
    rw [g2, List.drop_take, List.drop_drop, List.take_take] at h2
    have h3 := number8_at B2 (q - 16) _ w' h2
    have h4 : numN (List.take (min (24 - 16) (40 - 16)) (List.drop (1 + 16) xs)) = a2 := e2.out
    rw [h4] at h3
    exact h3)
  obtain ⟨B3, g3⟩ : ∃ D, cutA D1 q 24 = D := ⟨_, rfl⟩
  have Q3 : ∀ W, (Instr.slice 25 (.slice D1 40 q) (some (.int .i64 24)) (some (.int .i64 32)) none).run Try.prog W = .ok (.slice B3 8 (q - 24)) W := fun W => by rw [← g3]; exact run_cut_lh D1 40 q 24 32 (by omega) (by omega) W
  have HN3 : Hid (∀ w', AtB w' D1 40 ((xs.drop 1).take 40) → Calls Try.prog 18 #[.slice B3 8 (q - 24)] w' fun e w'' => e = .returned (.int .u64 (a3 : Int)) ∧ w' = w'') := Lib.hid (fun w' h => by
    have h2 := h.cutA (by omega) 24 32 (by omega) (by omega)
    rw [g3, List.drop_take, List.drop_drop, List.take_take] at h2
    have h3 := number8_at B3 (q - 24) _ w' h2
    have h4 : numN (List.take (min (32 - 24) (40 - 24)) (List.drop (1 + 24) xs)) = a3 := e3.out
    rw [h4] at h3
    exact h3)
  obtain ⟨B4, g4⟩ : ∃ D, cutA D1 q 32 = D := ⟨_, rfl⟩
  have Q4 : ∀ W, (Instr.slice 25 (.slice D1 40 q) (some (.int .i64 32)) (some (.int .i64 40)) none).run Try.prog W = .ok (.slice B4 8 (q - 32)) W := fun W => by rw [← g4]; exact run_cut_lh D1 40 q 32 40 (by omega) (by omega) W
  have HN4 : Hid (∀ w', AtB w' D1 40 ((xs.drop 1).take 40) → Calls Try.prog 18 #[.slice B4 8 (q - 32)] w' fun e w'' => e = .returned (.int .u64 (a4 : Int)) ∧ w' = w'') := Lib.hid (fun w' h => by
    have h2 := h.cutA (by omega) 32 40 (by omega) (by omega)
    rw [g4, List.drop_take, List.drop_drop, List.take_take] at h2
    have h3 := number8_at B4 (q - 32) _ w' h2
    have h4 : numN (List.take (min (40 - 32) (40 - 32)) (List.drop (1 + 32) xs)) = a4 := e4.out
    rw [h4] at h3
    exact h3)
  have HF := fun w => fields_is 1 5 rfl w
  have HO : ∀ w, Calls Try.prog 19 #[.int .i64 1, .agg #[.int .u64 (a0 : Int), .int .u64 (a1 : Int), .int .u64 (a2 : Int), .int .u64 (a3 : Int), .int .u64 (a4 : Int)]] w (Kept w (.agg #[.int .i64 1, .int .u64 (a0 : Int), .int .u64 (a1 : Int), .int .u64 (a2 : Int), .int .u64 (a3 : Int), .int .u64 (a4 : Int)])) := fun w => entryOf_any 1 a0 a1 a2 a3 a4 w
  have HM : ∀ w, Calls Try.prog 12 #[.agg #[.int .i64 1, .int .u64 (a0 : Int), .int .u64 (a1 : Int), .int .u64 (a2 : Int), .int .u64 (a3 : Int), .int .u64 (a4 : Int)]] w (Kept w (.bool (Ent.mk 1 a0 a1 a2 a3 a4).mayB)) := fun w => may_any 1 a0 a1 a2 a3 a4 la1 w
  rw [hm] at HM
  clear gD g0 g1 g2 g3 g4 e0 e1 e2 e3 e4 hm
  go_enter Try.func10, Try.ntmps10
  go_wp2_with fail
  go_quiet (fail)
  go_wp2_with (go_at_call 15; (with_reducible refine (HF _).mono ?_); rintro e w' ⟨rfl, rfl⟩)
  have R0 := Lib.hid (DecRel.start w [a0, a1, a2, a3, a4] nq _ rfl)
  have HFB : w.heap.size = w.heap.size := rfl
  clear HFB HF R1
  go_loopw [29] (fun i wr => ∃ j : Nat, j ≤ 5 ∧ i = .int .i64 j ∧ DecRel w [a0, a1, a2, a3, a4] wr j) (fun i _ => 5 - (intOf i).toNat)
  case atStart => exact ⟨0, Nat.zero_le _, rfl, R0.out⟩
  case round =>
    obtain ⟨j, hj, rfl, hrel⟩ := hrel
    have HR := Lib.hid hrel
    clear hrel R0
    have hj5 : j = 5 ∨ j = 0 ∨ j = 1 ∨ j = 2 ∨ j = 3 ∨ j = 4 := by omega
    rcases hj5 with rfl | rfl | rfl | rfl | rfl | rfl
    · have hv := HR.out.2.2
      have hv' : VarAt wr (w.heap.size + 1) [.int .u64 (a0 : Int), .int .u64 (a1 : Int), .int .u64 (a2 : Int), .int .u64 (a3 : Int), .int .u64 (a4 : Int)] := hv
      obtain ⟨hz7, ⟨ac0, ac1, ac2, ac3, ac4⟩, af0, af1, af2, af3, af4⟩ := hv'.five
      clear hv hv'
      go_wp2_with (first
        | (go_at_call 19; (with_reducible refine (HO _).mono ?_); rintro e w4 ⟨rfl, hb4⟩; have HB4 := Lib.hid hb4; clear hb4)
        | (go_at_call 12; (with_reducible refine (HM _).mono ?_); rintro e w5 ⟨rfl, hb5⟩; have hE5 := (EntAt.box w4 1 a0 a1 a2 a3 a4).below hb5; obtain ⟨hz5, ec0, ec1, ec2, ec3, ec4, ec5⟩ := hE5; have HB5 := Lib.hid (HB4.out.trans ((below_box hb5).mono HB4.out.size)); obtain ⟨hzr, ⟨rc0, rc1, rc2, rc3, rc4, rc5⟩, rf0, rf1, rf2, rf3, rf4, rf5⟩ := (HR.out.2.1.below HB5.out).six; have HBE := Lib.hid (HR.out.1.trans (HB5.out.mono HR.out.1.size)); clear hb5; cases my))
      · exact bodyPost_ret (v := .tuple #[.agg #[.int .i64 0, .int .u64 0, .int .u64 0, .int .u64 0, .int .u64 0, .int .u64 0], .int .i64 2]) (by simp [results, Try.results10, go_sem, rc0, rc1, rc2, rc3, rc4, rc5]) rfl ⟨rfl, below_set6 (Nat.le_refl _) _ _ _ _ _ _ HBE.out⟩
      · exact bodyPost_ret (v := .tuple #[.agg #[.int .i64 1, .int .u64 (a0 : Int), .int .u64 (a1 : Int), .int .u64 (a2 : Int), .int .u64 (a3 : Int), .int .u64 (a4 : Int)], .int .i64 0]) (by simp [results, Try.results10, go_sem, rc0, rc1, rc2, rc3, rc4, rc5]) rfl ⟨rfl, below_set6 (Nat.le_refl _) _ _ _ _ _ _ HBE.out⟩
    · have hv' : VarAt wr (w.heap.size + 1) [.int .u64 0, .int .u64 0, .int .u64 0, .int .u64 0, .int .u64 0] := HR.out.2.2
      obtain ⟨hz7, ⟨ac0, ac1, ac2, ac3, ac4⟩, af0, af1, af2, af3, af4⟩ := hv'.five
      have HC := HN0.out wr (AtB.below HA1.out HR.out.1 (Nat.le_refl _))
      clear hv'
      go_wp2_with (go_at_call 18; (with_reducible refine HC.mono ?_); rintro e w' ⟨rfl, rfl⟩)
      go_roundw
      case rel => exact ⟨1, by omega, by go_num, DecRel.step HR.out rfl (by omega)⟩
      case measure => simp [intOf]
    · have hv' : VarAt wr (w.heap.size + 1) [.int .u64 (a0 : Int), .int .u64 0, .int .u64 0, .int .u64 0, .int .u64 0] := HR.out.2.2
      obtain ⟨hz7, ⟨ac0, ac1, ac2, ac3, ac4⟩, af0, af1, af2, af3, af4⟩ := hv'.five
      have HC := HN1.out wr (AtB.below HA1.out HR.out.1 (Nat.le_refl _))
      clear hv'
      go_wp2_with (go_at_call 18; (with_reducible refine HC.mono ?_); rintro e w' ⟨rfl, rfl⟩)
      go_roundw
      case rel => exact ⟨2, by omega, by go_num, DecRel.step HR.out rfl (by omega)⟩
      case measure => simp [intOf]
    · have hv' : VarAt wr (w.heap.size + 1) [.int .u64 (a0 : Int), .int .u64 (a1 : Int), .int .u64 0, .int .u64 0, .int .u64 0] := HR.out.2.2
      obtain ⟨hz7, ⟨ac0, ac1, ac2, ac3, ac4⟩, af0, af1, af2, af3, af4⟩ := hv'.five
      have HC := HN2.out wr (AtB.below HA1.out HR.out.1 (Nat.le_refl _))
      clear hv'
      go_wp2_with (go_at_call 18; (with_reducible refine HC.mono ?_); rintro e w' ⟨rfl, rfl⟩)
      go_roundw
      case rel => exact ⟨3, by omega, by go_num, DecRel.step HR.out rfl (by omega)⟩
      case measure => simp [intOf]
    · have hv' : VarAt wr (w.heap.size + 1) [.int .u64 (a0 : Int), .int .u64 (a1 : Int), .int .u64 (a2 : Int), .int .u64 0, .int .u64 0] := HR.out.2.2
      obtain ⟨hz7, ⟨ac0, ac1, ac2, ac3, ac4⟩, af0, af1, af2, af3, af4⟩ := hv'.five
      have HC := HN3.out wr (AtB.below HA1.out HR.out.1 (Nat.le_refl _))
      clear hv'
      go_wp2_with (go_at_call 18; (with_reducible refine HC.mono ?_); rintro e w' ⟨rfl, rfl⟩)
      go_roundw
      case rel => exact ⟨4, by omega, by go_num, DecRel.step HR.out rfl (by omega)⟩
      case measure => simp [intOf]
    · have hv' : VarAt wr (w.heap.size + 1) [.int .u64 (a0 : Int), .int .u64 (a1 : Int), .int .u64 (a2 : Int), .int .u64 (a3 : Int), .int .u64 0] := HR.out.2.2
      obtain ⟨hz7, ⟨ac0, ac1, ac2, ac3, ac4⟩, af0, af1, af2, af3, af4⟩ := hv'.five
      have HC := HN4.out wr (AtB.below HA1.out HR.out.1 (Nat.le_refl _))
      clear hv'
      go_wp2_with (go_at_call 18; (with_reducible refine HC.mono ?_); rintro e w' ⟨rfl, rfl⟩)
      go_roundw
      case rel => exact ⟨5, by omega, by go_num, DecRel.step HR.out rfl (by omega)⟩
      case measure => simp [intOf]
set_option maxHeartbeats 2000000 in
theorem decode_death (b off q : Nat) (xs : List Nat) (a0 : Nat) (la0 : a0 < 18446744073709551616) (hq : 8 ≤ q) (w : World) (hA : Hid (AtB w (some ⟨b, off, none⟩) 9 xs)) (hb : b < w.heap.size) (hc : w.cell? ⟨b, off, none⟩ = some (.int .u8 2)) (e0 : Hid (numN ((xs.drop 1).take 8) = a0))
    (my : Bool) (hm : (Ent.mk 2 a0 0 0 0 0).mayB = my) :
    Calls Try.prog 10 #[.slice (some ⟨b, off, none⟩) 9 (q + 1)] w (bif my then DecPost w 2 a0 0 0 0 0 0 else DecPost w 0 0 0 0 0 0 2) := by
  obtain ⟨D1, gD⟩ : ∃ D1, cutA (some ⟨b, off, none⟩) (q + 1) 1 = D1 := ⟨_, rfl⟩
  have R1 : ∀ W, (Instr.slice 25 (.slice (some ⟨b, off, none⟩) 9 (q + 1)) (some (.int .i64 1)) none none).run Try.prog W = .ok (.slice D1 8 q) W := fun W => by rw [← gD]; exact run_cut_l _ 9 (q + 1) 1 (by omega) W
  have HA1 : Hid (AtB w D1 8 ((xs.drop 1).take 8)) := Lib.hid (by rw [← gD]; exact hA.out.cutA (by omega) 1 9 (by omega) (by omega))
  obtain ⟨B0, g0⟩ : ∃ D, cutA D1 q 0 = D := ⟨_, rfl⟩
  have Q0 : ∀ W, (Instr.slice 25 (.slice D1 8 q) (some (.int .i64 0)) (some (.int .i64 8)) none).run Try.prog W = .ok (.slice B0 8 q) W := fun W => by rw [← g0]; exact run_cut_lh D1 8 q 0 8 (by omega) (by omega) W
  have HN0 : Hid (∀ w', AtB w' D1 8 ((xs.drop 1).take 8) → Calls Try.prog 18 #[.slice B0 8 q] w' fun e w'' => e = .returned (.int .u64 (a0 : Int)) ∧ w' = w'') := Lib.hid (fun w' h => by
    have h2 := h.cutA (by omega) 0 8 (by omega) (by omega)
    rw [g0, List.drop_take, List.drop_drop, List.take_take] at h2
    have h3 := number8_at B0 q _ w' h2
    have h4 : numN (List.take (min (8 - 0) (8 - 0)) (List.drop (1 + 0) xs)) = a0 := e0.out
    rw [h4] at h3
    exact h3)
  have HF := fun w => fields_is 2 1 rfl w
  have HO : ∀ w, Calls Try.prog 19 #[.int .i64 2, .agg #[.int .u64 (a0 : Int), .int .u64 0, .int .u64 0, .int .u64 0, .int .u64 0]] w (Kept w (.agg #[.int .i64 2, .int .u64 (a0 : Int), .int .u64 0, .int .u64 0, .int .u64 0, .int .u64 0])) := fun w => entryOf_any 2 a0 0 0 0 0 w
  have HM : ∀ w, Calls Try.prog 12 #[.agg #[.int .i64 2, .int .u64 (a0 : Int), .int .u64 0, .int .u64 0, .int .u64 0, .int .u64 0]] w (Kept w (.bool (Ent.mk 2 a0 0 0 0 0).mayB)) := fun w => may_any 2 a0 0 0 0 0 (by omega) w
  rw [hm] at HM
  clear gD g0 e0 hm
  go_enter Try.func10, Try.ntmps10
  go_wp2_with fail
  go_quiet (fail)
  go_wp2_with (go_at_call 15; (with_reducible refine (HF _).mono ?_); rintro e w' ⟨rfl, rfl⟩)
  have R0 := Lib.hid (DecRel.start w [a0] nq _ rfl)
  have HFB : w.heap.size = w.heap.size := rfl
  clear HFB HF R1
  go_loopw [29] (fun i wr => ∃ j : Nat, j ≤ 1 ∧ i = .int .i64 j ∧ DecRel w [a0] wr j) (fun i _ => 1 - (intOf i).toNat)
  case atStart => exact ⟨0, Nat.zero_le _, rfl, R0.out⟩
  case round =>
    obtain ⟨j, hj, rfl, hrel⟩ := hrel
    have HR := Lib.hid hrel
    clear hrel R0
    have hj5 : j = 1 ∨ j = 0 := by omega
    rcases hj5 with rfl | rfl
    · have hv := HR.out.2.2
      have hv' : VarAt wr (w.heap.size + 1) [.int .u64 (a0 : Int), .int .u64 0, .int .u64 0, .int .u64 0, .int .u64 0] := hv
      obtain ⟨hz7, ⟨ac0, ac1, ac2, ac3, ac4⟩, af0, af1, af2, af3, af4⟩ := hv'.five
      clear hv hv'
      go_wp2_with (first
        | (go_at_call 19; (with_reducible refine (HO _).mono ?_); rintro e w4 ⟨rfl, hb4⟩; have HB4 := Lib.hid hb4; clear hb4)
        | (go_at_call 12; (with_reducible refine (HM _).mono ?_); rintro e w5 ⟨rfl, hb5⟩; have hE5 := (EntAt.box w4 2 a0 0 0 0 0).below hb5; obtain ⟨hz5, ec0, ec1, ec2, ec3, ec4, ec5⟩ := hE5; have HB5 := Lib.hid (HB4.out.trans ((below_box hb5).mono HB4.out.size)); obtain ⟨hzr, ⟨rc0, rc1, rc2, rc3, rc4, rc5⟩, rf0, rf1, rf2, rf3, rf4, rf5⟩ := (HR.out.2.1.below HB5.out).six; have HBE := Lib.hid (HR.out.1.trans (HB5.out.mono HR.out.1.size)); clear hb5; cases my))
      · exact bodyPost_ret (v := .tuple #[.agg #[.int .i64 0, .int .u64 0, .int .u64 0, .int .u64 0, .int .u64 0, .int .u64 0], .int .i64 2]) (by simp [results, Try.results10, go_sem, rc0, rc1, rc2, rc3, rc4, rc5]) rfl ⟨rfl, below_set6 (Nat.le_refl _) _ _ _ _ _ _ HBE.out⟩
      · exact bodyPost_ret (v := .tuple #[.agg #[.int .i64 2, .int .u64 (a0 : Int), .int .u64 0, .int .u64 0, .int .u64 0, .int .u64 0], .int .i64 0]) (by simp [results, Try.results10, go_sem, rc0, rc1, rc2, rc3, rc4, rc5]) rfl ⟨rfl, below_set6 (Nat.le_refl _) _ _ _ _ _ _ HBE.out⟩
    · have hv' : VarAt wr (w.heap.size + 1) [.int .u64 0, .int .u64 0, .int .u64 0, .int .u64 0, .int .u64 0] := HR.out.2.2
      obtain ⟨hz7, ⟨ac0, ac1, ac2, ac3, ac4⟩, af0, af1, af2, af3, af4⟩ := hv'.five
      have HC := HN0.out wr (AtB.below HA1.out HR.out.1 (Nat.le_refl _))
      clear hv'
      go_wp2_with (go_at_call 18; (with_reducible refine HC.mono ?_); rintro e w' ⟨rfl, rfl⟩)
      go_roundw
      case rel => exact ⟨1, by omega, by go_num, DecRel.step HR.out rfl (by omega)⟩
      case measure => simp [intOf]
set_option maxHeartbeats 2000000 in
theorem decode_head (b off q : Nat) (xs : List Nat) (a0 : Nat) (la0 : a0 < 18446744073709551616) (hq : 8 ≤ q) (w : World) (hA : Hid (AtB w (some ⟨b, off, none⟩) 9 xs)) (hb : b < w.heap.size) (hc : w.cell? ⟨b, off, none⟩ = some (.int .u8 3)) (e0 : Hid (numN ((xs.drop 1).take 8) = a0))
    (my : Bool) (hm : (Ent.mk 3 a0 0 0 0 0).mayB = my) :
    Calls Try.prog 10 #[.slice (some ⟨b, off, none⟩) 9 (q + 1)] w (bif my then DecPost w 3 a0 0 0 0 0 0 else DecPost w 0 0 0 0 0 0 2) := by
  obtain ⟨D1, gD⟩ : ∃ D1, cutA (some ⟨b, off, none⟩) (q + 1) 1 = D1 := ⟨_, rfl⟩
  have R1 : ∀ W, (Instr.slice 25 (.slice (some ⟨b, off, none⟩) 9 (q + 1)) (some (.int .i64 1)) none none).run Try.prog W = .ok (.slice D1 8 q) W := fun W => by rw [← gD]; exact run_cut_l _ 9 (q + 1) 1 (by omega) W
  have HA1 : Hid (AtB w D1 8 ((xs.drop 1).take 8)) := Lib.hid (by rw [← gD]; exact hA.out.cutA (by omega) 1 9 (by omega) (by omega))
  obtain ⟨B0, g0⟩ : ∃ D, cutA D1 q 0 = D := ⟨_, rfl⟩
  have Q0 : ∀ W, (Instr.slice 25 (.slice D1 8 q) (some (.int .i64 0)) (some (.int .i64 8)) none).run Try.prog W = .ok (.slice B0 8 q) W := fun W => by rw [← g0]; exact run_cut_lh D1 8 q 0 8 (by omega) (by omega) W
  have HN0 : Hid (∀ w', AtB w' D1 8 ((xs.drop 1).take 8) → Calls Try.prog 18 #[.slice B0 8 q] w' fun e w'' => e = .returned (.int .u64 (a0 : Int)) ∧ w' = w'') := Lib.hid (fun w' h => by
    have h2 := h.cutA (by omega) 0 8 (by omega) (by omega)
    rw [g0, List.drop_take, List.drop_drop, List.take_take] at h2
    have h3 := number8_at B0 q _ w' h2
    have h4 : numN (List.take (min (8 - 0) (8 - 0)) (List.drop (1 + 0) xs)) = a0 := e0.out
    rw [h4] at h3
    exact h3)
  have HF := fun w => fields_is 3 1 rfl w
  have HO : ∀ w, Calls Try.prog 19 #[.int .i64 3, .agg #[.int .u64 (a0 : Int), .int .u64 0, .int .u64 0, .int .u64 0, .int .u64 0]] w (Kept w (.agg #[.int .i64 3, .int .u64 (a0 : Int), .int .u64 0, .int .u64 0, .int .u64 0, .int .u64 0])) := fun w => entryOf_any 3 a0 0 0 0 0 w
  have HM : ∀ w, Calls Try.prog 12 #[.agg #[.int .i64 3, .int .u64 (a0 : Int), .int .u64 0, .int .u64 0, .int .u64 0, .int .u64 0]] w (Kept w (.bool (Ent.mk 3 a0 0 0 0 0).mayB)) := fun w => may_any 3 a0 0 0 0 0 (by omega) w
  rw [hm] at HM
  clear gD g0 e0 hm
  go_enter Try.func10, Try.ntmps10
  go_wp2_with fail
  go_quiet (fail)
  go_wp2_with (go_at_call 15; (with_reducible refine (HF _).mono ?_); rintro e w' ⟨rfl, rfl⟩)
  have R0 := Lib.hid (DecRel.start w [a0] nq _ rfl)
  have HFB : w.heap.size = w.heap.size := rfl
  clear HFB HF R1
  go_loopw [29] (fun i wr => ∃ j : Nat, j ≤ 1 ∧ i = .int .i64 j ∧ DecRel w [a0] wr j) (fun i _ => 1 - (intOf i).toNat)
  case atStart => exact ⟨0, Nat.zero_le _, rfl, R0.out⟩
  case round =>
    obtain ⟨j, hj, rfl, hrel⟩ := hrel
    have HR := Lib.hid hrel
    clear hrel R0
    have hj5 : j = 1 ∨ j = 0 := by omega
    rcases hj5 with rfl | rfl
    · have hv := HR.out.2.2
      have hv' : VarAt wr (w.heap.size + 1) [.int .u64 (a0 : Int), .int .u64 0, .int .u64 0, .int .u64 0, .int .u64 0] := hv
      obtain ⟨hz7, ⟨ac0, ac1, ac2, ac3, ac4⟩, af0, af1, af2, af3, af4⟩ := hv'.five
      clear hv hv'
      go_wp2_with (first
        | (go_at_call 19; (with_reducible refine (HO _).mono ?_); rintro e w4 ⟨rfl, hb4⟩; have HB4 := Lib.hid hb4; clear hb4)
        | (go_at_call 12; (with_reducible refine (HM _).mono ?_); rintro e w5 ⟨rfl, hb5⟩; have hE5 := (EntAt.box w4 3 a0 0 0 0 0).below hb5; obtain ⟨hz5, ec0, ec1, ec2, ec3, ec4, ec5⟩ := hE5; have HB5 := Lib.hid (HB4.out.trans ((below_box hb5).mono HB4.out.size)); obtain ⟨hzr, ⟨rc0, rc1, rc2, rc3, rc4, rc5⟩, rf0, rf1, rf2, rf3, rf4, rf5⟩ := (HR.out.2.1.below HB5.out).six; have HBE := Lib.hid (HR.out.1.trans (HB5.out.mono HR.out.1.size)); clear hb5; cases my))
      · exact bodyPost_ret (v := .tuple #[.agg #[.int .i64 0, .int .u64 0, .int .u64 0, .int .u64 0, .int .u64 0, .int .u64 0], .int .i64 2]) (by simp [results, Try.results10, go_sem, rc0, rc1, rc2, rc3, rc4, rc5]) rfl ⟨rfl, below_set6 (Nat.le_refl _) _ _ _ _ _ _ HBE.out⟩
      · exact bodyPost_ret (v := .tuple #[.agg #[.int .i64 3, .int .u64 (a0 : Int), .int .u64 0, .int .u64 0, .int .u64 0, .int .u64 0], .int .i64 0]) (by simp [results, Try.results10, go_sem, rc0, rc1, rc2, rc3, rc4, rc5]) rfl ⟨rfl, below_set6 (Nat.le_refl _) _ _ _ _ _ _ HBE.out⟩
    · have hv' : VarAt wr (w.heap.size + 1) [.int .u64 0, .int .u64 0, .int .u64 0, .int .u64 0, .int .u64 0] := HR.out.2.2
      obtain ⟨hz7, ⟨ac0, ac1, ac2, ac3, ac4⟩, af0, af1, af2, af3, af4⟩ := hv'.five
      have HC := HN0.out wr (AtB.below HA1.out HR.out.1 (Nat.le_refl _))
      clear hv'
      go_wp2_with (go_at_call 18; (with_reducible refine HC.mono ?_); rintro e w' ⟨rfl, rfl⟩)
      go_roundw
      case rel => exact ⟨1, by omega, by go_num, DecRel.step HR.out rfl (by omega)⟩
      case measure => simp [intOf]
set_option maxHeartbeats 2000000 in
theorem decode_else (b off q : Nat) (k : Nat) (hk : k < 256) (hf : fieldsI (k : Int) = 0) (xs : List Nat)  (hq : 0 ≤ q) (w : World) (hA : Hid (AtB w (some ⟨b, off, none⟩) 1 xs)) (hb : b < w.heap.size) (hc : w.cell? ⟨b, off, none⟩ = some (.int .u8 ((k : Nat) : Int))) 
    (my : Bool) (hm : (Ent.mk (k : Int) 0 0 0 0 0).mayB = my) :
    Calls Try.prog 10 #[.slice (some ⟨b, off, none⟩) 1 (q + 1)] w (bif my then DecPost w (k : Int) 0 0 0 0 0 0 else DecPost w 0 0 0 0 0 0 2) := by
  obtain ⟨D1, gD⟩ : ∃ D1, cutA (some ⟨b, off, none⟩) (q + 1) 1 = D1 := ⟨_, rfl⟩
  have R1 : ∀ W, (Instr.slice 25 (.slice (some ⟨b, off, none⟩) 1 (q + 1)) (some (.int .i64 1)) none none).run Try.prog W = .ok (.slice D1 0 q) W := fun W => by rw [← gD]; exact run_cut_l _ 1 (q + 1) 1 (by omega) W
  have HA1 : Hid (AtB w D1 0 ((xs.drop 1).take 0)) := Lib.hid (by rw [← gD]; exact hA.out.cutA (by omega) 1 1 (by omega) (by omega))
  have HF := fun w => fields_is (k : Int) 0 hf w
  have HO : ∀ w, Calls Try.prog 19 #[.int .i64 (k : Int), .agg #[.int .u64 0, .int .u64 0, .int .u64 0, .int .u64 0, .int .u64 0]] w (Kept w (.agg #[.int .i64 (k : Int), .int .u64 0, .int .u64 0, .int .u64 0, .int .u64 0, .int .u64 0])) := fun w => entryOf_any (k : Int) 0 0 0 0 0 w
  have HM : ∀ w, Calls Try.prog 12 #[.agg #[.int .i64 (k : Int), .int .u64 0, .int .u64 0, .int .u64 0, .int .u64 0, .int .u64 0]] w (Kept w (.bool (Ent.mk (k : Int) 0 0 0 0 0).mayB)) := fun w => may_any (k : Int) 0 0 0 0 0 (by omega) w
  rw [hm] at HM
  clear gD hm
  go_enter Try.func10, Try.ntmps10
  go_wp2_with fail
  go_quiet (fail)
  go_wp2_with (go_at_call 15; (with_reducible refine (HF _).mono ?_); rintro e w' ⟨rfl, rfl⟩)
  have R0 := Lib.hid (DecRel.start w [] nq _ rfl)
  have HFB : w.heap.size = w.heap.size := rfl
  clear HFB HF R1
  go_loopw [29] (fun i wr => ∃ j : Nat, j ≤ 0 ∧ i = .int .i64 j ∧ DecRel w [] wr j) (fun i _ => 0 - (intOf i).toNat)
  case atStart => exact ⟨0, Nat.zero_le _, rfl, R0.out⟩
  case round =>
    obtain ⟨j, hj, rfl, hrel⟩ := hrel
    have HR := Lib.hid hrel
    clear hrel R0
    have hj5 : j = 0 := by omega
    rcases hj5 with rfl
    · have hv := HR.out.2.2
      have hv' : VarAt wr (w.heap.size + 1) [.int .u64 0, .int .u64 0, .int .u64 0, .int .u64 0, .int .u64 0] := hv
      obtain ⟨hz7, ⟨ac0, ac1, ac2, ac3, ac4⟩, af0, af1, af2, af3, af4⟩ := hv'.five
      clear hv hv'
      go_wp2_with (first
        | (go_at_call 19; (with_reducible refine (HO _).mono ?_); rintro e w4 ⟨rfl, hb4⟩; have HB4 := Lib.hid hb4; clear hb4)
        | (go_at_call 12; (with_reducible refine (HM _).mono ?_); rintro e w5 ⟨rfl, hb5⟩; have hE5 := (EntAt.box w4 (k : Int) 0 0 0 0 0).below hb5; obtain ⟨hz5, ec0, ec1, ec2, ec3, ec4, ec5⟩ := hE5; have HB5 := Lib.hid (HB4.out.trans ((below_box hb5).mono HB4.out.size)); obtain ⟨hzr, ⟨rc0, rc1, rc2, rc3, rc4, rc5⟩, rf0, rf1, rf2, rf3, rf4, rf5⟩ := (HR.out.2.1.below HB5.out).six; have HBE := Lib.hid (HR.out.1.trans (HB5.out.mono HR.out.1.size)); clear hb5; cases my))
      · exact bodyPost_ret (v := .tuple #[.agg #[.int .i64 0, .int .u64 0, .int .u64 0, .int .u64 0, .int .u64 0, .int .u64 0], .int .i64 2]) (by simp [results, Try.results10, go_sem, rc0, rc1, rc2, rc3, rc4, rc5]) rfl ⟨rfl, below_set6 (Nat.le_refl _) _ _ _ _ _ _ HBE.out⟩
      · exact bodyPost_ret (v := .tuple #[.agg #[.int .i64 (k : Int), .int .u64 0, .int .u64 0, .int .u64 0, .int .u64 0, .int .u64 0], .int .i64 0]) (by simp [results, Try.results10, go_sem, rc0, rc1, rc2, rc3, rc4, rc5]) rfl ⟨rfl, below_set6 (Nat.le_refl _) _ _ _ _ _ _ HBE.out⟩
end Go.Proofs.Ytioheffdolnciaa
