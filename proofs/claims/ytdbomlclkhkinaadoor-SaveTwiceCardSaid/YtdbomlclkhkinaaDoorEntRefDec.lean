/-
  The contract of the document's own answer for layer 5 (entries): Decode.
-/
import Derived.Test.YtdbomlclkhkinaaDoorEntB
import Derived.Test.YtdbomlclkhkinaaDoorEntA
namespace Go.Proofs.YtdbomlclkhkinaaDoor
open Go.ChangeShapes Go.WideShapes Go.ChangeAt Go.RowKit
set_option linter.unusedVariables false
set_option maxRecDepth 100000

theorem dec_box {w w5 : World} {k : Int} {s y u v x : Nat} (hb : Below (((w.alloc (.cells #[.int .i64 0, .int .u64 0, .int .u64 0, .int .u64 0, .int .u64 0, .int .u64 0] 44)).alloc (entO k s y u v x)).drew).heap.size (((w.alloc (.cells #[.int .i64 0, .int .u64 0, .int .u64 0, .int .u64 0, .int .u64 0, .int .u64 0] 44)).alloc (entO k s y u v x)).drew) w5) :
    EntAt w5 (w.heap.size + 1) k s y u v x ∧ VarAt w5 w.heap.size [.int .i64 0, .int .u64 0, .int .u64 0, .int .u64 0, .int .u64 0, .int .u64 0] ∧ Below w.heap.size w w5 := by
  refine ⟨?_, ?_, ?_⟩
  · have h1 := EntAt.box (w.alloc (.cells #[.int .i64 0, .int .u64 0, .int .u64 0, .int .u64 0, .int .u64 0, .int .u64 0] 44)) k s y u v x
    have h2 : EntAt (((w.alloc (.cells #[.int .i64 0, .int .u64 0, .int .u64 0, .int .u64 0, .int .u64 0, .int .u64 0] 44)).alloc (entO k s y u v x)).drew) (w.heap.size + 1) k s y u v x := by
      have e : (w.alloc (.cells #[.int .i64 0, .int .u64 0, .int .u64 0, .int .u64 0, .int .u64 0, .int .u64 0] 44)).heap.size = w.heap.size + 1 := by simp
      rw [e] at h1
      exact h1
    exact h2.below hb
  · have h1 : VarAt (w.alloc (.cells #[.int .i64 0, .int .u64 0, .int .u64 0, .int .u64 0, .int .u64 0, .int .u64 0] 44)) w.heap.size _ := VarAt.made w _ _
    have h2 := h1.below ((Below.refl _ _).alloc (Nat.le_refl _) (entO k s y u v x))
    have h3 : VarAt (((w.alloc (.cells #[.int .i64 0, .int .u64 0, .int .u64 0, .int .u64 0, .int .u64 0, .int .u64 0] 44)).alloc (entO k s y u v x)).drew) w.heap.size _ := h2
    exact h3.below hb
  · exact (Below.drew (below_two _ _)).trans (hb.mono (by simp [World.drew]; omega))
theorem dec_cells {w : World} {k : Int} {s y u v x : Nat} : VarAt (((w.alloc (.cells #[.int .i64 0, .int .u64 0, .int .u64 0, .int .u64 0, .int .u64 0, .int .u64 0] 44)).alloc (entO k s y u v x)).drew) w.heap.size [.int .i64 0, .int .u64 0, .int .u64 0, .int .u64 0, .int .u64 0, .int .u64 0] := by
  have h1 : VarAt (w.alloc (.cells #[.int .i64 0, .int .u64 0, .int .u64 0, .int .u64 0, .int .u64 0, .int .u64 0] 44)) w.heap.size _ := VarAt.made w _ _
  have h2 := h1.below ((Below.refl _ _).alloc (Nat.le_refl _) (entO k s y u v x))
  exact h2
set_option maxHeartbeats 2000000 in
theorem refDecode_9 (b off cap : Nat) (k : Nat) (hk : k < 256) (hk1 : k ≠ 1) (xs : List Nat) (a0 : Nat) (la0 : a0 < 18446744073709551616) (w : World) (hA : Hid (AtB w (some ⟨b, off, none⟩) 9 xs)) (hb : b < w.heap.size) (hc : Hid (w.cell? ⟨b, off, none⟩ = some (.int .u8 ((k : Nat) : Int)))) (e0 : Hid (numN ((xs.drop 1).take 8) = a0)) (my : Bool) (hm : (Ent.mk (k : Int) a0 0 0 0 0).mayB = my) :
    Calls Tryd.prog 18 #[.slice (some ⟨b, off, none⟩) 9 cap] w (bif my then DecPost w (k : Int) a0 0 0 0 0 0 else DecPost w 0 0 0 0 0 0 2) := by
  have HN0 : Hid (∀ w', AtB w' (some ⟨b, off, none⟩) 9 xs → Calls Tryd.prog 43 #[.slice (some ⟨b, off, none⟩) 9 cap, .int .i64 1] w' fun e w'' => e = .returned (.int .u64 (a0 : Int)) ∧ w' = w'') := Lib.hid (fun w' h => by
    have := refNumber_at (some ⟨b, off, none⟩) 9 cap 1 xs w' (by omega) h
    rw [e0.out] at this
    exact this)
  have dk1 : (((k : Nat) : Int) == 1) = false := by rw [beq_eq_false_iff_ne]; omega
  have dk2 : (((k : Nat) : Int) != 1) = true := by rw [bne_iff_ne]; omega
  have kw : IntKind.i64.wrap ((k : Nat) : Int) = ((k : Nat) : Int) := IntWalk.i64_in _ (by omega)
  have HM : ∀ w, Calls Tryd.prog 10 #[.agg #[.int .i64 (k : Int), .int .u64 (a0 : Int), .int .u64 0, .int .u64 0, .int .u64 0, .int .u64 0]] w (Kept w (.bool (Ent.mk (k : Int) a0 0 0 0 0).mayB)) := fun w => refMay_any (k : Int) a0 0 0 0 0 (by omega) w
  rw [hm] at HM
  clear hm
  have hC : ∀ w', Below w.heap.size w w' → w'.cell? ⟨b, off, none⟩ = some (.int .u8 ((k : Nat) : Int)) := fun w' h => (h.cell (p := ⟨b, off, none⟩) hb).trans hc.out
  clear e0
  go_enter Tryd.func18, Tryd.ntmps18
  go_wp2_with fail
  have hB0 : Below w.heap.size w ((w.alloc (.cells #[.int .i64 0, .int .u64 0, .int .u64 0, .int .u64 0, .int .u64 0, .int .u64 0] 44)).alloc (.cells #[.int .i64 0, .int .u64 0, .int .u64 0, .int .u64 0, .int .u64 0, .int .u64 0] 44)) := below_two _ _
  go_region_held3 (fun w' => Below w.heap.size w w') (first | assumption | (exact Below.drew (by assumption)) | (exact Below.drew (below_two _ _)) | (exact below_two _ _) | (exact (fun h => Below.alloc h h.size _) (by assumption)))
    (first
      | (go_at_call 43; (with_reducible refine (HN0.out _ (AtB.below hA.out (by first | assumption | (exact Below.drew (by assumption)) | (exact Below.drew (below_two _ _))) (Nat.le_refl _))).mono ?_); rintro e w' ⟨rfl, rfl⟩))
  go_wp2_with (go_at_call 10; (with_reducible refine (HM _).mono ?_); rintro e w5 ⟨rfl, hb5⟩; obtain ⟨hE5, hv5, hB5⟩ := dec_box (k := (k : Int)) (s := a0) (y := 0) (u := 0) (v := 0) (x := 0) hb5; obtain ⟨hz5, ec0, ec1, ec2, ec3, ec4, ec5⟩ := hE5; have HBE := Lib.hid hB5; obtain ⟨hzr, ⟨rc0, rc1, rc2, rc3, rc4, rc5⟩, rf0, rf1, rf2, rf3, rf4, rf5⟩ := hv5.six; clear hb5 hB5 hv5; cases my)
  · exact bodyPost_ret (v := .tuple #[.agg #[.int .i64 0, .int .u64 0, .int .u64 0, .int .u64 0, .int .u64 0, .int .u64 0], .int .i64 2]) (by simp [results, Tryd.results18, go_sem, rc0, rc1, rc2, rc3, rc4, rc5]) rfl ⟨rfl, below_set6 (Nat.le_refl _) _ _ _ _ _ _ HBE.out⟩
  · exact bodyPost_ret (v := .tuple #[.agg #[.int .i64 (k : Int), .int .u64 (a0 : Int), .int .u64 0, .int .u64 0, .int .u64 0, .int .u64 0], .int .i64 0]) (by simp [results, Tryd.results18, go_sem, rc0, rc1, rc2, rc3, rc4, rc5]) rfl ⟨rfl, below_set6 (Nat.le_refl _) _ _ _ _ _ _ HBE.out⟩
set_option maxHeartbeats 2000000 in
theorem refDecode_9no (b off cap : Nat) (xs : List Nat) (a0 : Nat) (la0 : a0 < 18446744073709551616) (w : World) (hA : Hid (AtB w (some ⟨b, off, none⟩) 9 xs)) (hb : b < w.heap.size) (hc : Hid (w.cell? ⟨b, off, none⟩ = some (.int .u8 1))) (e0 : Hid (numN ((xs.drop 1).take 8) = a0))  :
    Calls Tryd.prog 18 #[.slice (some ⟨b, off, none⟩) 9 cap] w (DecPost w 0 0 0 0 0 0 2) := by
  have HN0 : Hid (∀ w', AtB w' (some ⟨b, off, none⟩) 9 xs → Calls Tryd.prog 43 #[.slice (some ⟨b, off, none⟩) 9 cap, .int .i64 1] w' fun e w'' => e = .returned (.int .u64 (a0 : Int)) ∧ w' = w'') := Lib.hid (fun w' h => by
    have := refNumber_at (some ⟨b, off, none⟩) 9 cap 1 xs w' (by omega) h
    rw [e0.out] at this
    exact this)
  have hC : ∀ w', Below w.heap.size w w' → w'.cell? ⟨b, off, none⟩ = some (.int .u8 1) := fun w' h => (h.cell (p := ⟨b, off, none⟩) hb).trans hc.out
  clear e0
  go_enter Tryd.func18, Tryd.ntmps18
  go_wp2_with fail
  have hB0 : Below w.heap.size w ((w.alloc (.cells #[.int .i64 0, .int .u64 0, .int .u64 0, .int .u64 0, .int .u64 0, .int .u64 0] 44)).alloc (.cells #[.int .i64 0, .int .u64 0, .int .u64 0, .int .u64 0, .int .u64 0, .int .u64 0] 44)) := below_two _ _
  go_region_held3 (fun w' => Below w.heap.size w w') (first | assumption | (exact Below.drew (by assumption)) | (exact Below.drew (below_two _ _)) | (exact below_two _ _) | (exact (fun h => Below.alloc h h.size _) (by assumption)))
    (first
      | (go_at_call 43; (with_reducible refine (HN0.out _ (AtB.below hA.out (by first | assumption | (exact Below.drew (by assumption)) | (exact Below.drew (below_two _ _))) (Nat.le_refl _))).mono ?_); rintro e w' ⟨rfl, rfl⟩))
  obtain ⟨hzr, ⟨rc0, rc1, rc2, rc3, rc4, rc5⟩, rf0, rf1, rf2, rf3, rf4, rf5⟩ := (dec_cells (w := w) (k := 1) (s := a0) (y := 0) (u := 0) (v := 0) (x := 0)).six
  go_wp2_with fail
  exact bodyPost_ret (v := .tuple #[.agg #[.int .i64 0, .int .u64 0, .int .u64 0, .int .u64 0, .int .u64 0, .int .u64 0], .int .i64 2]) (by simp [results, Tryd.results18, go_sem]) rfl ⟨rfl, Below.drew (below_two _ _)⟩
set_option maxHeartbeats 2000000 in
theorem refDecode_41 (b off cap : Nat) (xs : List Nat) (a0 : Nat) (la0 : a0 < 18446744073709551616) (a1 : Nat) (la1 : a1 < 18446744073709551616) (a2 : Nat) (la2 : a2 < 18446744073709551616) (a3 : Nat) (la3 : a3 < 18446744073709551616) (a4 : Nat) (la4 : a4 < 18446744073709551616) (w : World) (hA : Hid (AtB w (some ⟨b, off, none⟩) 41 xs)) (hb : b < w.heap.size) (hc : Hid (w.cell? ⟨b, off, none⟩ = some (.int .u8 1))) (e0 : Hid (numN ((xs.drop 1).take 8) = a0)) (e1 : Hid (numN ((xs.drop 9).take 8) = a1)) (e2 : Hid (numN ((xs.drop 17).take 8) = a2)) (e3 : Hid (numN ((xs.drop 25).take 8) = a3)) (e4 : Hid (numN ((xs.drop 33).take 8) = a4)) (my : Bool) (hm : (Ent.mk 1 a0 a1 a2 a3 a4).mayB = my) :
    Calls Tryd.prog 18 #[.slice (some ⟨b, off, none⟩) 41 cap] w (bif my then DecPost w 1 a0 a1 a2 a3 a4 0 else DecPost w 0 0 0 0 0 0 2) := by
  have HN0 : Hid (∀ w', AtB w' (some ⟨b, off, none⟩) 41 xs → Calls Tryd.prog 43 #[.slice (some ⟨b, off, none⟩) 41 cap, .int .i64 1] w' fun e w'' => e = .returned (.int .u64 (a0 : Int)) ∧ w' = w'') := Lib.hid (fun w' h => by
    have := refNumber_at (some ⟨b, off, none⟩) 41 cap 1 xs w' (by omega) h
    rw [e0.out] at this
    exact this)
  have HN1 : Hid (∀ w', AtB w' (some ⟨b, off, none⟩) 41 xs → Calls Tryd.prog 43 #[.slice (some ⟨b, off, none⟩) 41 cap, .int .i64 9] w' fun e w'' => e = .returned (.int .u64 (a1 : Int)) ∧ w' = w'') := Lib.hid (fun w' h => by
    have := refNumber_at (some ⟨b, off, none⟩) 41 cap 9 xs w' (by omega) h
    rw [e1.out] at this
    exact this)
  have HN2 : Hid (∀ w', AtB w' (some ⟨b, off, none⟩) 41 xs → Calls Tryd.prog 43 #[.slice (some ⟨b, off, none⟩) 41 cap, .int .i64 17] w' fun e w'' => e = .returned (.int .u64 (a2 : Int)) ∧ w' = w'') := Lib.hid (fun w' h => by
    have := refNumber_at (some ⟨b, off, none⟩) 41 cap 17 xs w' (by omega) h
    rw [e2.out] at this
    exact this)
  have HN3 : Hid (∀ w', AtB w' (some ⟨b, off, none⟩) 41 xs → Calls Tryd.prog 43 #[.slice (some ⟨b, off, none⟩) 41 cap, .int .i64 25] w' fun e w'' => e = .returned (.int .u64 (a3 : Int)) ∧ w' = w'') := Lib.hid (fun w' h => by
    have := refNumber_at (some ⟨b, off, none⟩) 41 cap 25 xs w' (by omega) h
    rw [e3.out] at this
    exact this)
  have HN4 : Hid (∀ w', AtB w' (some ⟨b, off, none⟩) 41 xs → Calls Tryd.prog 43 #[.slice (some ⟨b, off, none⟩) 41 cap, .int .i64 33] w' fun e w'' => e = .returned (.int .u64 (a4 : Int)) ∧ w' = w'') := Lib.hid (fun w' h => by
    have := refNumber_at (some ⟨b, off, none⟩) 41 cap 33 xs w' (by omega) h
    rw [e4.out] at this
    exact this)
  have HM : ∀ w, Calls Tryd.prog 10 #[.agg #[.int .i64 1, .int .u64 (a0 : Int), .int .u64 (a1 : Int), .int .u64 (a2 : Int), .int .u64 (a3 : Int), .int .u64 (a4 : Int)]] w (Kept w (.bool (Ent.mk 1 a0 a1 a2 a3 a4).mayB)) := fun w => refMay_any 1 a0 a1 a2 a3 a4 la1 w
  rw [hm] at HM
  clear hm
  have hC : ∀ w', Below w.heap.size w w' → w'.cell? ⟨b, off, none⟩ = some (.int .u8 1) := fun w' h => (h.cell (p := ⟨b, off, none⟩) hb).trans hc.out
  clear e0 e1 e2 e3 e4
  go_enter Tryd.func18, Tryd.ntmps18
  go_wp2_with fail
  have hB0 : Below w.heap.size w ((w.alloc (.cells #[.int .i64 0, .int .u64 0, .int .u64 0, .int .u64 0, .int .u64 0, .int .u64 0] 44)).alloc (.cells #[.int .i64 0, .int .u64 0, .int .u64 0, .int .u64 0, .int .u64 0, .int .u64 0] 44)) := below_two _ _
  go_region_held3 (fun w' => Below w.heap.size w w') (first | assumption | (exact Below.drew (by assumption)) | (exact Below.drew (below_two _ _)) | (exact below_two _ _) | (exact (fun h => Below.alloc h h.size _) (by assumption)))
    (first
      | (go_at_call 43; (with_reducible refine (HN0.out _ (AtB.below hA.out (by first | assumption | (exact Below.drew (by assumption)) | (exact Below.drew (below_two _ _))) (Nat.le_refl _))).mono ?_); rintro e w' ⟨rfl, rfl⟩)
      | (go_at_call 43; (with_reducible refine (HN1.out _ (AtB.below hA.out (by first | assumption | (exact Below.drew (by assumption)) | (exact Below.drew (below_two _ _))) (Nat.le_refl _))).mono ?_); rintro e w' ⟨rfl, rfl⟩)
      | (go_at_call 43; (with_reducible refine (HN2.out _ (AtB.below hA.out (by first | assumption | (exact Below.drew (by assumption)) | (exact Below.drew (below_two _ _))) (Nat.le_refl _))).mono ?_); rintro e w' ⟨rfl, rfl⟩)
      | (go_at_call 43; (with_reducible refine (HN3.out _ (AtB.below hA.out (by first | assumption | (exact Below.drew (by assumption)) | (exact Below.drew (below_two _ _))) (Nat.le_refl _))).mono ?_); rintro e w' ⟨rfl, rfl⟩)
      | (go_at_call 43; (with_reducible refine (HN4.out _ (AtB.below hA.out (by first | assumption | (exact Below.drew (by assumption)) | (exact Below.drew (below_two _ _))) (Nat.le_refl _))).mono ?_); rintro e w' ⟨rfl, rfl⟩))
  go_wp2_with (go_at_call 10; (with_reducible refine (HM _).mono ?_); rintro e w5 ⟨rfl, hb5⟩; obtain ⟨hE5, hv5, hB5⟩ := dec_box (k := 1) (s := a0) (y := a1) (u := a2) (v := a3) (x := a4) hb5; obtain ⟨hz5, ec0, ec1, ec2, ec3, ec4, ec5⟩ := hE5; have HBE := Lib.hid hB5; obtain ⟨hzr, ⟨rc0, rc1, rc2, rc3, rc4, rc5⟩, rf0, rf1, rf2, rf3, rf4, rf5⟩ := hv5.six; clear hb5 hB5 hv5; cases my)
  · exact bodyPost_ret (v := .tuple #[.agg #[.int .i64 0, .int .u64 0, .int .u64 0, .int .u64 0, .int .u64 0, .int .u64 0], .int .i64 2]) (by simp [results, Tryd.results18, go_sem, rc0, rc1, rc2, rc3, rc4, rc5]) rfl ⟨rfl, below_set6 (Nat.le_refl _) _ _ _ _ _ _ HBE.out⟩
  · exact bodyPost_ret (v := .tuple #[.agg #[.int .i64 1, .int .u64 (a0 : Int), .int .u64 (a1 : Int), .int .u64 (a2 : Int), .int .u64 (a3 : Int), .int .u64 (a4 : Int)], .int .i64 0]) (by simp [results, Tryd.results18, go_sem, rc0, rc1, rc2, rc3, rc4, rc5]) rfl ⟨rfl, below_set6 (Nat.le_refl _) _ _ _ _ _ _ HBE.out⟩
set_option maxHeartbeats 2000000 in
theorem refDecode_41no (b off cap : Nat) (k : Nat) (hk : k < 256) (hk1 : k ≠ 1) (xs : List Nat) (a0 : Nat) (la0 : a0 < 18446744073709551616) (a1 : Nat) (la1 : a1 < 18446744073709551616) (a2 : Nat) (la2 : a2 < 18446744073709551616) (a3 : Nat) (la3 : a3 < 18446744073709551616) (a4 : Nat) (la4 : a4 < 18446744073709551616) (w : World) (hA : Hid (AtB w (some ⟨b, off, none⟩) 41 xs)) (hb : b < w.heap.size) (hc : Hid (w.cell? ⟨b, off, none⟩ = some (.int .u8 ((k : Nat) : Int)))) (e0 : Hid (numN ((xs.drop 1).take 8) = a0)) (e1 : Hid (numN ((xs.drop 9).take 8) = a1)) (e2 : Hid (numN ((xs.drop 17).take 8) = a2)) (e3 : Hid (numN ((xs.drop 25).take 8) = a3)) (e4 : Hid (numN ((xs.drop 33).take 8) = a4))  :
    Calls Tryd.prog 18 #[.slice (some ⟨b, off, none⟩) 41 cap] w (DecPost w 0 0 0 0 0 0 2) := by
  have HN0 : Hid (∀ w', AtB w' (some ⟨b, off, none⟩) 41 xs → Calls Tryd.prog 43 #[.slice (some ⟨b, off, none⟩) 41 cap, .int .i64 1] w' fun e w'' => e = .returned (.int .u64 (a0 : Int)) ∧ w' = w'') := Lib.hid (fun w' h => by
    have := refNumber_at (some ⟨b, off, none⟩) 41 cap 1 xs w' (by omega) h
    rw [e0.out] at this
    exact this)
  have HN1 : Hid (∀ w', AtB w' (some ⟨b, off, none⟩) 41 xs → Calls Tryd.prog 43 #[.slice (some ⟨b, off, none⟩) 41 cap, .int .i64 9] w' fun e w'' => e = .returned (.int .u64 (a1 : Int)) ∧ w' = w'') := Lib.hid (fun w' h => by
    have := refNumber_at (some ⟨b, off, none⟩) 41 cap 9 xs w' (by omega) h
    rw [e1.out] at this
    exact this)
  have HN2 : Hid (∀ w', AtB w' (some ⟨b, off, none⟩) 41 xs → Calls Tryd.prog 43 #[.slice (some ⟨b, off, none⟩) 41 cap, .int .i64 17] w' fun e w'' => e = .returned (.int .u64 (a2 : Int)) ∧ w' = w'') := Lib.hid (fun w' h => by
    have := refNumber_at (some ⟨b, off, none⟩) 41 cap 17 xs w' (by omega) h
    rw [e2.out] at this
    exact this)
  have HN3 : Hid (∀ w', AtB w' (some ⟨b, off, none⟩) 41 xs → Calls Tryd.prog 43 #[.slice (some ⟨b, off, none⟩) 41 cap, .int .i64 25] w' fun e w'' => e = .returned (.int .u64 (a3 : Int)) ∧ w' = w'') := Lib.hid (fun w' h => by
    have := refNumber_at (some ⟨b, off, none⟩) 41 cap 25 xs w' (by omega) h
    rw [e3.out] at this
    exact this)
  have HN4 : Hid (∀ w', AtB w' (some ⟨b, off, none⟩) 41 xs → Calls Tryd.prog 43 #[.slice (some ⟨b, off, none⟩) 41 cap, .int .i64 33] w' fun e w'' => e = .returned (.int .u64 (a4 : Int)) ∧ w' = w'') := Lib.hid (fun w' h => by
    have := refNumber_at (some ⟨b, off, none⟩) 41 cap 33 xs w' (by omega) h
    rw [e4.out] at this
    exact this)
  have dk1 : (((k : Nat) : Int) == 1) = false := by rw [beq_eq_false_iff_ne]; omega
  have dk2 : (((k : Nat) : Int) != 1) = true := by rw [bne_iff_ne]; omega
  have kw : IntKind.i64.wrap ((k : Nat) : Int) = ((k : Nat) : Int) := IntWalk.i64_in _ (by omega)
  have hC : ∀ w', Below w.heap.size w w' → w'.cell? ⟨b, off, none⟩ = some (.int .u8 ((k : Nat) : Int)) := fun w' h => (h.cell (p := ⟨b, off, none⟩) hb).trans hc.out
  clear e0 e1 e2 e3 e4
  go_enter Tryd.func18, Tryd.ntmps18
  go_wp2_with fail
  have hB0 : Below w.heap.size w ((w.alloc (.cells #[.int .i64 0, .int .u64 0, .int .u64 0, .int .u64 0, .int .u64 0, .int .u64 0] 44)).alloc (.cells #[.int .i64 0, .int .u64 0, .int .u64 0, .int .u64 0, .int .u64 0, .int .u64 0] 44)) := below_two _ _
  go_region_held3 (fun w' => Below w.heap.size w w') (first | assumption | (exact Below.drew (by assumption)) | (exact Below.drew (below_two _ _)) | (exact below_two _ _) | (exact (fun h => Below.alloc h h.size _) (by assumption)))
    (first
      | (go_at_call 43; (with_reducible refine (HN0.out _ (AtB.below hA.out (by first | assumption | (exact Below.drew (by assumption)) | (exact Below.drew (below_two _ _))) (Nat.le_refl _))).mono ?_); rintro e w' ⟨rfl, rfl⟩)
      | (go_at_call 43; (with_reducible refine (HN1.out _ (AtB.below hA.out (by first | assumption | (exact Below.drew (by assumption)) | (exact Below.drew (below_two _ _))) (Nat.le_refl _))).mono ?_); rintro e w' ⟨rfl, rfl⟩)
      | (go_at_call 43; (with_reducible refine (HN2.out _ (AtB.below hA.out (by first | assumption | (exact Below.drew (by assumption)) | (exact Below.drew (below_two _ _))) (Nat.le_refl _))).mono ?_); rintro e w' ⟨rfl, rfl⟩)
      | (go_at_call 43; (with_reducible refine (HN3.out _ (AtB.below hA.out (by first | assumption | (exact Below.drew (by assumption)) | (exact Below.drew (below_two _ _))) (Nat.le_refl _))).mono ?_); rintro e w' ⟨rfl, rfl⟩)
      | (go_at_call 43; (with_reducible refine (HN4.out _ (AtB.below hA.out (by first | assumption | (exact Below.drew (by assumption)) | (exact Below.drew (below_two _ _))) (Nat.le_refl _))).mono ?_); rintro e w' ⟨rfl, rfl⟩))
  obtain ⟨hzr, ⟨rc0, rc1, rc2, rc3, rc4, rc5⟩, rf0, rf1, rf2, rf3, rf4, rf5⟩ := (dec_cells (w := w) (k := (k : Int)) (s := a0) (y := a1) (u := a2) (v := a3) (x := a4)).six
  go_wp2_with fail
  exact bodyPost_ret (v := .tuple #[.agg #[.int .i64 0, .int .u64 0, .int .u64 0, .int .u64 0, .int .u64 0, .int .u64 0], .int .i64 2]) (by simp [results, Tryd.results18, go_sem]) rfl ⟨rfl, Below.drew (below_two _ _)⟩
set_option maxHeartbeats 1000000 in
theorem refDecode_else (A : Option Addr) (len cap : Nat) (h9 : len ≠ 9) (h41 : len ≠ 41) (w : World) :
    Calls Tryd.prog 18 #[.slice A len cap] w (DecPost w 0 0 0 0 0 0 2) := by
  have d1 : (((len : Nat) : Int) == 9) = false := by rw [beq_eq_false_iff_ne]; omega
  have d2 : (((len : Nat) : Int) == 41) = false := by rw [beq_eq_false_iff_ne]; omega
  have HM : ∀ w, Calls Tryd.prog 10 #[.agg #[.int .i64 0, .int .u64 0, .int .u64 0, .int .u64 0, .int .u64 0, .int .u64 0]] w (Kept w (.bool (Ent.mk 0 0 0 0 0 0).mayB)) := fun w => refMay_any 0 0 0 0 0 0 (by omega) w
  rw [show (Ent.mk 0 0 0 0 0 0).mayB = false by decide +kernel] at HM
  clear h9 h41
  go_enter Tryd.func18, Tryd.ntmps18
  go_wp2_with (go_at_call 10; (with_reducible refine (HM _).mono ?_); rintro e w5 ⟨rfl, hb5⟩; have hv5 := (VarAt.below (VarAt.below (VarAt.made w _ _) ((Below.refl _ _).alloc (Nat.le_refl _) _)) hb5).six; have HBE : Hid (Below w.heap.size w w5) := Lib.hid ((below_two _ _).trans (hb5.mono (by simp; omega))); obtain ⟨hzr, ⟨rc0, rc1, rc2, rc3, rc4, rc5⟩, rf0, rf1, rf2, rf3, rf4, rf5⟩ := hv5; clear hb5)
  exact bodyPost_ret (v := .tuple #[.agg #[.int .i64 0, .int .u64 0, .int .u64 0, .int .u64 0, .int .u64 0, .int .u64 0], .int .i64 2]) (by simp [results, Tryd.results18, go_sem, rc0, rc1, rc2, rc3, rc4, rc5]) rfl ⟨rfl, below_set6 (Nat.le_refl _) _ _ _ _ _ _ HBE.out⟩
theorem dec_bif' {xs : List Nat} {my : Bool} {w : World} {e : Ending} {w' : World} (hm : (rawN xs).mayB = my) (h1 : 1 ≤ xs.length) (h2 : my = true → xs.length = 1 + 8 * fieldsI (xs.getD 0 0 : Nat))
    (h : (bif my then DecPost w (rawN xs).k (rawN xs).s (rawN xs).y (rawN xs).u (rawN xs).v (rawN xs).x 0 else DecPost w 0 0 0 0 0 0 2) e w') :
    DecPost w (decN xs).k (decN xs).s (decN xs).y (decN xs).u (decN xs).v (decN xs).x (decE xs) e w' := by
  cases my
  · have hr : ¬ Reads xs := fun hr => by rw [Ent.mayB_yes hr.2.2] at hm; cases hm
    rw [(dec_no hr).1, (dec_no hr).2]
    exact h
  · have hr : Reads xs := ⟨h1, h2 rfl, of_decide_eq_true hm⟩
    rw [(dec_yes hr).1, (dec_yes hr).2]
    exact h
theorem refDecode_at (A : Option Addr) (len cap : Nat) (xs : List Nat) (w : World) (hA : Hid (AtB w A len xs)) :
    Calls Tryd.prog 18 #[.slice A len cap] w (DecPost w (decN xs).k (decN xs).s (decN xs).y (decN xs).u (decN xs).v (decN xs).x (decE xs)) := by
  obtain ⟨hlen, hB, hbig, hc⟩ := hA.out
  have nl : ∀ i, numN ((xs.drop i).take 8) < 18446744073709551616 := fun i => num_lt8 ((hB.drop' i).take 8) (by simp; omega)
  have hk := hB.getD 0
  by_cases l9 : len = 9
  · subst l9
    obtain ⟨b, off, rfl, hlt, hc⟩ := hc (by omega)
    have hc0 := hc 0 (by omega)
    rw [Nat.add_zero] at hc0
    have hraw : rawN xs = ⟨((xs.getD 0 0 : Nat) : Int), numN ((xs.drop 1).take 8), 0, 0, 0, 0⟩ := by unfold rawN; rw [if_neg (by omega)]
    by_cases k1 : xs.getD 0 0 = 1
    · have hr : ¬ Reads xs := fun hr => by
        have := hr.2.1
        rw [k1, hlen] at this
        revert this; decide
      rw [(dec_no hr).1, (dec_no hr).2]
      exact refDecode_9no b off cap xs _ (nl 1) w hA hlt (Lib.hid (by rw [hc0, k1]; rfl)) (Lib.hid rfl)
    · refine (refDecode_9 b off cap (xs.getD 0 0) hk k1 xs _ (nl 1) w hA hlt (Lib.hid hc0) (Lib.hid rfl) (rawN xs).mayB (by rw [hraw])).mono fun e w' h => dec_bif' rfl (by omega) (fun hm => ?_) ?_
      · have hm' : (rawN xs).may := of_decide_eq_true hm
        have hk3 := Ent.kinds hm'
        rw [hraw] at hk3
        rw [hlen]
        unfold fieldsI
        rw [if_neg (by omega), if_pos (by simp only at hk3; omega)]
      · rw [hraw] at h ⊢
        exact h
  · by_cases l41 : len = 41
    · subst l41
      obtain ⟨b, off, rfl, hlt, hc⟩ := hc (by omega)
      have hc0 := hc 0 (by omega)
      rw [Nat.add_zero] at hc0
      have hraw : rawN xs = ⟨((xs.getD 0 0 : Nat) : Int), numN ((xs.drop 1).take 8), numN ((xs.drop 9).take 8), numN ((xs.drop 17).take 8), numN ((xs.drop 25).take 8), numN ((xs.drop 33).take 8)⟩ := by unfold rawN; rw [if_pos hlen]
      by_cases k1 : xs.getD 0 0 = 1
      · rw [k1] at hraw
        refine (refDecode_41 b off cap xs _ (nl 1) _ (nl 9) _ (nl 17) _ (nl 25) _ (nl 33) w hA hlt (Lib.hid (by rw [hc0, k1]; rfl)) (Lib.hid rfl) (Lib.hid rfl) (Lib.hid rfl) (Lib.hid rfl) (Lib.hid rfl) (rawN xs).mayB (by rw [hraw]; rfl)).mono fun e w' h => dec_bif' rfl (by omega) (fun _ => by rw [hlen, k1]; rfl) ?_
        rw [hraw] at h ⊢
        exact h
      · have hr : ¬ Reads xs := fun hr => by
          have := reads_kind hr
          rw [hlen] at this
          have h2 : ((xs.getD 0 0 : Nat) : Int) = 1 := by rw [← this]
          omega
        rw [(dec_no hr).1, (dec_no hr).2]
        exact refDecode_41no b off cap (xs.getD 0 0) hk k1 xs _ (nl 1) _ (nl 9) _ (nl 17) _ (nl 25) _ (nl 33) w hA hlt (Lib.hid hc0) (Lib.hid rfl) (Lib.hid rfl) (Lib.hid rfl) (Lib.hid rfl) (Lib.hid rfl)
    · have hr : ¬ Reads xs := fun hr => by have := reads_length hr; omega
      rw [(dec_no hr).1, (dec_no hr).2]
      exact refDecode_else A len cap l9 l41 w
end Go.Proofs.YtdbomlclkhkinaaDoor
