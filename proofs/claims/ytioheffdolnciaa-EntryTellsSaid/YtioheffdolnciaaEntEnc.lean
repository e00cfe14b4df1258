/-
  The contract of package entry's Encode (layer 5): an entry's bytes, or none.
-/
import Derived.Test.YtioheffdolnciaaEntCalls
import Derived.Test.YtioheffdolnciaaEntBytes
import Derived.Deep.RegionHeld3
import Derived.Lib.SliceRun
namespace Go.Proofs.Ytioheffdolnciaa
open Go.ChangeShapes Go.WideShapes Go.ChangeAt Go.RowKit
set_option linter.unusedVariables false

abbrev arrO : Obj := .cells #[.int .u64 0, .int .u64 0, .int .u64 0, .int .u64 0, .int .u64 0] 41
/-- An array of five numbers lies in a block, and may be written. -/
def ArrAt (w : World) (b : Nat) : Prop :=
  b < w.heap.size ∧ (w.cell? ⟨b, 0, none⟩ = some (.int .u64 0) ∧ w.cell? ⟨b, 1, none⟩ = some (.int .u64 0) ∧ w.cell? ⟨b, 2, none⟩ = some (.int .u64 0) ∧ w.cell? ⟨b, 3, none⟩ = some (.int .u64 0) ∧ w.cell? ⟨b, 4, none⟩ = some (.int .u64 0)) ∧
  (w.frozen? ⟨b, 0, none⟩ = false ∧ w.frozen? ⟨b, 1, none⟩ = false ∧ w.frozen? ⟨b, 2, none⟩ = false ∧ w.frozen? ⟨b, 3, none⟩ = false ∧ w.frozen? ⟨b, 4, none⟩ = false)
theorem ArrAt.made (w : World) : ArrAt (w.alloc arrO) w.heap.size := by
  refine ⟨by simp, ⟨?_, ?_, ?_, ?_, ?_⟩, ?_, ?_, ?_, ?_, ?_⟩
  all_goals first | (rw [World.cell?_alloc_mark]; rfl) | (unfold World.frozen?; simp only [heap_alloc_new]; simp)
theorem ArrAt.below {w w' : World} {b : Nat} (h : ArrAt w b) (hb : Below w.heap.size w w') : ArrAt w' b := by
  obtain ⟨h0, ⟨h1, h2, h3, h4, h5⟩, g1, g2, g3, g4, g5⟩ := h
  exact ⟨Nat.lt_of_lt_of_le h0 hb.size, ⟨(keptCells hb b 0 h0).trans h1, (keptCells hb b 1 h0).trans h2, (keptCells hb b 2 h0).trans h3, (keptCells hb b 3 h0).trans h4, (keptCells hb b 4 h0).trans h5⟩,
    (keptFrozen hb b 0 h0).trans g1, (keptFrozen hb b 1 h0).trans g2, (keptFrozen hb b 2 h0).trans g3, (keptFrozen hb b 3 h0).trans g4, (keptFrozen hb b 4 h0).trans g5⟩
theorem arr_kept {w w2 : World} (hb : Below (w.alloc arrO).heap.size (w.alloc arrO) w2) : ArrAt w2 w.heap.size := (ArrAt.made w).below hb
theorem arr_kept' {w w2 : World} (hb : Below (w.alloc arrO).drew.heap.size (w.alloc arrO).drew w2) : ArrAt w2 w.heap.size := ArrAt.below (w := (w.alloc arrO).drew) (ArrAt.made w) hb

/-- Five numbers lie in a block's first cells. -/
def NumsAt (w : World) (b : Nat) (s y u v x : Nat) : Prop :=
  b < w.heap.size ∧ w.cell? ⟨b, 0, none⟩ = some (.int .u64 (s : Int)) ∧ w.cell? ⟨b, 1, none⟩ = some (.int .u64 (y : Int)) ∧ w.cell? ⟨b, 2, none⟩ = some (.int .u64 (u : Int)) ∧ w.cell? ⟨b, 3, none⟩ = some (.int .u64 (v : Int)) ∧ w.cell? ⟨b, 4, none⟩ = some (.int .u64 (x : Int))
theorem NumsAt.below {w w' : World} {b : Nat} {s y u v x : Nat} (h : NumsAt w b s y u v x) (hb : Below w.heap.size w w') : NumsAt w' b s y u v x := by
  obtain ⟨h0, h1, h2, h3, h4, h5⟩ := h
  exact ⟨Nat.lt_of_lt_of_le h0 hb.size, (keptCells hb b 0 h0).trans h1, (keptCells hb b 1 h0).trans h2, (keptCells hb b 2 h0).trans h3, (keptCells hb b 3 h0).trans h4, (keptCells hb b 4 h0).trans h5⟩
theorem NumsAt.made (w : World) (s y u v x : Nat) : NumsAt (w.alloc (.cells #[.int .u64 (s : Int), .int .u64 (y : Int), .int .u64 (u : Int), .int .u64 (v : Int), .int .u64 (x : Int)] 41)) w.heap.size s y u v x := by
  refine ⟨by simp, ?_, ?_, ?_, ?_, ?_⟩ <;> (rw [World.cell?_alloc_mark]; rfl)
theorem NumsAt.set {w : World} {b : Nat} {s y u v x : Nat} (h0 : b < w.heap.size) (h1 : w.cell? ⟨b, 0, none⟩ = some (.int .u64 0)) (h2 : w.cell? ⟨b, 1, none⟩ = some (.int .u64 0)) (h3 : w.cell? ⟨b, 2, none⟩ = some (.int .u64 0)) (h4 : w.cell? ⟨b, 3, none⟩ = some (.int .u64 0)) (h5 : w.cell? ⟨b, 4, none⟩ = some (.int .u64 0)) :
    NumsAt (((((w.setCell ⟨b, 0, none⟩ (.int .u64 (s : Int))).setCell ⟨b, 1, none⟩ (.int .u64 (y : Int))).setCell ⟨b, 2, none⟩ (.int .u64 (u : Int))).setCell ⟨b, 3, none⟩ (.int .u64 (v : Int))).setCell ⟨b, 4, none⟩ (.int .u64 (x : Int))) b s y u v x := by
  have hc : CellsAt (w.setCells b 0 [.int .u64 (s : Int), .int .u64 (y : Int), .int .u64 (u : Int), .int .u64 (v : Int), .int .u64 (x : Int)]) b [.int .u64 (s : Int), .int .u64 (y : Int), .int .u64 (u : Int), .int .u64 (v : Int), .int .u64 (x : Int)] := by
    refine ⟨Nat.lt_of_lt_of_le h0 (below_setCells (Nat.zero_le b) _ 0 w (Below.refl 0 w)).size, fun j val hv => ?_⟩
    have hj : j < 5 := (List.getElem?_eq_some_iff.1 hv).1
    have := World.cell?_setCells_in b [.int .u64 (s : Int), .int .u64 (y : Int), .int .u64 (u : Int), .int .u64 (v : Int), .int .u64 (x : Int)] 0 w (fun i hi => by
      have hi5 : i = 0 ∨ i = 1 ∨ i = 2 ∨ i = 3 ∨ i = 4 := by simp at hi; omega
      rcases hi5 with rfl | rfl | rfl | rfl | rfl <;> simp [h1, h2, h3, h4, h5]) j hj
    rw [Nat.zero_add] at this
    rw [this]
    exact hv ▸ (List.getElem?_eq_getElem hj).symm
  exact ⟨hc.1, hc.2 0 _ rfl, hc.2 1 _ rfl, hc.2 2 _ rfl, hc.2 3 _ rfl, hc.2 4 _ rfl⟩

def EncPost (w : World) (n : Nat) (xs : List Nat) (e : Ending) (w' : World) : Prop := ∃ v, e = .returned (.tuple #[v, .int .i64 0]) ∧ Own w' w.heap.size v n xs ∧ Below w.heap.size w w'
/-- What Encode has laid when j numbers have been laid. -/
def encJ (k : Nat) (L : List Nat) (j : Nat) : List Nat := k :: (L.take j).flatMap (leN 8)
def EncRel (w w3 : World) (k : Nat) (L : List Nat) (wr : World) (v : Value) (j : Nat) : Prop := Own wr w3.heap.size v (1 + 8 * j) (encJ k L j) ∧ Below w3.heap.size w3 wr
theorem EncRel.step {w w3 wr w' : World} {k j z : Nat} {L : List Nat} {v v' : Value} (h : EncRel w w3 k L wr v j) (hj : L[j]? = some z) (hO : Own w' w3.heap.size v' (1 + 8 * j + 8) (encJ k L j ++ leN 8 z)) (hB : Below w3.heap.size wr w') :
    EncRel w w3 k L w' v' (j + 1) := by
  refine ⟨?_, h.2.trans hB⟩
  have e : encJ k L (j + 1) = encJ k L j ++ leN 8 z := by
    unfold encJ
    rw [List.take_add_one, hj]
    simp
  rw [e, show 1 + 8 * (j + 1) = 1 + 8 * j + 8 by omega]
  exact hO

theorem encode_no (k : Int) (s y u v x : Nat) (hy : y < 18446744073709551616) (h : (Ent.mk k s y u v x).mayB = false) (w : World) :
    Calls Try.prog 8 #[.agg #[.int .i64 k, .int .u64 (s : Int), .int .u64 (y : Int), .int .u64 (u : Int), .int .u64 (v : Int), .int .u64 (x : Int)]] w (Kept w (.tuple #[.slice none 0 0, .int .i64 1])) := by
  have HM := fun w => may_any k s y u v x hy w
  rw [h] at HM
  have H := Lib.hid h
  clear h
  go_enter Try.func8, Try.ntmps8
  go_wp2_with (go_at_call 12; (with_reducible refine (HM _).mono ?_); rintro e w1 ⟨rfl, hb1⟩; have HB1 := Lib.hid (below_box hb1); clear hb1)
  go_ret2
  exact ⟨rfl, HB1.out⟩

set_option maxHeartbeats 2000000 in
theorem encode_birth (s y u v x : Nat) (hs : s < 18446744073709551616) (hy : y < 18446744073709551616) (hu : u < 18446744073709551616) (hv : v < 18446744073709551616) (hx : x < 18446744073709551616) (h : (Ent.mk 1 s y u v x).mayB = true) (w : World) :
    Calls Try.prog 8 #[.agg #[.int .i64 1, .int .u64 (s : Int), .int .u64 (y : Int), .int .u64 (u : Int), .int .u64 (v : Int), .int .u64 (x : Int)]] w (EncPost w 41 (encJ 1 [s, y, u, v, x] 5)) := by
  have HM := fun w => may_any 1 s y u v x hy w
  rw [h] at HM
  have H := Lib.hid h
  clear h
  obtain ⟨i0, hi0, hz0, hz1, hz2⟩ := info_parts info5
  have HI := Lib.hid hi0
  have HZ0 := Lib.hid hz0
  have HZ1 := Lib.hid hz1
  have hz2' : Hid (i0.bytes * 41 ≤ 281474976710656) := Lib.hid (by rw [hz2]; omega)
  clear hi0 hz0 hz1 hz2
  go_enter Try.func8, Try.ntmps8
  go_wp2_with (go_at_call 12; (with_reducible refine (HM _).mono ?_); rintro e w1 ⟨rfl, hb1⟩; have HB1 := Lib.hid (below_box hb1); have hE1 := (EntAt.box w 1 s y u v x).below hb1; have HE1 := Lib.hid hE1; obtain ⟨hz1, _⟩ := hE1; clear hb1)
  have HN := fun w => numbersOf_any 1 s y u v x w
  have HF := fun w => fields_is 1 5 rfl w
  have hC0 : ∀ w', Below w1.heap.size w1 w' → w'.cell? ⟨w.heap.size, 0, none⟩ = some (.int .i64 1) := fun w' hb => (HE1.out.below hb).2.1
  have hC1 : ∀ w', Below w1.heap.size w1 w' → w'.cell? ⟨w.heap.size, 1, none⟩ = some (.int .u64 (s : Int)) := fun w' hb => (HE1.out.below hb).2.2.1
  have hC2 : ∀ w', Below w1.heap.size w1 w' → w'.cell? ⟨w.heap.size, 2, none⟩ = some (.int .u64 (y : Int)) := fun w' hb => (HE1.out.below hb).2.2.2.1
  have hC3 : ∀ w', Below w1.heap.size w1 w' → w'.cell? ⟨w.heap.size, 3, none⟩ = some (.int .u64 (u : Int)) := fun w' hb => (HE1.out.below hb).2.2.2.2.1
  have hC4 : ∀ w', Below w1.heap.size w1 w' → w'.cell? ⟨w.heap.size, 4, none⟩ = some (.int .u64 (v : Int)) := fun w' hb => (HE1.out.below hb).2.2.2.2.2.1
  have hC5 : ∀ w', Below w1.heap.size w1 w' → w'.cell? ⟨w.heap.size, 5, none⟩ = some (.int .u64 (x : Int)) := fun w' hb => (HE1.out.below hb).2.2.2.2.2.2
  clear HM
  have HB0 : Hid (w.heap.size = w.heap.size) := Lib.hid rfl
  revert HB0
  generalize hbz : w.heap.size = b0 at *
  intro HB0
  have HBZ := Lib.hid hbz
  clear hbz
  go_region_held3 (fun w' => Below w1.heap.size w1 w') (first | (with_reducible exact below_set5 (Nat.le_refl _) _ _ _ _ _ hB2) | (with_reducible exact Below.drew (below_set5 (Nat.le_refl _) _ _ _ _ _ hB2)) | assumption | (exact Below.drew (Below.refl _ _)) | (exact Below.drew (by assumption)) | (exact (fun h => Below.alloc h h.size _) (by assumption)))
    (first
      | (go_at_call 14; (with_reducible refine (HN _).mono ?_); rintro e w2 ⟨rfl, hb2⟩; have hB2 : Below w1.heap.size w1 w2 := below_step hb2 (by first | assumption | (exact Below.drew (Below.refl _ _)) | (exact Below.drew (by assumption))); (first | (with_reducible have hA := arr_kept hb2) | (with_reducible have hA := arr_kept' hb2)); have hA2 : ArrAt w2 w1.heap.size := hA; clear hA; obtain ⟨hz2, ⟨ha0, ha1, ha2, ha3, ha4⟩, hf0, hf1, hf2, hf3, hf4⟩ := hA2; clear hb2)
      | (go_at_call 14; (with_reducible refine (HN _).mono ?_); rintro e w2 ⟨rfl, hb2⟩; have hB2 : Below w1.heap.size w1 w2 := below_step hb2 (by first | assumption | (exact Below.drew (Below.refl _ _)) | (exact Below.drew (by assumption))); have hz2 := hb2.size; clear hb2)
      | (go_at_call 15; (with_reducible refine (HF _).mono ?_); rintro e w' ⟨rfl, rfl⟩))
  rotate_right
  · have hN : NumsAt (((((w2.setCell ⟨w1.heap.size, 0, none⟩ (.int .u64 (s : Int))).setCell ⟨w1.heap.size, 1, none⟩ (.int .u64 (y : Int))).setCell ⟨w1.heap.size, 2, none⟩ (.int .u64 (u : Int))).setCell ⟨w1.heap.size, 3, none⟩ (.int .u64 (v : Int))).setCell ⟨w1.heap.size, 4, none⟩ (.int .u64 (x : Int))) w1.heap.size s y u v x := NumsAt.set hz2 ha0 ha1 ha2 ha3 ha4
    have hB3 : Below w1.heap.size w1 (((((w2.setCell ⟨w1.heap.size, 0, none⟩ (.int .u64 (s : Int))).setCell ⟨w1.heap.size, 1, none⟩ (.int .u64 (y : Int))).setCell ⟨w1.heap.size, 2, none⟩ (.int .u64 (u : Int))).setCell ⟨w1.heap.size, 3, none⟩ (.int .u64 (v : Int))).setCell ⟨w1.heap.size, 4, none⟩ (.int .u64 (x : Int))) := below_set5 (Nat.le_refl _) _ _ _ _ _ hB2
    generalize (((((w2.setCell ⟨w1.heap.size, 0, none⟩ (.int .u64 (s : Int))).setCell ⟨w1.heap.size, 1, none⟩ (.int .u64 (y : Int))).setCell ⟨w1.heap.size, 2, none⟩ (.int .u64 (u : Int))).setCell ⟨w1.heap.size, 3, none⟩ (.int .u64 (v : Int))).setCell ⟨w1.heap.size, 4, none⟩ (.int .u64 (x : Int))) = w3 at *
    clear hz2 ha0 ha1 ha2 ha3 ha4 hf0 hf1 hf2 hf3 hf4
    have HN3 := Lib.hid hN
    have HBW : Hid (Below b0 w w3) := Lib.hid (HB1.out.trans (hB3.mono (by omega)))
    have HE3 := Lib.hid (HE1.out.below hB3)
    clear hN hB3 hB2 hC0 hC1 hC2 hC3 hC4 hC5 HN HF HB1 HE1
    go_wp2_with (first
      | (at_make; (refine wpList_make_own w3 rfl (.const (.int .i64 0)) (.tmp 19) 25 rfl w3.heap.size 5 i0 (.int .u8 0) 1 Try.underlying25 HI.out HZ0.out HZ1.out .i64 .i64 (41 : Int) 41 rfl rfl (by omega) hz2'.out (by unfold maxLen; omega) (Nat.le_refl _) ?_); (intro w4 hown hgrow; have B4 := Lib.hid ((Below.refl w3.heap.size w3).grown hgrow (Nat.le_refl _) (fun k hk => by cases hk)); have O4 : Hid (Own w4 w3.heap.size (.slice (some ⟨w3.heap.size, 0, none⟩) 0 41) 0 []) := Lib.hid ⟨fun x hx => by simp at hx, hown⟩; have hE4 := HE3.out.below B4.out; obtain ⟨hz4, he0, _⟩ := hE4; clear hown hgrow))
      | (at_builtin; (refine wpList_append_bytes (by rfl) (.tmp 21) (.tmp 25) (by rfl) w3.heap.size _ 0 [] (by rfl) (Own.alloc O4.out _) (some ⟨w4.heap.size, 0, none⟩) 1 1 [1] (by rfl) (AtB.one (by omega) (by simp)) (by omega) (by have := B4.out.size; simp; omega) ?_); (intro v5 w5 hown5 hgrow5; have R5 : Hid (EncRel w w3 1 [s, y, u, v, x] w5 v5 0) := Lib.hid ⟨hown5, (B4.out.alloc B4.out.size _).grown hgrow5 (by have := B4.out.size; simp; omega) (fun k hk => (O4.out.2.lt k hk).1)⟩; clear hown5 hgrow5)))
    clear he0 hz4 HE3 B4 O4
    go_loopw [6, 30] (fun vv i wr => ∃ j : Nat, j ≤ 5 ∧ i = .int .i64 j ∧ EncRel w w3 1 [s, y, u, v, x] wr vv j) (fun _ i _ => 5 - (intOf i).toNat)
    case atStart => exact ⟨0, Nat.zero_le _, rfl, R5.out⟩
    case round =>
      obtain ⟨j, hj, rfl, hrel⟩ := hrel
      have HR := Lib.hid hrel
      have hN4 := HN3.out.below hrel.2
      have hsz := hrel.2.size
      obtain ⟨hb4, hc0, hc1, hc2, hc3, hc4⟩ := hN4
      clear hrel R5
      have hj5 : j = 5 ∨ j = 0 ∨ j = 1 ∨ j = 2 ∨ j = 3 ∨ j = 4 := by omega
      rcases hj5 with rfl | rfl | rfl | rfl | rfl | rfl
      · go_wp2_with fail
        go_ret2
        exact ⟨_, rfl, HR.out.1.lower HBW.out.size, by have h1 := HBW.out.size; have h2 := HBZ.out; rw [h2]; exact HBW.out.trans (HR.out.2.mono (by omega))⟩
      · have O : Hid (Own wr w3.heap.size u6 (1 + 8 * 0) (encJ 1 [s, y, u, v, x] 0)) := Lib.hid HR.out.1
        go_wp2_with (go_at_call 16; (with_reducible refine (lay8_any _ w3.heap.size (1 + 8 * 0) (encJ 1 [s, y, u, v, x] 0) s hs _ O hsz (by omega)).mono ?_); rintro e w6 ⟨v6, rfl, hO6, hB6⟩; have R6 := Lib.hid (HR.out.step (z := s) (j := 0) rfl hO6 hB6); clear hO6 hB6)
        go_roundw
        case rel => exact ⟨1, by omega, by go_num, R6.out⟩
        case measure => simp [intOf]
      · have O : Hid (Own wr w3.heap.size u6 (1 + 8 * 1) (encJ 1 [s, y, u, v, x] 1)) := Lib.hid HR.out.1
        go_wp2_with (go_at_call 16; (with_reducible refine (lay8_any _ w3.heap.size (1 + 8 * 1) (encJ 1 [s, y, u, v, x] 1) y hy _ O hsz (by omega)).mono ?_); rintro e w6 ⟨v6, rfl, hO6, hB6⟩; have R6 := Lib.hid (HR.out.step (z := y) (j := 1) rfl hO6 hB6); clear hO6 hB6)
        go_roundw
        case rel => exact ⟨2, by omega, by go_num, R6.out⟩
        case measure => simp [intOf]
      · have O : Hid (Own wr w3.heap.size u6 (1 + 8 * 2) (encJ 1 [s, y, u, v, x] 2)) := Lib.hid HR.out.1
        go_wp2_with (go_at_call 16; (with_reducible refine (lay8_any _ w3.heap.size (1 + 8 * 2) (encJ 1 [s, y, u, v, x] 2) u hu _ O hsz (by omega)).mono ?_); rintro e w6 ⟨v6, rfl, hO6, hB6⟩; have R6 := Lib.hid (HR.out.step (z := u) (j := 2) rfl hO6 hB6); clear hO6 hB6)
        go_roundw
        case rel => exact ⟨3, by omega, by go_num, R6.out⟩
        case measure => simp [intOf]
      · have O : Hid (Own wr w3.heap.size u6 (1 + 8 * 3) (encJ 1 [s, y, u, v, x] 3)) := Lib.hid HR.out.1
        go_wp2_with (go_at_call 16; (with_reducible refine (lay8_any _ w3.heap.size (1 + 8 * 3) (encJ 1 [s, y, u, v, x] 3) v hv _ O hsz (by omega)).mono ?_); rintro e w6 ⟨v6, rfl, hO6, hB6⟩; have R6 := Lib.hid (HR.out.step (z := v) (j := 3) rfl hO6 hB6); clear hO6 hB6)
        go_roundw
        case rel => exact ⟨4, by omega, by go_num, R6.out⟩
        case measure => simp [intOf]
      · have O : Hid (Own wr w3.heap.size u6 (1 + 8 * 4) (encJ 1 [s, y, u, v, x] 4)) := Lib.hid HR.out.1
        go_wp2_with (go_at_call 16; (with_reducible refine (lay8_any _ w3.heap.size (1 + 8 * 4) (encJ 1 [s, y, u, v, x] 4) x hx _ O hsz (by omega)).mono ?_); rintro e w6 ⟨v6, rfl, hO6, hB6⟩; have R6 := Lib.hid (HR.out.step (z := x) (j := 4) rfl hO6 hB6); clear hO6 hB6)
        go_roundw
        case rel => exact ⟨5, by omega, by go_num, R6.out⟩
        case measure => simp [intOf]
  all_goals
    have hN := NumsAt.made w2 s y u v x
    have hB3 : Below w1.heap.size w1 (w2.alloc (.cells #[.int .u64 (s : Int), .int .u64 (y : Int), .int .u64 (u : Int), .int .u64 (v : Int), .int .u64 (x : Int)] 41)) := below_al hB2
    generalize w2.alloc (.cells #[.int .u64 (s : Int), .int .u64 (y : Int), .int .u64 (u : Int), .int .u64 (v : Int), .int .u64 (x : Int)] 41) = w3 at *
    have HN3 := Lib.hid hN
    have HBW : Hid (Below b0 w w3) := Lib.hid (HB1.out.trans (hB3.mono (by omega)))
    have HE3 := Lib.hid (HE1.out.below hB3)
    clear hN hB3 hB2 hC0 hC1 hC2 hC3 hC4 hC5 HN HF HB1 HE1
    go_wp2_with (first
      | (at_make; (refine wpList_make_own w3 rfl (.const (.int .i64 0)) (.tmp 19) 25 rfl w3.heap.size 5 i0 (.int .u8 0) 1 Try.underlying25 HI.out HZ0.out HZ1.out .i64 .i64 (41 : Int) 41 rfl rfl (by omega) hz2'.out (by unfold maxLen; omega) (Nat.le_refl _) ?_); (intro w4 hown hgrow; have B4 := Lib.hid ((Below.refl w3.heap.size w3).grown hgrow (Nat.le_refl _) (fun k hk => by cases hk)); have O4 : Hid (Own w4 w3.heap.size (.slice (some ⟨w3.heap.size, 0, none⟩) 0 41) 0 []) := Lib.hid ⟨fun x hx => by simp at hx, hown⟩; have hE4 := HE3.out.below B4.out; obtain ⟨hz4, he0, _⟩ := hE4; clear hown hgrow))
      | (at_builtin; (refine wpList_append_bytes (by rfl) (.tmp 21) (.tmp 25) (by rfl) w3.heap.size _ 0 [] (by rfl) (Own.alloc O4.out _) (some ⟨w4.heap.size, 0, none⟩) 1 1 [1] (by rfl) (AtB.one (by omega) (by simp)) (by omega) (by have := B4.out.size; simp; omega) ?_); (intro v5 w5 hown5 hgrow5; have R5 : Hid (EncRel w w3 1 [s, y, u, v, x] w5 v5 0) := Lib.hid ⟨hown5, (B4.out.alloc B4.out.size _).grown hgrow5 (by have := B4.out.size; simp; omega) (fun k hk => (O4.out.2.lt k hk).1)⟩; clear hown5 hgrow5)))
    clear he0 hz4 HE3 B4 O4
    go_loopw [6, 30] (fun vv i wr => ∃ j : Nat, j ≤ 5 ∧ i = .int .i64 j ∧ EncRel w w3 1 [s, y, u, v, x] wr vv j) (fun _ i _ => 5 - (intOf i).toNat)
    case atStart => exact ⟨0, Nat.zero_le _, rfl, R5.out⟩
    case round =>
      obtain ⟨j, hj, rfl, hrel⟩ := hrel
      have HR := Lib.hid hrel
      have hN4 := HN3.out.below hrel.2
      have hsz := hrel.2.size
      obtain ⟨hb4, hc0, hc1, hc2, hc3, hc4⟩ := hN4
      clear hrel R5
      have hj5 : j = 5 ∨ j = 0 ∨ j = 1 ∨ j = 2 ∨ j = 3 ∨ j = 4 := by omega
      rcases hj5 with rfl | rfl | rfl | rfl | rfl | rfl
      · go_wp2_with fail
        go_ret2
        exact ⟨_, rfl, HR.out.1.lower HBW.out.size, by have h1 := HBW.out.size; have h2 := HBZ.out; rw [h2]; exact HBW.out.trans (HR.out.2.mono (by omega))⟩
      · have O : Hid (Own wr w3.heap.size u6 (1 + 8 * 0) (encJ 1 [s, y, u, v, x] 0)) := Lib.hid HR.out.1
        go_wp2_with (go_at_call 16; (with_reducible refine (lay8_any _ w3.heap.size (1 + 8 * 0) (encJ 1 [s, y, u, v, x] 0) s hs _ O hsz (by omega)).mono ?_); rintro e w6 ⟨v6, rfl, hO6, hB6⟩; have R6 := Lib.hid (HR.out.step (z := s) (j := 0) rfl hO6 hB6); clear hO6 hB6)
        go_roundw
        case rel => exact ⟨1, by omega, by go_num, R6.out⟩
        case measure => simp [intOf]
      · have O : Hid (Own wr w3.heap.size u6 (1 + 8 * 1) (encJ 1 [s, y, u, v, x] 1)) := Lib.hid HR.out.1
        go_wp2_with (go_at_call 16; (with_reducible refine (lay8_any _ w3.heap.size (1 + 8 * 1) (encJ 1 [s, y, u, v, x] 1) y hy _ O hsz (by omega)).mono ?_); rintro e w6 ⟨v6, rfl, hO6, hB6⟩; have R6 := Lib.hid (HR.out.step (z := y) (j := 1) rfl hO6 hB6); clear hO6 hB6)
        go_roundw
        case rel => exact ⟨2, by omega, by go_num, R6.out⟩
        case measure => simp [intOf]
      · have O : Hid (Own wr w3.heap.size u6 (1 + 8 * 2) (encJ 1 [s, y, u, v, x] 2)) := Lib.hid HR.out.1
        go_wp2_with (go_at_call 16; (with_reducible refine (lay8_any _ w3.heap.size (1 + 8 * 2) (encJ 1 [s, y, u, v, x] 2) u hu _ O hsz (by omega)).mono ?_); rintro e w6 ⟨v6, rfl, hO6, hB6⟩; have R6 := Lib.hid (HR.out.step (z := u) (j := 2) rfl hO6 hB6); clear hO6 hB6)
        go_roundw
        case rel => exact ⟨3, by omega, by go_num, R6.out⟩
        case measure => simp [intOf]
      · have O : Hid (Own wr w3.heap.size u6 (1 + 8 * 3) (encJ 1 [s, y, u, v, x] 3)) := Lib.hid HR.out.1
        go_wp2_with (go_at_call 16; (with_reducible refine (lay8_any _ w3.heap.size (1 + 8 * 3) (encJ 1 [s, y, u, v, x] 3) v hv _ O hsz (by omega)).mono ?_); rintro e w6 ⟨v6, rfl, hO6, hB6⟩; have R6 := Lib.hid (HR.out.step (z := v) (j := 3) rfl hO6 hB6); clear hO6 hB6)
        go_roundw
        case rel => exact ⟨4, by omega, by go_num, R6.out⟩
        case measure => simp [intOf]
      · have O : Hid (Own wr w3.heap.size u6 (1 + 8 * 4) (encJ 1 [s, y, u, v, x] 4)) := Lib.hid HR.out.1
        go_wp2_with (go_at_call 16; (with_reducible refine (lay8_any _ w3.heap.size (1 + 8 * 4) (encJ 1 [s, y, u, v, x] 4) x hx _ O hsz (by omega)).mono ?_); rintro e w6 ⟨v6, rfl, hO6, hB6⟩; have R6 := Lib.hid (HR.out.step (z := x) (j := 4) rfl hO6 hB6); clear hO6 hB6)
        go_roundw
        case rel => exact ⟨5, by omega, by go_num, R6.out⟩
        case measure => simp [intOf]
set_option maxHeartbeats 2000000 in
theorem encode_death (s y u v x : Nat) (hs : s < 18446744073709551616) (hy : y < 18446744073709551616) (hu : u < 18446744073709551616) (hv : v < 18446744073709551616) (hx : x < 18446744073709551616) (h : (Ent.mk 2 s y u v x).mayB = true) (w : World) :
    Calls Try.prog 8 #[.agg #[.int .i64 2, .int .u64 (s : Int), .int .u64 (y : Int), .int .u64 (u : Int), .int .u64 (v : Int), .int .u64 (x : Int)]] w (EncPost w 9 (encJ 2 [s] 1)) := by
  have HM := fun w => may_any 2 s y u v x hy w
  rw [h] at HM
  have H := Lib.hid h
  clear h
  obtain ⟨i0, hi0, hz0, hz1, hz2⟩ := info_parts info5
  have HI := Lib.hid hi0
  have HZ0 := Lib.hid hz0
  have HZ1 := Lib.hid hz1
  have hz2' : Hid (i0.bytes * 9 ≤ 281474976710656) := Lib.hid (by rw [hz2]; omega)
  clear hi0 hz0 hz1 hz2
  go_enter Try.func8, Try.ntmps8
  go_wp2_with (go_at_call 12; (with_reducible refine (HM _).mono ?_); rintro e w1 ⟨rfl, hb1⟩; have HB1 := Lib.hid (below_box hb1); have hE1 := (EntAt.box w 2 s y u v x).below hb1; have HE1 := Lib.hid hE1; obtain ⟨hz1, _⟩ := hE1; clear hb1)
  have HN := fun w => numbersOf_any 2 s y u v x w
  have HF := fun w => fields_is 2 1 rfl w
  have hC0 : ∀ w', Below w1.heap.size w1 w' → w'.cell? ⟨w.heap.size, 0, none⟩ = some (.int .i64 2) := fun w' hb => (HE1.out.below hb).2.1
  have hC1 : ∀ w', Below w1.heap.size w1 w' → w'.cell? ⟨w.heap.size, 1, none⟩ = some (.int .u64 (s : Int)) := fun w' hb => (HE1.out.below hb).2.2.1
  have hC2 : ∀ w', Below w1.heap.size w1 w' → w'.cell? ⟨w.heap.size, 2, none⟩ = some (.int .u64 (y : Int)) := fun w' hb => (HE1.out.below hb).2.2.2.1
  have hC3 : ∀ w', Below w1.heap.size w1 w' → w'.cell? ⟨w.heap.size, 3, none⟩ = some (.int .u64 (u : Int)) := fun w' hb => (HE1.out.below hb).2.2.2.2.1
  have hC4 : ∀ w', Below w1.heap.size w1 w' → w'.cell? ⟨w.heap.size, 4, none⟩ = some (.int .u64 (v : Int)) := fun w' hb => (HE1.out.below hb).2.2.2.2.2.1
  have hC5 : ∀ w', Below w1.heap.size w1 w' → w'.cell? ⟨w.heap.size, 5, none⟩ = some (.int .u64 (x : Int)) := fun w' hb => (HE1.out.below hb).2.2.2.2.2.2
  clear HM
  have HB0 : Hid (w.heap.size = w.heap.size) := Lib.hid rfl
  revert HB0
  generalize hbz : w.heap.size = b0 at *
  intro HB0
  have HBZ := Lib.hid hbz
  clear hbz
  go_region_held3 (fun w' => Below w1.heap.size w1 w') (first | (with_reducible exact below_set5 (Nat.le_refl _) _ _ _ _ _ hB2) | (with_reducible exact Below.drew (below_set5 (Nat.le_refl _) _ _ _ _ _ hB2)) | assumption | (exact Below.drew (Below.refl _ _)) | (exact Below.drew (by assumption)) | (exact (fun h => Below.alloc h h.size _) (by assumption)))
    (first
      | (go_at_call 14; (with_reducible refine (HN _).mono ?_); rintro e w2 ⟨rfl, hb2⟩; have hB2 : Below w1.heap.size w1 w2 := below_step hb2 (by first | assumption | (exact Below.drew (Below.refl _ _)) | (exact Below.drew (by assumption))); (first | (with_reducible have hA := arr_kept hb2) | (with_reducible have hA := arr_kept' hb2)); have hA2 : ArrAt w2 w1.heap.size := hA; clear hA; obtain ⟨hz2, ⟨ha0, ha1, ha2, ha3, ha4⟩, hf0, hf1, hf2, hf3, hf4⟩ := hA2; clear hb2)
      | (go_at_call 14; (with_reducible refine (HN _).mono ?_); rintro e w2 ⟨rfl, hb2⟩; have hB2 : Below w1.heap.size w1 w2 := below_step hb2 (by first | assumption | (exact Below.drew (Below.refl _ _)) | (exact Below.drew (by assumption))); have hz2 := hb2.size; clear hb2)
      | (go_at_call 15; (with_reducible refine (HF _).mono ?_); rintro e w' ⟨rfl, rfl⟩))
  rotate_right
  · have hN : NumsAt (((((w2.setCell ⟨w1.heap.size, 0, none⟩ (.int .u64 (s : Int))).setCell ⟨w1.heap.size, 1, none⟩ (.int .u64 (y : Int))).setCell ⟨w1.heap.size, 2, none⟩ (.int .u64 (u : Int))).setCell ⟨w1.heap.size, 3, none⟩ (.int .u64 (v : Int))).setCell ⟨w1.heap.size, 4, none⟩ (.int .u64 (x : Int))) w1.heap.size s y u v x := NumsAt.set hz2 ha0 ha1 ha2 ha3 ha4
    have hB3 : Below w1.heap.size w1 (((((w2.setCell ⟨w1.heap.size, 0, none⟩ (.int .u64 (s : Int))).setCell ⟨w1.heap.size, 1, none⟩ (.int .u64 (y : Int))).setCell ⟨w1.heap.size, 2, none⟩ (.int .u64 (u : Int))).setCell ⟨w1.heap.size, 3, none⟩ (.int .u64 (v : Int))).setCell ⟨w1.heap.size, 4, none⟩ (.int .u64 (x : Int))) := below_set5 (Nat.le_refl _) _ _ _ _ _ hB2
    generalize (((((w2.setCell ⟨w1.heap.size, 0, none⟩ (.int .u64 (s : Int))).setCell ⟨w1.heap.size, 1, none⟩ (.int .u64 (y : Int))).setCell ⟨w1.heap.size, 2, none⟩ (.int .u64 (u : Int))).setCell ⟨w1.heap.size, 3, none⟩ (.int .u64 (v : Int))).setCell ⟨w1.heap.size, 4, none⟩ (.int .u64 (x : Int))) = w3 at *
    clear hz2 ha0 ha1 ha2 ha3 ha4 hf0 hf1 hf2 hf3 hf4
    have HN3 := Lib.hid hN
    have HBW : Hid (Below b0 w w3) := Lib.hid (HB1.out.trans (hB3.mono (by omega)))
    have HE3 := Lib.hid (HE1.out.below hB3)
    clear hN hB3 hB2 hC0 hC1 hC2 hC3 hC4 hC5 HN HF HB1 HE1
    go_wp2_with (first
      | (at_make; (refine wpList_make_own w3 rfl (.const (.int .i64 0)) (.tmp 19) 25 rfl w3.heap.size 5 i0 (.int .u8 0) 1 Try.underlying25 HI.out HZ0.out HZ1.out .i64 .i64 (9 : Int) 9 rfl rfl (by omega) hz2'.out (by unfold maxLen; omega) (Nat.le_refl _) ?_); (intro w4 hown hgrow; have B4 := Lib.hid ((Below.refl w3.heap.size w3).grown hgrow (Nat.le_refl _) (fun k hk => by cases hk)); have O4 : Hid (Own w4 w3.heap.size (.slice (some ⟨w3.heap.size, 0, none⟩) 0 9) 0 []) := Lib.hid ⟨fun x hx => by simp at hx, hown⟩; have hE4 := HE3.out.below B4.out; obtain ⟨hz4, he0, _⟩ := hE4; clear hown hgrow))
      | (at_builtin; (refine wpList_append_bytes (by rfl) (.tmp 21) (.tmp 25) (by rfl) w3.heap.size _ 0 [] (by rfl) (Own.alloc O4.out _) (some ⟨w4.heap.size, 0, none⟩) 1 1 [2] (by rfl) (AtB.one (by omega) (by simp)) (by omega) (by have := B4.out.size; simp; omega) ?_); (intro v5 w5 hown5 hgrow5; have R5 : Hid (EncRel w w3 2 [s] w5 v5 0) := Lib.hid ⟨hown5, (B4.out.alloc B4.out.size _).grown hgrow5 (by have := B4.out.size; simp; omega) (fun k hk => (O4.out.2.lt k hk).1)⟩; clear hown5 hgrow5)))
    clear he0 hz4 HE3 B4 O4
    go_loopw [6, 30] (fun vv i wr => ∃ j : Nat, j ≤ 1 ∧ i = .int .i64 j ∧ EncRel w w3 2 [s] wr vv j) (fun _ i _ => 1 - (intOf i).toNat)
    case atStart => exact ⟨0, Nat.zero_le _, rfl, R5.out⟩
    case round =>
      obtain ⟨j, hj, rfl, hrel⟩ := hrel
      have HR := Lib.hid hrel
      have hN4 := HN3.out.below hrel.2
      have hsz := hrel.2.size
      obtain ⟨hb4, hc0, hc1, hc2, hc3, hc4⟩ := hN4
      clear hrel R5
      have hj5 : j = 1 ∨ j = 0 := by omega
      rcases hj5 with rfl | rfl
      · go_wp2_with fail
        go_ret2
        exact ⟨_, rfl, HR.out.1.lower HBW.out.size, by have h1 := HBW.out.size; have h2 := HBZ.out; rw [h2]; exact HBW.out.trans (HR.out.2.mono (by omega))⟩
      · have O : Hid (Own wr w3.heap.size u6 (1 + 8 * 0) (encJ 2 [s] 0)) := Lib.hid HR.out.1
        go_wp2_with (go_at_call 16; (with_reducible refine (lay8_any _ w3.heap.size (1 + 8 * 0) (encJ 2 [s] 0) s hs _ O hsz (by omega)).mono ?_); rintro e w6 ⟨v6, rfl, hO6, hB6⟩; have R6 := Lib.hid (HR.out.step (z := s) (j := 0) rfl hO6 hB6); clear hO6 hB6)
        go_roundw
        case rel => exact ⟨1, by omega, by go_num, R6.out⟩
        case measure => simp [intOf]
  all_goals
    have hN := NumsAt.made w2 s y u v x
    have hB3 : Below w1.heap.size w1 (w2.alloc (.cells #[.int .u64 (s : Int), .int .u64 (y : Int), .int .u64 (u : Int), .int .u64 (v : Int), .int .u64 (x : Int)] 41)) := below_al hB2
    generalize w2.alloc (.cells #[.int .u64 (s : Int), .int .u64 (y : Int), .int .u64 (u : Int), .int .u64 (v : Int), .int .u64 (x : Int)] 41) = w3 at *
    have HN3 := Lib.hid hN
    have HBW : Hid (Below b0 w w3) := Lib.hid (HB1.out.trans (hB3.mono (by omega)))
    have HE3 := Lib.hid (HE1.out.below hB3)
    clear hN hB3 hB2 hC0 hC1 hC2 hC3 hC4 hC5 HN HF HB1 HE1
    go_wp2_with (first
      | (at_make; (refine wpList_make_own w3 rfl (.const (.int .i64 0)) (.tmp 19) 25 rfl w3.heap.size 5 i0 (.int .u8 0) 1 Try.underlying25 HI.out HZ0.out HZ1.out .i64 .i64 (9 : Int) 9 rfl rfl (by omega) hz2'.out (by unfold maxLen; omega) (Nat.le_refl _) ?_); (intro w4 hown hgrow; have B4 := Lib.hid ((Below.refl w3.heap.size w3).grown hgrow (Nat.le_refl _) (fun k hk => by cases hk)); have O4 : Hid (Own w4 w3.heap.size (.slice (some ⟨w3.heap.size, 0, none⟩) 0 9) 0 []) := Lib.hid ⟨fun x hx => by simp at hx, hown⟩; have hE4 := HE3.out.below B4.out; obtain ⟨hz4, he0, _⟩ := hE4; clear hown hgrow))
      | (at_builtin; (refine wpList_append_bytes (by rfl) (.tmp 21) (.tmp 25) (by rfl) w3.heap.size _ 0 [] (by rfl) (Own.alloc O4.out _) (some ⟨w4.heap.size, 0, none⟩) 1 1 [2] (by rfl) (AtB.one (by omega) (by simp)) (by omega) (by have := B4.out.size; simp; omega) ?_); (intro v5 w5 hown5 hgrow5; have R5 : Hid (EncRel w w3 2 [s] w5 v5 0) := Lib.hid ⟨hown5, (B4.out.alloc B4.out.size _).grown hgrow5 (by have := B4.out.size; simp; omega) (fun k hk => (O4.out.2.lt k hk).1)⟩; clear hown5 hgrow5)))
    clear he0 hz4 HE3 B4 O4
    go_loopw [6, 30] (fun vv i wr => ∃ j : Nat, j ≤ 1 ∧ i = .int .i64 j ∧ EncRel w w3 2 [s] wr vv j) (fun _ i _ => 1 - (intOf i).toNat)
    case atStart => exact ⟨0, Nat.zero_le _, rfl, R5.out⟩
    case round =>
      obtain ⟨j, hj, rfl, hrel⟩ := hrel
      have HR := Lib.hid hrel
      have hN4 := HN3.out.below hrel.2
      have hsz := hrel.2.size
      obtain ⟨hb4, hc0, hc1, hc2, hc3, hc4⟩ := hN4
      clear hrel R5
      have hj5 : j = 1 ∨ j = 0 := by omega
      rcases hj5 with rfl | rfl
      · go_wp2_with fail
        go_ret2
        exact ⟨_, rfl, HR.out.1.lower HBW.out.size, by have h1 := HBW.out.size; have h2 := HBZ.out; rw [h2]; exact HBW.out.trans (HR.out.2.mono (by omega))⟩
      · have O : Hid (Own wr w3.heap.size u6 (1 + 8 * 0) (encJ 2 [s] 0)) := Lib.hid HR.out.1
        go_wp2_with (go_at_call 16; (with_reducible refine (lay8_any _ w3.heap.size (1 + 8 * 0) (encJ 2 [s] 0) s hs _ O hsz (by omega)).mono ?_); rintro e w6 ⟨v6, rfl, hO6, hB6⟩; have R6 := Lib.hid (HR.out.step (z := s) (j := 0) rfl hO6 hB6); clear hO6 hB6)
        go_roundw
        case rel => exact ⟨1, by omega, by go_num, R6.out⟩
        case measure => simp [intOf]
set_option maxHeartbeats 2000000 in
theorem encode_head (s y u v x : Nat) (hs : s < 18446744073709551616) (hy : y < 18446744073709551616) (hu : u < 18446744073709551616) (hv : v < 18446744073709551616) (hx : x < 18446744073709551616) (h : (Ent.mk 3 s y u v x).mayB = true) (w : World) :
    Calls Try.prog 8 #[.agg #[.int .i64 3, .int .u64 (s : Int), .int .u64 (y : Int), .int .u64 (u : Int), .int .u64 (v : Int), .int .u64 (x : Int)]] w (EncPost w 9 (encJ 3 [s] 1)) := by
  have HM := fun w => may_any 3 s y u v x hy w
  rw [h] at HM
  have H := Lib.hid h
  clear h
  obtain ⟨i0, hi0, hz0, hz1, hz2⟩ := info_parts info5
  have HI := Lib.hid hi0
  have HZ0 := Lib.hid hz0
  have HZ1 := Lib.hid hz1
  have hz2' : Hid (i0.bytes * 9 ≤ 281474976710656) := Lib.hid (by rw [hz2]; omega)
  clear hi0 hz0 hz1 hz2
  go_enter Try.func8, Try.ntmps8
  go_wp2_with (go_at_call 12; (with_reducible refine (HM _).mono ?_); rintro e w1 ⟨rfl, hb1⟩; have HB1 := Lib.hid (below_box hb1); have hE1 := (EntAt.box w 3 s y u v x).below hb1; have HE1 := Lib.hid hE1; obtain ⟨hz1, _⟩ := hE1; clear hb1)
  have HN := fun w => numbersOf_any 3 s y u v x w
  have HF := fun w => fields_is 3 1 rfl w
  have hC0 : ∀ w', Below w1.heap.size w1 w' → w'.cell? ⟨w.heap.size, 0, none⟩ = some (.int .i64 3) := fun w' hb => (HE1.out.below hb).2.1
  have hC1 : ∀ w', Below w1.heap.size w1 w' → w'.cell? ⟨w.heap.size, 1, none⟩ = some (.int .u64 (s : Int)) := fun w' hb => (HE1.out.below hb).2.2.1
  have hC2 : ∀ w', Below w1.heap.size w1 w' → w'.cell? ⟨w.heap.size, 2, none⟩ = some (.int .u64 (y : Int)) := fun w' hb => (HE1.out.below hb).2.2.2.1
  have hC3 : ∀ w', Below w1.heap.size w1 w' → w'.cell? ⟨w.heap.size, 3, none⟩ = some (.int .u64 (u : Int)) := fun w' hb => (HE1.out.below hb).2.2.2.2.1
  have hC4 : ∀ w', Below w1.heap.size w1 w' → w'.cell? ⟨w.heap.size, 4, none⟩ = some (.int .u64 (v : Int)) := fun w' hb => (HE1.out.below hb).2.2.2.2.2.1
  have hC5 : ∀ w', Below w1.heap.size w1 w' → w'.cell? ⟨w.heap.size, 5, none⟩ = some (.int .u64 (x : Int)) := fun w' hb => (HE1.out.below hb).2.2.2.2.2.2
  clear HM
  have HB0 : Hid (w.heap.size = w.heap.size) := Lib.hid rfl
  revert HB0
  generalize hbz : w.heap.size = b0 at *
  intro HB0
  have HBZ := Lib.hid hbz
  clear hbz
  go_region_held3 (fun w' => Below w1.heap.size w1 w') (first | (with_reducible exact below_set5 (Nat.le_refl _) _ _ _ _ _ hB2) | (with_reducible exact Below.drew (below_set5 (Nat.le_refl _) _ _ _ _ _ hB2)) | assumption | (exact Below.drew (Below.refl _ _)) | (exact Below.drew (by assumption)) | (exact (fun h => Below.alloc h h.size _) (by assumption)))
    (first
      | (go_at_call 14; (with_reducible refine (HN _).mono ?_); rintro e w2 ⟨rfl, hb2⟩; have hB2 : Below w1.heap.size w1 w2 := below_step hb2 (by first | assumption | (exact Below.drew (Below.refl _ _)) | (exact Below.drew (by assumption))); (first | (with_reducible have hA := arr_kept hb2) | (with_reducible have hA := arr_kept' hb2)); have hA2 : ArrAt w2 w1.heap.size := hA; clear hA; obtain ⟨hz2, ⟨ha0, ha1, ha2, ha3, ha4⟩, hf0, hf1, hf2, hf3, hf4⟩ := hA2; clear hb2)
      | (go_at_call 14; (with_reducible refine (HN _).mono ?_); rintro e w2 ⟨rfl, hb2⟩; have hB2 : Below w1.heap.size w1 w2 := below_step hb2 (by first | assumption | (exact Below.drew (Below.refl _ _)) | (exact Below.drew (by assumption))); have hz2 := hb2.size; clear hb2)
      | (go_at_call 15; (with_reducible refine (HF _).mono ?_); rintro e w' ⟨rfl, rfl⟩))
  rotate_right
  · have hN : NumsAt (((((w2.setCell ⟨w1.heap.size, 0, none⟩ (.int .u64 (s : Int))).setCell ⟨w1.heap.size, 1, none⟩ (.int .u64 (y : Int))).setCell ⟨w1.heap.size, 2, none⟩ (.int .u64 (u : Int))).setCell ⟨w1.heap.size, 3, none⟩ (.int .u64 (v : Int))).setCell ⟨w1.heap.size, 4, none⟩ (.int .u64 (x : Int))) w1.heap.size s y u v x := NumsAt.set hz2 ha0 ha1 ha2 ha3 ha4
    have hB3 : Below w1.heap.size w1 (((((w2.setCell ⟨w1.heap.size, 0, none⟩ (.int .u64 (s : Int))).setCell ⟨w1.heap.size, 1, none⟩ (.int .u64 (y : Int))).setCell ⟨w1.heap.size, 2, none⟩ (.int .u64 (u : Int))).setCell ⟨w1.heap.size, 3, none⟩ (.int .u64 (v : Int))).setCell ⟨w1.heap.size, 4, none⟩ (.int .u64 (x : Int))) := below_set5 (Nat.le_refl _) _ _ _ _ _ hB2
    generalize (((((w2.setCell ⟨w1.heap.size, 0, none⟩ (.int .u64 (s : Int))).setCell ⟨w1.heap.size, 1, none⟩ (.int .u64 (y : Int))).setCell ⟨w1.heap.size, 2, none⟩ (.int .u64 (u : Int))).setCell ⟨w1.heap.size, 3, none⟩ (.int .u64 (v : Int))).setCell ⟨w1.heap.size, 4, none⟩ (.int .u64 (x : Int))) = w3 at *
    clear hz2 ha0 ha1 ha2 ha3 ha4 hf0 hf1 hf2 hf3 hf4
    have HN3 := Lib.hid hN
    have HBW : Hid (Below b0 w w3) := Lib.hid (HB1.out.trans (hB3.mono (by omega)))
    have HE3 := Lib.hid (HE1.out.below hB3)
    clear hN hB3 hB2 hC0 hC1 hC2 hC3 hC4 hC5 HN HF HB1 HE1
    go_wp2_with (first
      | (at_make; (refine wpList_make_own w3 rfl (.const (.int .i64 0)) (.tmp 19) 25 rfl w3.heap.size 5 i0 (.int .u8 0) 1 Try.underlying25 HI.out HZ0.out HZ1.out .i64 .i64 (9 : Int) 9 rfl rfl (by omega) hz2'.out (by unfold maxLen; omega) (Nat.le_refl _) ?_); (intro w4 hown hgrow; have B4 := Lib.hid ((Below.refl w3.heap.size w3).grown hgrow (Nat.le_refl _) (fun k hk => by cases hk)); have O4 : Hid (Own w4 w3.heap.size (.slice (some ⟨w3.heap.size, 0, none⟩) 0 9) 0 []) := Lib.hid ⟨fun x hx => by simp at hx, hown⟩; have hE4 := HE3.out.below B4.out; obtain ⟨hz4, he0, _⟩ := hE4; clear hown hgrow))
      | (at_builtin; (refine wpList_append_bytes (by rfl) (.tmp 21) (.tmp 25) (by rfl) w3.heap.size _ 0 [] (by rfl) (Own.alloc O4.out _) (some ⟨w4.heap.size, 0, none⟩) 1 1 [3] (by rfl) (AtB.one (by omega) (by simp)) (by omega) (by have := B4.out.size; simp; omega) ?_); (intro v5 w5 hown5 hgrow5; have R5 : Hid (EncRel w w3 3 [s] w5 v5 0) := Lib.hid ⟨hown5, (B4.out.alloc B4.out.size _).grown hgrow5 (by have := B4.out.size; simp; omega) (fun k hk => (O4.out.2.lt k hk).1)⟩; clear hown5 hgrow5)))
    clear he0 hz4 HE3 B4 O4
    go_loopw [6, 30] (fun vv i wr => ∃ j : Nat, j ≤ 1 ∧ i = .int .i64 j ∧ EncRel w w3 3 [s] wr vv j) (fun _ i _ => 1 - (intOf i).toNat)
    case atStart => exact ⟨0, Nat.zero_le _, rfl, R5.out⟩
    case round =>
      obtain ⟨j, hj, rfl, hrel⟩ := hrel
      have HR := Lib.hid hrel
      have hN4 := HN3.out.below hrel.2
      have hsz := hrel.2.size
      obtain ⟨hb4, hc0, hc1, hc2, hc3, hc4⟩ := hN4
      clear hrel R5
      have hj5 : j = 1 ∨ j = 0 := by omega
      rcases hj5 with rfl | rfl
      · go_wp2_with fail
        go_ret2
        exact ⟨_, rfl, HR.out.1.lower HBW.out.size, by have h1 := HBW.out.size; have h2 := HBZ.out; rw [h2]; exact HBW.out.trans (HR.out.2.mono (by omega))⟩
      · have O : Hid (Own wr w3.heap.size u6 (1 + 8 * 0) (encJ 3 [s] 0)) := Lib.hid HR.out.1
        go_wp2_with (go_at_call 16; (with_reducible refine (lay8_any _ w3.heap.size (1 + 8 * 0) (encJ 3 [s] 0) s hs _ O hsz (by omega)).mono ?_); rintro e w6 ⟨v6, rfl, hO6, hB6⟩; have R6 := Lib.hid (HR.out.step (z := s) (j := 0) rfl hO6 hB6); clear hO6 hB6)
        go_roundw
        case rel => exact ⟨1, by omega, by go_num, R6.out⟩
        case measure => simp [intOf]
  all_goals
    have hN := NumsAt.made w2 s y u v x
    have hB3 : Below w1.heap.size w1 (w2.alloc (.cells #[.int .u64 (s : Int), .int .u64 (y : Int), .int .u64 (u : Int), .int .u64 (v : Int), .int .u64 (x : Int)] 41)) := below_al hB2
    generalize w2.alloc (.cells #[.int .u64 (s : Int), .int .u64 (y : Int), .int .u64 (u : Int), .int .u64 (v : Int), .int .u64 (x : Int)] 41) = w3 at *
    have HN3 := Lib.hid hN
    have HBW : Hid (Below b0 w w3) := Lib.hid (HB1.out.trans (hB3.mono (by omega)))
    have HE3 := Lib.hid (HE1.out.below hB3)
    clear hN hB3 hB2 hC0 hC1 hC2 hC3 hC4 hC5 HN HF HB1 HE1
    go_wp2_with (first
      | (at_make; (refine wpList_make_own w3 rfl (.const (.int .i64 0)) (.tmp 19) 25 rfl w3.heap.size 5 i0 (.int .u8 0) 1 Try.underlying25 HI.out HZ0.out HZ1.out .i64 .i64 (9 : Int) 9 rfl rfl (by omega) hz2'.out (by unfold maxLen; omega) (Nat.le_refl _) ?_); (intro w4 hown hgrow; have B4 := Lib.hid ((Below.refl w3.heap.size w3).grown hgrow (Nat.le_refl _) (fun k hk => by cases hk)); have O4 : Hid (Own w4 w3.heap.size (.slice (some ⟨w3.heap.size, 0, none⟩) 0 9) 0 []) := Lib.hid ⟨fun x hx => by simp at hx, hown⟩; have hE4 := HE3.out.below B4.out; obtain ⟨hz4, he0, _⟩ := hE4; clear hown hgrow))
      | (at_builtin; (refine wpList_append_bytes (by rfl) (.tmp 21) (.tmp 25) (by rfl) w3.heap.size _ 0 [] (by rfl) (Own.alloc O4.out _) (some ⟨w4.heap.size, 0, none⟩) 1 1 [3] (by rfl) (AtB.one (by omega) (by simp)) (by omega) (by have := B4.out.size; simp; omega) ?_); (intro v5 w5 hown5 hgrow5; have R5 : Hid (EncRel w w3 3 [s] w5 v5 0) := Lib.hid ⟨hown5, (B4.out.alloc B4.out.size _).grown hgrow5 (by have := B4.out.size; simp; omega) (fun k hk => (O4.out.2.lt k hk).1)⟩; clear hown5 hgrow5)))
    clear he0 hz4 HE3 B4 O4
    go_loopw [6, 30] (fun vv i wr => ∃ j : Nat, j ≤ 1 ∧ i = .int .i64 j ∧ EncRel w w3 3 [s] wr vv j) (fun _ i _ => 1 - (intOf i).toNat)
    case atStart => exact ⟨0, Nat.zero_le _, rfl, R5.out⟩
    case round =>
      obtain ⟨j, hj, rfl, hrel⟩ := hrel
      have HR := Lib.hid hrel
      have hN4 := HN3.out.below hrel.2
      have hsz := hrel.2.size
      obtain ⟨hb4, hc0, hc1, hc2, hc3, hc4⟩ := hN4
      clear hrel R5
      have hj5 : j = 1 ∨ j = 0 := by omega
      rcases hj5 with rfl | rfl
      · go_wp2_with fail
        go_ret2
        exact ⟨_, rfl, HR.out.1.lower HBW.out.size, by have h1 := HBW.out.size; have h2 := HBZ.out; rw [h2]; exact HBW.out.trans (HR.out.2.mono (by omega))⟩
      · have O : Hid (Own wr w3.heap.size u6 (1 + 8 * 0) (encJ 3 [s] 0)) := Lib.hid HR.out.1
        go_wp2_with (go_at_call 16; (with_reducible refine (lay8_any _ w3.heap.size (1 + 8 * 0) (encJ 3 [s] 0) s hs _ O hsz (by omega)).mono ?_); rintro e w6 ⟨v6, rfl, hO6, hB6⟩; have R6 := Lib.hid (HR.out.step (z := s) (j := 0) rfl hO6 hB6); clear hO6 hB6)
        go_roundw
        case rel => exact ⟨1, by omega, by go_num, R6.out⟩
        case measure => simp [intOf]
end Go.Proofs.Ytioheffdolnciaa
