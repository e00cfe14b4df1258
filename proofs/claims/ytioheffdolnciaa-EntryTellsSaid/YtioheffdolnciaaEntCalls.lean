/-
  The contracts of the functions of package entry (layer 5) that look at an entry: its numbers, which may be; and of the document's own answer.
-/
import Derived.Test.YtioheffdolnciaaKeyCalls
import Derived.Test.YtioheffdolnciaaOwns
import Derived.Test.YtioheffdolnciaaMem
namespace Go.Proofs.Ytioheffdolnciaa
open Go.ChangeShapes Go.WideShapes Go.ChangeAt Go.RowKit
set_option linter.unusedVariables false

/-- The value, and what lay has stayed. -/
def Kept (w : World) (v : Value) (e : Ending) (w' : World) : Prop := e = .returned v ∧ Below w.heap.size w w'
theorem numbersOf_any (k : Int) (s y u v x : Nat) (w : World) :
    Calls Try.prog 14 #[.agg #[.int .i64 k, .int .u64 (s : Int), .int .u64 (y : Int), .int .u64 (u : Int), .int .u64 (v : Int), .int .u64 (x : Int)]] w
      (Kept w (.agg #[.int .u64 (s : Int), .int .u64 (y : Int), .int .u64 (u : Int), .int .u64 (v : Int), .int .u64 (x : Int)])) := by
  go_enter Try.func14, Try.ntmps14
  go_wp2_with fail
  refine bodyPost_ret (v := .agg #[.int .u64 (s : Int), .int .u64 (y : Int), .int .u64 (u : Int), .int .u64 (v : Int), .int .u64 (x : Int)]) (by simp [results, Try.results14, go_sem]) rfl ⟨rfl, ?_⟩
  exact ((Below.refl _ _).alloc (Nat.le_refl _) _).alloc (by simp) _
theorem entryOf_any (k : Int) (s y u v x : Nat) (w : World) :
    Calls Try.prog 19 #[.int .i64 k, .agg #[.int .u64 (s : Int), .int .u64 (y : Int), .int .u64 (u : Int), .int .u64 (v : Int), .int .u64 (x : Int)]] w
      (Kept w (.agg #[.int .i64 k, .int .u64 (s : Int), .int .u64 (y : Int), .int .u64 (u : Int), .int .u64 (v : Int), .int .u64 (x : Int)])) := by
  go_enter Try.func19, Try.ntmps19
  go_wp2_with fail
  refine bodyPost_ret (v := .agg #[.int .i64 k, .int .u64 (s : Int), .int .u64 (y : Int), .int .u64 (u : Int), .int .u64 (v : Int), .int .u64 (x : Int)]) (by simp [results, Try.results19, go_sem]) rfl ⟨rfl, ?_⟩
  exact ((Below.refl _ _).alloc (Nat.le_refl _) _).alloc (by simp) _
theorem nat_eq0 (u : Nat) : ((u : Int) == 0) = decide (u = 0) := by
  by_cases h : u = 0
  · subst h; rfl
  · rw [decide_eq_false h, beq_eq_false_iff_ne]; omega
theorem mayEnds_any (k : Int) (s y u v x : Nat) (hy : y < 18446744073709551616) (w : World) :
    Calls Try.prog 23 #[.agg #[.int .i64 k, .int .u64 (s : Int), .int .u64 (y : Int), .int .u64 (u : Int), .int .u64 (v : Int), .int .u64 (x : Int)]] w (Kept w (.bool (endsB y u v))) := by
  by_cases h0 : y % 2147483648 = 0
  · have d0 : decide ((y : Int) % 2147483648 - 1 < 0) = true := decide_eq_true (by omega)
    have E := Lib.hid (ends_vertex (u := u) (v := v) h0)
    have e1 := nat_eq0 u
    have e2 := nat_eq0 v
    generalize decide (u = 0) = b1 at *
    generalize decide (v = 0) = b2 at *
    clear h0
    cases b1 <;> cases b2
    all_goals
      go_enter Try.func23, Try.ntmps23
      go_wp2_with (go_at_call 27; refine (keySplit_any y hy _).mono ?_; rintro e w' ⟨rfl, rfl⟩)
      go_ret
      exact ⟨ret_bool E.out.symm, (Below.refl _ _).alloc (Nat.le_refl _) _⟩
  · have d0 : decide ((y : Int) % 2147483648 - 1 < 0) = false := decide_eq_false (by omega)
    have E := Lib.hid (ends_edge (u := u) (v := v) h0)
    clear h0
    have HU := fun w => isStamp_any u w
    have HV := fun w => isStamp_any v w
    generalize stampB u = b1 at *
    generalize stampB v = b2 at *
    cases b1 <;> cases b2
    all_goals
      go_enter Try.func23, Try.ntmps23
      go_wp2_with (first | (go_at_call 27; refine (keySplit_any y hy _).mono ?_; rintro e w' ⟨rfl, rfl⟩) | (go_at_call 21; (with_reducible refine (HU _).mono ?_); rintro e w' ⟨rfl, rfl⟩) | (go_at_call 21; (with_reducible refine (HV _).mono ?_); rintro e w' ⟨rfl, rfl⟩))
      go_ret
      exact ⟨ret_bool E.out.symm, (Below.refl _ _).alloc (Nat.le_refl _) _⟩
/-- An entry lies in a block's first cells. -/
def EntAt (w : World) (b : Nat) (k : Int) (s y u v x : Nat) : Prop :=
  b < w.heap.size ∧ w.cell? ⟨b, 0, none⟩ = some (.int .i64 k) ∧ w.cell? ⟨b, 1, none⟩ = some (.int .u64 (s : Int)) ∧ w.cell? ⟨b, 2, none⟩ = some (.int .u64 (y : Int)) ∧
  w.cell? ⟨b, 3, none⟩ = some (.int .u64 (u : Int)) ∧ w.cell? ⟨b, 4, none⟩ = some (.int .u64 (v : Int)) ∧ w.cell? ⟨b, 5, none⟩ = some (.int .u64 (x : Int))
abbrev entO (k : Int) (s y u v x : Nat) : Obj := .cells #[.int .i64 k, .int .u64 (s : Int), .int .u64 (y : Int), .int .u64 (u : Int), .int .u64 (v : Int), .int .u64 (x : Int)] 24
theorem EntAt.box (w : World) (k : Int) (s y u v x : Nat) : EntAt (w.alloc (entO k s y u v x)) w.heap.size k s y u v x := by
  refine ⟨by simp, ?_, ?_, ?_, ?_, ?_, ?_⟩ <;> (rw [World.cell?_alloc_mark]; rfl)
theorem EntAt.below {B : Nat} {w w' : World} {b : Nat} {k : Int} {s y u v x : Nat} (h : EntAt w b k s y u v x) (hb : Below B w w') (hB : w.heap.size ≤ B := by exact Nat.le_refl _) : EntAt w' b k s y u v x := by
  obtain ⟨h0, h1, h2, h3, h4, h5, h6⟩ := h
  have hlt := Nat.lt_of_lt_of_le h0 hB
  exact ⟨Nat.lt_of_lt_of_le h0 hb.size, (hb.cell (p := ⟨b, 0, none⟩) hlt).trans h1, (hb.cell (p := ⟨b, 1, none⟩) hlt).trans h2, (hb.cell (p := ⟨b, 2, none⟩) hlt).trans h3, (hb.cell (p := ⟨b, 3, none⟩) hlt).trans h4, (hb.cell (p := ⟨b, 4, none⟩) hlt).trans h5, (hb.cell (p := ⟨b, 5, none⟩) hlt).trans h6⟩
theorem fields_is (k : Int) (n : Nat) (h : fieldsI k = n) (w : World) : Calls Try.prog 15 #[.int .i64 k] w fun e w' => e = .returned (.int .i64 (n : Int)) ∧ w = w' := by
  rw [← h]; exact fields_any k w
set_option maxHeartbeats 1000000 in
theorem may_birth (s y u v x : Nat) (hy : y < 18446744073709551616) (w : World) :
    Calls Try.prog 12 #[.agg #[.int .i64 1, .int .u64 (s : Int), .int .u64 (y : Int), .int .u64 (u : Int), .int .u64 (v : Int), .int .u64 (x : Int)]] w (Kept w (.bool (Ent.mk 1 s y u v x).mayB)) := by
  have E := Lib.hid (Ent.mayB_birth s y u v x)
  have HS := fun w => isStamp_any s w
  have HR := fun w => keyRight_any y hy w
  have HV := fun w => mayEnds_any 1 s y u v x hy w
  generalize stampB s = b1 at *
  generalize rightB y = b2 at *
  generalize endsB y u v = b3 at *
  go_enter Try.func12, Try.ntmps12
  go_wp2_with (first
    | (go_at_call 14; (with_reducible refine (numbersOf_any 1 s y u v x _).mono ?_); rintro e w1 ⟨rfl, hb1⟩; have HB1 := Lib.hid (below_box hb1); have hE1 := (EntAt.box w 1 s y u v x).below hb1; have HE1 := Lib.hid hE1; obtain ⟨hz1, hc0, hc1, hc2, hc3, hc4, hc5⟩ := hE1; clear hb1)
    | (go_at_call 15; (with_reducible refine (fields_is 1 5 rfl _).mono ?_); rintro e w' ⟨rfl, rfl⟩))
  go_loop [13] (fun i => i = .int .i64 0) (fun _ => 0)
  case atStart => exact rfl
  case round =>
    obtain rfl := hrel
    cases b1
    · go_wp2_with (go_at_call 21; (with_reducible refine (HS _).mono ?_); rintro e w' ⟨rfl, rfl⟩)
      go_ret
      exact ⟨ret_bool E.out.symm, HB1.out.alloc HB1.out.size _⟩
    · cases b2
      · go_wp2_with (first
          | (go_at_call 21; (with_reducible refine (HS _).mono ?_); rintro e w' ⟨rfl, rfl⟩)
          | (go_at_call 22; (with_reducible refine (HR _).mono ?_); rintro e w' ⟨rfl, rfl⟩))
        go_ret
        exact ⟨ret_bool E.out.symm, HB1.out.alloc HB1.out.size _⟩
      · cases b3
        all_goals
          go_wp2_with (first
            | (go_at_call 21; (with_reducible refine (HS _).mono ?_); rintro e w' ⟨rfl, rfl⟩)
            | (go_at_call 22; (with_reducible refine (HR _).mono ?_); rintro e w' ⟨rfl, rfl⟩)
            | (go_at_call 23; (with_reducible refine (HV _).mono ?_); rintro e w2 ⟨rfl, hb2⟩; have HB2 := Lib.hid ((HB1.out.alloc HB1.out.size _).trans (hb2.mono (by have := hz1; simp; omega))); clear hb2))
          go_ret
          exact ⟨ret_bool E.out.symm, HB2.out⟩
theorem nat_ne0 {u : Nat} (h : u = 0) : ((u : Int) != 0) = false := by subst h; rfl
set_option maxHeartbeats 1000000 in
theorem may_death (s y u v x : Nat) (hy : y = 0) (hu : u = 0) (hv : v = 0) (hx : x = 0) (w : World) :
    Calls Try.prog 12 #[.agg #[.int .i64 2, .int .u64 (s : Int), .int .u64 (y : Int), .int .u64 (u : Int), .int .u64 (v : Int), .int .u64 (x : Int)]] w (Kept w (.bool (Ent.mk 2 s y u v x).mayB)) := by
  have E : Hid ((Ent.mk 2 s y u v x).mayB = stampB s) := Lib.hid (by rw [hy, hu, hv, hx]; exact Ent.mayB_death s)
  have HS := fun w => isStamp_any s w
  generalize stampB s = b1 at *
  have zy : (((y : Nat) : Int) != 0) = false := nat_ne0 hy
  have Hy := Lib.hid hy
  clear hy
  have zu : (((u : Nat) : Int) != 0) = false := nat_ne0 hu
  have Hu := Lib.hid hu
  clear hu
  have zv : (((v : Nat) : Int) != 0) = false := nat_ne0 hv
  have Hv := Lib.hid hv
  clear hv
  have zx : (((x : Nat) : Int) != 0) = false := nat_ne0 hx
  have Hx := Lib.hid hx
  clear hx
  go_enter Try.func12, Try.ntmps12
  go_wp2_with (first
    | (go_at_call 14; (with_reducible refine (numbersOf_any 2 s y u v x _).mono ?_); rintro e w1 ⟨rfl, hb1⟩; have HB1 := Lib.hid (below_box hb1); have hE1 := (EntAt.box w 2 s y u v x).below hb1; have HE1 := Lib.hid hE1; obtain ⟨hz1, hc0, hc1, hc2, hc3, hc4, hc5⟩ := hE1; clear hb1)
    | (go_at_call 15; (with_reducible refine (fields_is 2 1 rfl _).mono ?_); rintro e w' ⟨rfl, rfl⟩))
  go_loop [13] (fun i => ∃ j : Nat, j ≤ 4 ∧ i = .int .i64 j) (fun i => 4 - (intOf i).toNat)
  case atStart => exact ⟨0, by omega, rfl⟩
  case round =>
    obtain ⟨j, hj, rfl⟩ := hrel
    have hj5 : j = 4 ∨ j = 0 ∨ j = 1 ∨ j = 2 ∨ j = 3 := by omega
    rcases hj5 with rfl | rfl | rfl | rfl | rfl
    · go_wp2_with (go_at_call 21; (with_reducible refine (HS _).mono ?_); rintro e w' ⟨rfl, rfl⟩)
      go_ret
      exact ⟨ret_bool E.out.symm, HB1.out.alloc HB1.out.size _⟩
    · go_wp2_with fail
      go_round
      case rel => exact ⟨1, by omega, by go_num⟩
      case measure => simp [intOf]
    · go_wp2_with fail
      go_round
      case rel => exact ⟨2, by omega, by go_num⟩
      case measure => simp [intOf]
    · go_wp2_with fail
      go_round
      case rel => exact ⟨3, by omega, by go_num⟩
      case measure => simp [intOf]
    · go_wp2_with fail
      go_round
      case rel => exact ⟨4, by omega, by go_num⟩
      case measure => simp [intOf]
set_option maxHeartbeats 1000000 in
theorem may_head (s y u v x : Nat) (hy : y = 0) (hu : u = 0) (hv : v = 0) (hx : x = 0) (w : World) :
    Calls Try.prog 12 #[.agg #[.int .i64 3, .int .u64 (s : Int), .int .u64 (y : Int), .int .u64 (u : Int), .int .u64 (v : Int), .int .u64 (x : Int)]] w (Kept w (.bool (Ent.mk 3 s y u v x).mayB)) := by
  have E : Hid ((Ent.mk 3 s y u v x).mayB = decide ((s : Int) ≤ 65536)) := Lib.hid (by rw [hy, hu, hv, hx, Ent.mayB_head s]; exact decide_eq_decide.2 (by omega))
  have zy : (((y : Nat) : Int) != 0) = false := nat_ne0 hy
  have Hy := Lib.hid hy
  clear hy
  have zu : (((u : Nat) : Int) != 0) = false := nat_ne0 hu
  have Hu := Lib.hid hu
  clear hu
  have zv : (((v : Nat) : Int) != 0) = false := nat_ne0 hv
  have Hv := Lib.hid hv
  clear hv
  have zx : (((x : Nat) : Int) != 0) = false := nat_ne0 hx
  have Hx := Lib.hid hx
  clear hx
  go_enter Try.func12, Try.ntmps12
  go_wp2_with (first
    | (go_at_call 14; (with_reducible refine (numbersOf_any 3 s y u v x _).mono ?_); rintro e w1 ⟨rfl, hb1⟩; have HB1 := Lib.hid (below_box hb1); have hE1 := (EntAt.box w 3 s y u v x).below hb1; have HE1 := Lib.hid hE1; obtain ⟨hz1, hc0, hc1, hc2, hc3, hc4, hc5⟩ := hE1; clear hb1)
    | (go_at_call 15; (with_reducible refine (fields_is 3 1 rfl _).mono ?_); rintro e w' ⟨rfl, rfl⟩))
  go_loop [13] (fun i => ∃ j : Nat, j ≤ 4 ∧ i = .int .i64 j) (fun i => 4 - (intOf i).toNat)
  case atStart => exact ⟨0, by omega, rfl⟩
  case round =>
    obtain ⟨j, hj, rfl⟩ := hrel
    have hj5 : j = 4 ∨ j = 0 ∨ j = 1 ∨ j = 2 ∨ j = 3 := by omega
    rcases hj5 with rfl | rfl | rfl | rfl | rfl
    · go_wp2_with fail
      go_ret
      exact ⟨ret_bool E.out.symm, HB1.out.alloc HB1.out.size _⟩
    · go_wp2_with fail
      go_round
      case rel => exact ⟨1, by omega, by go_num⟩
      case measure => simp [intOf]
    · go_wp2_with fail
      go_round
      case rel => exact ⟨2, by omega, by go_num⟩
      case measure => simp [intOf]
    · go_wp2_with fail
      go_round
      case rel => exact ⟨3, by omega, by go_num⟩
      case measure => simp [intOf]
    · go_wp2_with fail
      go_round
      case rel => exact ⟨4, by omega, by go_num⟩
      case measure => simp [intOf]
/-- The first j of the numbers behind the stamp are nought. -/
def Zer (y u v x j : Nat) : Prop := (1 ≤ j → y = 0) ∧ (2 ≤ j → u = 0) ∧ (3 ≤ j → v = 0) ∧ (4 ≤ j → x = 0)
set_option maxHeartbeats 1000000 in
theorem may_death_no (s y u v x : Nat) (h : ¬ (y = 0 ∧ u = 0 ∧ v = 0 ∧ x = 0)) (w : World) :
    Calls Try.prog 12 #[.agg #[.int .i64 2, .int .u64 (s : Int), .int .u64 (y : Int), .int .u64 (u : Int), .int .u64 (v : Int), .int .u64 (x : Int)]] w (Kept w (.bool (Ent.mk 2 s y u v x).mayB)) := by
  have E := Lib.hid (Ent.mayB_more 2 s y u v x (by decide) h)
  have HN := Lib.hid h
  clear h
  go_enter Try.func12, Try.ntmps12
  go_wp2_with (first
    | (go_at_call 14; (with_reducible refine (numbersOf_any 2 s y u v x _).mono ?_); rintro e w1 ⟨rfl, hb1⟩; have HB1 := Lib.hid (below_box hb1); have hE1 := (EntAt.box w 2 s y u v x).below hb1; have HE1 := Lib.hid hE1; obtain ⟨hz1, hc0, hc1, hc2, hc3, hc4, hc5⟩ := hE1; clear hb1)
    | (go_at_call 15; (with_reducible refine (fields_is 2 1 rfl _).mono ?_); rintro e w' ⟨rfl, rfl⟩))
  go_loop [13] (fun i => ∃ j : Nat, j ≤ 4 ∧ i = .int .i64 j ∧ Zer y u v x j) (fun i => 4 - (intOf i).toNat)
  case atStart => exact ⟨0, by omega, rfl, by simp [Zer]⟩
  case round =>
    obtain ⟨j, hj, rfl, hr⟩ := hrel
    have HR := Lib.hid hr
    clear hr
    have hj5 : j = 4 ∨ j = 0 ∨ j = 1 ∨ j = 2 ∨ j = 3 := by omega
    rcases hj5 with rfl | rfl | rfl | rfl | rfl
    · exact absurd (by have := HR.out; simp [Zer] at this; exact ⟨this.1, this.2.1, this.2.2.1, this.2.2.2⟩) HN.out
    · by_cases hh : y = 0
      · have hh2 : (((y : Nat) : Int) != 0) = false := nat_ne0 hh
        have HH := Lib.hid hh
        clear hh
        go_wp2_with fail
        go_round
        case rel => exact ⟨1, by omega, by go_num, by have := HH.out; have := HR.out; simp_all [Zer]⟩
        case measure => simp [intOf]
      · have hh2 : (((y : Nat) : Int) != 0) = true := by rw [bne_iff_ne]; omega
        clear hh
        go_wp2_with fail
        go_ret
        exact ⟨ret_bool E.out.symm, HB1.out.alloc HB1.out.size _⟩
    · by_cases hh : u = 0
      · have hh2 : (((u : Nat) : Int) != 0) = false := nat_ne0 hh
        have HH := Lib.hid hh
        clear hh
        go_wp2_with fail
        go_round
        case rel => exact ⟨2, by omega, by go_num, by have := HH.out; have := HR.out; simp_all [Zer]⟩
        case measure => simp [intOf]
      · have hh2 : (((u : Nat) : Int) != 0) = true := by rw [bne_iff_ne]; omega
        clear hh
        go_wp2_with fail
        go_ret
        exact ⟨ret_bool E.out.symm, HB1.out.alloc HB1.out.size _⟩
    · by_cases hh : v = 0
      · have hh2 : (((v : Nat) : Int) != 0) = false := nat_ne0 hh
        have HH := Lib.hid hh
        clear hh
        go_wp2_with fail
        go_round
        case rel => exact ⟨3, by omega, by go_num, by have := HH.out; have := HR.out; simp_all [Zer]⟩
        case measure => simp [intOf]
      · have hh2 : (((v : Nat) : Int) != 0) = true := by rw [bne_iff_ne]; omega
        clear hh
        go_wp2_with fail
        go_ret
        exact ⟨ret_bool E.out.symm, HB1.out.alloc HB1.out.size _⟩
    · by_cases hh : x = 0
      · have hh2 : (((x : Nat) : Int) != 0) = false := nat_ne0 hh
        have HH := Lib.hid hh
        clear hh
        go_wp2_with fail
        go_round
        case rel => exact ⟨4, by omega, by go_num, by have := HH.out; have := HR.out; simp_all [Zer]⟩
        case measure => simp [intOf]
      · have hh2 : (((x : Nat) : Int) != 0) = true := by rw [bne_iff_ne]; omega
        clear hh
        go_wp2_with fail
        go_ret
        exact ⟨ret_bool E.out.symm, HB1.out.alloc HB1.out.size _⟩
set_option maxHeartbeats 1000000 in
theorem may_head_no (s y u v x : Nat) (h : ¬ (y = 0 ∧ u = 0 ∧ v = 0 ∧ x = 0)) (w : World) :
    Calls Try.prog 12 #[.agg #[.int .i64 3, .int .u64 (s : Int), .int .u64 (y : Int), .int .u64 (u : Int), .int .u64 (v : Int), .int .u64 (x : Int)]] w (Kept w (.bool (Ent.mk 3 s y u v x).mayB)) := by
  have E := Lib.hid (Ent.mayB_more 3 s y u v x (by decide) h)
  have HN := Lib.hid h
  clear h
  go_enter Try.func12, Try.ntmps12
  go_wp2_with (first
    | (go_at_call 14; (with_reducible refine (numbersOf_any 3 s y u v x _).mono ?_); rintro e w1 ⟨rfl, hb1⟩; have HB1 := Lib.hid (below_box hb1); have hE1 := (EntAt.box w 3 s y u v x).below hb1; have HE1 := Lib.hid hE1; obtain ⟨hz1, hc0, hc1, hc2, hc3, hc4, hc5⟩ := hE1; clear hb1)
    | (go_at_call 15; (with_reducible refine (fields_is 3 1 rfl _).mono ?_); rintro e w' ⟨rfl, rfl⟩))
  go_loop [13] (fun i => ∃ j : Nat, j ≤ 4 ∧ i = .int .i64 j ∧ Zer y u v x j) (fun i => 4 - (intOf i).toNat)
  case atStart => exact ⟨0, by omega, rfl, by simp [Zer]⟩
  case round =>
    obtain ⟨j, hj, rfl, hr⟩ := hrel
    have HR := Lib.hid hr
    clear hr
    have hj5 : j = 4 ∨ j = 0 ∨ j = 1 ∨ j = 2 ∨ j = 3 := by omega
    rcases hj5 with rfl | rfl | rfl | rfl | rfl
    · exact absurd (by have := HR.out; simp [Zer] at this; exact ⟨this.1, this.2.1, this.2.2.1, this.2.2.2⟩) HN.out
    · by_cases hh : y = 0
      · have hh2 : (((y : Nat) : Int) != 0) = false := nat_ne0 hh
        have HH := Lib.hid hh
        clear hh
        go_wp2_with fail
        go_round
        case rel => exact ⟨1, by omega, by go_num, by have := HH.out; have := HR.out; simp_all [Zer]⟩
        case measure => simp [intOf]
      · have hh2 : (((y : Nat) : Int) != 0) = true := by rw [bne_iff_ne]; omega
        clear hh
        go_wp2_with fail
        go_ret
        exact ⟨ret_bool E.out.symm, HB1.out.alloc HB1.out.size _⟩
    · by_cases hh : u = 0
      · have hh2 : (((u : Nat) : Int) != 0) = false := nat_ne0 hh
        have HH := Lib.hid hh
        clear hh
        go_wp2_with fail
        go_round
        case rel => exact ⟨2, by omega, by go_num, by have := HH.out; have := HR.out; simp_all [Zer]⟩
        case measure => simp [intOf]
      · have hh2 : (((u : Nat) : Int) != 0) = true := by rw [bne_iff_ne]; omega
        clear hh
        go_wp2_with fail
        go_ret
        exact ⟨ret_bool E.out.symm, HB1.out.alloc HB1.out.size _⟩
    · by_cases hh : v = 0
      · have hh2 : (((v : Nat) : Int) != 0) = false := nat_ne0 hh
        have HH := Lib.hid hh
        clear hh
        go_wp2_with fail
        go_round
        case rel => exact ⟨3, by omega, by go_num, by have := HH.out; have := HR.out; simp_all [Zer]⟩
        case measure => simp [intOf]
      · have hh2 : (((v : Nat) : Int) != 0) = true := by rw [bne_iff_ne]; omega
        clear hh
        go_wp2_with fail
        go_ret
        exact ⟨ret_bool E.out.symm, HB1.out.alloc HB1.out.size _⟩
    · by_cases hh : x = 0
      · have hh2 : (((x : Nat) : Int) != 0) = false := nat_ne0 hh
        have HH := Lib.hid hh
        clear hh
        go_wp2_with fail
        go_round
        case rel => exact ⟨4, by omega, by go_num, by have := HH.out; have := HR.out; simp_all [Zer]⟩
        case measure => simp [intOf]
      · have hh2 : (((x : Nat) : Int) != 0) = true := by rw [bne_iff_ne]; omega
        clear hh
        go_wp2_with fail
        go_ret
        exact ⟨ret_bool E.out.symm, HB1.out.alloc HB1.out.size _⟩
set_option maxHeartbeats 1000000 in
theorem may_else (k : Int) (s y u v x : Nat) (k1 : k ≠ 1) (k2 : k ≠ 2) (k3 : k ≠ 3) (w : World) :
    Calls Try.prog 12 #[.agg #[.int .i64 k, .int .u64 (s : Int), .int .u64 (y : Int), .int .u64 (u : Int), .int .u64 (v : Int), .int .u64 (x : Int)]] w (Kept w (.bool (Ent.mk k s y u v x).mayB)) := by
  have E := Lib.hid (Ent.mayB_else k s y u v x k1 k2 k3)
  have d1 : (k == 1) = false := by rw [beq_eq_false_iff_ne]; exact k1
  have d2 : (k == 2) = false := by rw [beq_eq_false_iff_ne]; exact k2
  have d3 : (k == 3) = false := by rw [beq_eq_false_iff_ne]; exact k3
  have HF : Hid (fieldsI k = 0) := Lib.hid (by unfold fieldsI; rw [if_neg k1, if_neg (by omega)])
  clear k1 k2 k3
  go_enter Try.func12, Try.ntmps12
  go_wp2_with (first
    | (go_at_call 14; (with_reducible refine (numbersOf_any k s y u v x _).mono ?_); rintro e w1 ⟨rfl, hb1⟩; have HB1 := Lib.hid (below_box hb1); have hE1 := (EntAt.box w k s y u v x).below hb1; have HE1 := Lib.hid hE1; obtain ⟨hz1, hc0, hc1, hc2, hc3, hc4, hc5⟩ := hE1; clear hb1)
    | (go_at_call 15; (with_reducible refine (fields_is k 0 HF.out _).mono ?_); rintro e w' ⟨rfl, rfl⟩))
  go_loop [13] (fun i => ∃ j : Nat, j ≤ 5 ∧ i = .int .i64 j) (fun i => 5 - (intOf i).toNat)
  case atStart => exact ⟨0, by omega, rfl⟩
  case round =>
    obtain ⟨j, hj, rfl⟩ := hrel
    have hj5 : j = 5 ∨ j = 0 ∨ j = 1 ∨ j = 2 ∨ j = 3 ∨ j = 4 := by omega
    rcases hj5 with rfl | rfl | rfl | rfl | rfl | rfl
    · go_wp2_with fail
      go_ret
      exact ⟨ret_bool E.out.symm, HB1.out.alloc HB1.out.size _⟩
    · by_cases hh : s = 0
      · have hh2 : (((s : Nat) : Int) != 0) = false := nat_ne0 hh
        clear hh
        go_wp2_with fail
        go_round
        case rel => exact ⟨1, by omega, by go_num⟩
        case measure => simp [intOf]
      · have hh2 : (((s : Nat) : Int) != 0) = true := by rw [bne_iff_ne]; omega
        clear hh
        go_wp2_with fail
        go_ret
        exact ⟨ret_bool E.out.symm, HB1.out.alloc HB1.out.size _⟩
    · by_cases hh : y = 0
      · have hh2 : (((y : Nat) : Int) != 0) = false := nat_ne0 hh
        clear hh
        go_wp2_with fail
        go_round
        case rel => exact ⟨2, by omega, by go_num⟩
        case measure => simp [intOf]
      · have hh2 : (((y : Nat) : Int) != 0) = true := by rw [bne_iff_ne]; omega
        clear hh
        go_wp2_with fail
        go_ret
        exact ⟨ret_bool E.out.symm, HB1.out.alloc HB1.out.size _⟩
    · by_cases hh : u = 0
      · have hh2 : (((u : Nat) : Int) != 0) = false := nat_ne0 hh
        clear hh
        go_wp2_with fail
        go_round
        case rel => exact ⟨3, by omega, by go_num⟩
        case measure => simp [intOf]
      · have hh2 : (((u : Nat) : Int) != 0) = true := by rw [bne_iff_ne]; omega
        clear hh
        go_wp2_with fail
        go_ret
        exact ⟨ret_bool E.out.symm, HB1.out.alloc HB1.out.size _⟩
    · by_cases hh : v = 0
      · have hh2 : (((v : Nat) : Int) != 0) = false := nat_ne0 hh
        clear hh
        go_wp2_with fail
        go_round
        case rel => exact ⟨4, by omega, by go_num⟩
        case measure => simp [intOf]
      · have hh2 : (((v : Nat) : Int) != 0) = true := by rw [bne_iff_ne]; omega
        clear hh
        go_wp2_with fail
        go_ret
        exact ⟨ret_bool E.out.symm, HB1.out.alloc HB1.out.size _⟩
    · by_cases hh : x = 0
      · have hh2 : (((x : Nat) : Int) != 0) = false := nat_ne0 hh
        clear hh
        go_wp2_with fail
        go_round
        case rel => exact ⟨5, by omega, by go_num⟩
        case measure => simp [intOf]
      · have hh2 : (((x : Nat) : Int) != 0) = true := by rw [bne_iff_ne]; omega
        clear hh
        go_wp2_with fail
        go_ret
        exact ⟨ret_bool E.out.symm, HB1.out.alloc HB1.out.size _⟩
theorem may_any (k : Int) (s y u v x : Nat) (hy : y < 18446744073709551616) (w : World) :
    Calls Try.prog 12 #[.agg #[.int .i64 k, .int .u64 (s : Int), .int .u64 (y : Int), .int .u64 (u : Int), .int .u64 (v : Int), .int .u64 (x : Int)]] w (Kept w (.bool (Ent.mk k s y u v x).mayB)) := by
  by_cases k1 : k = 1
  · subst k1; exact may_birth s y u v x hy w
  · by_cases k2 : k = 2
    · subst k2
      by_cases h : y = 0 ∧ u = 0 ∧ v = 0 ∧ x = 0
      · exact may_death s y u v x h.1 h.2.1 h.2.2.1 h.2.2.2 w
      · exact may_death_no s y u v x h w
    · by_cases k3 : k = 3
      · subst k3
        by_cases h : y = 0 ∧ u = 0 ∧ v = 0 ∧ x = 0
        · exact may_head s y u v x h.1 h.2.1 h.2.2.1 h.2.2.2 w
        · exact may_head_no s y u v x h w
      · exact may_else k s y u v x k1 k2 k3 w
end Go.Proofs.Ytioheffdolnciaa
