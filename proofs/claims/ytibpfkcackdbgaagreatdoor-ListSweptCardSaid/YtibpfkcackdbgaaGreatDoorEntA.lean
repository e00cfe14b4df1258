/- EntA -/
import Derived.Test.YtibpfkcackdbgaaGreatDoorBase
import Derived.Laws.StructEq
import Derived.Deep.RegionHeld3
import Derived.Lib.SliceRun
namespace Go.Proofs.YtibpfkcackdbgaaGreatDoor
structure Ent where
 k : Int
 s : Nat
 y : Nat
 u : Nat
 v : Nat
 x : Nat
deriving DecidableEq
def Ent.fit (e : Ent) : Prop := e.s < 18446744073709551616 ∧ e.y < 18446744073709551616 ∧ e.u < 18446744073709551616 ∧ e.v < 18446744073709551616 ∧ e.x < 18446744073709551616
def Ent.zero : Ent := ⟨0, 0, 0, 0, 0, 0⟩
def stampP (s : Nat) : Prop := 1 ≤ s ∧ s < 4611686018427387904
instance (s : Nat) : Decidable (stampP s) := by unfold stampP; infer_instance
def stampB (s : Nat) : Bool := decide (stampP s)
def rightP (y : Nat) : Prop := y / 2147483648 < 1073741824 ∧ y % 2147483648 ≤ 1073741824
instance (y : Nat) : Decidable (rightP y) := by unfold rightP; infer_instance
def eRightB (y : Nat) : Bool := decide (rightP y)
def endsP (y u v : Nat) : Prop := (y % 2147483648 = 0 ∧ u = 0 ∧ v = 0) ∨ (1 ≤ y % 2147483648 ∧ stampP u ∧ stampP v)
instance (y u v : Nat) : Decidable (endsP y u v) := by unfold endsP; infer_instance
def endsB (y u v : Nat) : Bool := decide (endsP y u v)
theorem rightB_yes {y : Nat} (h : rightP y) : eRightB y = true := decide_eq_true h
theorem rightB_no {y : Nat} (h : ¬ rightP y) : eRightB y = false := decide_eq_false h
theorem ends_vertex {y u v : Nat} (h : y % 2147483648 = 0) : endsB y u v = (decide (u = 0) && decide (v = 0)) := by
 rw [← Bool.decide_and]
 refine decide_eq_decide.2 ⟨fun h' => ?_, fun h' => .inl ⟨h, h'⟩⟩
 rcases h' with h' | h'
 ·exact h'.2
 ·omega
theorem ends_edge {y u v : Nat} (h : y % 2147483648 ≠ 0) : endsB y u v = (stampB u && stampB v) := by
 unfold stampB
 rw [← Bool.decide_and]
 refine decide_eq_decide.2 ⟨fun h' => ?_, fun h' => .inr ⟨by omega, h'⟩⟩
 rcases h' with h' | h'
 ·omega
 ·exact h'.2
def Ent.may (e : Ent) : Prop :=
 (e.k = 1 ∧ stampP e.s ∧ rightP e.y ∧ endsP e.y e.u e.v) ∨ (e.k = 2 ∧ stampP e.s ∧ e.y = 0 ∧ e.u = 0 ∧ e.v = 0 ∧ e.x = 0) ∨ (e.k = 3 ∧ e.s ≤ 65536 ∧ e.y = 0 ∧ e.u = 0 ∧ e.v = 0 ∧ e.x = 0)
instance (e : Ent) : Decidable e.may := by unfold Ent.may; infer_instance
def Ent.mayB (e : Ent) : Bool := decide e.may
theorem Ent.mayB_no {e : Ent} (h : ¬ e.may) : e.mayB = false := by simp [Ent.mayB, h]
theorem Ent.mayB_birth (s y u v x : Nat) : (Ent.mk 1 s y u v x).mayB = (stampB s && (eRightB y && endsB y u v)) := by
 unfold stampB eRightB endsB
 rw [← Bool.decide_and, ← Bool.decide_and]
 refine decide_eq_decide.2 ⟨fun h => ?_, fun h => .inl ⟨rfl, h⟩⟩
 rcases h with h | h | h
 ·exact h.2
 ·exact absurd h.1 (by simp)
 ·exact absurd h.1 (by simp)
theorem Ent.mayB_death (s : Nat) : (Ent.mk 2 s 0 0 0 0).mayB = stampB s := by
 refine decide_eq_decide.2 ⟨fun h => ?_, fun h => .inr (.inl ⟨rfl, h, rfl, rfl, rfl, rfl⟩)⟩
 rcases h with h | h | h
 ·exact absurd h.1 (by simp)
 ·exact h.2.1
 ·exact absurd h.1 (by simp)
theorem Ent.mayB_head (s : Nat) : (Ent.mk 3 s 0 0 0 0).mayB = decide (s ≤ 65536) := by
 refine decide_eq_decide.2 ⟨fun h => ?_, fun h => .inr (.inr ⟨rfl, h, rfl, rfl, rfl, rfl⟩)⟩
 rcases h with h | h | h
 ·exact absurd h.1 (by simp)
 ·exact absurd h.1 (by simp)
 ·exact h.2.1
theorem Ent.mayB_more (k : Int) (s y u v x : Nat) (hk : k ≠ 1) (h : ¬ (y = 0 ∧ u = 0 ∧ v = 0 ∧ x = 0)) : (Ent.mk k s y u v x).mayB = false := by
 refine Ent.mayB_no fun h' => ?_
 rcases h' with h' | h' | h'
 ·exact hk h'.1
 ·exact h h'.2.2
 ·exact h h'.2.2
theorem Ent.mayB_else (k : Int) (s y u v x : Nat) (h1 : k ≠ 1) (h2 : k ≠ 2) (h3 : k ≠ 3) : (Ent.mk k s y u v x).mayB = false := by
 refine Ent.mayB_no fun h' => ?_
 rcases h' with h' | h' | h'
 ·exact h1 h'.1
 ·exact h2 h'.1
 ·exact h3 h'.1
def fieldsI (k : Int) : Nat := if k = 1 then 5 else if k = 2 ∨ k = 3 then 1 else 0
def Ent.bytes (e : Ent) : List Nat :=
 if e.k = 1 then e.k.toNat :: (leN 8 e.s ++ leN 8 e.y ++ leN 8 e.u ++ leN 8 e.v ++ leN 8 e.x) else e.k.toNat :: leN 8 e.s
def rawN (b : List Nat) : Ent :=
 if b.length = 41 then ⟨(b.getD 0 0 : Nat), numN ((b.drop 1).take 8), numN ((b.drop 9).take 8), numN ((b.drop 17).take 8), numN ((b.drop 25).take 8), numN ((b.drop 33).take 8)⟩
 else ⟨(b.getD 0 0 : Nat), numN ((b.drop 1).take 8), 0, 0, 0, 0⟩
def Reads (b : List Nat) : Prop := 1 ≤ b.length ∧ b.length = 1 + 8 * fieldsI (b.getD 0 0 : Nat) ∧ (rawN b).may
instance (b : List Nat) : Decidable (Reads b) := by unfold Reads; infer_instance
theorem Ent.kinds {e : Ent} (h : e.may) : e.k = 1 ∨ e.k = 2 ∨ e.k = 3 := by
 rcases h with h | h | h
 ·exact .inl h.1
 ·exact .inr (.inl h.1)
 ·exact .inr (.inr h.1)
theorem Ent.tail {e : Ent} (h : e.may) (h1 : e.k ≠ 1) : e.y = 0 ∧ e.u = 0 ∧ e.v = 0 ∧ e.x = 0 := by
 rcases h with h | h | h
 ·exact absurd h.1 h1
 ·exact h.2.2
 ·exact h.2.2
theorem Ent.bytes_length (e : Ent) : e.bytes.length = if e.k = 1 then 41 else 9 := by
 unfold Ent.bytes; split <;> simp [leN_length]
theorem Ent.bytes_pos (e : Ent) : 1 ≤ e.bytes.length ∧ e.bytes.length ≤ 41 := by rw [e.bytes_length]; split <;> omega
end Go.Proofs.YtibpfkcackdbgaaGreatDoor
namespace Go.Proofs.YtibpfkcackdbgaaGreatDoor
open Go.ChangeShapes Go.WideShapes Go.ChangeAt Go.RowKit
set_option linter.unusedVariables false
set_option maxRecDepth 100000
theorem ret_bool {a b : Bool} (h : a = b) : Ending.returned (.bool a) = .returned (.bool b) := by rw [h]
theorem mask31 (k : Int) (h0 : 0 ≤ k) (h1 : k < 18446744073709551616) : bits .and .u64 k 2147483647 = k % 2147483648 := by
 rw [u64_and k 2147483647 h0 h1 (by omega) (by omega)]
 have h := Nat.and_two_pow_sub_one_eq_mod k.toNat 31
 have e : (2147483647 : Int).toNat = 2 ^ 31 - 1 := by decide
 rw [e, h]
 omega
theorem halves_any (y : Nat) (hy : y < 18446744073709551616) (w : World) :
  Calls Tryz.prog 137 #[.int .u64 (y : Int)] w fun e w' => e = .returned (.tuple #[.int .u64 ((y : Int) / 2147483648), .int .u64 ((y : Int) % 2147483648)]) ∧ w = w' := by
 have hm := mask31 (y : Int) (by omega) (by omega)
 go_enter Tryz.func137, Tryz.ntmps137
 go_wp2
 go_ret2
 exact ⟨rfl, rfl⟩
theorem keyRight_any (y : Nat) (hy : y < 18446744073709551616) (w : World) :
  Calls Tryz.prog 218 #[.int .u64 (y : Int)] w fun e w' => e = .returned (.bool (eRightB y)) ∧ w = w' := by
 by_cases h1 : (y : Int) / 2147483648 < 1073741824
 ·have d1 : decide ((y : Int) / 2147483648 < 1073741824) = true := decide_eq_true h1
  by_cases h2 : (y : Int) % 2147483648 ≤ 1073741824
  ·have d2 : decide ((y : Int) % 2147483648 ≤ 1073741824) = true := decide_eq_true h2
   have L : Hid (eRightB y = true) := Lib.hid (by first | (exact rightB_yes (by unfold rightP; omega)) | (exact rightB_no (by unfold rightP; omega)))
   clear h1 h2
   go_enter Tryz.func218, Tryz.ntmps218
   go_wp2_with (go_at_call 137; refine (halves_any y hy _).mono ?_; rintro e w' ⟨rfl, rfl⟩)
   go_ret
   exact ⟨ret_bool L.out.symm, rfl⟩
  ·have d2 : decide ((y : Int) % 2147483648 ≤ 1073741824) = false := decide_eq_false h2
   have L : Hid (eRightB y = false) := Lib.hid (by first | (exact rightB_yes (by unfold rightP; omega)) | (exact rightB_no (by unfold rightP; omega)))
   clear h1 h2
   go_enter Tryz.func218, Tryz.ntmps218
   go_wp2_with (go_at_call 137; refine (halves_any y hy _).mono ?_; rintro e w' ⟨rfl, rfl⟩)
   go_ret
   exact ⟨ret_bool L.out.symm, rfl⟩
 ·have d1 : decide ((y : Int) / 2147483648 < 1073741824) = false := decide_eq_false h1
  have L : Hid (eRightB y = false) := Lib.hid (by first | (exact rightB_yes (by unfold rightP; omega)) | (exact rightB_no (by unfold rightP; omega)))
  clear h1
  go_enter Tryz.func218, Tryz.ntmps218
  go_wp2_with (go_at_call 137; refine (halves_any y hy _).mono ?_; rintro e w' ⟨rfl, rfl⟩)
  go_ret
  exact ⟨ret_bool L.out.symm, rfl⟩
theorem keySplit_any (y : Nat) (hy : y < 18446744073709551616) (w : World) :
  Calls Tryz.prog 90 #[.int .u64 (y : Int)] w fun e w' => e = .returned (.tuple #[.int .i64 ((y : Int) / 2147483648), .int .i64 ((y : Int) % 2147483648 - 1)]) ∧ w = w' := by
 go_enter Tryz.func90, Tryz.ntmps90
 go_wp2_with (go_at_call 137; refine (halves_any y hy _).mono ?_; rintro e w' ⟨rfl, rfl⟩)
 go_ret2
 exact ⟨rfl, rfl⟩
theorem isStamp_int (z : Int) (b1 b2 : Bool) (w : World) (h1 : decide (z > 0) = b1) (h2 : decide (z < 4611686018427387904) = b2) :
  Calls Tryz.prog 217 #[.int .u64 z] w fun e w' => e = .returned (.bool (b1 && b2)) ∧ w = w' := by
 cases b1 <;> cases b2
 all_goals
  go_enter Tryz.func217, Tryz.ntmps217
  go_wp2_with fail
  go_ret
  exact ⟨rfl, rfl⟩
theorem isStamp_any (s : Nat) (w : World) :
  Calls Tryz.prog 217 #[.int .u64 (s : Int)] w fun e w' => e = .returned (.bool (stampB s)) ∧ w = w' := by
 have e : stampB s = (decide ((s : Int) > 0) && decide ((s : Int) < 4611686018427387904)) := by
  rw [← Bool.decide_and]
  exact decide_eq_decide.2 (by unfold stampP; omega)
 rw [e]
 exact isStamp_int _ _ _ w rfl rfl
theorem fields_any (k : Int) (w : World) :
  Calls Tryz.prog 213 #[.int .i64 k] w fun e w' => e = .returned (.int .i64 ((fieldsI k : Nat) : Int)) ∧ w = w' := by
 by_cases h1 : k = 1
 ·subst h1
  go_enter Tryz.func213, Tryz.ntmps213
  go_wp2_with fail
  go_ret
  exact ⟨rfl, rfl⟩
 ·by_cases h2 : k = 2
  ·subst h2
   go_enter Tryz.func213, Tryz.ntmps213
   go_wp2_with fail
   go_ret
   exact ⟨rfl, rfl⟩
  ·by_cases h3 : k = 3
   ·subst h3
    go_enter Tryz.func213, Tryz.ntmps213
    go_wp2_with fail
    go_ret
    exact ⟨rfl, rfl⟩
   ·have L : Hid (fieldsI k = 0) := Lib.hid (by unfold fieldsI; rw [if_neg h1, if_neg (by omega)])
    have d1 : (k == 1) = false := by rw [beq_eq_false_iff_ne]; exact h1
    have d2 : (k == 2) = false := by rw [beq_eq_false_iff_ne]; exact h2
    have d3 : (k == 3) = false := by rw [beq_eq_false_iff_ne]; exact h3
    clear h1 h2 h3
    go_enter Tryz.func213, Tryz.ntmps213
    go_wp2_with fail
    go_ret
    exact ⟨by rw [L.out]; rfl, rfl⟩
end Go.Proofs.YtibpfkcackdbgaaGreatDoor
namespace Go.Proofs.YtibpfkcackdbgaaGreatDoor
open Go.ChangeShapes Go.WideShapes Go.ChangeAt Go.RowKit
set_option linter.unusedVariables false
set_option maxRecDepth 100000
theorem numbersOf_any (k : Int) (s y u v x : Nat) (w : World) :
  Calls Tryz.prog 212 #[.agg #[.int .i64 k, .int .u64 (s : Int), .int .u64 (y : Int), .int .u64 (u : Int), .int .u64 (v : Int), .int .u64 (x : Int)]] w
   (Kept w (.agg #[.int .u64 (s : Int), .int .u64 (y : Int), .int .u64 (u : Int), .int .u64 (v : Int), .int .u64 (x : Int)])) := by
 go_enter Tryz.func212, Tryz.ntmps212
 go_wp2_with fail
 refine bodyPost_ret (v := .agg #[.int .u64 (s : Int), .int .u64 (y : Int), .int .u64 (u : Int), .int .u64 (v : Int), .int .u64 (x : Int)]) (by simp [results, Tryz.results212, go_sem]) rfl ⟨rfl, ?_⟩
 exact ((Below.refl _ _).alloc (Nat.le_refl _) _).alloc (by simp) _
theorem nat_eq0 (u : Nat) : ((u : Int) == 0) = decide (u = 0) := by
 by_cases h : u = 0
 ·subst h; rfl
 ·rw [decide_eq_false h, beq_eq_false_iff_ne]; omega
theorem mayEnds_any (k : Int) (s y u v x : Nat) (hy : y < 18446744073709551616) (w : World) :
  Calls Tryz.prog 219 #[.agg #[.int .i64 k, .int .u64 (s : Int), .int .u64 (y : Int), .int .u64 (u : Int), .int .u64 (v : Int), .int .u64 (x : Int)]] w (Kept w (.bool (endsB y u v))) := by
 by_cases h0 : y % 2147483648 = 0
 ·have d0 : decide ((y : Int) % 2147483648 - 1 < 0) = true := decide_eq_true (by omega)
  have E := Lib.hid (ends_vertex (u := u) (v := v) h0)
  have e1 := nat_eq0 u
  have e2 := nat_eq0 v
  generalize decide (u = 0) = b1 at *
  generalize decide (v = 0) = b2 at *
  clear h0
  cases b1 <;> cases b2
  all_goals
   go_enter Tryz.func219, Tryz.ntmps219
   go_wp2_with (go_at_call 90; refine (keySplit_any y hy _).mono ?_; rintro e w' ⟨rfl, rfl⟩)
   go_ret
   exact ⟨ret_bool E.out.symm, (Below.refl _ _).alloc (Nat.le_refl _) _⟩
 ·have d0 : decide ((y : Int) % 2147483648 - 1 < 0) = false := decide_eq_false (by omega)
  have E := Lib.hid (ends_edge (u := u) (v := v) h0)
  clear h0
  have HU := fun w => isStamp_any u w
  have HV := fun w => isStamp_any v w
  generalize stampB u = b1 at *
  generalize stampB v = b2 at *
  cases b1 <;> cases b2
  all_goals
   go_enter Tryz.func219, Tryz.ntmps219
   go_wp2_with (first | (go_at_call 90; refine (keySplit_any y hy _).mono ?_; rintro e w' ⟨rfl, rfl⟩) | (go_at_call 217; (with_reducible refine (HU _).mono ?_); rintro e w' ⟨rfl, rfl⟩) | (go_at_call 217; (with_reducible refine (HV _).mono ?_); rintro e w' ⟨rfl, rfl⟩))
   go_ret
   exact ⟨ret_bool E.out.symm, (Below.refl _ _).alloc (Nat.le_refl _) _⟩
def EntAt (w : World) (b : Nat) (k : Int) (s y u v x : Nat) : Prop :=
 b < w.heap.size ∧ w.cell? ⟨b, 0, none⟩ = some (.int .i64 k) ∧ w.cell? ⟨b, 1, none⟩ = some (.int .u64 (s : Int)) ∧ w.cell? ⟨b, 2, none⟩ = some (.int .u64 (y : Int)) ∧
 w.cell? ⟨b, 3, none⟩ = some (.int .u64 (u : Int)) ∧ w.cell? ⟨b, 4, none⟩ = some (.int .u64 (v : Int)) ∧ w.cell? ⟨b, 5, none⟩ = some (.int .u64 (x : Int))
abbrev entO (k : Int) (s y u v x : Nat) : Obj := .cells #[.int .i64 k, .int .u64 (s : Int), .int .u64 (y : Int), .int .u64 (u : Int), .int .u64 (v : Int), .int .u64 (x : Int)] 95
theorem EntAt.box (w : World) (k : Int) (s y u v x : Nat) : EntAt (w.alloc (entO k s y u v x)) w.heap.size k s y u v x := by
 refine ⟨by simp, ?_, ?_, ?_, ?_, ?_, ?_⟩ <;> (rw [World.cell?_alloc_mark]; rfl)
theorem EntAt.below {B : Nat} {w w' : World} {b : Nat} {k : Int} {s y u v x : Nat} (h : EntAt w b k s y u v x) (hb : Below B w w') (hB : w.heap.size ≤ B := by exact Nat.le_refl _) : EntAt w' b k s y u v x := by
 obtain ⟨h0, h1, h2, h3, h4, h5, h6⟩ := h
 have hlt := Nat.lt_of_lt_of_le h0 hB
 exact ⟨Nat.lt_of_lt_of_le h0 hb.size, (hb.cell (p := ⟨b, 0, none⟩) hlt).trans h1, (hb.cell (p := ⟨b, 1, none⟩) hlt).trans h2, (hb.cell (p := ⟨b, 2, none⟩) hlt).trans h3, (hb.cell (p := ⟨b, 3, none⟩) hlt).trans h4, (hb.cell (p := ⟨b, 4, none⟩) hlt).trans h5, (hb.cell (p := ⟨b, 5, none⟩) hlt).trans h6⟩
theorem fields_is (k : Int) (n : Nat) (h : fieldsI k = n) (w : World) : Calls Tryz.prog 213 #[.int .i64 k] w fun e w' => e = .returned (.int .i64 (n : Int)) ∧ w = w' := by
 rw [← h]; exact fields_any k w
set_option maxHeartbeats 1000000 in
theorem may_birth (s y u v x : Nat) (hy : y < 18446744073709551616) (w : World) :
  Calls Tryz.prog 211 #[.agg #[.int .i64 1, .int .u64 (s : Int), .int .u64 (y : Int), .int .u64 (u : Int), .int .u64 (v : Int), .int .u64 (x : Int)]] w (Kept w (.bool (Ent.mk 1 s y u v x).mayB)) := by
 have E := Lib.hid (Ent.mayB_birth s y u v x)
 have HS := fun w => isStamp_any s w
 have HR := fun w => keyRight_any y hy w
 have HV := fun w => mayEnds_any 1 s y u v x hy w
 generalize stampB s = b1 at *
 generalize eRightB y = b2 at *
 generalize endsB y u v = b3 at *
 go_enter Tryz.func211, Tryz.ntmps211
 go_wp2_with (first
  | (go_at_call 212; (with_reducible refine (numbersOf_any 1 s y u v x _).mono ?_); rintro e w1 ⟨rfl, hb1⟩; have HB1 := Lib.hid (below_box hb1); have hE1 := (EntAt.box w 1 s y u v x).below hb1; have HE1 := Lib.hid hE1; obtain ⟨hz1, hc0, hc1, hc2, hc3, hc4, hc5⟩ := hE1; clear hb1)
  | (go_at_call 213; (with_reducible refine (fields_is 1 5 rfl _).mono ?_); rintro e w' ⟨rfl, rfl⟩))
 go_loop [13] (fun i => i = .int .i64 0) (fun _ => 0)
 case atStart => exact rfl
 case round =>
  obtain rfl := hrel
  cases b1
  ·go_wp2_with (go_at_call 217; (with_reducible refine (HS _).mono ?_); rintro e w' ⟨rfl, rfl⟩)
   go_ret
   exact ⟨ret_bool E.out.symm, HB1.out.alloc HB1.out.size _⟩
  ·cases b2
   ·go_wp2_with (first
     | (go_at_call 217; (with_reducible refine (HS _).mono ?_); rintro e w' ⟨rfl, rfl⟩)
     | (go_at_call 218; (with_reducible refine (HR _).mono ?_); rintro e w' ⟨rfl, rfl⟩))
    go_ret
    exact ⟨ret_bool E.out.symm, HB1.out.alloc HB1.out.size _⟩
   ·cases b3
    all_goals
     go_wp2_with (first
      | (go_at_call 217; (with_reducible refine (HS _).mono ?_); rintro e w' ⟨rfl, rfl⟩)
      | (go_at_call 218; (with_reducible refine (HR _).mono ?_); rintro e w' ⟨rfl, rfl⟩)
      | (go_at_call 219; (with_reducible refine (HV _).mono ?_); rintro e w2 ⟨rfl, hb2⟩; have HB2 := Lib.hid ((HB1.out.alloc HB1.out.size _).trans (hb2.mono (by have := hz1; simp; omega))); clear hb2))
     go_ret
     exact ⟨ret_bool E.out.symm, HB2.out⟩
theorem nat_ne0 {u : Nat} (h : u = 0) : ((u : Int) != 0) = false := by subst h; rfl
set_option maxHeartbeats 1000000 in
theorem may_death (s y u v x : Nat) (hy : y = 0) (hu : u = 0) (hv : v = 0) (hx : x = 0) (w : World) :
  Calls Tryz.prog 211 #[.agg #[.int .i64 2, .int .u64 (s : Int), .int .u64 (y : Int), .int .u64 (u : Int), .int .u64 (v : Int), .int .u64 (x : Int)]] w (Kept w (.bool (Ent.mk 2 s y u v x).mayB)) := by
 have E : Hid ((Ent.mk 2 s y u v x).mayB = stampB s) := Lib.hid (by rw [hy, hu, hv, hx]; exact Ent.mayB_death s)
 have HS := fun w => isStamp_any s w
 generalize stampB s = b1 at *
 have zy : (((y : Nat) : Int) != 0) = false := nat_ne0 hy
 have Hy := Lib.hid hy
 clear hy
 have zu : (((u : Nat) : Int) != 0) = false := nat_ne0 hu
 have Hu := Lib.hid hu
 clear hu
 have zv : (((v : Nat) : Int) != 0) = false := nat_ne0 hv
 have Hv := Lib.hid hv
 clear hv
 have zx : (((x : Nat) : Int) != 0) = false := nat_ne0 hx
 have Hx := Lib.hid hx
 clear hx
 go_enter Tryz.func211, Tryz.ntmps211
 go_wp2_with (first
  | (go_at_call 212; (with_reducible refine (numbersOf_any 2 s y u v x _).mono ?_); rintro e w1 ⟨rfl, hb1⟩; have HB1 := Lib.hid (below_box hb1); have hE1 := (EntAt.box w 2 s y u v x).below hb1; have HE1 := Lib.hid hE1; obtain ⟨hz1, hc0, hc1, hc2, hc3, hc4, hc5⟩ := hE1; clear hb1)
  | (go_at_call 213; (with_reducible refine (fields_is 2 1 rfl _).mono ?_); rintro e w' ⟨rfl, rfl⟩))
 go_loop [13] (fun i => ∃ j : Nat, j ≤ 4 ∧ i = .int .i64 j) (fun i => 4 - (intOf i).toNat)
 case atStart => exact ⟨0, by omega, rfl⟩
 case round =>
  obtain ⟨j, hj, rfl⟩ := hrel
  have hj5 : j = 4 ∨ j = 0 ∨ j = 1 ∨ j = 2 ∨ j = 3 := by omega
  rcases hj5 with rfl | rfl | rfl | rfl | rfl
  ·go_wp2_with (go_at_call 217; (with_reducible refine (HS _).mono ?_); rintro e w' ⟨rfl, rfl⟩)
   go_ret
   exact ⟨ret_bool E.out.symm, HB1.out.alloc HB1.out.size _⟩
  ·go_wp2_with fail
   go_round
   case rel => exact ⟨1, by omega, by go_num⟩
   case measure => simp [intOf]
  ·go_wp2_with fail
   go_round
   case rel => exact ⟨2, by omega, by go_num⟩
   case measure => simp [intOf]
  ·go_wp2_with fail
   go_round
   case rel => exact ⟨3, by omega, by go_num⟩
   case measure => simp [intOf]
  ·go_wp2_with fail
   go_round
   case rel => exact ⟨4, by omega, by go_num⟩
   case measure => simp [intOf]
set_option maxHeartbeats 1000000 in
theorem may_head (s y u v x : Nat) (hy : y = 0) (hu : u = 0) (hv : v = 0) (hx : x = 0) (w : World) :
  Calls Tryz.prog 211 #[.agg #[.int .i64 3, .int .u64 (s : Int), .int .u64 (y : Int), .int .u64 (u : Int), .int .u64 (v : Int), .int .u64 (x : Int)]] w (Kept w (.bool (Ent.mk 3 s y u v x).mayB)) := by
 have E : Hid ((Ent.mk 3 s y u v x).mayB = decide ((s : Int) ≤ 65536)) := Lib.hid (by rw [hy, hu, hv, hx, Ent.mayB_head s]; exact decide_eq_decide.2 (by omega))
 have zy : (((y : Nat) : Int) != 0) = false := nat_ne0 hy
 have Hy := Lib.hid hy
 clear hy
 have zu : (((u : Nat) : Int) != 0) = false := nat_ne0 hu
 have Hu := Lib.hid hu
 clear hu
 have zv : (((v : Nat) : Int) != 0) = false := nat_ne0 hv
 have Hv := Lib.hid hv
 clear hv
 have zx : (((x : Nat) : Int) != 0) = false := nat_ne0 hx
 have Hx := Lib.hid hx
 clear hx
 go_enter Tryz.func211, Tryz.ntmps211
 go_wp2_with (first
  | (go_at_call 212; (with_reducible refine (numbersOf_any 3 s y u v x _).mono ?_); rintro e w1 ⟨rfl, hb1⟩; have HB1 := Lib.hid (below_box hb1); have hE1 := (EntAt.box w 3 s y u v x).below hb1; have HE1 := Lib.hid hE1; obtain ⟨hz1, hc0, hc1, hc2, hc3, hc4, hc5⟩ := hE1; clear hb1)
  | (go_at_call 213; (with_reducible refine (fields_is 3 1 rfl _).mono ?_); rintro e w' ⟨rfl, rfl⟩))
 go_loop [13] (fun i => ∃ j : Nat, j ≤ 4 ∧ i = .int .i64 j) (fun i => 4 - (intOf i).toNat)
 case atStart => exact ⟨0, by omega, rfl⟩
 case round =>
  obtain ⟨j, hj, rfl⟩ := hrel
  have hj5 : j = 4 ∨ j = 0 ∨ j = 1 ∨ j = 2 ∨ j = 3 := by omega
  rcases hj5 with rfl | rfl | rfl | rfl | rfl
  ·go_wp2_with fail
   go_ret
   exact ⟨ret_bool E.out.symm, HB1.out.alloc HB1.out.size _⟩
  ·go_wp2_with fail
   go_round
   case rel => exact ⟨1, by omega, by go_num⟩
   case measure => simp [intOf]
  ·go_wp2_with fail
   go_round
   case rel => exact ⟨2, by omega, by go_num⟩
   case measure => simp [intOf]
  ·go_wp2_with fail
   go_round
   case rel => exact ⟨3, by omega, by go_num⟩
   case measure => simp [intOf]
  ·go_wp2_with fail
   go_round
   case rel => exact ⟨4, by omega, by go_num⟩
   case measure => simp [intOf]
def Zer (y u v x j : Nat) : Prop := (1 ≤ j → y = 0) ∧ (2 ≤ j → u = 0) ∧ (3 ≤ j → v = 0) ∧ (4 ≤ j → x = 0)
set_option maxHeartbeats 1000000 in
theorem may_death_no (s y u v x : Nat) (h : ¬ (y = 0 ∧ u = 0 ∧ v = 0 ∧ x = 0)) (w : World) :
  Calls Tryz.prog 211 #[.agg #[.int .i64 2, .int .u64 (s : Int), .int .u64 (y : Int), .int .u64 (u : Int), .int .u64 (v : Int), .int .u64 (x : Int)]] w (Kept w (.bool (Ent.mk 2 s y u v x).mayB)) := by
 have E := Lib.hid (Ent.mayB_more 2 s y u v x (by decide) h)
 have HN := Lib.hid h
 clear h
 go_enter Tryz.func211, Tryz.ntmps211
 go_wp2_with (first
  | (go_at_call 212; (with_reducible refine (numbersOf_any 2 s y u v x _).mono ?_); rintro e w1 ⟨rfl, hb1⟩; have HB1 := Lib.hid (below_box hb1); have hE1 := (EntAt.box w 2 s y u v x).below hb1; have HE1 := Lib.hid hE1; obtain ⟨hz1, hc0, hc1, hc2, hc3, hc4, hc5⟩ := hE1; clear hb1)
  | (go_at_call 213; (with_reducible refine (fields_is 2 1 rfl _).mono ?_); rintro e w' ⟨rfl, rfl⟩))
 go_loop [13] (fun i => ∃ j : Nat, j ≤ 4 ∧ i = .int .i64 j ∧ Zer y u v x j) (fun i => 4 - (intOf i).toNat)
 case atStart => exact ⟨0, by omega, rfl, by simp [Zer]⟩
 case round =>
  obtain ⟨j, hj, rfl, hr⟩ := hrel
  have HR := Lib.hid hr
  clear hr
  have hj5 : j = 4 ∨ j = 0 ∨ j = 1 ∨ j = 2 ∨ j = 3 := by omega
  rcases hj5 with rfl | rfl | rfl | rfl | rfl
  ·exact absurd (by have := HR.out; simp [Zer] at this; exact ⟨this.1, this.2.1, this.2.2.1, this.2.2.2⟩) HN.out
  ·by_cases hh : y = 0
   ·have hh2 : (((y : Nat) : Int) != 0) = false := nat_ne0 hh
    have HH := Lib.hid hh
    clear hh
    go_wp2_with fail
    go_round
    case rel => exact ⟨1, by omega, by go_num, by have := HH.out; have := HR.out; simp_all [Zer]⟩
    case measure => simp [intOf]
   ·have hh2 : (((y : Nat) : Int) != 0) = true := by rw [bne_iff_ne]; omega
    clear hh
    go_wp2_with fail
    go_ret
    exact ⟨ret_bool E.out.symm, HB1.out.alloc HB1.out.size _⟩
  ·by_cases hh : u = 0
   ·have hh2 : (((u : Nat) : Int) != 0) = false := nat_ne0 hh
    have HH := Lib.hid hh
    clear hh
    go_wp2_with fail
    go_round
    case rel => exact ⟨2, by omega, by go_num, by have := HH.out; have := HR.out; simp_all [Zer]⟩
    case measure => simp [intOf]
   ·have hh2 : (((u : Nat) : Int) != 0) = true := by rw [bne_iff_ne]; omega
    clear hh
    go_wp2_with fail
    go_ret
    exact ⟨ret_bool E.out.symm, HB1.out.alloc HB1.out.size _⟩
  ·by_cases hh : v = 0
   ·have hh2 : (((v : Nat) : Int) != 0) = false := nat_ne0 hh
    have HH := Lib.hid hh
    clear hh
    go_wp2_with fail
    go_round
    case rel => exact ⟨3, by omega, by go_num, by have := HH.out; have := HR.out; simp_all [Zer]⟩
    case measure => simp [intOf]
   ·have hh2 : (((v : Nat) : Int) != 0) = true := by rw [bne_iff_ne]; omega
    clear hh
    go_wp2_with fail
    go_ret
    exact ⟨ret_bool E.out.symm, HB1.out.alloc HB1.out.size _⟩
  ·by_cases hh : x = 0
   ·have hh2 : (((x : Nat) : Int) != 0) = false := nat_ne0 hh
    have HH := Lib.hid hh
    clear hh
    go_wp2_with fail
    go_round
    case rel => exact ⟨4, by omega, by go_num, by have := HH.out; have := HR.out; simp_all [Zer]⟩
    case measure => simp [intOf]
   ·have hh2 : (((x : Nat) : Int) != 0) = true := by rw [bne_iff_ne]; omega
    clear hh
    go_wp2_with fail
    go_ret
    exact ⟨ret_bool E.out.symm, HB1.out.alloc HB1.out.size _⟩
set_option maxHeartbeats 1000000 in
theorem may_head_no (s y u v x : Nat) (h : ¬ (y = 0 ∧ u = 0 ∧ v = 0 ∧ x = 0)) (w : World) :
  Calls Tryz.prog 211 #[.agg #[.int .i64 3, .int .u64 (s : Int), .int .u64 (y : Int), .int .u64 (u : Int), .int .u64 (v : Int), .int .u64 (x : Int)]] w (Kept w (.bool (Ent.mk 3 s y u v x).mayB)) := by
 have E := Lib.hid (Ent.mayB_more 3 s y u v x (by decide) h)
 have HN := Lib.hid h
 clear h
 go_enter Tryz.func211, Tryz.ntmps211
 go_wp2_with (first
  | (go_at_call 212; (with_reducible refine (numbersOf_any 3 s y u v x _).mono ?_); rintro e w1 ⟨rfl, hb1⟩; have HB1 := Lib.hid (below_box hb1); have hE1 := (EntAt.box w 3 s y u v x).below hb1; have HE1 := Lib.hid hE1; obtain ⟨hz1, hc0, hc1, hc2, hc3, hc4, hc5⟩ := hE1; clear hb1)
  | (go_at_call 213; (with_reducible refine (fields_is 3 1 rfl _).mono ?_); rintro e w' ⟨rfl, rfl⟩))
 go_loop [13] (fun i => ∃ j : Nat, j ≤ 4 ∧ i = .int .i64 j ∧ Zer y u v x j) (fun i => 4 - (intOf i).toNat)
 case atStart => exact ⟨0, by omega, rfl, by simp [Zer]⟩
 case round =>
  obtain ⟨j, hj, rfl, hr⟩ := hrel
  have HR := Lib.hid hr
  clear hr
  have hj5 : j = 4 ∨ j = 0 ∨ j = 1 ∨ j = 2 ∨ j = 3 := by omega
  rcases hj5 with rfl | rfl | rfl | rfl | rfl
  ·exact absurd (by have := HR.out; simp [Zer] at this; exact ⟨this.1, this.2.1, this.2.2.1, this.2.2.2⟩) HN.out
  ·by_cases hh : y = 0
   ·have hh2 : (((y : Nat) : Int) != 0) = false := nat_ne0 hh
    have HH := Lib.hid hh
    clear hh
    go_wp2_with fail
    go_round
    case rel => exact ⟨1, by omega, by go_num, by have := HH.out; have := HR.out; simp_all [Zer]⟩
    case measure => simp [intOf]
   ·have hh2 : (((y : Nat) : Int) != 0) = true := by rw [bne_iff_ne]; omega
    clear hh
    go_wp2_with fail
    go_ret
    exact ⟨ret_bool E.out.symm, HB1.out.alloc HB1.out.size _⟩
  ·by_cases hh : u = 0
   ·have hh2 : (((u : Nat) : Int) != 0) = false := nat_ne0 hh
    have HH := Lib.hid hh
    clear hh
    go_wp2_with fail
    go_round
    case rel => exact ⟨2, by omega, by go_num, by have := HH.out; have := HR.out; simp_all [Zer]⟩
    case measure => simp [intOf]
   ·have hh2 : (((u : Nat) : Int) != 0) = true := by rw [bne_iff_ne]; omega
    clear hh
    go_wp2_with fail
    go_ret
    exact ⟨ret_bool E.out.symm, HB1.out.alloc HB1.out.size _⟩
  ·by_cases hh : v = 0
   ·have hh2 : (((v : Nat) : Int) != 0) = false := nat_ne0 hh
    have HH := Lib.hid hh
    clear hh
    go_wp2_with fail
    go_round
    case rel => exact ⟨3, by omega, by go_num, by have := HH.out; have := HR.out; simp_all [Zer]⟩
    case measure => simp [intOf]
   ·have hh2 : (((v : Nat) : Int) != 0) = true := by rw [bne_iff_ne]; omega
    clear hh
    go_wp2_with fail
    go_ret
    exact ⟨ret_bool E.out.symm, HB1.out.alloc HB1.out.size _⟩
  ·by_cases hh : x = 0
   ·have hh2 : (((x : Nat) : Int) != 0) = false := nat_ne0 hh
    have HH := Lib.hid hh
    clear hh
    go_wp2_with fail
    go_round
    case rel => exact ⟨4, by omega, by go_num, by have := HH.out; have := HR.out; simp_all [Zer]⟩
    case measure => simp [intOf]
   ·have hh2 : (((x : Nat) : Int) != 0) = true := by rw [bne_iff_ne]; omega
    clear hh
    go_wp2_with fail
    go_ret
    exact ⟨ret_bool E.out.symm, HB1.out.alloc HB1.out.size _⟩
set_option maxHeartbeats 1000000 in
theorem may_else (k : Int) (s y u v x : Nat) (k1 : k ≠ 1) (k2 : k ≠ 2) (k3 : k ≠ 3) (w : World) :
  Calls Tryz.prog 211 #[.agg #[.int .i64 k, .int .u64 (s : Int), .int .u64 (y : Int), .int .u64 (u : Int), .int .u64 (v : Int), .int .u64 (x : Int)]] w (Kept w (.bool (Ent.mk k s y u v x).mayB)) := by
 have E := Lib.hid (Ent.mayB_else k s y u v x k1 k2 k3)
 have d1 : (k == 1) = false := by rw [beq_eq_false_iff_ne]; exact k1
 have d2 : (k == 2) = false := by rw [beq_eq_false_iff_ne]; exact k2
 have d3 : (k == 3) = false := by rw [beq_eq_false_iff_ne]; exact k3
 have HF : Hid (fieldsI k = 0) := Lib.hid (by unfold fieldsI; rw [if_neg k1, if_neg (by omega)])
 clear k1 k2 k3
 go_enter Tryz.func211, Tryz.ntmps211
 go_wp2_with (first
  | (go_at_call 212; (with_reducible refine (numbersOf_any k s y u v x _).mono ?_); rintro e w1 ⟨rfl, hb1⟩; have HB1 := Lib.hid (below_box hb1); have hE1 := (EntAt.box w k s y u v x).below hb1; have HE1 := Lib.hid hE1; obtain ⟨hz1, hc0, hc1, hc2, hc3, hc4, hc5⟩ := hE1; clear hb1)
  | (go_at_call 213; (with_reducible refine (fields_is k 0 HF.out _).mono ?_); rintro e w' ⟨rfl, rfl⟩))
 go_loop [13] (fun i => ∃ j : Nat, j ≤ 5 ∧ i = .int .i64 j) (fun i => 5 - (intOf i).toNat)
 case atStart => exact ⟨0, by omega, rfl⟩
 case round =>
  obtain ⟨j, hj, rfl⟩ := hrel
  have hj5 : j = 5 ∨ j = 0 ∨ j = 1 ∨ j = 2 ∨ j = 3 ∨ j = 4 := by omega
  rcases hj5 with rfl | rfl | rfl | rfl | rfl | rfl
  ·go_wp2_with fail
   go_ret
   exact ⟨ret_bool E.out.symm, HB1.out.alloc HB1.out.size _⟩
  ·by_cases hh : s = 0
   ·have hh2 : (((s : Nat) : Int) != 0) = false := nat_ne0 hh
    clear hh
    go_wp2_with fail
    go_round
    case rel => exact ⟨1, by omega, by go_num⟩
    case measure => simp [intOf]
   ·have hh2 : (((s : Nat) : Int) != 0) = true := by rw [bne_iff_ne]; omega
    clear hh
    go_wp2_with fail
    go_ret
    exact ⟨ret_bool E.out.symm, HB1.out.alloc HB1.out.size _⟩
  ·by_cases hh : y = 0
   ·have hh2 : (((y : Nat) : Int) != 0) = false := nat_ne0 hh
    clear hh
    go_wp2_with fail
    go_round
    case rel => exact ⟨2, by omega, by go_num⟩
    case measure => simp [intOf]
   ·have hh2 : (((y : Nat) : Int) != 0) = true := by rw [bne_iff_ne]; omega
    clear hh
    go_wp2_with fail
    go_ret
    exact ⟨ret_bool E.out.symm, HB1.out.alloc HB1.out.size _⟩
  ·by_cases hh : u = 0
   ·have hh2 : (((u : Nat) : Int) != 0) = false := nat_ne0 hh
    clear hh
    go_wp2_with fail
    go_round
    case rel => exact ⟨3, by omega, by go_num⟩
    case measure => simp [intOf]
   ·have hh2 : (((u : Nat) : Int) != 0) = true := by rw [bne_iff_ne]; omega
    clear hh
    go_wp2_with fail
    go_ret
    exact ⟨ret_bool E.out.symm, HB1.out.alloc HB1.out.size _⟩
  ·by_cases hh : v = 0
   ·have hh2 : (((v : Nat) : Int) != 0) = false := nat_ne0 hh
    clear hh
    go_wp2_with fail
    go_round
    case rel => exact ⟨4, by omega, by go_num⟩
    case measure => simp [intOf]
   ·have hh2 : (((v : Nat) : Int) != 0) = true := by rw [bne_iff_ne]; omega
    clear hh
    go_wp2_with fail
    go_ret
    exact ⟨ret_bool E.out.symm, HB1.out.alloc HB1.out.size _⟩
  ·by_cases hh : x = 0
   ·have hh2 : (((x : Nat) : Int) != 0) = false := nat_ne0 hh
    clear hh
    go_wp2_with fail
    go_round
    case rel => exact ⟨5, by omega, by go_num⟩
    case measure => simp [intOf]
   ·have hh2 : (((x : Nat) : Int) != 0) = true := by rw [bne_iff_ne]; omega
    clear hh
    go_wp2_with fail
    go_ret
    exact ⟨ret_bool E.out.symm, HB1.out.alloc HB1.out.size _⟩
theorem may_any (k : Int) (s y u v x : Nat) (hy : y < 18446744073709551616) (w : World) :
  Calls Tryz.prog 211 #[.agg #[.int .i64 k, .int .u64 (s : Int), .int .u64 (y : Int), .int .u64 (u : Int), .int .u64 (v : Int), .int .u64 (x : Int)]] w (Kept w (.bool (Ent.mk k s y u v x).mayB)) := by
 by_cases k1 : k = 1
 ·subst k1; exact may_birth s y u v x hy w
 ·by_cases k2 : k = 2
  ·subst k2
   by_cases h : y = 0 ∧ u = 0 ∧ v = 0 ∧ x = 0
   ·exact may_death s y u v x h.1 h.2.1 h.2.2.1 h.2.2.2 w
   ·exact may_death_no s y u v x h w
  ·by_cases k3 : k = 3
   ·subst k3
    by_cases h : y = 0 ∧ u = 0 ∧ v = 0 ∧ x = 0
    ·exact may_head s y u v x h.1 h.2.1 h.2.2.1 h.2.2.2 w
    ·exact may_head_no s y u v x h w
   ·exact may_else k s y u v x k1 k2 k3 w
end Go.Proofs.YtibpfkcackdbgaaGreatDoor
namespace Go.Proofs.YtibpfkcackdbgaaGreatDoor
open Go.ChangeShapes Go.WideShapes Go.ChangeAt Go.RowKit
set_option linter.unusedVariables false
set_option maxRecDepth 100000
set_option maxHeartbeats 1000000 in
theorem lay8_any (v : Value) (base m : Nat) (xs : List Nat) (x : Nat) (hx : x < 18446744073709551616) (w : World) (hown : Hid (Own w base v m xs)) (hbase : base ≤ w.heap.size) (hb : m + 8 ≤ 140737488355328) :
  Calls Tryz.prog 214 #[v, .int .u64 (x : Int)] w (OwnPost w base (m + 8) (xs ++ leN 8 x)) := by
 go_enter Tryz.func214, Tryz.ntmps214
 go_wp2_with fail
 go_loopw [0, 1, 5] (fun u y i wr => ∃ k : Nat, k ≤ 8 ∧ i = .int .i64 k ∧ y = .int .u64 ((shN k x : Nat) : Int) ∧ LayRel w base m xs x wr u k) (fun _ _ i _ => 8 - (intOf i).toNat)
 case atStart => exact ⟨0, Nat.zero_le _, rfl, by rw [shN_zero], by show Own _ _ _ (m + 0) (xs ++ []); rw [List.append_nil]; exact hown.out, Below.refl _ _⟩
 case round =>
  obtain ⟨k, hk, rfl, rfl, hrel⟩ := hrel
  have HR := Lib.hid hrel
  have hsz := hrel.2.size
  clear hrel hown
  by_cases hlt : k < 8
  ·have hs := shN_le k x
   have hs2 := Lib.hid (shN_succ k x)
   have S1 : Hid (Own wr base u0 (m + k) (xs ++ leN k x)) := Lib.hid HR.out.1
   generalize hq : shN k x = q at *
   have hq' := Lib.hid hq
   clear hq
   go_wp2_with (at_builtin; (refine wpList_append_bytes (by rfl) (.tmp 7) (.tmp 10) (by rfl) base u0 (m + k) (xs ++ leN k x) (by rfl) (Own.alloc S1.out _) (some ⟨wr.heap.size, 0, none⟩) 1 1 [q % 256] (by rfl) (AtB.one (by omega) (by simp)) (by omega) (by simp; omega) ?_); (intro v' w' hown' hgrow'; have S := Lib.hid (HR.out.step hbase (by rw [hq'.out]; exact hown') hgrow'); clear hown' hgrow'))
   go_roundw
   case rel => exact ⟨k + 1, by omega, by go_num, by rw [hs2.out]; go_num, S.out⟩
   case measure => simp [intOf]; omega
  ·obtain rfl : k = 8 := by omega
   go_wp2_with fail
   go_ret
   exact ⟨u0, rfl, HR.out.1, HR.out.2⟩
end Go.Proofs.YtibpfkcackdbgaaGreatDoor
namespace Go.Proofs.YtibpfkcackdbgaaGreatDoor
open Go.ChangeShapes Go.WideShapes Go.ChangeAt Go.RowKit
set_option linter.unusedVariables false
set_option maxRecDepth 100000
abbrev arrO : Obj := .cells #[.int .u64 0, .int .u64 0, .int .u64 0, .int .u64 0, .int .u64 0] 242
def ArrAt (w : World) (b : Nat) : Prop :=
 b < w.heap.size ∧ (w.cell? ⟨b, 0, none⟩ = some (.int .u64 0) ∧ w.cell? ⟨b, 1, none⟩ = some (.int .u64 0) ∧ w.cell? ⟨b, 2, none⟩ = some (.int .u64 0) ∧ w.cell? ⟨b, 3, none⟩ = some (.int .u64 0) ∧ w.cell? ⟨b, 4, none⟩ = some (.int .u64 0)) ∧
 (w.frozen? ⟨b, 0, none⟩ = false ∧ w.frozen? ⟨b, 1, none⟩ = false ∧ w.frozen? ⟨b, 2, none⟩ = false ∧ w.frozen? ⟨b, 3, none⟩ = false ∧ w.frozen? ⟨b, 4, none⟩ = false)
theorem ArrAt.made (w : World) : ArrAt (w.alloc arrO) w.heap.size := by
 refine ⟨by simp, ⟨?_, ?_, ?_, ?_, ?_⟩, ?_, ?_, ?_, ?_, ?_⟩
 all_goals first | (rw [World.cell?_alloc_mark]; rfl) | (unfold World.frozen?; simp only [heap_alloc_new]; simp)
theorem ArrAt.below {w w' : World} {b : Nat} (h : ArrAt w b) (hb : Below w.heap.size w w') : ArrAt w' b := by
 obtain ⟨h0, ⟨h1, h2, h3, h4, h5⟩, g1, g2, g3, g4, g5⟩ := h
 exact ⟨Nat.lt_of_lt_of_le h0 hb.size, ⟨(keptCells hb b 0 h0).trans h1, (keptCells hb b 1 h0).trans h2, (keptCells hb b 2 h0).trans h3, (keptCells hb b 3 h0).trans h4, (keptCells hb b 4 h0).trans h5⟩,
  (keptFrozen hb b 0 h0).trans g1, (keptFrozen hb b 1 h0).trans g2, (keptFrozen hb b 2 h0).trans g3, (keptFrozen hb b 3 h0).trans g4, (keptFrozen hb b 4 h0).trans g5⟩
theorem arr_kept {w w2 : World} (hb : Below (w.alloc arrO).heap.size (w.alloc arrO) w2) : ArrAt w2 w.heap.size := (ArrAt.made w).below hb
theorem arr_kept' {w w2 : World} (hb : Below (w.alloc arrO).drew.heap.size (w.alloc arrO).drew w2) : ArrAt w2 w.heap.size := ArrAt.below (w := (w.alloc arrO).drew) (ArrAt.made w) hb
def NumsAt (w : World) (b : Nat) (s y u v x : Nat) : Prop :=
 b < w.heap.size ∧ w.cell? ⟨b, 0, none⟩ = some (.int .u64 (s : Int)) ∧ w.cell? ⟨b, 1, none⟩ = some (.int .u64 (y : Int)) ∧ w.cell? ⟨b, 2, none⟩ = some (.int .u64 (u : Int)) ∧ w.cell? ⟨b, 3, none⟩ = some (.int .u64 (v : Int)) ∧ w.cell? ⟨b, 4, none⟩ = some (.int .u64 (x : Int))
theorem NumsAt.below {w w' : World} {b : Nat} {s y u v x : Nat} (h : NumsAt w b s y u v x) (hb : Below w.heap.size w w') : NumsAt w' b s y u v x := by
 obtain ⟨h0, h1, h2, h3, h4, h5⟩ := h
 exact ⟨Nat.lt_of_lt_of_le h0 hb.size, (keptCells hb b 0 h0).trans h1, (keptCells hb b 1 h0).trans h2, (keptCells hb b 2 h0).trans h3, (keptCells hb b 3 h0).trans h4, (keptCells hb b 4 h0).trans h5⟩
theorem NumsAt.made (w : World) (s y u v x : Nat) : NumsAt (w.alloc (.cells #[.int .u64 (s : Int), .int .u64 (y : Int), .int .u64 (u : Int), .int .u64 (v : Int), .int .u64 (x : Int)] 242)) w.heap.size s y u v x := by
 refine ⟨by simp, ?_, ?_, ?_, ?_, ?_⟩ <;> (rw [World.cell?_alloc_mark]; rfl)
theorem NumsAt.set {w : World} {b : Nat} {s y u v x : Nat} (h0 : b < w.heap.size) (h1 : w.cell? ⟨b, 0, none⟩ = some (.int .u64 0)) (h2 : w.cell? ⟨b, 1, none⟩ = some (.int .u64 0)) (h3 : w.cell? ⟨b, 2, none⟩ = some (.int .u64 0)) (h4 : w.cell? ⟨b, 3, none⟩ = some (.int .u64 0)) (h5 : w.cell? ⟨b, 4, none⟩ = some (.int .u64 0)) :
  NumsAt (((((w.setCell ⟨b, 0, none⟩ (.int .u64 (s : Int))).setCell ⟨b, 1, none⟩ (.int .u64 (y : Int))).setCell ⟨b, 2, none⟩ (.int .u64 (u : Int))).setCell ⟨b, 3, none⟩ (.int .u64 (v : Int))).setCell ⟨b, 4, none⟩ (.int .u64 (x : Int))) b s y u v x := by
 have hc : CellsAt (w.setCells b 0 [.int .u64 (s : Int), .int .u64 (y : Int), .int .u64 (u : Int), .int .u64 (v : Int), .int .u64 (x : Int)]) b [.int .u64 (s : Int), .int .u64 (y : Int), .int .u64 (u : Int), .int .u64 (v : Int), .int .u64 (x : Int)] := by
  refine ⟨Nat.lt_of_lt_of_le h0 (below_setCells (Nat.zero_le b) _ 0 w (Below.refl 0 w)).size, fun j val hv => ?_⟩
  have hj : j < 5 := (List.getElem?_eq_some_iff.1 hv).1
  have := World.cell?_setCells_in b [.int .u64 (s : Int), .int .u64 (y : Int), .int .u64 (u : Int), .int .u64 (v : Int), .int .u64 (x : Int)] 0 w (fun i hi => by
   have hi5 : i = 0 ∨ i = 1 ∨ i = 2 ∨ i = 3 ∨ i = 4 := by simp at hi; omega
   rcases hi5 with rfl | rfl | rfl | rfl | rfl <;> simp [h1, h2, h3, h4, h5]) j hj
  rw [Nat.zero_add] at this
  rw [this]
  exact hv ▸ (List.getElem?_eq_getElem hj).symm
 exact ⟨hc.1, hc.2 0 _ rfl, hc.2 1 _ rfl, hc.2 2 _ rfl, hc.2 3 _ rfl, hc.2 4 _ rfl⟩
def EncPost (w : World) (n : Nat) (xs : List Nat) (e : Ending) (w' : World) : Prop := ∃ v, e = .returned (.tuple #[v, .int .i64 0]) ∧ Own w' w.heap.size v n xs ∧ Below w.heap.size w w'
def encJ (k : Nat) (L : List Nat) (j : Nat) : List Nat := k :: (L.take j).flatMap (leN 8)
def EncRel (w w3 : World) (k : Nat) (L : List Nat) (wr : World) (v : Value) (j : Nat) : Prop := Own wr w3.heap.size v (1 + 8 * j) (encJ k L j) ∧ Below w3.heap.size w3 wr
theorem EncRel.step {w w3 wr w' : World} {k j z : Nat} {L : List Nat} {v v' : Value} (h : EncRel w w3 k L wr v j) (hj : L[j]? = some z) (hO : Own w' w3.heap.size v' (1 + 8 * j + 8) (encJ k L j ++ leN 8 z)) (hB : Below w3.heap.size wr w') :
  EncRel w w3 k L w' v' (j + 1) := by
 refine ⟨?_, h.2.trans hB⟩
 have e : encJ k L (j + 1) = encJ k L j ++ leN 8 z := by
  unfold encJ
  rw [List.take_add_one, hj]
  simp
 rw [e, show 1 + 8 * (j + 1) = 1 + 8 * j + 8 by omega]
 exact hO
theorem encode_no (k : Int) (s y u v x : Nat) (hy : y < 18446744073709551616) (h : (Ent.mk k s y u v x).mayB = false) (w : World) :
  Calls Tryz.prog 205 #[.agg #[.int .i64 k, .int .u64 (s : Int), .int .u64 (y : Int), .int .u64 (u : Int), .int .u64 (v : Int), .int .u64 (x : Int)]] w (Kept w (.tuple #[.slice none 0 0, .int .i64 1])) := by
 have HM := fun w => may_any k s y u v x hy w
 rw [h] at HM
 have H := Lib.hid h
 clear h
 go_enter Tryz.func205, Tryz.ntmps205
 go_wp2_with (go_at_call 211; (with_reducible refine (HM _).mono ?_); rintro e w1 ⟨rfl, hb1⟩; have HB1 := Lib.hid (below_box hb1); clear hb1)
 go_ret2
 exact ⟨rfl, HB1.out⟩
set_option maxHeartbeats 2000000 in
theorem encode_birth (s y u v x : Nat) (hs : s < 18446744073709551616) (hy : y < 18446744073709551616) (hu : u < 18446744073709551616) (hv : v < 18446744073709551616) (hx : x < 18446744073709551616) (h : (Ent.mk 1 s y u v x).mayB = true) (w : World) :
  Calls Tryz.prog 205 #[.agg #[.int .i64 1, .int .u64 (s : Int), .int .u64 (y : Int), .int .u64 (u : Int), .int .u64 (v : Int), .int .u64 (x : Int)]] w (EncPost w 41 (encJ 1 [s, y, u, v, x] 5)) := by
 have HM := fun w => may_any 1 s y u v x hy w
 rw [h] at HM
 have H := Lib.hid h
 clear h
 obtain ⟨i0, hi0, hz0, hz1, hz2⟩ := info_parts info5
 have HI := Lib.hid hi0
 have HZ0 := Lib.hid hz0
 have HZ1 := Lib.hid hz1
 have hz2' : Hid (i0.bytes * 41 ≤ 281474976710656) := Lib.hid (by rw [hz2]; omega)
 clear hi0 hz0 hz1 hz2
 go_enter Tryz.func205, Tryz.ntmps205
 go_wp2_with (go_at_call 211; (with_reducible refine (HM _).mono ?_); rintro e w1 ⟨rfl, hb1⟩; have HB1 := Lib.hid (below_box hb1); have hE1 := (EntAt.box w 1 s y u v x).below hb1; have HE1 := Lib.hid hE1; obtain ⟨hz1, _⟩ := hE1; clear hb1)
 have HN := fun w => numbersOf_any 1 s y u v x w
 have HF := fun w => fields_is 1 5 rfl w
 have hC0 : ∀ w', Below w1.heap.size w1 w' → w'.cell? ⟨w.heap.size, 0, none⟩ = some (.int .i64 1) := fun w' hb => (HE1.out.below hb).2.1
 have hC1 : ∀ w', Below w1.heap.size w1 w' → w'.cell? ⟨w.heap.size, 1, none⟩ = some (.int .u64 (s : Int)) := fun w' hb => (HE1.out.below hb).2.2.1
 have hC2 : ∀ w', Below w1.heap.size w1 w' → w'.cell? ⟨w.heap.size, 2, none⟩ = some (.int .u64 (y : Int)) := fun w' hb => (HE1.out.below hb).2.2.2.1
 have hC3 : ∀ w', Below w1.heap.size w1 w' → w'.cell? ⟨w.heap.size, 3, none⟩ = some (.int .u64 (u : Int)) := fun w' hb => (HE1.out.below hb).2.2.2.2.1
 have hC4 : ∀ w', Below w1.heap.size w1 w' → w'.cell? ⟨w.heap.size, 4, none⟩ = some (.int .u64 (v : Int)) := fun w' hb => (HE1.out.below hb).2.2.2.2.2.1
 have hC5 : ∀ w', Below w1.heap.size w1 w' → w'.cell? ⟨w.heap.size, 5, none⟩ = some (.int .u64 (x : Int)) := fun w' hb => (HE1.out.below hb).2.2.2.2.2.2
 clear HM
 have HB0 : Hid (w.heap.size = w.heap.size) := Lib.hid rfl
 revert HB0
 generalize hbz : w.heap.size = b0 at *
 intro HB0
 have HBZ := Lib.hid hbz
 clear hbz
 go_region_held3 (fun w' => Below w1.heap.size w1 w') (first | (with_reducible exact below_set5 (Nat.le_refl _) _ _ _ _ _ hB2) | (with_reducible exact Below.drew (below_set5 (Nat.le_refl _) _ _ _ _ _ hB2)) | assumption | (exact Below.drew (Below.refl _ _)) | (exact Below.drew (by assumption)) | (exact (fun h => Below.alloc h h.size _) (by assumption)))
  (first
   | (go_at_call 212; (with_reducible refine (HN _).mono ?_); rintro e w2 ⟨rfl, hb2⟩; have hB2 : Below w1.heap.size w1 w2 := below_step hb2 (by first | assumption | (exact Below.drew (Below.refl _ _)) | (exact Below.drew (by assumption))); (first | (with_reducible have hA := arr_kept hb2) | (with_reducible have hA := arr_kept' hb2)); have hA2 : ArrAt w2 w1.heap.size := hA; clear hA; obtain ⟨hz2, ⟨ha0, ha1, ha2, ha3, ha4⟩, hf0, hf1, hf2, hf3, hf4⟩ := hA2; clear hb2)
   | (go_at_call 212; (with_reducible refine (HN _).mono ?_); rintro e w2 ⟨rfl, hb2⟩; have hB2 : Below w1.heap.size w1 w2 := below_step hb2 (by first | assumption | (exact Below.drew (Below.refl _ _)) | (exact Below.drew (by assumption))); have hz2 := hb2.size; clear hb2)
   | (go_at_call 213; (with_reducible refine (HF _).mono ?_); rintro e w' ⟨rfl, rfl⟩))
 rotate_right
 ·have hN : NumsAt (((((w2.setCell ⟨w1.heap.size, 0, none⟩ (.int .u64 (s : Int))).setCell ⟨w1.heap.size, 1, none⟩ (.int .u64 (y : Int))).setCell ⟨w1.heap.size, 2, none⟩ (.int .u64 (u : Int))).setCell ⟨w1.heap.size, 3, none⟩ (.int .u64 (v : Int))).setCell ⟨w1.heap.size, 4, none⟩ (.int .u64 (x : Int))) w1.heap.size s y u v x := NumsAt.set hz2 ha0 ha1 ha2 ha3 ha4
  have hB3 : Below w1.heap.size w1 (((((w2.setCell ⟨w1.heap.size, 0, none⟩ (.int .u64 (s : Int))).setCell ⟨w1.heap.size, 1, none⟩ (.int .u64 (y : Int))).setCell ⟨w1.heap.size, 2, none⟩ (.int .u64 (u : Int))).setCell ⟨w1.heap.size, 3, none⟩ (.int .u64 (v : Int))).setCell ⟨w1.heap.size, 4, none⟩ (.int .u64 (x : Int))) := below_set5 (Nat.le_refl _) _ _ _ _ _ hB2
  generalize (((((w2.setCell ⟨w1.heap.size, 0, none⟩ (.int .u64 (s : Int))).setCell ⟨w1.heap.size, 1, none⟩ (.int .u64 (y : Int))).setCell ⟨w1.heap.size, 2, none⟩ (.int .u64 (u : Int))).setCell ⟨w1.heap.size, 3, none⟩ (.int .u64 (v : Int))).setCell ⟨w1.heap.size, 4, none⟩ (.int .u64 (x : Int))) = w3 at *
  clear hz2 ha0 ha1 ha2 ha3 ha4 hf0 hf1 hf2 hf3 hf4
  have HN3 := Lib.hid hN
  have HBW : Hid (Below b0 w w3) := Lib.hid (HB1.out.trans (hB3.mono (by omega)))
  have HE3 := Lib.hid (HE1.out.below hB3)
  clear hN hB3 hB2 hC0 hC1 hC2 hC3 hC4 hC5 HN HF HB1 HE1
  go_wp2_with (first
   | (at_make; (refine wpList_make_own w3 rfl (.const (.int .i64 0)) (.tmp 19) 22 rfl w3.heap.size 5 i0 (.int .u8 0) 1 Tryz.underlying22 HI.out HZ0.out HZ1.out .i64 .i64 (41 : Int) 41 rfl rfl (by omega) hz2'.out (by unfold maxLen; omega) (Nat.le_refl _) ?_); (intro w4 hown hgrow; have B4 := Lib.hid ((Below.refl w3.heap.size w3).grown hgrow (Nat.le_refl _) (fun k hk => by cases hk)); have O4 : Hid (Own w4 w3.heap.size (.slice (some ⟨w3.heap.size, 0, none⟩) 0 41) 0 []) := Lib.hid ⟨fun x hx => by simp at hx, hown⟩; have hE4 := HE3.out.below B4.out; obtain ⟨hz4, he0, _⟩ := hE4; clear hown hgrow))
   | (at_builtin; (refine wpList_append_bytes (by rfl) (.tmp 21) (.tmp 25) (by rfl) w3.heap.size _ 0 [] (by rfl) (Own.alloc O4.out _) (some ⟨w4.heap.size, 0, none⟩) 1 1 [1] (by rfl) (AtB.one (by omega) (by simp)) (by omega) (by have := B4.out.size; simp; omega) ?_); (intro v5 w5 hown5 hgrow5; have R5 : Hid (EncRel w w3 1 [s, y, u, v, x] w5 v5 0) := Lib.hid ⟨hown5, (B4.out.alloc B4.out.size _).grown hgrow5 (by have := B4.out.size; simp; omega) (fun k hk => (O4.out.2.lt k hk).1)⟩; clear hown5 hgrow5)))
  clear he0 hz4 HE3 B4 O4
  go_loopw [6, 30] (fun vv i wr => ∃ j : Nat, j ≤ 5 ∧ i = .int .i64 j ∧ EncRel w w3 1 [s, y, u, v, x] wr vv j) (fun _ i _ => 5 - (intOf i).toNat)
  case atStart => exact ⟨0, Nat.zero_le _, rfl, R5.out⟩
  case round =>
   obtain ⟨j, hj, rfl, hrel⟩ := hrel
   have HR := Lib.hid hrel
   have hN4 := HN3.out.below hrel.2
   have hsz := hrel.2.size
   obtain ⟨hb4, hc0, hc1, hc2, hc3, hc4⟩ := hN4
   clear hrel R5
   have hj5 : j = 5 ∨ j = 0 ∨ j = 1 ∨ j = 2 ∨ j = 3 ∨ j = 4 := by omega
   rcases hj5 with rfl | rfl | rfl | rfl | rfl | rfl
   ·go_wp2_with fail
    go_ret2
    exact ⟨_, rfl, HR.out.1.lower HBW.out.size, by have h1 := HBW.out.size; have h2 := HBZ.out; rw [h2]; exact HBW.out.trans (HR.out.2.mono (by omega))⟩
   ·have O : Hid (Own wr w3.heap.size u6 (1 + 8 * 0) (encJ 1 [s, y, u, v, x] 0)) := Lib.hid HR.out.1
    go_wp2_with (go_at_call 214; (with_reducible refine (lay8_any _ w3.heap.size (1 + 8 * 0) (encJ 1 [s, y, u, v, x] 0) s hs _ O hsz (by omega)).mono ?_); rintro e w6 ⟨v6, rfl, hO6, hB6⟩; have R6 := Lib.hid (HR.out.step (z := s) (j := 0) rfl hO6 hB6); clear hO6 hB6)
    go_roundw
    case rel => exact ⟨1, by omega, by go_num, R6.out⟩
    case measure => simp [intOf]
   ·have O : Hid (Own wr w3.heap.size u6 (1 + 8 * 1) (encJ 1 [s, y, u, v, x] 1)) := Lib.hid HR.out.1
    go_wp2_with (go_at_call 214; (with_reducible refine (lay8_any _ w3.heap.size (1 + 8 * 1) (encJ 1 [s, y, u, v, x] 1) y hy _ O hsz (by omega)).mono ?_); rintro e w6 ⟨v6, rfl, hO6, hB6⟩; have R6 := Lib.hid (HR.out.step (z := y) (j := 1) rfl hO6 hB6); clear hO6 hB6)
    go_roundw
    case rel => exact ⟨2, by omega, by go_num, R6.out⟩
    case measure => simp [intOf]
   ·have O : Hid (Own wr w3.heap.size u6 (1 + 8 * 2) (encJ 1 [s, y, u, v, x] 2)) := Lib.hid HR.out.1
    go_wp2_with (go_at_call 214; (with_reducible refine (lay8_any _ w3.heap.size (1 + 8 * 2) (encJ 1 [s, y, u, v, x] 2) u hu _ O hsz (by omega)).mono ?_); rintro e w6 ⟨v6, rfl, hO6, hB6⟩; have R6 := Lib.hid (HR.out.step (z := u) (j := 2) rfl hO6 hB6); clear hO6 hB6)
    go_roundw
    case rel => exact ⟨3, by omega, by go_num, R6.out⟩
    case measure => simp [intOf]
   ·have O : Hid (Own wr w3.heap.size u6 (1 + 8 * 3) (encJ 1 [s, y, u, v, x] 3)) := Lib.hid HR.out.1
    go_wp2_with (go_at_call 214; (with_reducible refine (lay8_any _ w3.heap.size (1 + 8 * 3) (encJ 1 [s, y, u, v, x] 3) v hv _ O hsz (by omega)).mono ?_); rintro e w6 ⟨v6, rfl, hO6, hB6⟩; have R6 := Lib.hid (HR.out.step (z := v) (j := 3) rfl hO6 hB6); clear hO6 hB6)
    go_roundw
    case rel => exact ⟨4, by omega, by go_num, R6.out⟩
    case measure => simp [intOf]
   ·have O : Hid (Own wr w3.heap.size u6 (1 + 8 * 4) (encJ 1 [s, y, u, v, x] 4)) := Lib.hid HR.out.1
    go_wp2_with (go_at_call 214; (with_reducible refine (lay8_any _ w3.heap.size (1 + 8 * 4) (encJ 1 [s, y, u, v, x] 4) x hx _ O hsz (by omega)).mono ?_); rintro e w6 ⟨v6, rfl, hO6, hB6⟩; have R6 := Lib.hid (HR.out.step (z := x) (j := 4) rfl hO6 hB6); clear hO6 hB6)
    go_roundw
    case rel => exact ⟨5, by omega, by go_num, R6.out⟩
    case measure => simp [intOf]
 all_goals
  have hN := NumsAt.made w2 s y u v x
  have hB3 : Below w1.heap.size w1 (w2.alloc (.cells #[.int .u64 (s : Int), .int .u64 (y : Int), .int .u64 (u : Int), .int .u64 (v : Int), .int .u64 (x : Int)] 242)) := below_al hB2
  generalize w2.alloc (.cells #[.int .u64 (s : Int), .int .u64 (y : Int), .int .u64 (u : Int), .int .u64 (v : Int), .int .u64 (x : Int)] 242) = w3 at *
  have HN3 := Lib.hid hN
  have HBW : Hid (Below b0 w w3) := Lib.hid (HB1.out.trans (hB3.mono (by omega)))
  have HE3 := Lib.hid (HE1.out.below hB3)
  clear hN hB3 hB2 hC0 hC1 hC2 hC3 hC4 hC5 HN HF HB1 HE1
  go_wp2_with (first
   | (at_make; (refine wpList_make_own w3 rfl (.const (.int .i64 0)) (.tmp 19) 22 rfl w3.heap.size 5 i0 (.int .u8 0) 1 Tryz.underlying22 HI.out HZ0.out HZ1.out .i64 .i64 (41 : Int) 41 rfl rfl (by omega) hz2'.out (by unfold maxLen; omega) (Nat.le_refl _) ?_); (intro w4 hown hgrow; have B4 := Lib.hid ((Below.refl w3.heap.size w3).grown hgrow (Nat.le_refl _) (fun k hk => by cases hk)); have O4 : Hid (Own w4 w3.heap.size (.slice (some ⟨w3.heap.size, 0, none⟩) 0 41) 0 []) := Lib.hid ⟨fun x hx => by simp at hx, hown⟩; have hE4 := HE3.out.below B4.out; obtain ⟨hz4, he0, _⟩ := hE4; clear hown hgrow))
   | (at_builtin; (refine wpList_append_bytes (by rfl) (.tmp 21) (.tmp 25) (by rfl) w3.heap.size _ 0 [] (by rfl) (Own.alloc O4.out _) (some ⟨w4.heap.size, 0, none⟩) 1 1 [1] (by rfl) (AtB.one (by omega) (by simp)) (by omega) (by have := B4.out.size; simp; omega) ?_); (intro v5 w5 hown5 hgrow5; have R5 : Hid (EncRel w w3 1 [s, y, u, v, x] w5 v5 0) := Lib.hid ⟨hown5, (B4.out.alloc B4.out.size _).grown hgrow5 (by have := B4.out.size; simp; omega) (fun k hk => (O4.out.2.lt k hk).1)⟩; clear hown5 hgrow5)))
  clear he0 hz4 HE3 B4 O4
  go_loopw [6, 30] (fun vv i wr => ∃ j : Nat, j ≤ 5 ∧ i = .int .i64 j ∧ EncRel w w3 1 [s, y, u, v, x] wr vv j) (fun _ i _ => 5 - (intOf i).toNat)
  case atStart => exact ⟨0, Nat.zero_le _, rfl, R5.out⟩
  case round =>
   obtain ⟨j, hj, rfl, hrel⟩ := hrel
   have HR := Lib.hid hrel
   have hN4 := HN3.out.below hrel.2
   have hsz := hrel.2.size
   obtain ⟨hb4, hc0, hc1, hc2, hc3, hc4⟩ := hN4
   clear hrel R5
   have hj5 : j = 5 ∨ j = 0 ∨ j = 1 ∨ j = 2 ∨ j = 3 ∨ j = 4 := by omega
   rcases hj5 with rfl | rfl | rfl | rfl | rfl | rfl
   ·go_wp2_with fail
    go_ret2
    exact ⟨_, rfl, HR.out.1.lower HBW.out.size, by have h1 := HBW.out.size; have h2 := HBZ.out; rw [h2]; exact HBW.out.trans (HR.out.2.mono (by omega))⟩
   ·have O : Hid (Own wr w3.heap.size u6 (1 + 8 * 0) (encJ 1 [s, y, u, v, x] 0)) := Lib.hid HR.out.1
    go_wp2_with (go_at_call 214; (with_reducible refine (lay8_any _ w3.heap.size (1 + 8 * 0) (encJ 1 [s, y, u, v, x] 0) s hs _ O hsz (by omega)).mono ?_); rintro e w6 ⟨v6, rfl, hO6, hB6⟩; have R6 := Lib.hid (HR.out.step (z := s) (j := 0) rfl hO6 hB6); clear hO6 hB6)
    go_roundw
    case rel => exact ⟨1, by omega, by go_num, R6.out⟩
    case measure => simp [intOf]
   ·have O : Hid (Own wr w3.heap.size u6 (1 + 8 * 1) (encJ 1 [s, y, u, v, x] 1)) := Lib.hid HR.out.1
    go_wp2_with (go_at_call 214; (with_reducible refine (lay8_any _ w3.heap.size (1 + 8 * 1) (encJ 1 [s, y, u, v, x] 1) y hy _ O hsz (by omega)).mono ?_); rintro e w6 ⟨v6, rfl, hO6, hB6⟩; have R6 := Lib.hid (HR.out.step (z := y) (j := 1) rfl hO6 hB6); clear hO6 hB6)
    go_roundw
    case rel => exact ⟨2, by omega, by go_num, R6.out⟩
    case measure => simp [intOf]
   ·have O : Hid (Own wr w3.heap.size u6 (1 + 8 * 2) (encJ 1 [s, y, u, v, x] 2)) := Lib.hid HR.out.1
    go_wp2_with (go_at_call 214; (with_reducible refine (lay8_any _ w3.heap.size (1 + 8 * 2) (encJ 1 [s, y, u, v, x] 2) u hu _ O hsz (by omega)).mono ?_); rintro e w6 ⟨v6, rfl, hO6, hB6⟩; have R6 := Lib.hid (HR.out.step (z := u) (j := 2) rfl hO6 hB6); clear hO6 hB6)
    go_roundw
    case rel => exact ⟨3, by omega, by go_num, R6.out⟩
    case measure => simp [intOf]
   ·have O : Hid (Own wr w3.heap.size u6 (1 + 8 * 3) (encJ 1 [s, y, u, v, x] 3)) := Lib.hid HR.out.1
    go_wp2_with (go_at_call 214; (with_reducible refine (lay8_any _ w3.heap.size (1 + 8 * 3) (encJ 1 [s, y, u, v, x] 3) v hv _ O hsz (by omega)).mono ?_); rintro e w6 ⟨v6, rfl, hO6, hB6⟩; have R6 := Lib.hid (HR.out.step (z := v) (j := 3) rfl hO6 hB6); clear hO6 hB6)
    go_roundw
    case rel => exact ⟨4, by omega, by go_num, R6.out⟩
    case measure => simp [intOf]
   ·have O : Hid (Own wr w3.heap.size u6 (1 + 8 * 4) (encJ 1 [s, y, u, v, x] 4)) := Lib.hid HR.out.1
    go_wp2_with (go_at_call 214; (with_reducible refine (lay8_any _ w3.heap.size (1 + 8 * 4) (encJ 1 [s, y, u, v, x] 4) x hx _ O hsz (by omega)).mono ?_); rintro e w6 ⟨v6, rfl, hO6, hB6⟩; have R6 := Lib.hid (HR.out.step (z := x) (j := 4) rfl hO6 hB6); clear hO6 hB6)
    go_roundw
    case rel => exact ⟨5, by omega, by go_num, R6.out⟩
    case measure => simp [intOf]
set_option maxHeartbeats 2000000 in
theorem encode_death (s y u v x : Nat) (hs : s < 18446744073709551616) (hy : y < 18446744073709551616) (hu : u < 18446744073709551616) (hv : v < 18446744073709551616) (hx : x < 18446744073709551616) (h : (Ent.mk 2 s y u v x).mayB = true) (w : World) :
  Calls Tryz.prog 205 #[.agg #[.int .i64 2, .int .u64 (s : Int), .int .u64 (y : Int), .int .u64 (u : Int), .int .u64 (v : Int), .int .u64 (x : Int)]] w (EncPost w 9 (encJ 2 [s] 1)) := by
 have HM := fun w => may_any 2 s y u v x hy w
 rw [h] at HM
 have H := Lib.hid h
 clear h
 obtain ⟨i0, hi0, hz0, hz1, hz2⟩ := info_parts info5
 have HI := Lib.hid hi0
 have HZ0 := Lib.hid hz0
 have HZ1 := Lib.hid hz1
 have hz2' : Hid (i0.bytes * 9 ≤ 281474976710656) := Lib.hid (by rw [hz2]; omega)
 clear hi0 hz0 hz1 hz2
 go_enter Tryz.func205, Tryz.ntmps205
 go_wp2_with (go_at_call 211; (with_reducible refine (HM _).mono ?_); rintro e w1 ⟨rfl, hb1⟩; have HB1 := Lib.hid (below_box hb1); have hE1 := (EntAt.box w 2 s y u v x).below hb1; have HE1 := Lib.hid hE1; obtain ⟨hz1, _⟩ := hE1; clear hb1)
 have HN := fun w => numbersOf_any 2 s y u v x w
 have HF := fun w => fields_is 2 1 rfl w
 have hC0 : ∀ w', Below w1.heap.size w1 w' → w'.cell? ⟨w.heap.size, 0, none⟩ = some (.int .i64 2) := fun w' hb => (HE1.out.below hb).2.1
 have hC1 : ∀ w', Below w1.heap.size w1 w' → w'.cell? ⟨w.heap.size, 1, none⟩ = some (.int .u64 (s : Int)) := fun w' hb => (HE1.out.below hb).2.2.1
 have hC2 : ∀ w', Below w1.heap.size w1 w' → w'.cell? ⟨w.heap.size, 2, none⟩ = some (.int .u64 (y : Int)) := fun w' hb => (HE1.out.below hb).2.2.2.1
 have hC3 : ∀ w', Below w1.heap.size w1 w' → w'.cell? ⟨w.heap.size, 3, none⟩ = some (.int .u64 (u : Int)) := fun w' hb => (HE1.out.below hb).2.2.2.2.1
 have hC4 : ∀ w', Below w1.heap.size w1 w' → w'.cell? ⟨w.heap.size, 4, none⟩ = some (.int .u64 (v : Int)) := fun w' hb => (HE1.out.below hb).2.2.2.2.2.1
 have hC5 : ∀ w', Below w1.heap.size w1 w' → w'.cell? ⟨w.heap.size, 5, none⟩ = some (.int .u64 (x : Int)) := fun w' hb => (HE1.out.below hb).2.2.2.2.2.2
 clear HM
 have HB0 : Hid (w.heap.size = w.heap.size) := Lib.hid rfl
 revert HB0
 generalize hbz : w.heap.size = b0 at *
 intro HB0
 have HBZ := Lib.hid hbz
 clear hbz
 go_region_held3 (fun w' => Below w1.heap.size w1 w') (first | (with_reducible exact below_set5 (Nat.le_refl _) _ _ _ _ _ hB2) | (with_reducible exact Below.drew (below_set5 (Nat.le_refl _) _ _ _ _ _ hB2)) | assumption | (exact Below.drew (Below.refl _ _)) | (exact Below.drew (by assumption)) | (exact (fun h => Below.alloc h h.size _) (by assumption)))
  (first
   | (go_at_call 212; (with_reducible refine (HN _).mono ?_); rintro e w2 ⟨rfl, hb2⟩; have hB2 : Below w1.heap.size w1 w2 := below_step hb2 (by first | assumption | (exact Below.drew (Below.refl _ _)) | (exact Below.drew (by assumption))); (first | (with_reducible have hA := arr_kept hb2) | (with_reducible have hA := arr_kept' hb2)); have hA2 : ArrAt w2 w1.heap.size := hA; clear hA; obtain ⟨hz2, ⟨ha0, ha1, ha2, ha3, ha4⟩, hf0, hf1, hf2, hf3, hf4⟩ := hA2; clear hb2)
   | (go_at_call 212; (with_reducible refine (HN _).mono ?_); rintro e w2 ⟨rfl, hb2⟩; have hB2 : Below w1.heap.size w1 w2 := below_step hb2 (by first | assumption | (exact Below.drew (Below.refl _ _)) | (exact Below.drew (by assumption))); have hz2 := hb2.size; clear hb2)
   | (go_at_call 213; (with_reducible refine (HF _).mono ?_); rintro e w' ⟨rfl, rfl⟩))
 rotate_right
 ·have hN : NumsAt (((((w2.setCell ⟨w1.heap.size, 0, none⟩ (.int .u64 (s : Int))).setCell ⟨w1.heap.size, 1, none⟩ (.int .u64 (y : Int))).setCell ⟨w1.heap.size, 2, none⟩ (.int .u64 (u : Int))).setCell ⟨w1.heap.size, 3, none⟩ (.int .u64 (v : Int))).setCell ⟨w1.heap.size, 4, none⟩ (.int .u64 (x : Int))) w1.heap.size s y u v x := NumsAt.set hz2 ha0 ha1 ha2 ha3 ha4
  have hB3 : Below w1.heap.size w1 (((((w2.setCell ⟨w1.heap.size, 0, none⟩ (.int .u64 (s : Int))).setCell ⟨w1.heap.size, 1, none⟩ (.int .u64 (y : Int))).setCell ⟨w1.heap.size, 2, none⟩ (.int .u64 (u : Int))).setCell ⟨w1.heap.size, 3, none⟩ (.int .u64 (v : Int))).setCell ⟨w1.heap.size, 4, none⟩ (.int .u64 (x : Int))) := below_set5 (Nat.le_refl _) _ _ _ _ _ hB2
  generalize (((((w2.setCell ⟨w1.heap.size, 0, none⟩ (.int .u64 (s : Int))).setCell ⟨w1.heap.size, 1, none⟩ (.int .u64 (y : Int))).setCell ⟨w1.heap.size, 2, none⟩ (.int .u64 (u : Int))).setCell ⟨w1.heap.size, 3, none⟩ (.int .u64 (v : Int))).setCell ⟨w1.heap.size, 4, none⟩ (.int .u64 (x : Int))) = w3 at *
  clear hz2 ha0 ha1 ha2 ha3 ha4 hf0 hf1 hf2 hf3 hf4
  have HN3 := Lib.hid hN
  have HBW : Hid (Below b0 w w3) := Lib.hid (HB1.out.trans (hB3.mono (by omega)))
  have HE3 := Lib.hid (HE1.out.below hB3)
  clear hN hB3 hB2 hC0 hC1 hC2 hC3 hC4 hC5 HN HF HB1 HE1
  go_wp2_with (first
   | (at_make; (refine wpList_make_own w3 rfl (.const (.int .i64 0)) (.tmp 19) 22 rfl w3.heap.size 5 i0 (.int .u8 0) 1 Tryz.underlying22 HI.out HZ0.out HZ1.out .i64 .i64 (9 : Int) 9 rfl rfl (by omega) hz2'.out (by unfold maxLen; omega) (Nat.le_refl _) ?_); (intro w4 hown hgrow; have B4 := Lib.hid ((Below.refl w3.heap.size w3).grown hgrow (Nat.le_refl _) (fun k hk => by cases hk)); have O4 : Hid (Own w4 w3.heap.size (.slice (some ⟨w3.heap.size, 0, none⟩) 0 9) 0 []) := Lib.hid ⟨fun x hx => by simp at hx, hown⟩; have hE4 := HE3.out.below B4.out; obtain ⟨hz4, he0, _⟩ := hE4; clear hown hgrow))
   | (at_builtin; (refine wpList_append_bytes (by rfl) (.tmp 21) (.tmp 25) (by rfl) w3.heap.size _ 0 [] (by rfl) (Own.alloc O4.out _) (some ⟨w4.heap.size, 0, none⟩) 1 1 [2] (by rfl) (AtB.one (by omega) (by simp)) (by omega) (by have := B4.out.size; simp; omega) ?_); (intro v5 w5 hown5 hgrow5; have R5 : Hid (EncRel w w3 2 [s] w5 v5 0) := Lib.hid ⟨hown5, (B4.out.alloc B4.out.size _).grown hgrow5 (by have := B4.out.size; simp; omega) (fun k hk => (O4.out.2.lt k hk).1)⟩; clear hown5 hgrow5)))
  clear he0 hz4 HE3 B4 O4
  go_loopw [6, 30] (fun vv i wr => ∃ j : Nat, j ≤ 1 ∧ i = .int .i64 j ∧ EncRel w w3 2 [s] wr vv j) (fun _ i _ => 1 - (intOf i).toNat)
  case atStart => exact ⟨0, Nat.zero_le _, rfl, R5.out⟩
  case round =>
   obtain ⟨j, hj, rfl, hrel⟩ := hrel
   have HR := Lib.hid hrel
   have hN4 := HN3.out.below hrel.2
   have hsz := hrel.2.size
   obtain ⟨hb4, hc0, hc1, hc2, hc3, hc4⟩ := hN4
   clear hrel R5
   have hj5 : j = 1 ∨ j = 0 := by omega
   rcases hj5 with rfl | rfl
   ·go_wp2_with fail
    go_ret2
    exact ⟨_, rfl, HR.out.1.lower HBW.out.size, by have h1 := HBW.out.size; have h2 := HBZ.out; rw [h2]; exact HBW.out.trans (HR.out.2.mono (by omega))⟩
   ·have O : Hid (Own wr w3.heap.size u6 (1 + 8 * 0) (encJ 2 [s] 0)) := Lib.hid HR.out.1
    go_wp2_with (go_at_call 214; (with_reducible refine (lay8_any _ w3.heap.size (1 + 8 * 0) (encJ 2 [s] 0) s hs _ O hsz (by omega)).mono ?_); rintro e w6 ⟨v6, rfl, hO6, hB6⟩; have R6 := Lib.hid (HR.out.step (z := s) (j := 0) rfl hO6 hB6); clear hO6 hB6)
    go_roundw
    case rel => exact ⟨1, by omega, by go_num, R6.out⟩
    case measure => simp [intOf]
 all_goals
  have hN := NumsAt.made w2 s y u v x
  have hB3 : Below w1.heap.size w1 (w2.alloc (.cells #[.int .u64 (s : Int), .int .u64 (y : Int), .int .u64 (u : Int), .int .u64 (v : Int), .int .u64 (x : Int)] 242)) := below_al hB2
  generalize w2.alloc (.cells #[.int .u64 (s : Int), .int .u64 (y : Int), .int .u64 (u : Int), .int .u64 (v : Int), .int .u64 (x : Int)] 242) = w3 at *
  have HN3 := Lib.hid hN
  have HBW : Hid (Below b0 w w3) := Lib.hid (HB1.out.trans (hB3.mono (by omega)))
  have HE3 := Lib.hid (HE1.out.below hB3)
  clear hN hB3 hB2 hC0 hC1 hC2 hC3 hC4 hC5 HN HF HB1 HE1
  go_wp2_with (first
   | (at_make; (refine wpList_make_own w3 rfl (.const (.int .i64 0)) (.tmp 19) 22 rfl w3.heap.size 5 i0 (.int .u8 0) 1 Tryz.underlying22 HI.out HZ0.out HZ1.out .i64 .i64 (9 : Int) 9 rfl rfl (by omega) hz2'.out (by unfold maxLen; omega) (Nat.le_refl _) ?_); (intro w4 hown hgrow; have B4 := Lib.hid ((Below.refl w3.heap.size w3).grown hgrow (Nat.le_refl _) (fun k hk => by cases hk)); have O4 : Hid (Own w4 w3.heap.size (.slice (some ⟨w3.heap.size, 0, none⟩) 0 9) 0 []) := Lib.hid ⟨fun x hx => by simp at hx, hown⟩; have hE4 := HE3.out.below B4.out; obtain ⟨hz4, he0, _⟩ := hE4; clear hown hgrow))
   | (at_builtin; (refine wpList_append_bytes (by rfl) (.tmp 21) (.tmp 25) (by rfl) w3.heap.size _ 0 [] (by rfl) (Own.alloc O4.out _) (some ⟨w4.heap.size, 0, none⟩) 1 1 [2] (by rfl) (AtB.one (by omega) (by simp)) (by omega) (by have := B4.out.size; simp; omega) ?_); (intro v5 w5 hown5 hgrow5; have R5 : Hid (EncRel w w3 2 [s] w5 v5 0) := Lib.hid ⟨hown5, (B4.out.alloc B4.out.size _).grown hgrow5 (by have := B4.out.size; simp; omega) (fun k hk => (O4.out.2.lt k hk).1)⟩; clear hown5 hgrow5)))
  clear he0 hz4 HE3 B4 O4
  go_loopw [6, 30] (fun vv i wr => ∃ j : Nat, j ≤ 1 ∧ i = .int .i64 j ∧ EncRel w w3 2 [s] wr vv j) (fun _ i _ => 1 - (intOf i).toNat)
  case atStart => exact ⟨0, Nat.zero_le _, rfl, R5.out⟩
  case round =>
   obtain ⟨j, hj, rfl, hrel⟩ := hrel
   have HR := Lib.hid hrel
   have hN4 := HN3.out.below hrel.2
   have hsz := hrel.2.size
   obtain ⟨hb4, hc0, hc1, hc2, hc3, hc4⟩ := hN4
   clear hrel R5
   have hj5 : j = 1 ∨ j = 0 := by omega
   rcases hj5 with rfl | rfl
   ·go_wp2_with fail
    go_ret2
    exact ⟨_, rfl, HR.out.1.lower HBW.out.size, by have h1 := HBW.out.size; have h2 := HBZ.out; rw [h2]; exact HBW.out.trans (HR.out.2.mono (by omega))⟩
   ·have O : Hid (Own wr w3.heap.size u6 (1 + 8 * 0) (encJ 2 [s] 0)) := Lib.hid HR.out.1
    go_wp2_with (go_at_call 214; (with_reducible refine (lay8_any _ w3.heap.size (1 + 8 * 0) (encJ 2 [s] 0) s hs _ O hsz (by omega)).mono ?_); rintro e w6 ⟨v6, rfl, hO6, hB6⟩; have R6 := Lib.hid (HR.out.step (z := s) (j := 0) rfl hO6 hB6); clear hO6 hB6)
    go_roundw
    case rel => exact ⟨1, by omega, by go_num, R6.out⟩
    case measure => simp [intOf]
set_option maxHeartbeats 2000000 in
theorem encode_head (s y u v x : Nat) (hs : s < 18446744073709551616) (hy : y < 18446744073709551616) (hu : u < 18446744073709551616) (hv : v < 18446744073709551616) (hx : x < 18446744073709551616) (h : (Ent.mk 3 s y u v x).mayB = true) (w : World) :
  Calls Tryz.prog 205 #[.agg #[.int .i64 3, .int .u64 (s : Int), .int .u64 (y : Int), .int .u64 (u : Int), .int .u64 (v : Int), .int .u64 (x : Int)]] w (EncPost w 9 (encJ 3 [s] 1)) := by
 have HM := fun w => may_any 3 s y u v x hy w
 rw [h] at HM
 have H := Lib.hid h
 clear h
 obtain ⟨i0, hi0, hz0, hz1, hz2⟩ := info_parts info5
 have HI := Lib.hid hi0
 have HZ0 := Lib.hid hz0
 have HZ1 := Lib.hid hz1
 have hz2' : Hid (i0.bytes * 9 ≤ 281474976710656) := Lib.hid (by rw [hz2]; omega)
 clear hi0 hz0 hz1 hz2
 go_enter Tryz.func205, Tryz.ntmps205
 go_wp2_with (go_at_call 211; (with_reducible refine (HM _).mono ?_); rintro e w1 ⟨rfl, hb1⟩; have HB1 := Lib.hid (below_box hb1); have hE1 := (EntAt.box w 3 s y u v x).below hb1; have HE1 := Lib.hid hE1; obtain ⟨hz1, _⟩ := hE1; clear hb1)
 have HN := fun w => numbersOf_any 3 s y u v x w
 have HF := fun w => fields_is 3 1 rfl w
 have hC0 : ∀ w', Below w1.heap.size w1 w' → w'.cell? ⟨w.heap.size, 0, none⟩ = some (.int .i64 3) := fun w' hb => (HE1.out.below hb).2.1
 have hC1 : ∀ w', Below w1.heap.size w1 w' → w'.cell? ⟨w.heap.size, 1, none⟩ = some (.int .u64 (s : Int)) := fun w' hb => (HE1.out.below hb).2.2.1
 have hC2 : ∀ w', Below w1.heap.size w1 w' → w'.cell? ⟨w.heap.size, 2, none⟩ = some (.int .u64 (y : Int)) := fun w' hb => (HE1.out.below hb).2.2.2.1
 have hC3 : ∀ w', Below w1.heap.size w1 w' → w'.cell? ⟨w.heap.size, 3, none⟩ = some (.int .u64 (u : Int)) := fun w' hb => (HE1.out.below hb).2.2.2.2.1
 have hC4 : ∀ w', Below w1.heap.size w1 w' → w'.cell? ⟨w.heap.size, 4, none⟩ = some (.int .u64 (v : Int)) := fun w' hb => (HE1.out.below hb).2.2.2.2.2.1
 have hC5 : ∀ w', Below w1.heap.size w1 w' → w'.cell? ⟨w.heap.size, 5, none⟩ = some (.int .u64 (x : Int)) := fun w' hb => (HE1.out.below hb).2.2.2.2.2.2
 clear HM
 have HB0 : Hid (w.heap.size = w.heap.size) := Lib.hid rfl
 revert HB0
 generalize hbz : w.heap.size = b0 at *
 intro HB0
 have HBZ := Lib.hid hbz
 clear hbz
 go_region_held3 (fun w' => Below w1.heap.size w1 w') (first | (with_reducible exact below_set5 (Nat.le_refl _) _ _ _ _ _ hB2) | (with_reducible exact Below.drew (below_set5 (Nat.le_refl _) _ _ _ _ _ hB2)) | assumption | (exact Below.drew (Below.refl _ _)) | (exact Below.drew (by assumption)) | (exact (fun h => Below.alloc h h.size _) (by assumption)))
  (first
   | (go_at_call 212; (with_reducible refine (HN _).mono ?_); rintro e w2 ⟨rfl, hb2⟩; have hB2 : Below w1.heap.size w1 w2 := below_step hb2 (by first | assumption | (exact Below.drew (Below.refl _ _)) | (exact Below.drew (by assumption))); (first | (with_reducible have hA := arr_kept hb2) | (with_reducible have hA := arr_kept' hb2)); have hA2 : ArrAt w2 w1.heap.size := hA; clear hA; obtain ⟨hz2, ⟨ha0, ha1, ha2, ha3, ha4⟩, hf0, hf1, hf2, hf3, hf4⟩ := hA2; clear hb2)
   | (go_at_call 212; (with_reducible refine (HN _).mono ?_); rintro e w2 ⟨rfl, hb2⟩; have hB2 : Below w1.heap.size w1 w2 := below_step hb2 (by first | assumption | (exact Below.drew (Below.refl _ _)) | (exact Below.drew (by assumption))); have hz2 := hb2.size; clear hb2)
   | (go_at_call 213; (with_reducible refine (HF _).mono ?_); rintro e w' ⟨rfl, rfl⟩))
 rotate_right
 ·have hN : NumsAt (((((w2.setCell ⟨w1.heap.size, 0, none⟩ (.int .u64 (s : Int))).setCell ⟨w1.heap.size, 1, none⟩ (.int .u64 (y : Int))).setCell ⟨w1.heap.size, 2, none⟩ (.int .u64 (u : Int))).setCell ⟨w1.heap.size, 3, none⟩ (.int .u64 (v : Int))).setCell ⟨w1.heap.size, 4, none⟩ (.int .u64 (x : Int))) w1.heap.size s y u v x := NumsAt.set hz2 ha0 ha1 ha2 ha3 ha4
  have hB3 : Below w1.heap.size w1 (((((w2.setCell ⟨w1.heap.size, 0, none⟩ (.int .u64 (s : Int))).setCell ⟨w1.heap.size, 1, none⟩ (.int .u64 (y : Int))).setCell ⟨w1.heap.size, 2, none⟩ (.int .u64 (u : Int))).setCell ⟨w1.heap.size, 3, none⟩ (.int .u64 (v : Int))).setCell ⟨w1.heap.size, 4, none⟩ (.int .u64 (x : Int))) := below_set5 (Nat.le_refl _) _ _ _ _ _ hB2
  generalize (((((w2.setCell ⟨w1.heap.size, 0, none⟩ (.int .u64 (s : Int))).setCell ⟨w1.heap.size, 1, none⟩ (.int .u64 (y : Int))).setCell ⟨w1.heap.size, 2, none⟩ (.int .u64 (u : Int))).setCell ⟨w1.heap.size, 3, none⟩ (.int .u64 (v : Int))).setCell ⟨w1.heap.size, 4, none⟩ (.int .u64 (x : Int))) = w3 at *
  clear hz2 ha0 ha1 ha2 ha3 ha4 hf0 hf1 hf2 hf3 hf4
  have HN3 := Lib.hid hN
  have HBW : Hid (Below b0 w w3) := Lib.hid (HB1.out.trans (hB3.mono (by omega)))
  have HE3 := Lib.hid (HE1.out.below hB3)
  clear hN hB3 hB2 hC0 hC1 hC2 hC3 hC4 hC5 HN HF HB1 HE1
  go_wp2_with (first
   | (at_make; (refine wpList_make_own w3 rfl (.const (.int .i64 0)) (.tmp 19) 22 rfl w3.heap.size 5 i0 (.int .u8 0) 1 Tryz.underlying22 HI.out HZ0.out HZ1.out .i64 .i64 (9 : Int) 9 rfl rfl (by omega) hz2'.out (by unfold maxLen; omega) (Nat.le_refl _) ?_); (intro w4 hown hgrow; have B4 := Lib.hid ((Below.refl w3.heap.size w3).grown hgrow (Nat.le_refl _) (fun k hk => by cases hk)); have O4 : Hid (Own w4 w3.heap.size (.slice (some ⟨w3.heap.size, 0, none⟩) 0 9) 0 []) := Lib.hid ⟨fun x hx => by simp at hx, hown⟩; have hE4 := HE3.out.below B4.out; obtain ⟨hz4, he0, _⟩ := hE4; clear hown hgrow))
   | (at_builtin; (refine wpList_append_bytes (by rfl) (.tmp 21) (.tmp 25) (by rfl) w3.heap.size _ 0 [] (by rfl) (Own.alloc O4.out _) (some ⟨w4.heap.size, 0, none⟩) 1 1 [3] (by rfl) (AtB.one (by omega) (by simp)) (by omega) (by have := B4.out.size; simp; omega) ?_); (intro v5 w5 hown5 hgrow5; have R5 : Hid (EncRel w w3 3 [s] w5 v5 0) := Lib.hid ⟨hown5, (B4.out.alloc B4.out.size _).grown hgrow5 (by have := B4.out.size; simp; omega) (fun k hk => (O4.out.2.lt k hk).1)⟩; clear hown5 hgrow5)))
  clear he0 hz4 HE3 B4 O4
  go_loopw [6, 30] (fun vv i wr => ∃ j : Nat, j ≤ 1 ∧ i = .int .i64 j ∧ EncRel w w3 3 [s] wr vv j) (fun _ i _ => 1 - (intOf i).toNat)
  case atStart => exact ⟨0, Nat.zero_le _, rfl, R5.out⟩
  case round =>
   obtain ⟨j, hj, rfl, hrel⟩ := hrel
   have HR := Lib.hid hrel
   have hN4 := HN3.out.below hrel.2
   have hsz := hrel.2.size
   obtain ⟨hb4, hc0, hc1, hc2, hc3, hc4⟩ := hN4
   clear hrel R5
   have hj5 : j = 1 ∨ j = 0 := by omega
   rcases hj5 with rfl | rfl
   ·go_wp2_with fail
    go_ret2
    exact ⟨_, rfl, HR.out.1.lower HBW.out.size, by have h1 := HBW.out.size; have h2 := HBZ.out; rw [h2]; exact HBW.out.trans (HR.out.2.mono (by omega))⟩
   ·have O : Hid (Own wr w3.heap.size u6 (1 + 8 * 0) (encJ 3 [s] 0)) := Lib.hid HR.out.1
    go_wp2_with (go_at_call 214; (with_reducible refine (lay8_any _ w3.heap.size (1 + 8 * 0) (encJ 3 [s] 0) s hs _ O hsz (by omega)).mono ?_); rintro e w6 ⟨v6, rfl, hO6, hB6⟩; have R6 := Lib.hid (HR.out.step (z := s) (j := 0) rfl hO6 hB6); clear hO6 hB6)
    go_roundw
    case rel => exact ⟨1, by omega, by go_num, R6.out⟩
    case measure => simp [intOf]
 all_goals
  have hN := NumsAt.made w2 s y u v x
  have hB3 : Below w1.heap.size w1 (w2.alloc (.cells #[.int .u64 (s : Int), .int .u64 (y : Int), .int .u64 (u : Int), .int .u64 (v : Int), .int .u64 (x : Int)] 242)) := below_al hB2
  generalize w2.alloc (.cells #[.int .u64 (s : Int), .int .u64 (y : Int), .int .u64 (u : Int), .int .u64 (v : Int), .int .u64 (x : Int)] 242) = w3 at *
  have HN3 := Lib.hid hN
  have HBW : Hid (Below b0 w w3) := Lib.hid (HB1.out.trans (hB3.mono (by omega)))
  have HE3 := Lib.hid (HE1.out.below hB3)
  clear hN hB3 hB2 hC0 hC1 hC2 hC3 hC4 hC5 HN HF HB1 HE1
  go_wp2_with (first
   | (at_make; (refine wpList_make_own w3 rfl (.const (.int .i64 0)) (.tmp 19) 22 rfl w3.heap.size 5 i0 (.int .u8 0) 1 Tryz.underlying22 HI.out HZ0.out HZ1.out .i64 .i64 (9 : Int) 9 rfl rfl (by omega) hz2'.out (by unfold maxLen; omega) (Nat.le_refl _) ?_); (intro w4 hown hgrow; have B4 := Lib.hid ((Below.refl w3.heap.size w3).grown hgrow (Nat.le_refl _) (fun k hk => by cases hk)); have O4 : Hid (Own w4 w3.heap.size (.slice (some ⟨w3.heap.size, 0, none⟩) 0 9) 0 []) := Lib.hid ⟨fun x hx => by simp at hx, hown⟩; have hE4 := HE3.out.below B4.out; obtain ⟨hz4, he0, _⟩ := hE4; clear hown hgrow))
   | (at_builtin; (refine wpList_append_bytes (by rfl) (.tmp 21) (.tmp 25) (by rfl) w3.heap.size _ 0 [] (by rfl) (Own.alloc O4.out _) (some ⟨w4.heap.size, 0, none⟩) 1 1 [3] (by rfl) (AtB.one (by omega) (by simp)) (by omega) (by have := B4.out.size; simp; omega) ?_); (intro v5 w5 hown5 hgrow5; have R5 : Hid (EncRel w w3 3 [s] w5 v5 0) := Lib.hid ⟨hown5, (B4.out.alloc B4.out.size _).grown hgrow5 (by have := B4.out.size; simp; omega) (fun k hk => (O4.out.2.lt k hk).1)⟩; clear hown5 hgrow5)))
  clear he0 hz4 HE3 B4 O4
  go_loopw [6, 30] (fun vv i wr => ∃ j : Nat, j ≤ 1 ∧ i = .int .i64 j ∧ EncRel w w3 3 [s] wr vv j) (fun _ i _ => 1 - (intOf i).toNat)
  case atStart => exact ⟨0, Nat.zero_le _, rfl, R5.out⟩
  case round =>
   obtain ⟨j, hj, rfl, hrel⟩ := hrel
   have HR := Lib.hid hrel
   have hN4 := HN3.out.below hrel.2
   have hsz := hrel.2.size
   obtain ⟨hb4, hc0, hc1, hc2, hc3, hc4⟩ := hN4
   clear hrel R5
   have hj5 : j = 1 ∨ j = 0 := by omega
   rcases hj5 with rfl | rfl
   ·go_wp2_with fail
    go_ret2
    exact ⟨_, rfl, HR.out.1.lower HBW.out.size, by have h1 := HBW.out.size; have h2 := HBZ.out; rw [h2]; exact HBW.out.trans (HR.out.2.mono (by omega))⟩
   ·have O : Hid (Own wr w3.heap.size u6 (1 + 8 * 0) (encJ 3 [s] 0)) := Lib.hid HR.out.1
    go_wp2_with (go_at_call 214; (with_reducible refine (lay8_any _ w3.heap.size (1 + 8 * 0) (encJ 3 [s] 0) s hs _ O hsz (by omega)).mono ?_); rintro e w6 ⟨v6, rfl, hO6, hB6⟩; have R6 := Lib.hid (HR.out.step (z := s) (j := 0) rfl hO6 hB6); clear hO6 hB6)
    go_roundw
    case rel => exact ⟨1, by omega, by go_num, R6.out⟩
    case measure => simp [intOf]
end Go.Proofs.YtibpfkcackdbgaaGreatDoor
namespace Go.Proofs.YtibpfkcackdbgaaGreatDoor
open Go.ChangeShapes Go.WideShapes Go.ChangeAt Go.RowKit
set_option linter.unusedVariables false
set_option maxRecDepth 100000
def numsV (L : List Nat) (j : Nat) : List Value := (L.take j).map (fun z : Nat => Value.int .u64 (z : Int)) ++ List.replicate (5 - j) (.int .u64 0)
def DecRel (w : World) (L : List Nat) (wr : World) (j : Nat) : Prop :=
 Below w.heap.size w wr ∧ VarAt wr w.heap.size [.int .i64 0, .int .u64 0, .int .u64 0, .int .u64 0, .int .u64 0, .int .u64 0] ∧ VarAt wr (w.heap.size + 1) (numsV L j)
theorem DecRel.start (w : World) (L : List Nat) (n : Nat) (o : Obj) (ho : o = .cells #[.int .i64 0, .int .u64 0, .int .u64 0, .int .u64 0, .int .u64 0, .int .u64 0] 95) :
  DecRel w L (((w.alloc o).drewN n).alloc arrO) 0 := by
 subst ho
 refine ⟨below_al (below_quiet (below_al (Below.refl _ _)) n), ?_, ?_⟩
 ·exact ((VarAt.made w _ _).drewN n).below ((Below.refl _ _).alloc (Nat.le_refl _) _)
 ·have := VarAt.made ((w.alloc (.cells #[.int .i64 0, .int .u64 0, .int .u64 0, .int .u64 0, .int .u64 0, .int .u64 0] 95)).drewN n) #[.int .u64 0, .int .u64 0, .int .u64 0, .int .u64 0, .int .u64 0] 242
  have e : ((w.alloc (.cells #[.int .i64 0, .int .u64 0, .int .u64 0, .int .u64 0, .int .u64 0, .int .u64 0] 95)).drewN n).heap.size = w.heap.size + 1 := by simp [World.drewN]
  rw [e] at this
  exact this
theorem DecRel.step {w wr : World} {L : List Nat} {j z : Nat} (h : DecRel w L wr j) (hj : L[j]? = some z) (hj5 : j < 5) : DecRel w L (wr.setCell ⟨w.heap.size + 1, j, none⟩ (.int .u64 (z : Int))) (j + 1) := by
 have hl : j < L.length := (List.getElem?_eq_some_iff.1 hj).1
 have hz : L[j] = z := (List.getElem?_eq_some_iff.1 hj).2
 refine ⟨h.1.setCell (by simp) _, h.2.1.apart _ _ (by omega), ?_⟩
 have := h.2.2.setAt j (.int .u64 (z : Int)) (by simp [numsV]; omega)
 have e : (numsV L j).set j (.int .u64 (z : Int)) = numsV L (j + 1) := by
  unfold numsV
  have ht : ((L.take j).map (fun z : Nat => Value.int .u64 (z : Int))).length = j := by simp; omega
  rw [List.set_append_right _ _ (by omega), ht, Nat.sub_self, List.take_succ_eq_append_getElem hl, hz]
  obtain ⟨m, hm⟩ : ∃ m, 5 - j = m + 1 := ⟨4 - j, by omega⟩
  rw [hm, List.replicate_succ, List.set_cons_zero, show 5 - (j + 1) = m by omega]
  simp
 rw [e] at this
 exact this
end Go.Proofs.YtibpfkcackdbgaaGreatDoor
namespace Go.Proofs.YtibpfkcackdbgaaGreatDoor
open Go.ChangeShapes Go.WideShapes Go.ChangeAt Go.RowKit
set_option linter.unusedVariables false
set_option maxRecDepth 100000
theorem encode_yes (k : Int) (s y u v x : Nat) (hf : (Ent.mk k s y u v x).fit) (h : (Ent.mk k s y u v x).mayB = true) (n : Nat) (ys : List Nat) (hn : (Ent.mk k s y u v x).bytes.length = n) (hy : (Ent.mk k s y u v x).bytes = ys) (w : World) :
  Calls Tryz.prog 205 #[.agg #[.int .i64 k, .int .u64 (s : Int), .int .u64 (y : Int), .int .u64 (u : Int), .int .u64 (v : Int), .int .u64 (x : Int)]] w (EncPost w n ys) := by
 obtain ⟨f1, f2, f3, f4, f5⟩ := hf
 have hm : (Ent.mk k s y u v x).may := of_decide_eq_true h
 subst hn hy
 rw [Ent.bytes_length]
 rcases Ent.kinds hm with h1 | h1 | h1
 ·simp only at h1
  subst h1
  have := encode_birth s y u v x f1 f2 f3 f4 f5 h w
  have e : encJ 1 [s, y, u, v, x] 5 = (Ent.mk 1 s y u v x).bytes := by simp [encJ, Ent.bytes]
  rw [e] at this
  exact this
 ·simp only at h1
  subst h1
  have := encode_death s y u v x f1 f2 f3 f4 f5 h w
  have e : encJ 2 [s] 1 = (Ent.mk 2 s y u v x).bytes := by simp [encJ, Ent.bytes]
  rw [e] at this
  exact this
 ·simp only at h1
  subst h1
  have := encode_head s y u v x f1 f2 f3 f4 f5 h w
  have e : encJ 3 [s] 1 = (Ent.mk 3 s y u v x).bytes := by simp [encJ, Ent.bytes]
  rw [e] at this
  exact this
end Go.Proofs.YtibpfkcackdbgaaGreatDoor
