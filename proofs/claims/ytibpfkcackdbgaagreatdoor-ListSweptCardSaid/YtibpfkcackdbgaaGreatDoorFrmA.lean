/- FrmA -/
import Derived.Test.YtibpfkcackdbgaaGreatDoorCrcA
import Derived.Test.YtibpfkcackdbgaaGreatDoorBase
import Derived.Lib.SliceRun
namespace Go.Proofs.YtibpfkcackdbgaaGreatDoor
def cntN (s : List Nat) : Nat := numN (s.take 2)
def fSumN (s : List Nat) : Nat := numN ((s.drop 2).take 4)
def bodyN (s : List Nat) : List Nat := (s.drop 6).take (cntN s)
def Stands (s : List Nat) : Prop := 6 ≤ s.length ∧ 1 ≤ cntN s ∧ cntN s + 6 ≤ s.length ∧ moreN 0 (bodyN s) = fSumN s
instance (s : List Nat) : Decidable (Stands s) := by unfold Stands; infer_instance
def frameN (b : List Nat) : List Nat := leN 2 b.length ++ (leN 4 (moreN 0 b) ++ b)
def May (b : List Nat) : Prop := 1 ≤ b.length ∧ b.length ≤ 65535 ∧ Bytes b
theorem frame_length (b : List Nat) : (frameN b).length = b.length + 6 := by simp [frameN, leN_length]; omega
theorem Bytes.drop {xs : List Nat} (h : Bytes xs) (k : Nat) : Bytes (xs.drop k) := fun x hx => h x (List.mem_of_mem_drop hx)
end Go.Proofs.YtibpfkcackdbgaaGreatDoor
namespace Go.Proofs.YtibpfkcackdbgaaGreatDoor
open Go.ChangeShapes Go.WideShapes Go.ChangeAt Go.RowKit
set_option linter.unusedVariables false
set_option maxRecDepth 100000
set_option maxHeartbeats 1000000 in
theorem lay_any (v : Value) (base m : Nat) (xs : List Nat) (x n : Nat) (hx : x < 4294967296) (w : World) (hown : Hid (Own w base v m xs)) (hbase : base ≤ w.heap.size) (hb : m + n ≤ 140737488355328) :
  Calls Tryz.prog 215 #[v, .int .u32 (x : Int), .int .i64 (n : Int)] w (OwnPost w base (m + n) (xs ++ leN n x)) := by
 go_enter Tryz.func215, Tryz.ntmps215
 go_wp2_with fail
 go_loopw [0, 1, 8] (fun u y i wr => ∃ k : Nat, k ≤ n ∧ i = .int .i64 k ∧ y = .int .u32 ((shN k x : Nat) : Int) ∧ LayRel w base m xs x wr u k) (fun _ _ i _ => n - (intOf i).toNat)
 case atStart => exact ⟨0, Nat.zero_le _, rfl, by rw [shN_zero], by show Own _ _ _ (m + 0) (xs ++ []); rw [List.append_nil]; exact hown.out, Below.refl _ _⟩
 case round =>
  obtain ⟨k, hk, rfl, rfl, hrel⟩ := hrel
  have HR := Lib.hid hrel
  have hsz := hrel.2.size
  clear hrel hown
  by_cases hlt : k < n
  ·have hs := shN_le k x
   have hs2 := Lib.hid (shN_succ k x)
   have S1 : Hid (Own wr base u0 (m + k) (xs ++ leN k x)) := Lib.hid HR.out.1
   generalize hq : shN k x = q at *
   have hq' := Lib.hid hq
   clear hq
   go_wp2_with (at_builtin; (refine wpList_append_bytes (by rfl) (.tmp 10) (.tmp 13) (by rfl) base u0 (m + k) (xs ++ leN k x) (by rfl) (Own.alloc S1.out _) (some ⟨wr.heap.size, 0, none⟩) 1 1 [q % 256] (by rfl) (AtB.one (by omega) (by simp)) (by omega) (by simp; omega) ?_); (intro v' w' hown' hgrow'; have S := Lib.hid (HR.out.step hbase (by rw [hq'.out]; exact hown') hgrow'); clear hown' hgrow'))
   go_roundw
   case rel => exact ⟨k + 1, by omega, by go_num, by rw [hs2.out]; go_num, S.out⟩
   case measure => simp [intOf]; omega
  ·obtain rfl : k = n := by omega
   go_wp2_with fail
   go_ret
   exact ⟨u0, rfl, HR.out.1, HR.out.2⟩
theorem lay2 (v : Value) (base m : Nat) (xs : List Nat) (x : Nat) (hx : x < 4294967296) (w : World) (hown : Hid (Own w base v m xs)) (hbase : base ≤ w.heap.size) (hb : m + 2 ≤ 140737488355328) :
  Calls Tryz.prog 215 #[v, .int .u32 (x : Int), .int .i64 2] w (OwnPost w base (m + 2) (xs ++ leN 2 x)) := lay_any v base m xs x 2 hx w hown hbase hb
theorem lay4 (v : Value) (base m : Nat) (xs : List Nat) (x : Nat) (hx : x < 4294967296) (w : World) (hown : Hid (Own w base v m xs)) (hbase : base ≤ w.heap.size) (hb : m + 4 ≤ 140737488355328) :
  Calls Tryz.prog 215 #[v, .int .u32 (x : Int), .int .i64 4] w (OwnPost w base (m + 4) (xs ++ leN 4 x)) := lay_any v base m xs x 4 hx w hown hbase hb
def PutPost (w : World) (n : Nat) (xs : List Nat) (e : Ending) (w' : World) : Prop := ∃ v, e = .returned (.tuple #[v, .int .i64 0]) ∧ Own w' w.heap.size v n xs ∧ Below w.heap.size w w'
theorem put_no (A : Option Addr) (len cap : Nat) (h : len < 1 ∨ 65535 < len) (w : World) :
  Calls Tryz.prog 206 #[.slice A len cap] w fun e w' => e = .returned (.tuple #[.slice none 0 0, .int .i64 1]) ∧ w = w' := by
 rcases h with h | h
 ·obtain rfl : len = 0 := by omega
  go_enter Tryz.func206, Tryz.ntmps206
  go_wp2_with fail
  go_ret2
  exact ⟨rfl, rfl⟩
 ·have d1 : ((len : Int) == 0) = false := by rw [beq_eq_false_iff_ne]; omega
  have d2 : decide ((65535 : Int) < (len : Int)) = true := by rw [decide_eq_true_iff]; omega
  go_enter Tryz.func206, Tryz.ntmps206
  go_wp2_with fail
  go_ret2
  exact ⟨rfl, rfl⟩
set_option maxHeartbeats 1000000 in
theorem put_yes (A : Option Addr) (len cap : Nat) (xs : List Nat) (h1 : 1 ≤ len) (h2 : len ≤ 65535) (w : World) (hT : Hid (Tab w)) (hA : Hid (AtB w A len xs)) (m : Nat) (lm : m < 4294967296) (hm : Hid (moreN 0 xs = m)) :
  Calls Tryz.prog 206 #[.slice A len cap] w (PutPost w (len + 6) (frameN xs)) := by
 have d1 : ((len : Int) == 0) = false := by rw [beq_eq_false_iff_ne]; omega
 have d2 : decide ((65535 : Int) < (len : Int)) = false := by rw [decide_eq_false_iff_not]; omega
 have HF : Hid ([] ++ leN 2 len ++ leN 4 m ++ xs = frameN xs) := Lib.hid (by rw [frameN, hA.out.1, hm.out]; simp)
 obtain ⟨i0, hi0, hz0, hz1, hz2⟩ := info_parts info5
 have HI := Lib.hid hi0
 have HZ0 := Lib.hid hz0
 have HZ1 := Lib.hid hz1
 have hz2' : i0.bytes * (6 + len) ≤ 281474976710656 := by rw [hz2]; omega
 clear hi0 hz0 hz1 hz2
 go_enter Tryz.func206, Tryz.ntmps206
 go_wp2_with (first
  | (at_make; (refine wpList_make_own w rfl (.const (.int .i64 0)) (.tmp 15) 22 rfl w.heap.size 5 i0 (.int .u8 0) 1 Tryz.underlying22 HI.out HZ0.out HZ1.out .i64 .i64 (6 + (len : Int)) (6 + len) rfl rfl (by omega) hz2' (by unfold maxLen; omega) (Nat.le_refl _) ?_); (intro w1 hown hgrow; have B1 := Lib.hid ((Below.refl w.heap.size w).grown hgrow (Nat.le_refl _) (fun k hk => by cases hk)); have O1 : Hid (Own w1 w.heap.size (.slice (some ⟨w.heap.size, 0, none⟩) 0 (6 + len)) 0 []) := Lib.hid ⟨fun x hx => by simp at hx, hown⟩; clear hown hgrow)))
 (with_reducible refine (lay2 _ w.heap.size 0 [] len (by omega) w1 O1 B1.out.size (by omega)).mono ?_)
 rintro e w2 ⟨v2, rfl, hO2, hB2⟩
 have B2 := Lib.hid (B1.out.trans hB2)
 have O2 := Lib.hid hO2
 have T2 := Lib.hid (hT.out.below B2.out hT.out.pos)
 have A2 := Lib.hid (AtB.later hA B2.out)
 clear hO2 hB2
 go_wp2_with fail
 (with_reducible refine (sum_is' A len cap xs m _ T2 A2.out hm.out).mono ?_)
 rintro e w' ⟨rfl, rfl⟩
 go_wp2_with fail
 (with_reducible refine (lay4 _ w.heap.size _ _ m lm w2 O2 B2.out.size (by omega)).mono ?_)
 rintro e w3 ⟨v3, rfl, hO3, hB3⟩
 have B3 := Lib.hid (B2.out.trans hB3)
 have O3 := Lib.hid hO3
 have A3 := Lib.hid (AtB.later hA B3.out)
 clear hO3 hB3
 go_wp2_with (at_builtin; (refine wpList_append_bytes (by rfl) (.tmp 26) (.tmp 27) (by rfl) w.heap.size v3 _ _ (by rfl) O3.out A len cap xs (by rfl) A3.out (by omega) B3.out.size ?_); (intro v4 w4 hown4 hgrow4; have B4 := Lib.hid (B3.out.grown hgrow4 B3.out.size (fun k hk => (O3.out.2.lt k hk).1)); have O4 := Lib.hid hown4; clear hown4 hgrow4))
 go_ret2
 exact ⟨v4, rfl, by have := O4.out; rwa [HF.out, show 0 + 2 + 4 + len = len + 6 by omega] at this, B4.out⟩
theorem put_at (A : Option Addr) (len cap : Nat) (xs : List Nat) (h1 : 1 ≤ len) (h2 : len ≤ 65535) (w : World) (hT : Hid (Tab w)) (hA : Hid (AtB w A len xs)) :
  Calls Tryz.prog 206 #[.slice A len cap] w (PutPost w (len + 6) (frameN xs)) := put_yes A len cap xs h1 h2 w hT hA _ (more_lt 0 xs) (Lib.hid rfl)
end Go.Proofs.YtibpfkcackdbgaaGreatDoor
