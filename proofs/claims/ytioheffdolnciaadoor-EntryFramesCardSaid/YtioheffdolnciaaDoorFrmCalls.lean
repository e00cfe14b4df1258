/-
  The contracts of the functions of layer 4 (frames) that make and read one frame: lay, number, first, Put; and of the library's Clone.
-/
import Derived.Test.YtioheffdolnciaaDoorCrcCalls
import Derived.Test.YtioheffdolnciaaDoorFrm
import Derived.Test.YtioheffdolnciaaDoorOwns
import Derived.Lib.SliceRun
namespace Go.Proofs.YtioheffdolnciaaDoor
open Go.ChangeShapes Go.WideShapes Go.ChangeAt Go.RowKit
set_option linter.unusedVariables false

set_option maxHeartbeats 1000000 in
theorem lay_any (v : Value) (base m : Nat) (xs : List Nat) (x n : Nat) (hx : x < 4294967296) (w : World) (hown : Hid (Own w base v m xs)) (hbase : base ≤ w.heap.size) (hb : m + n ≤ 140737488355328) :
    Calls Tryd.prog 16 #[v, .int .u32 (x : Int), .int .i64 (n : Int)] w (OwnPost w base (m + n) (xs ++ leN n x)) := by
  go_enter Tryd.func16, Tryd.ntmps16
  go_wp2_with fail
  go_loopw [0, 1, 8] (fun u y i wr => ∃ k : Nat, k ≤ n ∧ i = .int .i64 k ∧ y = .int .u32 ((shN k x : Nat) : Int) ∧ LayRel w base m xs x wr u k) (fun _ _ i _ => n - (intOf i).toNat)
  case atStart => exact ⟨0, Nat.zero_le _, rfl, by rw [shN_zero], by show Own _ _ _ (m + 0) (xs ++ []); rw [List.append_nil]; exact hown.out, Below.refl _ _⟩
  case round =>
    obtain ⟨k, hk, rfl, rfl, hrel⟩ := hrel
    have HR := Lib.hid hrel
    have hsz := hrel.2.size
    clear hrel hown
    by_cases hlt : k < n
    · have hs := shN_le k x
      have hs2 := Lib.hid (shN_succ k x)
      have S1 : Hid (Own wr base u0 (m + k) (xs ++ leN k x)) := Lib.hid HR.out.1
      generalize hq : shN k x = q at *
      have hq' := Lib.hid hq
      clear hq
      go_wp2_with (at_builtin; (refine wpList_append_bytes (by rfl) (.tmp 10) (.tmp 13) (by rfl) base u0 (m + k) (xs ++ leN k x) (by rfl) (Own.alloc S1.out _) (some ⟨wr.heap.size, 0, none⟩) 1 1 [q % 256] (by rfl) (AtB.one (by omega) (by simp)) (by omega) (by simp; omega) ?_); (intro v' w' hown' hgrow'; have S := Lib.hid (HR.out.step hbase (by rw [hq'.out]; exact hown') hgrow'); clear hown' hgrow'))
      go_roundw
      case rel => exact ⟨k + 1, by omega, by go_num, by rw [hs2.out]; go_num, S.out⟩
      case measure => simp [intOf]; omega
    · obtain rfl : k = n := by omega
      go_wp2_with fail
      go_ret
      exact ⟨u0, rfl, HR.out.1, HR.out.2⟩

theorem or_at {f y m : Nat} (i : Nat) (hm : m = 2 ^ i) (hf : f < m) (hb : f < 4294967296) (hy : m * y < 4294967296) : bits .or .u32 (f : Int) ((y : Int) * (m : Int)) = ((f + m * y : Nat) : Int) := by
  have := u32_or_nat f (m * y) hb hy
  rw [hm, or_beside y (by rw [← hm]; exact hf), ← hm] at this
  rw [← this]
  congr 1
  rw [Int.natCast_mul, Int.mul_comm]
theorem number_some (b off len cap : Nat) (xs : List Nat) (w : World) (hl : xs.length = len) (h4 : len ≤ 4) (hB : Hid (Bytes xs))
    (hc : Hid (∀ j, j < len → w.cell? ⟨b, off + j, none⟩ = some (.int .u8 ((xs.getD j 0 : Nat) : Int)))) :
    Calls Tryd.prog 31 #[.slice (some ⟨b, off, none⟩) len cap] w fun e w' => e = .returned (.int .u32 ((numN xs : Nat) : Int)) ∧ w = w' := by
  have HL := Lib.hid hl
  clear hl
  go_enter Tryd.func31, Tryd.ntmps31
  go_wp2_with fail
  go_loop [3, 8] (fun t i => ∃ k : Nat, k ≤ len ∧ i = .int .i64 k ∧ t = .int .u32 ((numN (xs.take k) : Nat) : Int)) (fun _ i => len - (intOf i).toNat)
  case atStart => exact ⟨0, Nat.zero_le _, rfl, rfl⟩
  case round =>
    obtain ⟨k, hk, rfl, rfl⟩ := hrel
    by_cases hlt : k < len
    · have hcell := hc.out k hlt
      have hy := hB.out.getD k
      have hf := num_lt_take hB.out k (by rw [HL.out]; exact hk)
      have T := Lib.hid (num_take xs k (by rw [HL.out]; exact hlt))
      generalize xs.getD k 0 = y at *
      generalize numN (xs.take k) = f at *
      have hk4 : k = 0 ∨ k = 1 ∨ k = 2 ∨ k = 3 := by omega
      rcases hk4 with rfl | rfl | rfl | rfl
      · have E : Hid (bits .or .u32 (f : Int) (y : Int) = ((f + 256 ^ 0 * y : Nat) : Int)) := Lib.hid (by simpa using or_at (f := f) (y := y) (m := 1) 0 rfl (by simpa using hf) (by omega) (by omega))
        clear hf
        simp only [Nat.add_zero] at hcell
        go_wp2_with fail
        go_round
        case rel => exact ⟨1, by omega, by go_num, by rw [T.out, E.out]⟩
        case measure => simp [intOf]; omega
      · have E : Hid (bits .or .u32 (f : Int) ((y : Int) * 256) = ((f + 256 ^ 1 * y : Nat) : Int)) := Lib.hid (by simpa using or_at (f := f) (y := y) (m := 256) 8 rfl (by simpa using hf) (by omega) (by omega))
        clear hf
        go_wp2_with fail
        go_round
        case rel => exact ⟨2, by omega, by go_num, by rw [T.out, E.out]⟩
        case measure => simp [intOf]; omega
      · have E : Hid (bits .or .u32 (f : Int) ((y : Int) * 65536) = ((f + 256 ^ 2 * y : Nat) : Int)) := Lib.hid (by simpa using or_at (f := f) (y := y) (m := 65536) 16 rfl (by simpa using hf) (by omega) (by omega))
        clear hf
        go_wp2_with fail
        go_round
        case rel => exact ⟨3, by omega, by go_num, by rw [T.out, E.out]⟩
        case measure => simp [intOf]; omega
      · have E : Hid (bits .or .u32 (f : Int) ((y : Int) * 16777216) = ((f + 256 ^ 3 * y : Nat) : Int)) := Lib.hid (by simpa using or_at (f := f) (y := y) (m := 16777216) 24 rfl (by simpa using hf) (by omega) (by omega))
        clear hf
        go_wp2_with fail
        go_round
        case rel => exact ⟨4, by omega, by go_num, by rw [T.out, E.out]⟩
        case measure => simp [intOf]; omega
    · obtain rfl : k = len := by omega
      rw [List.take_of_length_le (by rw [HL.out]; exact Nat.le_refl _)]
      go_wp2_with fail
      go_ret
      exact ⟨rfl, rfl⟩

theorem number_empty (a : Option Addr) (cap : Nat) (w : World) : Calls Tryd.prog 31 #[.slice a 0 cap] w fun e w' => e = .returned (.int .u32 0) ∧ w = w' := by
  go_enter Tryd.func31, Tryd.ntmps31
  go_wp2_with fail
  go_loop [3, 8] (fun t i => i = .int .i64 0 ∧ t = .int .u32 0) (fun _ _ => 0)
  case atStart => exact ⟨rfl, rfl⟩
  case round =>
    obtain ⟨rfl, rfl⟩ := hrel
    go_wp2_with fail
    go_ret
    exact ⟨rfl, rfl⟩

theorem number_at (a : Option Addr) (len cap : Nat) (xs : List Nat) (w : World) (h4 : len ≤ 4) (h : AtB w a len xs) :
    Calls Tryd.prog 31 #[.slice a len cap] w fun e w' => e = .returned (.int .u32 ((numN xs : Nat) : Int)) ∧ w = w' := by
  obtain ⟨h1, h2, h3, hc⟩ := h
  by_cases hp : 0 < len
  · obtain ⟨b, off, rfl, _, hc⟩ := hc hp
    exact number_some b off len cap xs w h1 h4 (Lib.hid h2) (Lib.hid hc)
  · obtain rfl : len = 0 := by omega
    obtain rfl : xs = [] := by simpa using h1
    exact number_empty a cap w
theorem number_is (n : Nat) (a : Option Addr) (len cap : Nat) (xs : List Nat) (w : World) (h4 : len ≤ 4) (h : AtB w a len xs) (hn : numN xs = n) :
    Calls Tryd.prog 31 #[.slice a len cap] w fun e w' => e = .returned (.int .u32 (n : Int)) ∧ w = w' := by
  rw [← hn]; exact number_at a len cap xs w h4 h

def FirstPost (w : World) (v : Value) (b : Bool) (e : Ending) (w' : World) : Prop := e = .returned (.tuple #[v, .bool b]) ∧ ∃ n, w' = w.drewN n
/-- Where the bytes of the frame lie that a text begins with. -/
def bodyA (A : Option Addr) (cap : Nat) : Option Addr := cutA (cutA A cap 6) (cap - 6) 0

theorem first_short (A : Option Addr) (len cap : Nat) (h : len < 6) (w : World) :
    Calls Tryd.prog 27 #[.slice A len cap] w (FirstPost w (.slice none 0 0) false) := by
  go_enter Tryd.func27, Tryd.ntmps27
  go_wp2_with fail
  go_ret2
  exact ⟨rfl, 0, rfl⟩

set_option maxHeartbeats 1000000 in
theorem first_low (A : Option Addr) (r q : Nat) (xs : List Nat) (hr : r ≤ q) (w : World) (hT : Hid (Tab w)) (hA : Hid (AtB w A (r + 6) xs)) (c sm m : Nat) (hc : Hid (cntN xs = c)) (hs : Hid (sumN xs = sm))
    (hm : Hid (moreN 0 (bodyN xs) = m)) (D2 D4 D6 Db : Option Addr) (e2 : Hid (cutA A (q + 6) 0 = D2)) (e4 : Hid (cutA A (q + 6) 2 = D4)) (e6 : Hid (cutA A (q + 6) 6 = D6)) (eb : Hid (cutA D6 q 0 = Db))
    (h1 : c < 1) :
    Calls Tryd.prog 27 #[.slice A (r + 6) (q + 6)] w (FirstPost w (.slice none 0 0) false) := by
  have hlen := hA.out.1
  have hbig := hA.out.2.2.1
  have lc : c < 65536 := by rw [← hc.out]; exact cnt_lt hA.out.2.1
  have ls : sm < 4294967296 := by rw [← hs.out]; exact num_lt4 ((hA.out.2.1.drop 2).take 4) (by simp; omega)
  have lm : m < 4294967296 := by rw [← hm.out]; exact more_lt _ _
  have R2 : ∀ W, (Instr.slice 24 (.slice A (r + 6) (q + 6)) none (some (.int .i64 2)) none).run Tryd.prog W = .ok (.slice D2 2 (q + 6)) W := fun W => by rw [← e2.out]; exact run_cut_h A (r + 6) (q + 6) 2 (by omega) W
  have R4 : ∀ W, (Instr.slice 24 (.slice A (r + 6) (q + 6)) (some (.int .i64 2)) (some (.int .i64 6)) none).run Tryd.prog W = .ok (.slice D4 4 (q + 4)) W := fun W => by rw [← e4.out]; exact run_cut_lh A (r + 6) (q + 6) 2 6 (by omega) (by omega) W
  have R6 : ∀ W, (Instr.slice 24 (.slice A (r + 6) (q + 6)) (some (.int .i64 6)) none none).run Tryd.prog W = .ok (.slice D6 r q) W := fun W => by rw [← e6.out]; exact run_cut_l A (r + 6) (q + 6) 6 (by omega) W
  have A2 : Hid (AtB w D2 2 (xs.take 2)) := Lib.hid (by rw [← e2.out]; exact hA.out.cutA (by omega) 0 2 (by omega) (by omega))
  have A4 : Hid (AtB w D4 4 ((xs.drop 2).take 4)) := Lib.hid (by rw [← e4.out]; exact hA.out.cutA (by omega) 2 6 (by omega) (by omega))
  have d1 : decide ((c : Int) < 1) = true := by rw [decide_eq_true_iff]; omega
  have hc2 : Hid (numN (xs.take 2) = c) := hc
  have hs2 : Hid (numN ((xs.drop 2).take 4) = sm) := hs
  clear hlen
  go_enter Tryd.func27, Tryd.ntmps27
  go_wp2_with fail
  go_quiet ((first
    | (go_at_call 31; with_reducible exact quietly (number_is c D2 2 (q + 6) (xs.take 2) _ (by omega) (AtB.drewN A2.out _) hc2.out))
    | (go_at_call 31; with_reducible exact quietly (number_is sm D4 4 (q + 4) ((xs.drop 2).take 4) _ (by omega) (AtB.drewN A4.out _) hs2.out))))
  go_wp2_with fail
  go_ret2
  exact ⟨rfl, _, rfl⟩

set_option maxHeartbeats 1000000 in
theorem first_over (A : Option Addr) (r q : Nat) (xs : List Nat) (hr : r ≤ q) (w : World) (hT : Hid (Tab w)) (hA : Hid (AtB w A (r + 6) xs)) (c sm m : Nat) (hc : Hid (cntN xs = c)) (hs : Hid (sumN xs = sm))
    (hm : Hid (moreN 0 (bodyN xs) = m)) (D2 D4 D6 Db : Option Addr) (e2 : Hid (cutA A (q + 6) 0 = D2)) (e4 : Hid (cutA A (q + 6) 2 = D4)) (e6 : Hid (cutA A (q + 6) 6 = D6)) (eb : Hid (cutA D6 q 0 = Db))
    (h1 : 1 ≤ c) (h2 : r < c) :
    Calls Tryd.prog 27 #[.slice A (r + 6) (q + 6)] w (FirstPost w (.slice none 0 0) false) := by
  have hlen := hA.out.1
  have hbig := hA.out.2.2.1
  have lc : c < 65536 := by rw [← hc.out]; exact cnt_lt hA.out.2.1
  have ls : sm < 4294967296 := by rw [← hs.out]; exact num_lt4 ((hA.out.2.1.drop 2).take 4) (by simp; omega)
  have lm : m < 4294967296 := by rw [← hm.out]; exact more_lt _ _
  have R2 : ∀ W, (Instr.slice 24 (.slice A (r + 6) (q + 6)) none (some (.int .i64 2)) none).run Tryd.prog W = .ok (.slice D2 2 (q + 6)) W := fun W => by rw [← e2.out]; exact run_cut_h A (r + 6) (q + 6) 2 (by omega) W
  have R4 : ∀ W, (Instr.slice 24 (.slice A (r + 6) (q + 6)) (some (.int .i64 2)) (some (.int .i64 6)) none).run Tryd.prog W = .ok (.slice D4 4 (q + 4)) W := fun W => by rw [← e4.out]; exact run_cut_lh A (r + 6) (q + 6) 2 6 (by omega) (by omega) W
  have R6 : ∀ W, (Instr.slice 24 (.slice A (r + 6) (q + 6)) (some (.int .i64 6)) none none).run Tryd.prog W = .ok (.slice D6 r q) W := fun W => by rw [← e6.out]; exact run_cut_l A (r + 6) (q + 6) 6 (by omega) W
  have A2 : Hid (AtB w D2 2 (xs.take 2)) := Lib.hid (by rw [← e2.out]; exact hA.out.cutA (by omega) 0 2 (by omega) (by omega))
  have A4 : Hid (AtB w D4 4 ((xs.drop 2).take 4)) := Lib.hid (by rw [← e4.out]; exact hA.out.cutA (by omega) 2 6 (by omega) (by omega))
  have d1 : decide ((c : Int) < 1) = false := by rw [decide_eq_false_iff_not]; omega
  have d2 : decide (r < c) = true := by rw [decide_eq_true_iff]; omega
  have hc2 : Hid (numN (xs.take 2) = c) := hc
  have hs2 : Hid (numN ((xs.drop 2).take 4) = sm) := hs
  clear hlen
  go_enter Tryd.func27, Tryd.ntmps27
  go_wp2_with fail
  go_quiet ((first
    | (go_at_call 31; with_reducible exact quietly (number_is c D2 2 (q + 6) (xs.take 2) _ (by omega) (AtB.drewN A2.out _) hc2.out))
    | (go_at_call 31; with_reducible exact quietly (number_is sm D4 4 (q + 4) ((xs.drop 2).take 4) _ (by omega) (AtB.drewN A4.out _) hs2.out))))
  go_wp2_with fail
  go_ret2
  exact ⟨rfl, _, rfl⟩

set_option maxHeartbeats 1000000 in
theorem first_bad (A : Option Addr) (r q : Nat) (xs : List Nat) (hr : r ≤ q) (w : World) (hT : Hid (Tab w)) (hA : Hid (AtB w A (r + 6) xs)) (c sm m : Nat) (hc : Hid (cntN xs = c)) (hs : Hid (sumN xs = sm))
    (hm : Hid (moreN 0 (bodyN xs) = m)) (D2 D4 D6 Db : Option Addr) (e2 : Hid (cutA A (q + 6) 0 = D2)) (e4 : Hid (cutA A (q + 6) 2 = D4)) (e6 : Hid (cutA A (q + 6) 6 = D6)) (eb : Hid (cutA D6 q 0 = Db))
    (h1 : 1 ≤ c) (h2 : c ≤ r) (h3 : m ≠ sm) :
    Calls Tryd.prog 27 #[.slice A (r + 6) (q + 6)] w (FirstPost w (.slice none 0 0) false) := by
  have hlen := hA.out.1
  have hbig := hA.out.2.2.1
  have lc : c < 65536 := by rw [← hc.out]; exact cnt_lt hA.out.2.1
  have ls : sm < 4294967296 := by rw [← hs.out]; exact num_lt4 ((hA.out.2.1.drop 2).take 4) (by simp; omega)
  have lm : m < 4294967296 := by rw [← hm.out]; exact more_lt _ _
  have R2 : ∀ W, (Instr.slice 24 (.slice A (r + 6) (q + 6)) none (some (.int .i64 2)) none).run Tryd.prog W = .ok (.slice D2 2 (q + 6)) W := fun W => by rw [← e2.out]; exact run_cut_h A (r + 6) (q + 6) 2 (by omega) W
  have R4 : ∀ W, (Instr.slice 24 (.slice A (r + 6) (q + 6)) (some (.int .i64 2)) (some (.int .i64 6)) none).run Tryd.prog W = .ok (.slice D4 4 (q + 4)) W := fun W => by rw [← e4.out]; exact run_cut_lh A (r + 6) (q + 6) 2 6 (by omega) (by omega) W
  have R6 : ∀ W, (Instr.slice 24 (.slice A (r + 6) (q + 6)) (some (.int .i64 6)) none none).run Tryd.prog W = .ok (.slice D6 r q) W := fun W => by rw [← e6.out]; exact run_cut_l A (r + 6) (q + 6) 6 (by omega) W
  have A2 : Hid (AtB w D2 2 (xs.take 2)) := Lib.hid (by rw [← e2.out]; exact hA.out.cutA (by omega) 0 2 (by omega) (by omega))
  have A4 : Hid (AtB w D4 4 ((xs.drop 2).take 4)) := Lib.hid (by rw [← e4.out]; exact hA.out.cutA (by omega) 2 6 (by omega) (by omega))
  have A6 : Hid (AtB w D6 r ((xs.drop 6).take r)) := Lib.hid (by rw [← e6.out]; exact hA.out.cutA (by omega) 6 (r + 6) (by omega) (by omega))
  have RB : ∀ W, (Instr.slice 24 (.slice D6 r q) none (some (.int .i64 (c : Int))) none).run Tryd.prog W = .ok (.slice Db c q) W := fun W => by rw [← eb.out]; exact run_cut_h D6 r q c (by omega) W
  have AB : Hid (AtB w Db c (bodyN xs)) := Lib.hid (by
    have := A6.out.cutA hr 0 c (by omega) h2
    rw [eb.out, List.drop_zero, Nat.sub_zero, List.take_take, Nat.min_eq_left h2] at this
    rw [bodyN, hc.out]; exact this)
  have d1 : decide ((c : Int) < 1) = false := by rw [decide_eq_false_iff_not]; omega
  have d2 : decide (r < c) = false := by rw [decide_eq_false_iff_not]; omega
  have d3 : (m == sm) = false := by simpa using h3
  have d4 : ((m : Int) != (sm : Int)) = true := by rw [bne_iff_ne]; omega
  have d5 : ((m : Int) == (sm : Int)) = false := by rw [beq_eq_false_iff_ne]; omega
  clear h3
  have hc2 : Hid (numN (xs.take 2) = c) := hc
  have hs2 : Hid (numN ((xs.drop 2).take 4) = sm) := hs
  clear hlen
  go_enter Tryd.func27, Tryd.ntmps27
  go_wp2_with fail
  go_quiet ((first
    | (go_at_call 31; with_reducible exact quietly (number_is c D2 2 (q + 6) (xs.take 2) _ (by omega) (AtB.drewN A2.out _) hc2.out))
    | (go_at_call 31; with_reducible exact quietly (number_is sm D4 4 (q + 4) ((xs.drop 2).take 4) _ (by omega) (AtB.drewN A4.out _) hs2.out))))
  go_wp2_with fail
  refine (sum_is' Db c q (bodyN xs) m _ (Tab.quiet hT _) (AtB.drewN AB.out _) hm.out).mono ?_
  rintro e w' ⟨rfl, rfl⟩
  go_wp2_with fail
  go_ret2
  exact ⟨rfl, _, rfl⟩

set_option maxHeartbeats 1000000 in
theorem first_good (A : Option Addr) (r q : Nat) (xs : List Nat) (hr : r ≤ q) (w : World) (hT : Hid (Tab w)) (hA : Hid (AtB w A (r + 6) xs)) (c sm m : Nat) (hc : Hid (cntN xs = c)) (hs : Hid (sumN xs = sm))
    (hm : Hid (moreN 0 (bodyN xs) = m)) (D2 D4 D6 Db : Option Addr) (e2 : Hid (cutA A (q + 6) 0 = D2)) (e4 : Hid (cutA A (q + 6) 2 = D4)) (e6 : Hid (cutA A (q + 6) 6 = D6)) (eb : Hid (cutA D6 q 0 = Db))
    (h1 : 1 ≤ c) (h2 : c ≤ r) (h3 : m = sm) :
    Calls Tryd.prog 27 #[.slice A (r + 6) (q + 6)] w (FirstPost w (.slice Db c q) true) := by
  have hlen := hA.out.1
  have hbig := hA.out.2.2.1
  have lc : c < 65536 := by rw [← hc.out]; exact cnt_lt hA.out.2.1
  have ls : sm < 4294967296 := by rw [← hs.out]; exact num_lt4 ((hA.out.2.1.drop 2).take 4) (by simp; omega)
  have lm : m < 4294967296 := by rw [← hm.out]; exact more_lt _ _
  have R2 : ∀ W, (Instr.slice 24 (.slice A (r + 6) (q + 6)) none (some (.int .i64 2)) none).run Tryd.prog W = .ok (.slice D2 2 (q + 6)) W := fun W => by rw [← e2.out]; exact run_cut_h A (r + 6) (q + 6) 2 (by omega) W
  have R4 : ∀ W, (Instr.slice 24 (.slice A (r + 6) (q + 6)) (some (.int .i64 2)) (some (.int .i64 6)) none).run Tryd.prog W = .ok (.slice D4 4 (q + 4)) W := fun W => by rw [← e4.out]; exact run_cut_lh A (r + 6) (q + 6) 2 6 (by omega) (by omega) W
  have R6 : ∀ W, (Instr.slice 24 (.slice A (r + 6) (q + 6)) (some (.int .i64 6)) none none).run Tryd.prog W = .ok (.slice D6 r q) W := fun W => by rw [← e6.out]; exact run_cut_l A (r + 6) (q + 6) 6 (by omega) W
  have A2 : Hid (AtB w D2 2 (xs.take 2)) := Lib.hid (by rw [← e2.out]; exact hA.out.cutA (by omega) 0 2 (by omega) (by omega))
  have A4 : Hid (AtB w D4 4 ((xs.drop 2).take 4)) := Lib.hid (by rw [← e4.out]; exact hA.out.cutA (by omega) 2 6 (by omega) (by omega))
  have A6 : Hid (AtB w D6 r ((xs.drop 6).take r)) := Lib.hid (by rw [← e6.out]; exact hA.out.cutA (by omega) 6 (r + 6) (by omega) (by omega))
  have RB : ∀ W, (Instr.slice 24 (.slice D6 r q) none (some (.int .i64 (c : Int))) none).run Tryd.prog W = .ok (.slice Db c q) W := fun W => by rw [← eb.out]; exact run_cut_h D6 r q c (by omega) W
  have AB : Hid (AtB w Db c (bodyN xs)) := Lib.hid (by
    have := A6.out.cutA hr 0 c (by omega) h2
    rw [eb.out, List.drop_zero, Nat.sub_zero, List.take_take, Nat.min_eq_left h2] at this
    rw [bodyN, hc.out]; exact this)
  have d1 : decide ((c : Int) < 1) = false := by rw [decide_eq_false_iff_not]; omega
  have d2 : decide (r < c) = false := by rw [decide_eq_false_iff_not]; omega
  subst h3
  have hc2 : Hid (numN (xs.take 2) = c) := hc
  have hs2 : Hid (numN ((xs.drop 2).take 4) = m) := hs
  clear hlen
  go_enter Tryd.func27, Tryd.ntmps27
  go_wp2_with fail
  go_quiet ((first
    | (go_at_call 31; with_reducible exact quietly (number_is c D2 2 (q + 6) (xs.take 2) _ (by omega) (AtB.drewN A2.out _) hc2.out))
    | (go_at_call 31; with_reducible exact quietly (number_is m D4 4 (q + 4) ((xs.drop 2).take 4) _ (by omega) (AtB.drewN A4.out _) hs2.out))))
  go_wp2_with fail
  refine (sum_is' Db c q (bodyN xs) m _ (Tab.quiet hT _) (AtB.drewN AB.out _) hm.out).mono ?_
  rintro e w' ⟨rfl, rfl⟩
  go_wp2_with fail
  go_ret2
  exact ⟨rfl, _, rfl⟩


theorem first_yes (A : Option Addr) (len cap : Nat) (xs : List Nat) (hl : len ≤ cap) (w : World) (hT : Hid (Tab w)) (hA : Hid (AtB w A len xs)) (h : Stands xs) :
    Calls Tryd.prog 27 #[.slice A len cap] w (FirstPost w (.slice (bodyA A cap) (cntN xs) (cap - 6)) true) := by
  have hlen := hA.out.1
  obtain ⟨h6, h1, h2, h3⟩ := h
  obtain ⟨r, rfl⟩ : ∃ r, len = r + 6 := ⟨len - 6, by omega⟩
  obtain ⟨q, rfl⟩ : ∃ q, cap = q + 6 := ⟨cap - 6, by omega⟩
  exact first_good A r q xs (by omega) w hT hA (cntN xs) (sumN xs) (moreN 0 (bodyN xs)) (Lib.hid rfl) (Lib.hid rfl) (Lib.hid rfl) _ _ _ _ (Lib.hid rfl) (Lib.hid rfl) (Lib.hid rfl) (Lib.hid rfl) h1 (by omega) h3
theorem first_no (A : Option Addr) (len cap : Nat) (xs : List Nat) (hl : len ≤ cap) (w : World) (hT : Hid (Tab w)) (hA : Hid (AtB w A len xs)) (h : ¬ Stands xs) :
    Calls Tryd.prog 27 #[.slice A len cap] w (FirstPost w (.slice none 0 0) false) := by
  have hlen := hA.out.1
  by_cases h6 : len < 6
  · exact first_short A len cap h6 w
  · obtain ⟨r, rfl⟩ : ∃ r, len = r + 6 := ⟨len - 6, by omega⟩
    obtain ⟨q, rfl⟩ : ∃ q, cap = q + 6 := ⟨cap - 6, by omega⟩
    by_cases h1 : cntN xs < 1
    · exact first_low A r q xs (by omega) w hT hA (cntN xs) (sumN xs) (moreN 0 (bodyN xs)) (Lib.hid rfl) (Lib.hid rfl) (Lib.hid rfl) _ _ _ _ (Lib.hid rfl) (Lib.hid rfl) (Lib.hid rfl) (Lib.hid rfl) h1
    by_cases h2 : r < cntN xs
    · exact first_over A r q xs (by omega) w hT hA (cntN xs) (sumN xs) (moreN 0 (bodyN xs)) (Lib.hid rfl) (Lib.hid rfl) (Lib.hid rfl) _ _ _ _ (Lib.hid rfl) (Lib.hid rfl) (Lib.hid rfl) (Lib.hid rfl) (by omega) h2
    · exact first_bad A r q xs (by omega) w hT hA (cntN xs) (sumN xs) (moreN 0 (bodyN xs)) (Lib.hid rfl) (Lib.hid rfl) (Lib.hid rfl) _ _ _ _ (Lib.hid rfl) (Lib.hid rfl) (Lib.hid rfl) (Lib.hid rfl) (by omega) (by omega) (fun e => h ⟨by omega, by omega, by omega, e⟩)

theorem clone_nil (w : World) : Calls Tryd.prog 19 #[.slice none 0 0] w (OwnPost w w.heap.size 0 []) := by
  have kn := fun (w : World) (a : Option Addr) (n c n' c' : Nat) => Lib.run_eql_slice_nil (P := Tryd.prog) w 24 5 a n c n' c' Tryd.underlying24
  go_enter Tryd.func19, Tryd.ntmps19
  go_wp2_with fail
  go_ret
  exact ⟨_, rfl, ⟨fun x hx => by simp at hx, World.ownsRow_nil _ _ _ _⟩, Below.refl _ _⟩
theorem clone_at (ad : Addr) (len cap : Nat) (xs : List Nat) (w : World) (hA : Hid (AtB w (some ad) len xs)) (hb : len ≤ 140737488355328) :
    Calls Tryd.prog 19 #[.slice (some ad) len cap] w (OwnPost w w.heap.size len xs) := by
  have kn := fun (w : World) (a : Option Addr) (n c n' c' : Nat) => Lib.run_eql_slice_nil (P := Tryd.prog) w 24 5 a n c n' c' Tryd.underlying24
  go_enter Tryd.func19, Tryd.ntmps19
  go_wp2_with (at_builtin; refine wpList_append_bytes (by rfl) (.tmp 5) (.tmp 6) (by rfl) w.heap.size _ 0 [] (by rfl) (Own.made w) (some ad) len cap xs (by rfl) (AtB.later hA (below_made w)) (by omega) (by simp) ?_; intro v1 w2 hown1 hgrow1; have B1 := Lib.hid (Own.below hgrow1); have O1 := Lib.hid hown1; clear hown1 hgrow1)
  go_ret
  exact ⟨v1, rfl, by have := O1.out; rwa [Nat.zero_add, List.nil_append] at this, B1.out⟩

theorem lay2 (v : Value) (base m : Nat) (xs : List Nat) (x : Nat) (hx : x < 4294967296) (w : World) (hown : Hid (Own w base v m xs)) (hbase : base ≤ w.heap.size) (hb : m + 2 ≤ 140737488355328) :
    Calls Tryd.prog 16 #[v, .int .u32 (x : Int), .int .i64 2] w (OwnPost w base (m + 2) (xs ++ leN 2 x)) := lay_any v base m xs x 2 hx w hown hbase hb
theorem lay4 (v : Value) (base m : Nat) (xs : List Nat) (x : Nat) (hx : x < 4294967296) (w : World) (hown : Hid (Own w base v m xs)) (hbase : base ≤ w.heap.size) (hb : m + 4 ≤ 140737488355328) :
    Calls Tryd.prog 16 #[v, .int .u32 (x : Int), .int .i64 4] w (OwnPost w base (m + 4) (xs ++ leN 4 x)) := lay_any v base m xs x 4 hx w hown hbase hb

def PutPost (w : World) (n : Nat) (xs : List Nat) (e : Ending) (w' : World) : Prop := ∃ v, e = .returned (.tuple #[v, .int .i64 0]) ∧ Own w' w.heap.size v n xs ∧ Below w.heap.size w w'
theorem put_no (A : Option Addr) (len cap : Nat) (h : len < 1 ∨ 65535 < len) (w : World) :
    Calls Tryd.prog 7 #[.slice A len cap] w fun e w' => e = .returned (.tuple #[.slice none 0 0, .int .i64 1]) ∧ w = w' := by
  rcases h with h | h
  · obtain rfl : len = 0 := by omega
    go_enter Tryd.func7, Tryd.ntmps7
    go_wp2_with fail
    go_ret2
    exact ⟨rfl, rfl⟩
  · have d1 : ((len : Int) == 0) = false := by rw [beq_eq_false_iff_ne]; omega
    have d2 : decide ((65535 : Int) < (len : Int)) = true := by rw [decide_eq_true_iff]; omega
    go_enter Tryd.func7, Tryd.ntmps7
    go_wp2_with fail
    go_ret2
    exact ⟨rfl, rfl⟩

set_option maxHeartbeats 1000000 in
theorem put_yes (A : Option Addr) (len cap : Nat) (xs : List Nat) (h1 : 1 ≤ len) (h2 : len ≤ 65535) (w : World) (hT : Hid (Tab w)) (hA : Hid (AtB w A len xs)) (m : Nat) (lm : m < 4294967296) (hm : Hid (moreN 0 xs = m)) :
    Calls Tryd.prog 7 #[.slice A len cap] w (PutPost w (len + 6) (frameN xs)) := by
  have d1 : ((len : Int) == 0) = false := by rw [beq_eq_false_iff_ne]; omega
  have d2 : decide ((65535 : Int) < (len : Int)) = false := by rw [decide_eq_false_iff_not]; omega
  have HF : Hid ([] ++ leN 2 len ++ leN 4 m ++ xs = frameN xs) := Lib.hid (by rw [frameN, hA.out.1, hm.out]; simp)
  obtain ⟨i0, hi0, hz0, hz1, hz2⟩ := info_parts info5
  have HI := Lib.hid hi0
  have HZ0 := Lib.hid hz0
  have HZ1 := Lib.hid hz1
  have hz2' : i0.bytes * (6 + len) ≤ 281474976710656 := by rw [hz2]; omega
  clear hi0 hz0 hz1 hz2
  go_enter Tryd.func7, Tryd.ntmps7
  go_wp2_with (first
    | (at_make; (refine wpList_make_own w rfl (.const (.int .i64 0)) (.tmp 15) 24 rfl w.heap.size 5 i0 (.int .u8 0) 1 Tryd.underlying24 HI.out HZ0.out HZ1.out .i64 .i64 (6 + (len : Int)) (6 + len) rfl rfl (by omega) hz2' (by unfold maxLen; omega) (Nat.le_refl _) ?_); (intro w1 hown hgrow; have B1 := Lib.hid ((Below.refl w.heap.size w).grown hgrow (Nat.le_refl _) (fun k hk => by cases hk)); have O1 : Hid (Own w1 w.heap.size (.slice (some ⟨w.heap.size, 0, none⟩) 0 (6 + len)) 0 []) := Lib.hid ⟨fun x hx => by simp at hx, hown⟩; clear hown hgrow)))
  (with_reducible refine (lay2 _ w.heap.size 0 [] len (by omega) w1 O1 B1.out.size (by omega)).mono ?_)
  rintro e w2 ⟨v2, rfl, hO2, hB2⟩
  have B2 := Lib.hid (B1.out.trans hB2)
  have O2 := Lib.hid hO2
  have T2 := Lib.hid (hT.out.below B2.out hT.out.pos)
  have A2 := Lib.hid (AtB.later hA B2.out)
  clear hO2 hB2
  go_wp2_with fail
  (with_reducible refine (sum_is' A len cap xs m _ T2 A2.out hm.out).mono ?_)
  rintro e w' ⟨rfl, rfl⟩
  go_wp2_with fail
  (with_reducible refine (lay4 _ w.heap.size _ _ m lm w2 O2 B2.out.size (by omega)).mono ?_)
  rintro e w3 ⟨v3, rfl, hO3, hB3⟩
  have B3 := Lib.hid (B2.out.trans hB3)
  have O3 := Lib.hid hO3
  have A3 := Lib.hid (AtB.later hA B3.out)
  clear hO3 hB3
  go_wp2_with (at_builtin; (refine wpList_append_bytes (by rfl) (.tmp 26) (.tmp 27) (by rfl) w.heap.size v3 _ _ (by rfl) O3.out A len cap xs (by rfl) A3.out (by omega) B3.out.size ?_); (intro v4 w4 hown4 hgrow4; have B4 := Lib.hid (B3.out.grown hgrow4 B3.out.size (fun k hk => (O3.out.2.lt k hk).1)); have O4 := Lib.hid hown4; clear hown4 hgrow4))
  go_ret2
  exact ⟨v4, rfl, by have := O4.out; rwa [HF.out, show 0 + 2 + 4 + len = len + 6 by omega] at this, B4.out⟩
theorem put_at (A : Option Addr) (len cap : Nat) (xs : List Nat) (h1 : 1 ≤ len) (h2 : len ≤ 65535) (w : World) (hT : Hid (Tab w)) (hA : Hid (AtB w A len xs)) :
    Calls Tryd.prog 7 #[.slice A len cap] w (PutPost w (len + 6) (frameN xs)) := put_yes A len cap xs h1 h2 w hT hA _ (more_lt 0 xs) (Lib.hid rfl)
end Go.Proofs.YtioheffdolnciaaDoor
