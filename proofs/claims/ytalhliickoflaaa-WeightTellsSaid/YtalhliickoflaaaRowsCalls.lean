/-
  The contracts of the functions of layer 2 that go through a row of floats: the greatest one, of the program and of the document's own answer.
-/
import Derived.Test.YtalhliickoflaaaCalls2
import Derived.LoopTactic
import Derived.IntWalk
namespace Go.Proofs.Ytalhliickoflaaa
open Go.ChangeShapes Go.WideShapes Go.ChangeAt Go.RowKit
set_option linter.unusedVariables false

/-- The greatest one of a row. -/
def greI : List Int → Int
  | [] => 0
  | x :: l => l.foldl (fun t y => if lessB t y then y else t) x

theorem foldl_bd (l : List Int) (x : Int) (h0 : 0 ≤ x) (h1 : x < 18446744073709551616) (h : ∀ y ∈ l, 0 ≤ y ∧ y < 18446744073709551616) :
    0 ≤ l.foldl (fun t y => if lessB t y then y else t) x ∧ l.foldl (fun t y => if lessB t y then y else t) x < 18446744073709551616 := by
  induction l generalizing x with
  | nil => exact ⟨h0, h1⟩
  | cons y l ih =>
    have hy := h y (List.mem_cons_self)
    rw [List.foldl_cons]
    split
    · exact ih y hy.1 hy.2 (fun z hz => h z (List.mem_cons_of_mem _ hz))
    · exact ih x h0 h1 (fun z hz => h z (List.mem_cons_of_mem _ hz))

theorem greI_bd (l : List Int) (h : ∀ y ∈ l, 0 ≤ y ∧ y < 18446744073709551616) : 0 ≤ greI l ∧ greI l < 18446744073709551616 := by
  cases l with
  | nil => exact ⟨by decide, by decide⟩
  | cons x l => exact foldl_bd l x (h x List.mem_cons_self).1 (h x List.mem_cons_self).2 (fun z hz => h z (List.mem_cons_of_mem _ hz))

theorem greI_snoc (l : List Int) (y : Int) (h : l ≠ []) : greI (l ++ [y]) = if lessB (greI l) y then y else greI l := by
  cases l with
  | nil => exact absurd rfl h
  | cons x l => show List.foldl _ _ (l ++ [y]) = _; rw [List.foldl_append]; rfl

theorem take_snoc (zs : List Int) (k : Nat) (h : k < zs.length) : zs.take (k + 1) = zs.take k ++ [zs.getD k 0] := by
  rw [List.take_succ_eq_append_getElem h, List.getD_eq_getElem?_getD, List.getElem?_eq_getElem h]; rfl

theorem greI_step0 (zs : List Int) (h : 0 < zs.length) : greI (zs.take (0 + 1)) = zs.getD 0 0 := by
  cases zs with
  | nil => simp at h
  | cons x l => rfl

theorem greI_step (zs : List Int) (k : Nat) (h : k < zs.length) (h0 : 0 < k) : greI (zs.take (k + 1)) = if lessB (greI (zs.take k)) (zs.getD k 0) then zs.getD k 0 else greI (zs.take k) := by
  rw [take_snoc zs k h, greI_snoc]
  intro e
  rcases List.take_eq_nil_iff.1 e with e | e
  · omega
  · rw [e] at h; simp at h

theorem last_any (b off len cap : Nat) (zs : List Int) (w : World) (hz : len ≤ zs.length) (hbig : len ≤ 9223372036854775807)
    (hb : ∀ y ∈ zs, 0 ≤ y ∧ y < 18446744073709551616) (hc : ∀ j, j < zs.length → w.cell? ⟨b, off + j, none⟩ = some (.int .u64 (zs.getD j 0))) :
    Calls Try.prog 20 #[.slice (some ⟨b, off, none⟩) len cap, .func (Fn.func 16) #[] #[]] w fun e w' => e = .returned (.tuple #[.int .u64 (greI (zs.take len)), .bool (decide (0 < len))]) ∧ w = w' := by
  have HB := Lib.hid hb
  have HC := Lib.hid hc
  clear hb hc
  go_enter Try.func20, Try.ntmps20
  go_wp2_with fail
  go_loop [6, 11] (fun t i => ∃ k : Nat, k ≤ len ∧ i = .int .i64 k ∧ t = .int .u64 (greI (zs.take k))) (fun _ i => len - (intOf i).toNat)
  case atStart => exact ⟨0, Nat.zero_le _, rfl, rfl⟩
  case round =>
    obtain ⟨k, hk, rfl, rfl⟩ := hrel
    have hg := greI_bd (zs.take k) (fun y hy => HB.out y (List.mem_of_mem_take hy))
    obtain ⟨hg0, hg1⟩ := hg
    by_cases hlt : k < len
    · have hcell := HC.out k (by omega)
      have hy := HB.out (zs.getD k 0) (by rw [List.getD_eq_getElem?_getD, List.getElem?_eq_getElem (by omega)]; exact List.getElem_mem _)
      have S0 : Hid (k = 0 → greI (zs.take (k + 1)) = zs.getD k 0) := Lib.hid (fun h => by subst h; exact greI_step0 zs (by omega))
      have S1 : Hid (0 < k → greI (zs.take (k + 1)) = if lessB (greI (zs.take k)) (zs.getD k 0) then zs.getD k 0 else greI (zs.take k)) := Lib.hid (fun h => greI_step zs k (by omega) h)
      generalize zs.getD k 0 = y at *
      obtain ⟨hy0, hy1⟩ := hy
      by_cases hk0 : k = 0
      · have T := S0.out hk0
        have T' := Lib.hid T
        have f : ((k : Int) == 0) = true := by rw [beq_iff_eq]; omega
        have HK := Lib.hid hk0
        clear S0 S1 T hk0
        go_wp2_with (go_at_call 16; refine (less_any _ _ _ (by omega) (by omega) (by omega) (by omega)).mono ?_; rintro e w' ⟨rfl, rfl⟩)
        go_round
        case rel => exact ⟨k + 1, by omega, by go_num, by rw [T'.out]⟩
        case measure => simp [intOf]; omega
      · have T := S1.out (by omega)
        have f : ((k : Int) == 0) = false := by rw [beq_eq_false_iff_ne]; omega
        by_cases hl : lessB (greI (zs.take k)) y = true
        · rw [if_pos hl] at T
          have T' := Lib.hid T
          clear S0 S1 T hk0
          go_wp2_with (go_at_call 16; refine (less_any _ _ _ (by omega) (by omega) (by omega) (by omega)).mono ?_; rintro e w' ⟨rfl, rfl⟩)
          go_round
          case rel => exact ⟨k + 1, by omega, by go_num, by rw [T'.out]⟩
          case measure => simp [intOf]; omega
        · rw [if_neg hl] at T
          have T' := Lib.hid T
          have hl' : lessB (greI (zs.take k)) y = false := by simpa using hl
          clear S0 S1 T hk0 hl
          go_wp2_with (go_at_call 16; refine (less_any _ _ _ (by omega) (by omega) (by omega) (by omega)).mono ?_; rintro e w' ⟨rfl, rfl⟩)
          go_round
          case rel => exact ⟨k + 1, by omega, by go_num, by rw [T'.out]⟩
          case measure => simp [intOf]; omega
    · have hkl : k = len := by omega
      subst hkl
      go_wp2_with fail
      go_ret2
      exact ⟨rfl, rfl⟩

theorem last_empty (a : Option Addr) (cap : Nat) (w : World) :
    Calls Try.prog 20 #[.slice a 0 cap, .func (Fn.func 16) #[] #[]] w fun e w' => e = .returned (.tuple #[.int .u64 0, .bool false]) ∧ w = w' := by
  go_enter Try.func20, Try.ntmps20
  go_wp2_with fail
  go_loop [6, 11] (fun t i => i = .int .i64 0 ∧ t = .int .u64 0) (fun _ _ => 0)
  case atStart => exact ⟨rfl, rfl⟩
  case round =>
    obtain ⟨rfl, rfl⟩ := hrel
    go_wp2_with fail
    go_ret2
    exact ⟨rfl, rfl⟩

theorem greatest_any (b off len cap : Nat) (zs : List Int) (w : World) (hz : len ≤ zs.length) (hbig : len ≤ 9223372036854775807)
    (hb : ∀ y ∈ zs, 0 ≤ y ∧ y < 18446744073709551616) (hc : ∀ j, j < zs.length → w.cell? ⟨b, off + j, none⟩ = some (.int .u64 (zs.getD j 0))) :
    Calls Try.prog 12 #[.slice (some ⟨b, off, none⟩) len cap] w fun e w' => e = .returned (.tuple #[.int .u64 (greI (zs.take len)), .bool (decide (0 < len))]) ∧ w = w' := by
  have HL := Lib.hid (last_any b off len cap zs w hz hbig hb hc)
  clear hb hc
  go_enter Try.func12, Try.ntmps12
  go_wp2_with fail
  refine HL.out.mono ?_
  rintro e w' ⟨rfl, rfl⟩
  go_wp2_with fail
  go_ret2
  exact ⟨rfl, rfl⟩

theorem greatest_empty (a : Option Addr) (cap : Nat) (w : World) :
    Calls Try.prog 12 #[.slice a 0 cap] w fun e w' => e = .returned (.tuple #[.int .u64 0, .bool false]) ∧ w = w' := by
  go_enter Try.func12, Try.ntmps12
  go_wp2_with fail
  refine (last_empty _ _ _).mono ?_
  rintro e w' ⟨rfl, rfl⟩
  go_wp2_with fail
  go_ret2
  exact ⟨rfl, rfl⟩

theorem refGreatest_empty (a : Option Addr) (cap : Nat) (w : World) :
    Calls Try.prog 13 #[.slice a 0 cap] w fun e w' => e = .returned (.tuple #[.int .u64 0, .bool false]) ∧ w = w' := by
  go_enter Try.func13, Try.ntmps13
  go_wp2_with fail
  go_ret2
  exact ⟨rfl, rfl⟩

theorem refGreatest_any (b off len cap : Nat) (zs : List Int) (w : World) (hz : len ≤ zs.length) (hbig : len ≤ 9223372036854775807) (hpos : 0 < len)
    (hb : ∀ y ∈ zs, 0 ≤ y ∧ y < 18446744073709551616) (hc : ∀ j, j < zs.length → w.cell? ⟨b, off + j, none⟩ = some (.int .u64 (zs.getD j 0))) :
    Calls Try.prog 13 #[.slice (some ⟨b, off, none⟩) len cap] w fun e w' => e = .returned (.tuple #[.int .u64 (greI (zs.take len)), .bool true]) ∧ w = w' := by
  have HB := Lib.hid hb
  have HC := Lib.hid hc
  have c0 : w.cell? ⟨b, off, none⟩ = some (.int .u64 (zs.getD 0 0)) := hc 0 (by omega)
  have G0 : Hid (zs.getD 0 0 = greI (zs.take 1)) := Lib.hid (greI_step0 zs (by omega)).symm
  generalize zs.getD 0 0 = x0 at *
  have f : ((len : Int) == 0) = false := by rw [beq_eq_false_iff_ne]; omega
  clear hb hc
  go_enter Try.func13, Try.ntmps13
  go_wp2_with fail
  go_loop [4, 5] (fun t i => ∃ k : Nat, 1 ≤ k ∧ k ≤ len ∧ i = .int .i64 k ∧ t = .int .u64 (greI (zs.take k))) (fun _ i => len - (intOf i).toNat)
  case atStart => exact ⟨1, by omega, by omega, rfl, by rw [G0.out]⟩
  case round =>
    obtain ⟨k, hk1, hk, rfl, rfl⟩ := hrel
    have hg := greI_bd (zs.take k) (fun y hy => HB.out y (List.mem_of_mem_take hy))
    obtain ⟨hg0, hg1⟩ := hg
    clear c0
    by_cases hlt : k < len
    · have hcell := HC.out k (by omega)
      have hy := HB.out (zs.getD k 0) (by rw [List.getD_eq_getElem?_getD, List.getElem?_eq_getElem (by omega)]; exact List.getElem_mem _)
      have T := greI_step zs k (by omega) (by omega)
      generalize zs.getD k 0 = y at *
      obtain ⟨hy0, hy1⟩ := hy
      by_cases hl : lessB (greI (zs.take k)) y = true
      · rw [if_pos hl] at T
        have T' := Lib.hid T
        clear T
        go_wp2_with (go_at_call 17; refine (refLess_any _ _ _ (by omega) (by omega) (by omega) (by omega)).mono ?_; rintro e w' ⟨rfl, rfl⟩)
        go_round
        case rel => exact ⟨k + 1, by omega, by omega, by go_num, by rw [T'.out]⟩
        case measure => simp [intOf]; omega
      · rw [if_neg hl] at T
        have T' := Lib.hid T
        have hl' : lessB (greI (zs.take k)) y = false := by simpa using hl
        clear T hl
        go_wp2_with (go_at_call 17; refine (refLess_any _ _ _ (by omega) (by omega) (by omega) (by omega)).mono ?_; rintro e w' ⟨rfl, rfl⟩)
        go_round
        case rel => exact ⟨k + 1, by omega, by omega, by go_num, by rw [T'.out]⟩
        case measure => simp [intOf]; omega
    · have hkl : k = len := by omega
      subst hkl
      go_wp2_with fail
      go_ret2
      exact ⟨rfl, rfl⟩

end Go.Proofs.Ytalhliickoflaaa
