/-
  The contracts of the document's own answer for layer 4 (frames): Put, Split, Rows; bytes as texts.
-/
import Derived.Test.YtalfjdlpmhmjkaaDoorCrcRef
import Derived.Test.YtalfjdlpmhmjkaaDoorFrmCalls
import Derived.Test.YtalfjdlpmhmjkaaDoorSlRows
import Derived.Laws.BytesArg
namespace Go.Proofs.YtalfjdlpmhmjkaaDoor
open Go.ChangeShapes Go.WideShapes Go.ChangeAt Go.RowKit
set_option linter.unusedVariables false

/-- Bytes as a text. -/
def strN (xs : List Nat) : ByteArray := strOfNums (xs.map fun n : Nat => (n : Int))
theorem run_str {w : World} {A : Option Addr} {len : Nat} {xs : List Nat} (h : AtB w A len xs) (cap : Nat) : (convert 22 9 (.slice A len cap)).run Tryd.prog w = .ok (.string (strN xs)) w := by
  obtain ⟨h1, h2, h3, h4⟩ := h
  by_cases hp : 0 < len
  · obtain ⟨b, off, rfl, _, hc⟩ := h4 hp
    exact run_convert_bytes_arg w 22 5 Tryd.underlying22 Tryd.underlying5 b off len cap (xs.map fun n : Nat => (n : Int)) (by simp [h1]) (fun i hi => by
      rw [hc i hi]; simp only [List.getD_eq_getElem?_getD, List.getElem?_map, List.getElem?_eq_getElem (show i < xs.length by omega)]; rfl) 9 Tryd.underlying9
  · obtain rfl : len = 0 := by omega
    obtain rfl : xs = [] := by simpa using h1
    rw [run_convert_bytes_string w 22 9 5 _ 0 cap Tryd.underlying22 Tryd.underlying5 Tryd.underlying9]
    cases A <;> simp [Conv.bytesToString, loadCells]
    all_goals rfl

def RowsPost (w : World) (e : Ending) (w' : World) : Prop := e = .returned (.bool true) ∧ ∃ n, w' = w.drewN n

theorem rows_some (b1 o1 b2 o2 n c1 c2 : Nat) (w : World) (hn : n ≤ 9223372036854775807)
    (hc : Hid (∀ j, j < n → ∃ A1 l1 k1 A2 l2 k2 S, w.cell? ⟨b1, o1 + j, none⟩ = some (.slice A1 l1 k1) ∧ w.cell? ⟨b2, o2 + j, none⟩ = some (.slice A2 l2 k2) ∧
      (∀ q, (convert 22 9 (.slice A1 l1 k1)).run Tryd.prog (w.drewN q) = .ok (.string S) (w.drewN q)) ∧ (∀ q, (convert 22 9 (.slice A2 l2 k2)).run Tryd.prog (w.drewN q) = .ok (.string S) (w.drewN q)))) :
    Calls Tryd.prog 14 #[.slice (some ⟨b1, o1, none⟩) n c1, .slice (some ⟨b2, o2, none⟩) n c2] w (RowsPost w) := by
  go_enter Tryd.func14, Tryd.ntmps14
  go_wp2_with fail
  go_loopw [5] (fun i wr => ∃ k m : Nat, k ≤ n ∧ i = .int .i64 k ∧ wr = w.drewN m) (fun i _ => n - (intOf i).toNat)
  case atStart => exact ⟨0, 0, Nat.zero_le _, rfl, rfl⟩
  case round =>
    obtain ⟨k, m, hk, rfl, rfl⟩ := hrel
    by_cases hlt : k < n
    · obtain ⟨A1, l1, k1, A2, l2, k2, S, e1, e2, s1, s2⟩ := hc.out k hlt
      have hb1 : (0 : Int) ≤ (k : Int) := by omega
      have hb2 : (k : Int) < (n : Int) := by omega
      go_wp2_with fail
      go_quiet (fail)
      go_wp2_with fail
      go_roundw
      case rel => exact ⟨k + 1, m + nq, by omega, by go_num, rfl⟩
      case measure => simp [intOf]; omega
    · obtain rfl : k = n := by omega
      go_wp2_with fail
      go_ret
      exact ⟨rfl, m, rfl⟩
theorem rows_empty (A B : Option Addr) (c1 c2 : Nat) (w : World) : Calls Tryd.prog 14 #[.slice A 0 c1, .slice B 0 c2] w (RowsPost w) := by
  go_enter Tryd.func14, Tryd.ntmps14
  go_wp2_with fail
  go_loop [5] (fun i => i = .int .i64 0) (fun _ => 0)
  case atStart => exact rfl
  case round =>
    obtain rfl := hrel
    go_wp2_with fail
    go_ret
    exact ⟨rfl, 0, rfl⟩
theorem rows_at (A B : Option Addr) (n c1 c2 : Nat) (ll : List (List Nat)) (w : World) (h1 : AtRows w A n ll) (h2 : AtRows w B n ll) :
    Calls Tryd.prog 14 #[.slice A n c1, .slice B n c2] w (RowsPost w) := by
  by_cases hp : 0 < n
  · obtain ⟨b1, o1, rfl, _, hc1⟩ := h1.2.2 hp
    obtain ⟨b2, o2, rfl, _, hc2⟩ := h2.2.2 hp
    refine rows_some b1 o1 b2 o2 n c1 c2 w h1.2.1 (Lib.hid fun j hj => ?_)
    obtain ⟨A1, l1, k1, e1, _, hat1⟩ := hc1 j hj
    obtain ⟨A2, l2, k2, e2, _, hat2⟩ := hc2 j hj
    exact ⟨A1, l1, k1, A2, l2, k2, strN (ll.getD j []), e1, e2, fun q => run_str (AtB.drewN hat1 q) k1, fun q => run_str (AtB.drewN hat2 q) k2⟩
  · obtain rfl : n = 0 := by omega
    exact rows_empty A B c1 c2 w

theorem Own.lit (w : World) (xs : List Nat) (h : Bytes xs) (hm : xs.length ≤ maxLen) : Own (w.alloc (.cells (vals xs).toArray 5)) w.heap.size (.slice (some ⟨w.heap.size, 0, none⟩) xs.length xs.length) xs.length xs := by
  refine ⟨h, by rw [vals_length, Nat.mul_one], .inr ⟨w.heap.size, xs.length, (vals xs).toArray, rfl, Nat.le_refl _, heap_alloc_new w _, Nat.le_refl _, hm, by simp [vals_length], ?_⟩⟩
  rw [Nat.mul_one, List.take_of_length_le (by simp [vals_length])]

theorem refPut_no (A : Option Addr) (len cap : Nat) (h : len < 1 ∨ 65535 < len) (w : World) :
    Calls Tryd.prog 11 #[.slice A len cap] w fun e w' => e = .returned (.tuple #[.slice none 0 0, .int .i64 1]) ∧ w = w' := by
  rcases h with h | h
  · obtain rfl : len = 0 := by omega
    go_enter Tryd.func11, Tryd.ntmps11
    go_wp2_with fail
    go_ret2
    exact ⟨rfl, rfl⟩
  · have d1 : decide ((len : Int) < 1) = false := by rw [decide_eq_false_iff_not]; omega
    have d2 : decide ((65535 : Int) < (len : Int)) = true := by rw [decide_eq_true_iff]; omega
    go_enter Tryd.func11, Tryd.ntmps11
    go_wp2_with fail
    go_ret2
    exact ⟨rfl, rfl⟩

def headN (n m : Nat) : List Nat := [n % 256, n / 256, m % 256, m / 256 % 256, m / 65536 % 256, m / 16777216]
theorem head_is {n m : Nat} (h : n ≤ 65535) (hm : m < 4294967296) : headN n m = leN 2 n ++ leN 4 m := by
  simp [headN, leN]; omega
theorem head_bytes {n m : Nat} (h : n ≤ 65535) (hm : m < 4294967296) : Bytes (headN n m) := by
  rw [head_is h hm]
  intro x hx
  exact (List.mem_append.1 hx).elim (leN_bytes _ _ x) (leN_bytes _ _ x)
theorem refPut_yes (A : Option Addr) (len cap : Nat) (xs : List Nat) (h1 : 1 ≤ len) (h2 : len ≤ 65535) (w : World) (hA : Hid (AtB w A len xs)) (m : Nat) (lm : m < 4294967296) (hm : Hid (moreN 0 xs = m)) :
    Calls Tryd.prog 11 #[.slice A len cap] w (PutPost w (len + 6) (frameN xs)) := by
  have d1 : decide ((len : Int) < 1) = false := by rw [decide_eq_false_iff_not]; omega
  have d2 : decide ((65535 : Int) < (len : Int)) = false := by rw [decide_eq_false_iff_not]; omega
  have HF : Hid (headN len m ++ xs = frameN xs) := Lib.hid (by rw [head_is h2 lm, frameN, hA.out.1, hm.out]; simp)
  have HS : Hid (Calls Tryd.prog 17 #[.slice A len cap] w fun e w' => e = .returned (.int .u32 (m : Int)) ∧ w = w') := Lib.hid (by have := refSum_at A len cap xs w hA.out; rwa [hm.out] at this)
  have HO := Lib.hid (Own.lit w (headN len m) (head_bytes h2 lm) (by simp [headN]; unfold maxLen; omega))
  go_enter Tryd.func11, Tryd.ntmps11
  go_wp2_with fail
  refine HS.out.mono ?_
  rintro e w' ⟨rfl, rfl⟩
  go_wp2_with (at_builtin; (refine wpList_append_bytes (by rfl) (.tmp 38) (.tmp 39) (by rfl) w.heap.size _ 6 (headN len m) (by rfl) HO.out A len cap xs (by rfl) (AtB.later hA ((Below.refl _ _).alloc (Nat.le_refl _) _)) (by omega) (by simp) ?_); (intro v4 w4 hown4 hgrow4; have B4 := Lib.hid (((Below.refl w.heap.size w).alloc (Nat.le_refl _) _).grown hgrow4 (by simp) (fun k hk => by simp [Value.ownBlock] at hk; omega)); have O4 := Lib.hid hown4; clear hown4 hgrow4))
  go_ret2
  exact ⟨v4, rfl, by have := O4.out; rwa [HF.out, show 6 + len = len + 6 by omega] at this, B4.out⟩
theorem refPut_at (A : Option Addr) (len cap : Nat) (xs : List Nat) (h1 : 1 ≤ len) (h2 : len ≤ 65535) (w : World) (hA : Hid (AtB w A len xs)) :
    Calls Tryd.prog 11 #[.slice A len cap] w (PutPost w (len + 6) (frameN xs)) := refPut_yes A len cap xs h1 h2 w hA _ (more_lt 0 xs) (Lib.hid rfl)
end Go.Proofs.YtalfjdlpmhmjkaaDoor
