/-
  The contracts of the functions of layer 3 (checks), over rows of bytes that stand in memory; the table of half bytes, out of what a row says of the variable.
-/
import Derived.Test.YtioheffdolnciaaDoorOwnSet
import Derived.Test.YtioheffdolnciaaDoorCrc
import Derived.Lib.LaidTab
import Derived.LaidMore
namespace Go.Proofs.YtioheffdolnciaaDoor
open Go.ChangeShapes Go.WideShapes Go.ChangeAt Go.RowKit
set_option linter.unusedVariables false

/-- The table of half bytes lies where the program reads it. -/
def Tab (w : World) : Prop := ∀ i, i < 16 → w.cell? ⟨0, i, none⟩ = some (.int .u32 ((halfs.getD i 0 : Nat) : Int))

theorem and15 (s : Nat) (hs : s < 4294967296) : bits .and .u32 (s : Int) 15 = ((s % 16 : Nat) : Int) := by
  have := u32_and_nat s 15 hs (by omega)
  rw [show ((15 : Nat) : Int) = 15 from rfl] at this
  rw [this, show (15 : Nat) = 2 ^ 4 - 1 from rfl, Nat.and_two_pow_sub_one_eq_mod]

theorem xor_ones (s : Nat) (hs : s < 4294967296) : bits .xor .u32 IntKind.u32.max (s : Int) = ((4294967295 - s : Nat) : Int) := by
  have := u32_xor_nat 4294967295 s (by omega) hs
  rw [ones_xor hs] at this
  exact this

theorem half_any (s : Nat) (hs : s < 4294967296) (w : World) (hT : Hid (Tab w)) :
    Calls Tryd.prog 30 #[.int .u32 (s : Int)] w fun e w' => e = .returned (.int .u32 ((step4 s : Nat) : Int)) ∧ w = w' := by
  have hc := hT.out (s % 16) (by omega)
  have e1 := and15 s hs
  have e2 : bits .xor .u32 ((s : Int) / 16) ((halfs.getD (s % 16) 0 : Nat) : Int) = ((step4 s : Nat) : Int) := by
    have := u32_xor_nat (s / 16) (halfs.getD (s % 16) 0) (by omega) (halfs_lt _ (by omega))
    rw [step4_look]
    exact this
  have H2 := Lib.hid e2
  generalize halfs.getD (s % 16) 0 = v at *
  clear e2
  go_enter Tryd.func30, Tryd.ntmps30
  go_wp2
  rw [H2.out]
  go_ret
  exact ⟨rfl, rfl⟩

theorem fold_take (s : Nat) (xs : List Nat) (k : Nat) (h : k < xs.length) : foldN s (xs.take (k + 1)) = step4 (step4 (foldN s (xs.take k) ^^^ xs.getD k 0)) := by
  rw [take_snoc xs k h, fold_append]; rfl

theorem more_some (s : Nat) (hs : s < 4294967296) (b off len cap : Nat) (xs : List Nat) (w : World) (hT : Hid (Tab w)) (hl : xs.length = len) (hbig : len ≤ 9223372036854775807) (hB : Hid (Bytes xs))
    (hc : Hid (∀ j, j < len → w.cell? ⟨b, off + j, none⟩ = some (.int .u8 ((xs.getD j 0 : Nat) : Int)))) :
    Calls Tryd.prog 25 #[.int .u32 (s : Int), .slice (some ⟨b, off, none⟩) len cap] w fun e w' => e = .returned (.int .u32 ((moreN s xs : Nat) : Int)) ∧ w = w' := by
  have e0 := xor_ones s hs
  have HL := Lib.hid hl
  have HF : Hid (moreN s xs = 4294967295 - foldN (4294967295 - s) xs) := Lib.hid rfl
  clear hl
  go_enter Tryd.func25, Tryd.ntmps25
  go_wp2_with fail
  go_loop [5, 12] (fun t i => ∃ k : Nat, k ≤ len ∧ i = .int .i64 k ∧ t = .int .u32 ((foldN (4294967295 - s) (xs.take k) : Nat) : Int)) (fun _ i => len - (intOf i).toNat)
  case atStart => exact ⟨0, Nat.zero_le _, rfl, rfl⟩
  case round =>
    obtain ⟨k, hk, rfl, rfl⟩ := hrel
    have hf := fold_lt (s := 4294967295 - s) (by omega) (hB.out.take k)
    clear e0
    by_cases hlt : k < len
    · have hcell := hc.out k hlt
      have hy := hB.out.getD k
      have T := Lib.hid (fold_take (4294967295 - s) xs k (by rw [HL.out]; exact hlt))
      generalize xs.getD k 0 = y at *
      generalize foldN (4294967295 - s) (xs.take k) = f at *
      have e1 : bits .xor .u32 (f : Int) (y : Int) = ((f ^^^ y : Nat) : Int) := u32_xor_nat f y hf (by omega)
      have hx : f ^^^ y < 4294967296 := Nat.xor_lt_two_pow (n := 32) (by omega) (by omega)
      have hx4 := step4_lt hx
      go_wp2_with (first | (go_at_call 30; (with_reducible refine (half_any (f ^^^ y) hx _ hT).mono ?_); rintro e w' ⟨rfl, rfl⟩) | (go_at_call 30; (with_reducible refine (half_any (step4 (f ^^^ y)) hx4 _ hT).mono ?_); rintro e w' ⟨rfl, rfl⟩))
      go_round
      case rel => exact ⟨k + 1, by omega, by go_num, by rw [T.out]⟩
      case measure => simp [intOf]; omega
    · have hkl : k = len := by omega
      subst hkl
      have e2 := xor_ones _ hf
      rw [List.take_of_length_le (by rw [HL.out]; exact Nat.le_refl _)] at e2 hf ⊢
      generalize foldN (4294967295 - s) xs = f at *
      go_wp2_with fail
      rw [HF.out]
      go_ret
      exact ⟨rfl, rfl⟩

theorem more_empty (s : Nat) (hs : s < 4294967296) (a : Option Addr) (cap : Nat) (w : World) :
    Calls Tryd.prog 25 #[.int .u32 (s : Int), .slice a 0 cap] w fun e w' => e = .returned (.int .u32 (s : Int)) ∧ w = w' := by
  have e0 := xor_ones s hs
  have e2 : bits .xor .u32 IntKind.u32.max ((4294967295 - s : Nat) : Int) = (s : Int) := by
    rw [xor_ones _ (by omega)]; congr 1; omega
  go_enter Tryd.func25, Tryd.ntmps25
  go_wp2_with fail
  go_loop [5, 12] (fun t i => i = .int .i64 0 ∧ t = .int .u32 ((4294967295 - s : Nat) : Int)) (fun _ _ => 0)
  case atStart => exact ⟨rfl, rfl⟩
  case round =>
    obtain ⟨rfl, rfl⟩ := hrel
    clear e0
    go_wp2_with fail
    go_ret
    exact ⟨rfl, rfl⟩

theorem more_at (s : Nat) (hs : s < 4294967296) (a : Option Addr) (len cap : Nat) (xs : List Nat) (w : World) (hT : Hid (Tab w)) (h : AtB w a len xs) :
    Calls Tryd.prog 25 #[.int .u32 (s : Int), .slice a len cap] w fun e w' => e = .returned (.int .u32 ((moreN s xs : Nat) : Int)) ∧ w = w' := by
  obtain ⟨h1, h2, h3, h4⟩ := h
  by_cases hp : 0 < len
  · obtain ⟨b, off, rfl, _, hc⟩ := h4 hp
    exact more_some s hs b off len cap xs w hT h1 h3 (Lib.hid h2) (Lib.hid hc)
  · obtain rfl : len = 0 := by omega
    have : xs = [] := by simpa using h1
    subst this
    rw [more_nil s hs]
    exact more_empty s hs a cap w

theorem sum_at (a : Option Addr) (len cap : Nat) (xs : List Nat) (w : World) (hT : Hid (Tab w)) (h : AtB w a len xs) :
    Calls Tryd.prog 17 #[.slice a len cap] w fun e w' => e = .returned (.int .u32 ((moreN 0 xs : Nat) : Int)) ∧ w = w' := by
  have HM := Lib.hid (more_at 0 (by omega) a len cap xs w hT h)
  clear h
  go_enter Tryd.func17, Tryd.ntmps17
  go_wp2_with fail
  refine HM.out.mono ?_
  rintro e w' ⟨rfl, rfl⟩
  go_wp2_with fail
  go_ret
  exact ⟨rfl, rfl⟩

theorem gHalf : Tryd.prog.globalNamed "weald/crc.half" = some 0 := by kernel_rfl
theorem tHalf : (Tryd.prog.globals[0]?).map (·.type) = some 65 := by kernel_rfl
theorem cellsU32 : Tryd.prog.cellsOf 47 = 1 := by kernel_rfl
theorem cellsTab : Tryd.prog.cellsOf 65 = 16 := by kernel_rfl

theorem tab_of_laid {W : World} (h : laidMetH Tryd.prog [("weald/crc.half", Rows.laid_weald_crc_half)] W) : Tab W := by
  rw [MakeChecks.laidMetH_plain _ _ _ (by kernel_rfl)] at h
  have hT := Lib.tabIs_of_head (k := .u32) (zs := halfs.map (fun n : Nat => (n : Int))) (rest := []) gHalf tHalf Tryd.underlying65 Tryd.underlying47 cellsU32 cellsTab h
  intro i hi
  have := hT.cell gHalf i (by simpa [halfs] using hi)
  rw [this]
  congr 2
  have all : ∀ i, i < 16 → (halfs.map (fun n : Nat => (n : Int))).getD i 0 = ((halfs.getD i 0 : Nat) : Int) := by decide
  exact all i hi

theorem Tab.pos {w : World} (h : Tab w) : 0 < w.heap.size := World.block_lt_of_cell? w ⟨0, 0, none⟩ (h 0 (by omega))
theorem Tab.below {B : Nat} {w w' : World} (h : Tab w) (hb : Below B w w') (hB : 0 < B) : Tab w' := fun i hi => (hb.cell (p := ⟨0, i, none⟩) hB).trans (h i hi)
theorem Tab.later {w w' : World} (h : Hid (Tab w)) (hb : Below w.heap.size w w') : Hid (Tab w') := Lib.hid (h.out.below hb h.out.pos)
theorem sum_is (a : Option Addr) (len cap : Nat) (xs : List Nat) (v : Int) (w : World) (hT : Hid (Tab w)) (h : AtB w a len xs) (hv : ((moreN 0 xs : Nat) : Int) = v) :
    Calls Tryd.prog 17 #[.slice a len cap] w fun e w' => e = .returned (.int .u32 v) ∧ w = w' := by
  rw [← hv]; exact sum_at a len cap xs w hT h
theorem more_is (s : Int) (n : Nat) (a : Option Addr) (len cap : Nat) (xs : List Nat) (v : Int) (w : World) (hs : s = (n : Int)) (hn : n < 4294967296) (hT : Hid (Tab w)) (h : AtB w a len xs) (hv : ((moreN n xs : Nat) : Int) = v) :
    Calls Tryd.prog 25 #[.int .u32 s, .slice a len cap] w fun e w' => e = .returned (.int .u32 v) ∧ w = w' := by
  subst hs; rw [← hv]; exact more_at n hn a len cap xs w hT h

theorem more_is' (s : Nat) (hs : s < 4294967296) (a : Option Addr) (len cap : Nat) (xs : List Nat) (n : Nat) (w : World) (hT : Hid (Tab w)) (h : AtB w a len xs) (hn : moreN s xs = n) :
    Calls Tryd.prog 25 #[.int .u32 (s : Int), .slice a len cap] w fun e w' => e = .returned (.int .u32 (n : Int)) ∧ w = w' := by
  rw [← hn]; exact more_at s hs a len cap xs w hT h
theorem sum_is' (a : Option Addr) (len cap : Nat) (xs : List Nat) (n : Nat) (w : World) (hT : Hid (Tab w)) (h : AtB w a len xs) (hn : moreN 0 xs = n) :
    Calls Tryd.prog 17 #[.slice a len cap] w fun e w' => e = .returned (.int .u32 (n : Int)) ∧ w = w' := by
  rw [← hn]; exact sum_at a len cap xs w hT h
theorem sum_own (v : Value) (base n : Nat) (xs : List Nat) (m : Nat) (w : World) (hT : Hid (Tab w)) (h : Own w base v n xs) (hn : n ≤ 9223372036854775807) (hm : moreN 0 xs = m) :
    Calls Tryd.prog 17 #[v] w fun e w' => e = .returned (.int .u32 (m : Int)) ∧ w = w' := by
  obtain ⟨A, cap, rfl, _, hat⟩ := h.at_ hn
  exact sum_is' A n cap xs m w hT hat hm

theorem Tab.quiet {w : World} (h : Hid (Tab w)) (n : Nat) : Hid (Tab (w.drewN n)) := h
end Go.Proofs.YtioheffdolnciaaDoor
