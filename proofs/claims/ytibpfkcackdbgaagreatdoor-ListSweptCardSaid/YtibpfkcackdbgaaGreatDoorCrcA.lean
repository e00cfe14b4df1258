/- CrcA -/
import Derived.Test.YtibpfkcackdbgaaGreatDoorBase
import Derived.Test.YtibpfkcackdbgaaGreatDoorOwnSet
import Derived.Lib.LaidTab
import Derived.LaidMore
namespace Go.Proofs.YtibpfkcackdbgaaGreatDoor
def stepN (s : Nat) : Nat := if s % 2 = 1 then (s / 2) ^^^ 3988292384 else s / 2
def step4 (s : Nat) : Nat := stepN (stepN (stepN (stepN s)))
def step8 (s : Nat) : Nat := step4 (step4 s)
def byteN (s x : Nat) : Nat := step8 (s ^^^ x)
def foldN (s : Nat) (xs : List Nat) : Nat := xs.foldl byteN s
def moreN (sum : Nat) (xs : List Nat) : Nat := 4294967295 - foldN (4294967295 - sum) xs
def halfs : List Nat := [0, 498536548, 997073096, 651767980, 1994146192, 1802195444, 1303535960, 1342533948, 3988292384, 4027552580, 3604390888, 3412177804, 2607071920, 2262029012, 2685067896, 3183342108]
theorem xor_lc (a b c : Nat) : a ^^^ (b ^^^ c) = b ^^^ (a ^^^ c) := by rw [← Nat.xor_assoc, Nat.xor_comm a b, Nat.xor_assoc]
theorem xor_parity (a b : Nat) : (a ^^^ b) % 2 = 1 ↔ ¬ (a % 2 = b % 2) := by
 have h := Nat.testBit_xor a b 0
 simp only [Nat.testBit_zero] at h
 rcases Nat.mod_two_eq_zero_or_one a with ha | ha <;> rcases Nat.mod_two_eq_zero_or_one b with hb | hb <;> rcases Nat.mod_two_eq_zero_or_one (a ^^^ b) with hc | hc <;> simp [ha, hb, hc] at h ⊢
theorem step_eq (s : Nat) : stepN s = s / 2 ^^^ (if s % 2 = 1 then 3988292384 else 0) := by
 unfold stepN; split <;> simp
theorem step_xor (a b : Nat) : stepN (a ^^^ b) = stepN a ^^^ stepN b := by
 rw [step_eq, step_eq, step_eq, Nat.xor_div_two]
 have hp := xor_parity a b
 have e : (if (a ^^^ b) % 2 = 1 then 3988292384 else 0) = ((if a % 2 = 1 then 3988292384 else 0) ^^^ (if b % 2 = 1 then 3988292384 else 0) : Nat) := by
  rcases Nat.mod_two_eq_zero_or_one a with ha | ha <;> rcases Nat.mod_two_eq_zero_or_one b with hb | hb <;> simp [ha, hb] at hp ⊢ <;> simp [hp]
 rw [e]
 simp only [Nat.xor_assoc, xor_lc, Nat.xor_comm]
theorem step4_xor (a b : Nat) : step4 (a ^^^ b) = step4 a ^^^ step4 b := by
 unfold step4; rw [step_xor, step_xor, step_xor, step_xor]
theorem step_lt {s : Nat} (h : s < 4294967296) : stepN s < 4294967296 := by
 rw [step_eq]
 refine Nat.xor_lt_two_pow (n := 32) (by omega) ?_
 split <;> omega
theorem step4_lt {s : Nat} (h : s < 4294967296) : step4 s < 4294967296 := step_lt (step_lt (step_lt (step_lt h)))
theorem step8_lt {s : Nat} (h : s < 4294967296) : step8 s < 4294967296 := step4_lt (step4_lt h)
theorem step_double (y : Nat) : stepN (2 * y) = y := by
 unfold stepN; rw [if_neg (by omega)]; omega
theorem step4_shl (y : Nat) : step4 (16 * y) = y := by
 have e : 16 * y = 2 * (2 * (2 * (2 * y))) := by omega
 unfold step4; rw [e, step_double, step_double, step_double, step_double]
theorem split16 (s : Nat) : s = 16 * (s / 16) ^^^ s % 16 := by
 apply Nat.eq_of_testBit_eq
 intro i
 have e : 16 * (s / 16) = (s / 2 ^ 4) * 2 ^ 4 := by omega
 have e2 : s % 16 = s % 2 ^ 4 := rfl
 rw [Nat.testBit_xor, e, e2, Nat.testBit_mul_two_pow, Nat.testBit_mod_two_pow, Nat.testBit_div_two_pow]
 by_cases h : i < 4
 ·have h' : ¬ 4 ≤ i := by omega
  simp [h, h']
 ·have h' : 4 ≤ i := by omega
  simp [h, h', Nat.sub_add_cancel h']
theorem halfs_eq : ∀ r : Nat, r < 16 → step4 r = halfs.getD r 0 := by decide
theorem step4_look (s : Nat) : step4 s = s / 16 ^^^ halfs.getD (s % 16) 0 := by
 conv => lhs; rw [split16 s]
 rw [step4_xor, step4_shl, halfs_eq _ (by omega)]
theorem halfs_lt : ∀ r : Nat, r < 16 → halfs.getD r 0 < 4294967296 := by decide
theorem byte_lt {s x : Nat} (hs : s < 4294967296) (hx : x < 256) : byteN s x < 4294967296 :=
 step8_lt (Nat.xor_lt_two_pow (n := 32) (by omega) (by omega))
theorem fold_lt {s : Nat} {xs : List Nat} (hs : s < 4294967296) (hx : Bytes xs) : foldN s xs < 4294967296 := by
 induction xs generalizing s with
 | nil => exact hs
 | cons x xs ih => exact ih (byte_lt hs hx.head) hx.tail
theorem more_lt (sum : Nat) (xs : List Nat) : moreN sum xs < 4294967296 := by unfold moreN; omega
theorem more_nil (sum : Nat) (hs : sum < 4294967296) : moreN sum [] = sum := by
 show 4294967295 - (4294967295 - sum) = sum
 omega
theorem ones_xor {a : Nat} (h : a < 4294967296) : 4294967295 ^^^ a = 4294967295 - a := by
 have e : a ^^^ 4294967295 = 4294967295 - a := by
  have h1 : a < 2 ^ 32 := h
  have := BitVec.toNat_not (x := BitVec.ofNat 32 a)
  have h3 : (~~~ BitVec.ofNat 32 a) = BitVec.ofNat 32 a ^^^ BitVec.allOnes 32 := (BitVec.xor_allOnes).symm
  rw [h3, BitVec.toNat_xor, BitVec.toNat_ofNat, BitVec.toNat_allOnes, Nat.mod_eq_of_lt h1] at this
  exact this
 rw [Nat.xor_comm, e]
theorem fold_append (s : Nat) (xs ys : List Nat) : foldN s (xs ++ ys) = foldN (foldN s xs) ys := by
 unfold foldN; rw [List.foldl_append]
end Go.Proofs.YtibpfkcackdbgaaGreatDoor
namespace Go.Proofs.YtibpfkcackdbgaaGreatDoor
open Go.ChangeShapes Go.WideShapes Go.ChangeAt Go.RowKit
set_option linter.unusedVariables false
set_option maxRecDepth 100000
def Tab (w : World) : Prop := ∀ i, i < 16 → w.cell? ⟨0, i, none⟩ = some (.int .u32 ((halfs.getD i 0 : Nat) : Int))
theorem and15 (s : Nat) (hs : s < 4294967296) : bits .and .u32 (s : Int) 15 = ((s % 16 : Nat) : Int) := by
 have := u32_and_nat s 15 hs (by omega)
 rw [show ((15 : Nat) : Int) = 15 from rfl] at this
 rw [this, show (15 : Nat) = 2 ^ 4 - 1 from rfl, Nat.and_two_pow_sub_one_eq_mod]
theorem xor_ones (s : Nat) (hs : s < 4294967296) : bits .xor .u32 IntKind.u32.max (s : Int) = ((4294967295 - s : Nat) : Int) := by
 have := u32_xor_nat 4294967295 s (by omega) hs
 rw [ones_xor hs] at this
 exact this
theorem half_any (s : Nat) (hs : s < 4294967296) (w : World) (hT : Hid (Tab w)) :
  Calls Tryz.prog 221 #[.int .u32 (s : Int)] w fun e w' => e = .returned (.int .u32 ((step4 s : Nat) : Int)) ∧ w = w' := by
 have hc := hT.out (s % 16) (by omega)
 have e1 := and15 s hs
 have e2 : bits .xor .u32 ((s : Int) / 16) ((halfs.getD (s % 16) 0 : Nat) : Int) = ((step4 s : Nat) : Int) := by
  have := u32_xor_nat (s / 16) (halfs.getD (s % 16) 0) (by omega) (halfs_lt _ (by omega))
  rw [step4_look]
  exact this
 have H2 := Lib.hid e2
 generalize halfs.getD (s % 16) 0 = v at *
 clear e2
 go_enter Tryz.func221, Tryz.ntmps221
 go_wp2
 rw [H2.out]
 go_ret
 exact ⟨rfl, rfl⟩
theorem fold_take (s : Nat) (xs : List Nat) (k : Nat) (h : k < xs.length) : foldN s (xs.take (k + 1)) = step4 (step4 (foldN s (xs.take k) ^^^ xs.getD k 0)) := by
 rw [take_snoc xs k h, fold_append]; rfl
theorem more_some (s : Nat) (hs : s < 4294967296) (b off len cap : Nat) (xs : List Nat) (w : World) (hT : Hid (Tab w)) (hl : xs.length = len) (hbig : len ≤ 9223372036854775807) (hB : Hid (Bytes xs))
  (hc : Hid (∀ j, j < len → w.cell? ⟨b, off + j, none⟩ = some (.int .u8 ((xs.getD j 0 : Nat) : Int)))) :
  Calls Tryz.prog 220 #[.int .u32 (s : Int), .slice (some ⟨b, off, none⟩) len cap] w fun e w' => e = .returned (.int .u32 ((moreN s xs : Nat) : Int)) ∧ w = w' := by
 have e0 := xor_ones s hs
 have HL := Lib.hid hl
 have HF : Hid (moreN s xs = 4294967295 - foldN (4294967295 - s) xs) := Lib.hid rfl
 clear hl
 go_enter Tryz.func220, Tryz.ntmps220
 go_wp2_with fail
 go_loop [5, 12] (fun t i => ∃ k : Nat, k ≤ len ∧ i = .int .i64 k ∧ t = .int .u32 ((foldN (4294967295 - s) (xs.take k) : Nat) : Int)) (fun _ i => len - (intOf i).toNat)
 case atStart => exact ⟨0, Nat.zero_le _, rfl, rfl⟩
 case round =>
  obtain ⟨k, hk, rfl, rfl⟩ := hrel
  have hf := fold_lt (s := 4294967295 - s) (by omega) (hB.out.take k)
  clear e0
  by_cases hlt : k < len
  ·have hcell := hc.out k hlt
   have hy := hB.out.getD k
   have T := Lib.hid (fold_take (4294967295 - s) xs k (by rw [HL.out]; exact hlt))
   generalize xs.getD k 0 = y at *
   generalize foldN (4294967295 - s) (xs.take k) = f at *
   have e1 : bits .xor .u32 (f : Int) (y : Int) = ((f ^^^ y : Nat) : Int) := u32_xor_nat f y hf (by omega)
   have hx : f ^^^ y < 4294967296 := Nat.xor_lt_two_pow (n := 32) (by omega) (by omega)
   have hx4 := step4_lt hx
   go_wp2_with (first | (go_at_call 221; (with_reducible refine (half_any (f ^^^ y) hx _ hT).mono ?_); rintro e w' ⟨rfl, rfl⟩) | (go_at_call 221; (with_reducible refine (half_any (step4 (f ^^^ y)) hx4 _ hT).mono ?_); rintro e w' ⟨rfl, rfl⟩))
   go_round
   case rel => exact ⟨k + 1, by omega, by go_num, by rw [T.out]⟩
   case measure => simp [intOf]; omega
  ·have hkl : k = len := by omega
   subst hkl
   have e2 := xor_ones _ hf
   rw [List.take_of_length_le (by rw [HL.out]; exact Nat.le_refl _)] at e2 hf ⊢
   generalize foldN (4294967295 - s) xs = f at *
   go_wp2_with fail
   rw [HF.out]
   go_ret
   exact ⟨rfl, rfl⟩
theorem more_empty (s : Nat) (hs : s < 4294967296) (a : Option Addr) (cap : Nat) (w : World) :
  Calls Tryz.prog 220 #[.int .u32 (s : Int), .slice a 0 cap] w fun e w' => e = .returned (.int .u32 (s : Int)) ∧ w = w' := by
 have e0 := xor_ones s hs
 have e2 : bits .xor .u32 IntKind.u32.max ((4294967295 - s : Nat) : Int) = (s : Int) := by
  rw [xor_ones _ (by omega)]; congr 1; omega
 go_enter Tryz.func220, Tryz.ntmps220
 go_wp2_with fail
 go_loop [5, 12] (fun t i => i = .int .i64 0 ∧ t = .int .u32 ((4294967295 - s : Nat) : Int)) (fun _ _ => 0)
 case atStart => exact ⟨rfl, rfl⟩
 case round =>
  obtain ⟨rfl, rfl⟩ := hrel
  clear e0
  go_wp2_with fail
  go_ret
  exact ⟨rfl, rfl⟩
theorem more_at (s : Nat) (hs : s < 4294967296) (a : Option Addr) (len cap : Nat) (xs : List Nat) (w : World) (hT : Hid (Tab w)) (h : AtB w a len xs) :
  Calls Tryz.prog 220 #[.int .u32 (s : Int), .slice a len cap] w fun e w' => e = .returned (.int .u32 ((moreN s xs : Nat) : Int)) ∧ w = w' := by
 obtain ⟨h1, h2, h3, h4⟩ := h
 by_cases hp : 0 < len
 ·obtain ⟨b, off, rfl, _, hc⟩ := h4 hp
  exact more_some s hs b off len cap xs w hT h1 h3 (Lib.hid h2) (Lib.hid hc)
 ·obtain rfl : len = 0 := by omega
  have : xs = [] := by simpa using h1
  subst this
  rw [more_nil s hs]
  exact more_empty s hs a cap w
theorem sum_at (a : Option Addr) (len cap : Nat) (xs : List Nat) (w : World) (hT : Hid (Tab w)) (h : AtB w a len xs) :
  Calls Tryz.prog 216 #[.slice a len cap] w fun e w' => e = .returned (.int .u32 ((moreN 0 xs : Nat) : Int)) ∧ w = w' := by
 have HM := Lib.hid (more_at 0 (by omega) a len cap xs w hT h)
 clear h
 go_enter Tryz.func216, Tryz.ntmps216
 go_wp2_with fail
 refine HM.out.mono ?_
 rintro e w' ⟨rfl, rfl⟩
 go_wp2_with fail
 go_ret
 exact ⟨rfl, rfl⟩
theorem gHalf : Tryz.prog.globalNamed "weald/crc.half" = some 0 := by kernel_rfl
theorem tHalf : (Tryz.prog.globals[0]?).map (·.type) = some 247 := by kernel_rfl
theorem cellsU32 : Tryz.prog.cellsOf 195 = 1 := by kernel_rfl
theorem cellsTab : Tryz.prog.cellsOf 247 = 16 := by kernel_rfl
theorem tab_of_laid {W : World} (h : laidMetH Tryz.prog [("weald/crc.half", Rows.laid_weald_crc_half)] W) : Tab W := by
 rw [MakeChecks.laidMetH_plain _ _ _ (by kernel_rfl)] at h
 have hT := Lib.tabIs_of_head (k := .u32) (zs := halfs.map (fun n : Nat => (n : Int))) (rest := []) gHalf tHalf Tryz.underlying247 Tryz.underlying195 cellsU32 cellsTab h
 intro i hi
 have := hT.cell gHalf i (by simpa [halfs] using hi)
 rw [this]
 congr 2
 have all : ∀ i, i < 16 → (halfs.map (fun n : Nat => (n : Int))).getD i 0 = ((halfs.getD i 0 : Nat) : Int) := by decide
 exact all i hi
theorem Tab.pos {w : World} (h : Tab w) : 0 < w.heap.size := World.block_lt_of_cell? w ⟨0, 0, none⟩ (h 0 (by omega))
theorem Tab.below {B : Nat} {w w' : World} (h : Tab w) (hb : Below B w w') (hB : 0 < B) : Tab w' := fun i hi => (hb.cell (p := ⟨0, i, none⟩) hB).trans (h i hi)
theorem Tab.later {w w' : World} (h : Hid (Tab w)) (hb : Below w.heap.size w w') : Hid (Tab w') := Lib.hid (h.out.below hb h.out.pos)
theorem sum_is' (a : Option Addr) (len cap : Nat) (xs : List Nat) (n : Nat) (w : World) (hT : Hid (Tab w)) (h : AtB w a len xs) (hn : moreN 0 xs = n) :
  Calls Tryz.prog 216 #[.slice a len cap] w fun e w' => e = .returned (.int .u32 (n : Int)) ∧ w = w' := by
 rw [← hn]; exact sum_at a len cap xs w hT h
end Go.Proofs.YtibpfkcackdbgaaGreatDoor
namespace Go.Proofs.YtibpfkcackdbgaaGreatDoor
open Go.ChangeShapes Go.WideShapes Go.ChangeAt Go.RowKit
set_option linter.unusedVariables false
set_option maxRecDepth 100000
end Go.Proofs.YtibpfkcackdbgaaGreatDoor
