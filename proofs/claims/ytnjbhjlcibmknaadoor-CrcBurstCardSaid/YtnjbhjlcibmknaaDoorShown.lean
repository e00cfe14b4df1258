/-
  The document's example of layer 3: the function that asks it answers yes, and lays at most new memory; the table of half bytes, out of what the row says of the variable.
-/
import Derived.Test.YtnjbhjlcibmknaaDoorCalls
import Derived.RowKit3
import Derived.Below
import Derived.LaidMore
import Derived.Deep.RegionHeld3
import Derived.Lib.SlBytesConst
namespace Go.Proofs.YtnjbhjlcibmknaaDoor
open Go.ChangeShapes Go.WideShapes Go.ChangeAt Go.RowKit
set_option linter.unusedVariables false

theorem gHalf : Tryd.prog.globalNamed "weald/crc.half" = some 0 := by kernel_rfl
theorem tHalf : (Tryd.prog.globals[0]?).map (·.type) = some 37 := by kernel_rfl
theorem cells22 : Tryd.prog.cellsOf 22 = 1 := by kernel_rfl
theorem cells37 : Tryd.prog.cellsOf 37 = 16 := by kernel_rfl

theorem tab_of_laid {W : World} (h : laidMetH Tryd.prog [("weald/crc.half", Rows.laid_weald_crc_half)] W) : Tab W := by
  rw [MakeChecks.laidMetH_plain _ _ _ (by kernel_rfl)] at h
  have hT := Lib.tabIs_of_head (k := .u32) (zs := halfs.map (fun n : Nat => (n : Int))) (rest := []) gHalf tHalf Tryd.underlying37 Tryd.underlying22 cells22 cells37 h
  intro i hi
  have := hT.cell gHalf i (by simpa [halfs] using hi)
  rw [this]
  congr 2
  have all : ∀ i, i < 16 → (halfs.map (fun n : Nat => (n : Int))).getD i 0 = ((halfs.getD i 0 : Nat) : Int) := by decide
  exact all i hi

theorem Tab.pos {w : World} (h : Tab w) : 0 < w.heap.size := World.block_lt_of_cell? w ⟨0, 0, none⟩ (h 0 (by omega))
theorem Tab.below {B : Nat} {w w' : World} (h : Tab w) (hb : Below B w w') (hB : 0 < B) : Tab w' := fun i hi => (hb.cell (p := ⟨0, i, none⟩) hB).trans (h i hi)
theorem AtB.below {B : Nat} {w w' : World} {a : Option Addr} {len : Nat} {xs : List Nat} (h : AtB w a len xs) (hb : Below B w w') (hB : w.heap.size ≤ B) : AtB w' a len xs := by
  obtain ⟨h1, h2, h3, h4⟩ := h
  refine ⟨h1, h2, h3, fun hp => ?_⟩
  obtain ⟨b, off, e, hlt, hc⟩ := h4 hp
  exact ⟨b, off, e, Nat.lt_of_lt_of_le hlt hb.size, fun j hj => (hb.cell (p := ⟨b, off + j, none⟩) (Nat.lt_of_lt_of_le hlt hB)).trans (hc j hj)⟩
theorem AtB.nil (w : World) (a : Option Addr) : AtB w a 0 [] := ⟨rfl, fun x hx => by simp at hx, by omega, fun h => by omega⟩
theorem AtB.one {w : World} {b x : Nat} (hx : x < 256) (h : w.cell? ⟨b, 0, none⟩ = some (.int .u8 ((x : Nat) : Int))) : AtB w (some ⟨b, 0, none⟩) 1 [x] :=
  ⟨rfl, fun y hy => by simp at hy; omega, by omega, fun _ => ⟨b, 0, rfl, World.block_lt_of_cell? w _ h, fun j hj => by
    obtain rfl : j = 0 := by omega
    exact h⟩⟩
theorem Tab.later {w w' : World} (h : Hid (Tab w)) (hb : Below w.heap.size w w') : Hid (Tab w') := Lib.hid (h.out.below hb h.out.pos)
theorem AtB.later {w w' : World} {a : Option Addr} {len : Nat} {xs : List Nat} (h : Hid (AtB w a len xs)) (hb : Below w.heap.size w w') : AtB w' a len xs := h.out.below hb (Nat.le_refl _)
/-- What is left of a row behind a cut. -/
theorem AtB.cut {w : World} {b off len : Nat} {xs : List Nat} (h : AtB w (some ⟨b, off, none⟩) len xs) (i n : Nat) (hi : i + n ≤ len) : AtB w (some ⟨b, off + i, none⟩) n ((xs.drop i).take n) := by
  obtain ⟨h1, h2, h3, h4⟩ := h
  refine ⟨by simp; omega, fun x hx => h2 x (List.mem_of_mem_drop (List.mem_of_mem_take hx)), by omega, fun hp => ?_⟩
  obtain ⟨b', off', e, hlt, hc⟩ := h4 (by omega)
  simp only [Option.some.injEq, Addr.mk.injEq, and_true] at e
  obtain ⟨rfl, rfl⟩ := e
  refine ⟨b, off + i, rfl, hlt, fun j hj => ?_⟩
  have := hc (i + j) (by omega)
  rw [Nat.add_assoc, this]
  simp [List.getElem?_drop, hj]

def ShownPost (w : World) (e : Ending) (w' : World) : Prop := e = .returned (.bool true) ∧ Below w.heap.size w w'

theorem sum_is (a : Option Addr) (len cap : Nat) (xs : List Nat) (v : Int) (w : World) (hT : Hid (Tab w)) (h : AtB w a len xs) (hv : ((moreN 0 xs : Nat) : Int) = v) :
    Calls Tryd.prog 11 #[.slice a len cap] w fun e w' => e = .returned (.int .u32 v) ∧ w = w' := by
  rw [← hv]; exact sum_at a len cap xs w hT h
theorem more_is (s : Int) (n : Nat) (a : Option Addr) (len cap : Nat) (xs : List Nat) (v : Int) (w : World) (hs : s = (n : Int)) (hn : n < 4294967296) (hT : Hid (Tab w)) (h : AtB w a len xs) (hv : ((moreN n xs : Nat) : Int) = v) :
    Calls Tryd.prog 13 #[.int .u32 s, .slice a len cap] w fun e w' => e = .returned (.int .u32 v) ∧ w = w' := by
  subst hs; rw [← hv]; exact more_at n hn a len cap xs w hT h

def digits : List Nat := [49, 50, 51, 52, 53, 54, 55, 56, 57]
theorem sum9 : ((moreN 0 digits : Nat) : Int) = 3421780262 := by decide +kernel
theorem sum4 : ((moreN 0 ((digits.drop 0).take 4) : Nat) : Int) = 2615402659 := by decide +kernel
theorem more5 : ((moreN 2615402659 ((digits.drop 4).take 5) : Nat) : Int) = 3421780262 := by decide +kernel
theorem sum0 : ((moreN 0 [] : Nat) : Int) = 0 := by decide +kernel
theorem sumA : ((moreN 0 [0] : Nat) : Int) = 3523407757 := by decide +kernel
theorem sumB : ((moreN 0 [1] : Nat) : Int) = 2768625435 := by decide +kernel

set_option maxRecDepth 100000 in
theorem shown_post (w : World) (hT : Hid (Tab w)) :
    Calls Tryd.prog 10 #[] w (ShownPost w) := by
  have kc := fun (w : World) (C : Array Value) (n c : Nat) => Lib.run_convert_bytes_const (P := Tryd.prog) w 23 5 C n c Tryd.underlying23 Tryd.underlying5
  go_enter Tryd.func10, Tryd.ntmps10
  go_wp2_with fail
  have hA : AtB (w.alloc (.cells #[.int .u8 49, .int .u8 50, .int .u8 51, .int .u8 52, .int .u8 53, .int .u8 54, .int .u8 55, .int .u8 56, .int .u8 57] 5 (9, 10))) (some ⟨w.heap.size, 0, none⟩) 9 digits := by
    refine ⟨rfl, ?_, by omega, fun _ => ⟨_, 0, rfl, by rw [show (w.alloc _).heap = w.heap.push _ from rfl, Array.size_push]; exact Nat.lt_succ_self _, fun j hj => ?_⟩⟩
    · intro x hx
      simp only [digits, List.mem_cons, List.not_mem_nil, or_false] at hx
      omega
    · rw [Nat.zero_add, World.cell?_alloc_mark]
      have : j = 0 ∨ j = 1 ∨ j = 2 ∨ j = 3 ∨ j = 4 ∨ j = 5 ∨ j = 6 ∨ j = 7 ∨ j = 8 := by omega
      rcases this with rfl | rfl | rfl | rfl | rfl | rfl | rfl | rfl | rfl <;> rfl
  have hB : Below w.heap.size w (w.alloc (.cells #[.int .u8 49, .int .u8 50, .int .u8 51, .int .u8 52, .int .u8 53, .int .u8 54, .int .u8 55, .int .u8 56, .int .u8 57] 5 (9, 10))) := (Below.refl _ _).alloc (Nat.le_refl _) _
  have HA := Lib.hid hA
  have HB := Lib.hid hB
  have HT := Lib.hid (hT.out.below hB hT.out.pos)
  clear hA hB kc hT
  generalize w.alloc (.cells #[.int .u8 49, .int .u8 50, .int .u8 51, .int .u8 52, .int .u8 53, .int .u8 54, .int .u8 55, .int .u8 56, .int .u8 57] 5 (9, 10)) = w1 at *
  have HA4 : Hid (AtB w1 (some ⟨w.heap.size, 0, none⟩) 4 ((digits.drop 0).take 4)) := Lib.hid (HA.out.cut 0 4 (by omega))
  have HA5 : Hid (AtB w1 (some ⟨w.heap.size, 4, none⟩) 5 ((digits.drop 4).take 5)) := Lib.hid (HA.out.cut 4 5 (by omega))
  go_region_held3 (fun w' => Below w1.heap.size w1 w') (first | assumption | (exact Below.drew (Below.refl _ _)) | (exact Below.drew (by assumption)) | (exact (fun h => Below.alloc h h.size _) (by assumption))) (first | (go_at_call 11; (with_reducible refine (sum_is (some ⟨w.heap.size, 0, none⟩) 9 9 digits 3421780262 _ (Tab.later HT (by assumption)) (AtB.later HA (by assumption)) sum9).mono ?_); rintro e w' ⟨rfl, rfl⟩) | (go_at_call 11; (with_reducible refine (sum_is (some ⟨w.heap.size, 0, none⟩) 4 9 ((digits.drop 0).take 4) 2615402659 _ (Tab.later HT (by assumption)) (AtB.later HA4 (by assumption)) sum4).mono ?_); rintro e w' ⟨rfl, rfl⟩) | (go_at_call 13; (with_reducible refine (more_is 2615402659 2615402659 (some ⟨w.heap.size, 4, none⟩) 5 5 ((digits.drop 4).take 5) 3421780262 _ rfl (by omega) (Tab.later HT (by assumption)) (AtB.later HA5 (by assumption)) more5).mono ?_); rintro e w' ⟨rfl, rfl⟩) | (go_at_call 11; (with_reducible refine (sum_is none 0 0 [] 0 _ (Tab.later HT (by assumption)) (AtB.nil _ _) sum0).mono ?_); rintro e w' ⟨rfl, rfl⟩) | (go_at_call 11; (with_reducible refine (sum_is (some ⟨_, 0, none⟩) 1 1 [0] 3523407757 _ (Tab.later HT (by assumption)) (AtB.one (by decide) ?_) sumA).mono ?_); (focus (simp; done)); rintro e w' ⟨rfl, rfl⟩) | (go_at_call 11; (with_reducible refine (sum_is (some ⟨_, 0, none⟩) 1 1 [1] 2768625435 _ (Tab.later HT (by assumption)) (AtB.one (by decide) ?_) sumB).mono ?_); (focus (simp; done)); rintro e w' ⟨rfl, rfl⟩))
  all_goals go_wp2_with fail
  all_goals go_ret
  all_goals exact ⟨rfl, HB.out.trans (Below.mono (by assumption) HB.out.size)⟩

theorem shown_below (w : World) (hT : Hid (Tab w)) :
    Calls Tryd.prog 10 #[] w fun e w' => e = .returned (.bool true) ∧ Below w.heap.size w w' :=
  (shown_post w hT).mono fun e w' ⟨he, hb⟩ => ⟨he, hb⟩
end Go.Proofs.YtnjbhjlcibmknaaDoor
