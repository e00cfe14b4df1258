/-
  Texts of one kind, one behind the other: AccShown, AccLeaf, DskCrash, DskCrash2, DskRefCrash, DskRefCrash2, AccStrm.
-/
import Derived.Test.YtdbomlclkhkinaaDoorAccAt
import Derived.Deep.Cut
import Derived.Lib.SlBytesConst
import Derived.Test.YtdbomlclkhkinaaDoorFields
import Derived.Test.YtdbomlclkhkinaaDoorDisks
import Derived.Test.YtdbomlclkhkinaaDoorWds
import Derived.Test.YtdbomlclkhkinaaDoorDskCalls2
import Derived.Deep.RegionHeld3
import Derived.Test.YtdbomlclkhkinaaDoorAccKeep
import Derived.Test.YtdbomlclkhkinaaDoorBase
import Derived.Deep.Matrix
import Derived.Deep.Grids
namespace Go.Proofs.YtdbomlclkhkinaaDoor
open Go.ChangeShapes Go.WideShapes Go.ChangeAt Go.RowKit
set_option linter.unusedVariables false
set_option maxRecDepth 100000

def shG0 : Nat → Nat := newF 2 1
def shG1 : Nat → Nat := setW shG0 3 5
def shG2 : Nat → Nat := setW shG1 3 7
def shP : List Stm := (zerosS 2).set 1 (Stm.zero.app [120])
theorem shG0_lt (j : Nat) : shG0 j < 18446744073709551616 := newF_lt (by decide) j
theorem shG1_lt (j : Nat) : shG1 j < 18446744073709551616 := setW_lt shG0_lt (by decide) j
theorem sh_size : sizeN 2 1 = 18 := rfl
theorem sh_new (w : World) : Calls Tryd.prog 8 #[.int .i64 2, .int .i64 1] w (NewWd w 2 1 18 shG0) := newWd_at 2 1 (by decide) (by decide) (by decide) w
section
variable (A : Option Addr) (k r ra : Nat) (R S : Option Addr) (sa : Nat) (D : Option Addr) (dc : Nat) (w : World)
theorem sh_store (pf : Bool) (hpf : pf = false) (hA : Hid (AtW w A 18 shG0)) (h0 : Hid (StmsAt w R 2 (zerosS 2))) (h1 : Hid (StmsAt w S 2 (zerosS 2))) :
    Calls Tryd.prog 15 #[.agg #[.int .i64 2, .int .i64 1, .slice A 18 k, .int .u64 0, .slice R 2 ra, .slice S 2 sa], .int .i64 0, .agg #[.int .i64 1, .int .i64 3, .int .u64 5, .int .u64 0, .slice none 0 0, .slice none 0 0], .bool true] w (DoW w 2 1 A 18 0 R S 2 shG1 (zerosS 2) (zerosS 2) 0 [] pf) := by
  subst hpf
  exact doWord 2 1 A 18 k shG0 0 R S 2 ra sa (zerosS 2) (zerosS 2) 0 5 0 none 0 0 none 0 0 1 3 (by decide) (by decide) (by decide) shG0_lt (by decide) (by decide) true w hA h0 h1
theorem sh_cas (pf : Bool) (hpf : pf = false) (hA : Hid (AtW w A 18 shG1)) (h0 : Hid (StmsAt w R 2 (zerosS 2))) (h1 : Hid (StmsAt w S 2 (zerosS 2))) :
    Calls Tryd.prog 15 #[.agg #[.int .i64 2, .int .i64 1, .slice A 18 k, .int .u64 0, .slice R 2 ra, .slice S 2 sa], .int .i64 1, .agg #[.int .i64 2, .int .i64 3, .int .u64 5, .int .u64 7, .slice none 0 0, .slice none 0 0], .bool false] w (DoW w 2 1 A 18 0 R S 2 shG2 (zerosS 2) (zerosS 2) 1 [] pf) := by
  subst hpf
  exact doWord 2 1 A 18 k shG1 0 R S 2 ra sa (zerosS 2) (zerosS 2) 1 5 7 none 0 0 none 0 0 2 3 (by decide) (by decide) (by decide) shG1_lt (by decide) (by decide) false w hA h0 h1
theorem sh_fails (pf : Bool) (hpf : pf = true) (hA : Hid (AtW w A 18 shG2)) (h0 : Hid (StmsAt w R 2 (zerosS 2))) (h1 : Hid (StmsAt w S 2 (zerosS 2))) :
    Calls Tryd.prog 15 #[.agg #[.int .i64 2, .int .i64 1, .slice A 18 k, .int .u64 0, .slice R 2 ra, .slice S 2 sa], .int .i64 1, .agg #[.int .i64 5, .int .i64 0, .int .u64 0, .int .u64 0, .slice D 1 dc, .slice none 0 0], .bool true] w (DoW w 2 1 A 18 0 R S 2 shG2 (zerosS 2) (zerosS 2) 0 [] pf) := by
  subst hpf
  exact do_fails 2 1 A 18 k shG2 0 R S 2 ra sa (zerosS 2) (zerosS 2) 1 5 0 0 0 D 1 dc none 0 0 rfl w hA h0 h1
theorem sh_append (pf : Bool) (hpf : pf = false) (hA : Hid (AtW w A 18 shG2)) (h0 : Hid (StmsAt w R 2 (zerosS 2))) (h1 : Hid (StmsAt w S 2 (zerosS 2))) (hD : Hid (AtB w D 1 [120])) :
    Calls Tryd.prog 15 #[.agg #[.int .i64 2, .int .i64 1, .slice A 18 k, .int .u64 0, .slice R 2 ra, .slice S 2 sa], .int .i64 1, .agg #[.int .i64 5, .int .i64 0, .int .u64 0, .int .u64 0, .slice D 1 dc, .slice none 0 0], .bool false] w (DoW w 2 1 A 18 0 R S 2 shG2 shP (zerosS 2) 0 [] pf) := by
  subst hpf
  exact do_disk 2 1 A 18 k shG2 0 R S 2 ra sa (zerosS 2) (zerosS 2) 1 5 0 0 0 D 1 dc none 0 0 rfl false rfl [120] 0 0 shP (zerosS 2) [] (fun w g0 g1 g2 => ofDisk_append 0 (by decide) R S 2 ra sa (zerosS 2) (zerosS 2) 0 1 rfl rfl 1 0 0 0 D 1 dc none 0 0 shP (zerosS 2) 0 [120]
    (fun w g0 g1 g2 => dskAppend0_at 0 R 2 ra S 2 sa (zerosS 2) (zerosS 2) 1 (by decide) (by decide) Stm.zero rfl D dc 1 [120] (by decide) w g0 g1 g2) w g0 g1 g2) w hA h0 h1 hD
theorem sh_disk5 : Calls Tryd.prog 39 #[.int .i64 5] w (fun e w' => e = .returned (.bool true) ∧ w = w') := disk_any 5 w
theorem sh_disk13 : Calls Tryd.prog 39 #[.int .i64 13] w (fun e w' => e = .returned (.bool false) ∧ w = w') := disk_any 13 w
end
theorem one_at (w : World) (mk : Nat × Nat) : AtB (w.alloc (.cells #[.int .u8 120] 5 mk)) (some ⟨w.heap.size, 0, none⟩) 1 [120] :=
  AtB.one (by decide) (by rw [World.cell?_alloc_mark]; rfl)
theorem run_lit (w : World) (C : Array Value) (n c : Nat) : (convert 48 48 (.slice (some ⟨w.heap.size, 0, none⟩) n c)).run Tryd.prog (w.alloc (.cells C 5)) = .ok (.slice (some ⟨w.heap.size, 0, none⟩) n c) (w.alloc (.cells C 5 (C.size, C.size + 1))) :=
  Lib.run_convert_bytes_const (P := Tryd.prog) w 48 5 C n c Tryd.underlying48 Tryd.underlying5
end Go.Proofs.YtdbomlclkhkinaaDoor
namespace Go.Proofs.YtdbomlclkhkinaaDoor
open Go.ChangeShapes Go.WideShapes Go.ChangeAt Go.RowKit Go.Deep
set_option linter.unusedVariables false
set_option maxRecDepth 100000
theorem wf_i64 {n : Int} (h : (Lit.int .i64 n).wf = true) : -9223372036854775808 ≤ n ∧ n < 9223372036854775808 := by
  have hmin : IntKind.i64.min = -9223372036854775808 := rfl
  have hmax : IntKind.i64.max = 9223372036854775807 := rfl
  simp only [Lit.wf, Bool.and_eq_true, decide_eq_true_eq, hmin, hmax] at h
  omega
section
variable {H : Type} {enc : TypeId × Value → H} {w : World}
theorem bytes_cell {fuel : Nat} {cs : List Value} {x : DataW H × List MemPlace} (hf : DataW.trod enc Tryd.prog w 0 (fun _ => true) true fuel 48 cs = some x) (hlt : ∀ z ∈ x.2, z.block < w.heap.size) :
    ∃ a len cap xs, cs = [.slice a len cap] ∧ len ≤ cap ∧ AtB w a len xs := by
  rcases open_ints Tryd.underlying48 Tryd.underlying5 cells5 hf with ⟨hcs, hx⟩ | ⟨a, len, cap, zs, hcs, _, hl, hm, hz, hx, hcell, hwz⟩
  · exact ⟨none, 0, 0, [], hcs, Nat.le_refl _, AtB.nil _ _⟩
  · subst hx
    simp only [if_true] at hz
    refine ⟨some a, len, cap, (zs.take len).map Int.toNat, hcs, hl, by simp; omega, fun y hy => ?_, by unfold maxLen at hm; omega, fun hp => ?_⟩
    · obtain ⟨z, hzm, rfl⟩ := List.mem_map.1 hy
      have := wf_u8 (hwz z (List.mem_of_mem_take hzm))
      omega
    obtain ⟨b, off, rfl, hc⟩ := ints_at hcell (by omega)
    refine ⟨b, off, rfl, hlt (.cell b (off + 0)) (MemPlace.mem_row.2 ⟨0, by omega, rfl⟩), fun j hj => ?_⟩
    rw [hc j (by omega)]
    have hjz : j < zs.length := by omega
    have hw := wf_u8 (hwz zs[j] (List.getElem_mem _))
    have e : ((zs.take len).map Int.toNat).getD j 0 = zs[j].toNat := by
      rw [List.getD_eq_getElem?_getD, List.getElem?_map, List.getElem?_take, if_pos hj, List.getElem?_eq_getElem hjz]; rfl
    rw [e, List.getD_eq_getElem?_getD, List.getElem?_eq_getElem hjz]
    congr 2
    show zs[j] = _
    omega
theorem bytes_reach {fuel : Nat} {cs : List Value} {x : DataW H × List MemPlace} (hf : DataW.trod enc Tryd.prog w 0 (fun _ => true) true fuel 48 cs = some x) (hs : Sized Tryd.prog 48 x.1) (hlt : ∀ z ∈ x.2, z.block < w.heap.size) :
    ∃ a len cap xs, cs = [.slice a len cap] ∧ len ≤ cap ∧ len ≤ 140737488355328 ∧ AtB w a len xs := by
  obtain ⟨a, len, cap, xs, rfl, hc, hat⟩ := bytes_cell hf hlt
  exact ⟨a, len, cap, xs, rfl, hc, slice_reach Tryd.underlying48 hf hs (by rw [show Tryd.prog.bytesOf 5 = 1 by kernel_rfl]; exact Nat.le_refl _), hat⟩
theorem two_cells {α : Type} {l : List α} (h : l.length = 2) : ∃ a b, l = [a, b] := by
  match l, h with
  | [a, b], _ => exact ⟨a, b, rfl⟩
theorem stm_reach {fuel : Nat} {cs : List Value} {x : DataW H × List MemPlace} (hf : DataW.trod enc Tryd.prog w 0 (fun _ => true) true fuel 50 cs = some x) (hs : Sized Tryd.prog 50 x.1) (hlt : ∀ z ∈ x.2, z.block < w.heap.size) :
    ∃ (y : Stm) (a : Option Addr) (cap : Nat), cs = [.slice a y.bytes.length cap, .int .i64 y.synced] ∧ y.bytes.length ≤ cap ∧ y.bytes.length ≤ 140737488355328 ∧ AtB w a y.bytes.length y.bytes ∧ (-9223372036854775808 ≤ y.synced ∧ y.synced < 9223372036854775808) := by
  obtain ⟨_, _, _, _, hcl, _, _⟩ := DataW.trod_struct Tryd.underlying50 hf
  obtain ⟨c0, c1, rfl⟩ := two_cells (hcl.trans (show Tryd.prog.cellsOf 50 = 2 by kernel_rfl))
  obtain ⟨y0, n0, g0, s0, l0⟩ := field_at Tryd.underlying50 hf 0 _ rfl 48 0 1 [c0] rfl rfl (by kernel_rfl) rfl hs hlt
  obtain ⟨y1, n1, g1, s1, l1⟩ := field_at Tryd.underlying50 hf 1 _ rfl 3 1 1 [c1] rfl rfl (by kernel_rfl) rfl hs hlt
  obtain ⟨a, len, cap, ys, e0, hl, hr, hat⟩ := bytes_reach g0 s0 l0
  obtain ⟨s, e1, _, hw⟩ := DataW.trod_int Tryd.underlying3 g1
  obtain rfl : len = ys.length := hat.1.symm
  cases e0
  cases e1
  exact ⟨⟨ys, s⟩, a, cap, rfl, hl, hr, hat, wf_i64 hw⟩
def StmIn (w : World) (a : Addr) (i : Nat) (y : Stm) (A : Option Addr) (c : Nat) : Prop :=
  w.cell? ((a.add (i * 2)).add 0) = some (.slice A y.bytes.length c) ∧ w.cell? ((a.add (i * 2)).add 1) = some (.int .i64 y.synced) ∧ y.bytes.length ≤ c ∧ y.bytes.length ≤ 140737488355328 ∧ AtB w A y.bytes.length y.bytes ∧ (-9223372036854775808 ≤ y.synced ∧ y.synced < 9223372036854775808)
theorem stms_reach {fuel : Nat} {cs : List Value} {x : DataW H × List MemPlace} (hf : DataW.trod enc Tryd.prog w 0 (fun _ => true) true fuel 28 cs = some x) (hs : Sized Tryd.prog 28 x.1) (hlt : ∀ z ∈ x.2, z.block < w.heap.size) :
    ∃ a len cap l, cs = [.slice a len cap] ∧ len ≤ cap ∧ StmsAt w a len l := by
  have h2 : Tryd.prog.cellsOf 50 = 2 := by kernel_rfl
  rcases open_slice Tryd.underlying28 hf with ⟨hcs, hx⟩ | ⟨a, len, cap, m, n, D, Pl, hcs, _, hl, hm, hmm, hx, hi⟩
  · exact ⟨none, 0, 0, [], hcs, Nat.le_refl _, StmsAt.nil _ _⟩
  · subst hcs
    have hr := slice_reach Tryd.underlying28 hf hs (by rw [show Tryd.prog.bytesOf 50 = 32 by kernel_rfl]; decide)
    simp only [if_true] at hmm
    subst hmm
    subst hx
    rw [h2] at hi
    have hex : ∀ i, i < len → ∃ y : Stm, ∃ (A : Option Addr) (c : Nat), StmIn w a i y A c := by
      intro i hil
      obtain ⟨cs', hc, ht⟩ := hi i (by omega)
      obtain ⟨y, A, c, e, k1, k2, k3, k4⟩ := stm_reach ht (fun z hz => hs z (by
        simp only [DataW.weights, Tryd.underlying28]
        exact List.mem_cons_of_mem _ (List.mem_append_left _ (weightsAll_mem (List.mem_map.2 ⟨i, List.mem_range.2 hil, rfl⟩) hz)))) (fun z hz => hlt z (List.mem_append_right _ (List.mem_flatMap.2 ⟨i, List.mem_range.2 (by omega), hz⟩)))
      obtain ⟨_, _, hat⟩ := World.cells?_some hc
      subst e
      exact ⟨y, A, c, hat 0 (by decide), hat 1 (by decide), k1, k2, k3, k4⟩
    obtain ⟨f, hf'⟩ := @choose_lt Stm ⟨Stm.zero⟩ len _ hex
    refine ⟨some a, len, _, (List.range len).map f, rfl, hl, by simp, hr, fun hp => ?_⟩
    obtain ⟨b, off, spot⟩ := a
    have hspot : spot = none := by
      obtain ⟨A, c, h0, _⟩ := hf' 0 hp
      have := World.cell?_spot h0
      simpa [Addr.add] using this
    subst hspot
    refine ⟨b, off, rfl, ?_, fun j y hy => ?_⟩
    · obtain ⟨A, c, h0, _⟩ := hf' 0 hp
      have := World.block_lt_of_cell? w _ h0
      simpa [Addr.add] using this
    · have hj : j < len := by have := (List.getElem?_eq_some_iff.1 hy).1; simpa using this
      rw [List.getElem?_map, List.getElem?_range hj] at hy
      simp only [Option.map_some, Option.some.injEq] at hy
      subst hy
      obtain ⟨A, c, k0, k1, k2, k3, k4, k5⟩ := hf' j hj
      rw [Go.WideShapes.add_plain, Go.WideShapes.add_plain, Nat.add_zero] at k0
      rw [Go.WideShapes.add_plain, Go.WideShapes.add_plain] at k1
      exact ⟨A, c, k0, k2, k3, k4, k1, k5⟩
theorem leaf_bytes {fuel : Nat} {cs : List Value} {x : DataW H × List MemPlace} (hf : DataW.trod enc Tryd.prog w 0 (fun _ => true) true fuel 48 cs = some x) (hs : Sized Tryd.prog 48 x.1) (hlt : ∀ z ∈ x.2, z.block < w.heap.size) :
    ∃ (a : Option Addr) (len cap : Nat) (xs : List Nat), cs = [.slice a len cap] ∧ (len ≤ cap ∧ len ≤ 140737488355328 ∧ AtB w a len xs) := bytes_reach hf hs hlt
theorem leaf_streams {fuel : Nat} {cs : List Value} {x : DataW H × List MemPlace} (hf : DataW.trod enc Tryd.prog w 0 (fun _ => true) true fuel 28 cs = some x) (hs : Sized Tryd.prog 28 x.1) (hlt : ∀ z ∈ x.2, z.block < w.heap.size) :
    ∃ (a : Option Addr) (len cap : Nat) (l : List Stm), cs = [.slice a len cap] ∧ (len ≤ cap ∧ StmsAt w a len l) := stms_reach hf hs hlt
end
end Go.Proofs.YtdbomlclkhkinaaDoor
namespace Go.Proofs.YtdbomlclkhkinaaDoor
open Go.ChangeShapes Go.WideShapes Go.ChangeAt Go.RowKit
set_option linter.unusedVariables false
set_option maxRecDepth 100000

/-! ### A slice that reads as a row of numbers -/
def AtI (w : World) (a : Option Addr) (n : Nat) (f : Nat → Int) : Prop :=
  n ≤ 140737488355328 ∧ (∀ j, j < n → -9223372036854775808 ≤ f j ∧ f j < 9223372036854775808) ∧ (0 < n → ∃ b off, a = some ⟨b, off, none⟩ ∧ b < w.heap.size ∧ ∀ j, j < n → w.cell? ⟨b, off + j, none⟩ = some (.int .i64 (f j)))
theorem AtI.later {w w' : World} {a : Option Addr} {n : Nat} {f : Nat → Int} (h : AtI w a n f) (hb : Below w.heap.size w w') : AtI w' a n f := by
  refine ⟨h.1, h.2.1, fun hp => ?_⟩
  obtain ⟨b, off, e, hlt, hc⟩ := h.2.2 hp
  exact ⟨b, off, e, Nat.lt_of_lt_of_le hlt hb.size, fun j hj => (hb.cell (p := ⟨b, off + j, none⟩) hlt).trans (hc j hj)⟩
theorem AtI.nil (w : World) (a : Option Addr) (f : Nat → Int) : AtI w a 0 f := ⟨by omega, fun j hj => by omega, fun h => by omega⟩
theorem AtI.cutA {w : World} {a : Option Addr} {n cap : Nat} {f : Nat → Int} (h : AtI w a n f) (hc : n ≤ cap) (lo : Nat) (hl : lo ≤ n) : AtI w (cutA a cap lo) (n - lo) (fun j => f (lo + j)) := by
  refine ⟨by have := h.1; omega, fun j hj => h.2.1 _ (by omega), fun hp => ?_⟩
  obtain ⟨b, off, rfl, hlt, hcell⟩ := h.2.2 (by omega)
  unfold YtdbomlclkhkinaaDoor.cutA
  rw [if_neg (by omega)]
  refine ⟨b, off + lo * 1, by simp [Addr.add], hlt, fun j hj => ?_⟩
  have := hcell (lo + j) (by omega)
  rw [← this]
  congr 2
  omega
theorem elemI : Tryd.prog.underlying 36 = some (.slice (Tryd.prog.elem 36)) := by kernel_rfl
theorem elemI' : Tryd.prog.elem 36 = 3 := by kernel_rfl
theorem sizeI (w : World) : (sizeOf 3).run Tryd.prog w = .ok 1 w := by kernel_rfl
theorem run_cutI_l (a : Option Addr) (len cap lo : Nat) (h1 : lo ≤ len) (W : World) :
    (Instr.slice 36 (.slice a len cap) (some (.int .i64 (lo : Int))) none none).run Tryd.prog W = .ok (.slice (cutA a cap lo) (len - lo) (cap - lo)) W := by
  rw [run_slice_l W 36 _ _ _ elemI .i64 _ (by omega) (by omega), elemI', sizeI]
  rfl

/-- The number at a place; where there is none, 0. -/
def moreAt (n : Nat) (f : Nat → Int) (j : Nat) : Int := if j < n then f j else 0
theorem moreAt_shift (n lo : Nat) (f : Nat → Int) (m : Nat) (h : lo = min m n) (j : Nat) : moreAt (n - lo) (fun j => f (lo + j)) j = moreAt n f (m + j) := by
  unfold moreAt
  by_cases h1 : m ≤ n
  · rw [show lo = m by omega]
    by_cases h2 : m + j < n
    · rw [if_pos (by omega), if_pos h2]
    · rw [if_neg (by omega), if_neg h2]
  · rw [if_neg (by omega), if_neg (by omega)]
/-- A row behind a crash, its streams cut by numbers; the first k of them, and the rest empty. -/
def cutK (l : List Stm) (c : Nat → Int) (k : Nat) : List Stm := (List.range l.length).map fun i => if i < k then (l.getD i Stm.zero).cut (c i) else Stm.zero
def cutL (l : List Stm) (c : Nat → Int) : List Stm := (List.range l.length).map fun i => (l.getD i Stm.zero).cut (c i)
theorem cutL_length (l : List Stm) (c : Nat → Int) : (cutL l c).length = l.length := by simp [cutL]
theorem cutL_get (l : List Stm) (c : Nat → Int) (i : Nat) (x : Stm) (h : l[i]? = some x) : (cutL l c)[i]? = some (x.cut (c i)) := by
  have hi : i < l.length := (List.getElem?_eq_some_iff.1 h).1
  unfold cutL
  rw [List.getElem?_map, List.getElem?_range hi]
  simp [List.getD_eq_getElem?_getD, h]
theorem cutK_zero (l : List Stm) (c : Nat → Int) : cutK l c 0 = zerosS l.length := by
  unfold cutK zerosS
  apply List.ext_getElem?
  intro i
  by_cases hi : i < l.length
  · rw [List.getElem?_map, List.getElem?_range hi]; simp [hi]
  · rw [List.getElem?_eq_none (by simpa using hi), List.getElem?_eq_none (by simpa using hi)]
theorem cutK_next (l : List Stm) (c : Nat → Int) (k : Nat) (x : Stm) (h : l[k]? = some x) : cutK l c (k + 1) = (cutK l c k).set k (x.cut (c k)) := by
  have hk : k < l.length := (List.getElem?_eq_some_iff.1 h).1
  unfold cutK
  apply List.ext_getElem?
  intro i
  by_cases hi : i < l.length
  · by_cases hik : k = i
    · subst hik
      rw [List.getElem?_set_self (by simpa using hk), List.getElem?_map, List.getElem?_range hk]
      simp [List.getD_eq_getElem?_getD, h]
    · rw [List.getElem?_set_ne hik, List.getElem?_map, List.getElem?_map, List.getElem?_range hi]
      simp only [Option.map_some]
      by_cases h2 : i < k
      · rw [if_pos (by omega), if_pos h2]
      · rw [if_neg (by omega), if_neg h2]
  · rw [List.getElem?_eq_none (by simpa using hi), List.getElem?_eq_none (by simpa using hi)]
theorem cutK_all (l : List Stm) (c : Nat → Int) (k : Nat) (h : l.length ≤ k) : cutK l c k = cutL l c := by
  unfold cutK cutL
  apply List.map_congr_left
  intro i hi
  rw [List.mem_range] at hi
  rw [if_pos (by omega)]
theorem cutK_length (l : List Stm) (c : Nat → Int) (k : Nat) : (cutK l c k).length = l.length := by simp [cutK]
theorem cutL_congr (l : List Stm) {c d : Nat → Int} (h : ∀ i, c i = d i) : cutL l c = cutL l d := by unfold cutL; simp [h]
theorem allB_get {l : List Stm} (h : allB l = true) {k : Nat} {x : Stm} (hx : l[k]? = some x) : x.right = true := by
  unfold allB at h
  rw [List.all_eq_true] at h
  exact h x (List.mem_of_getElem? hx)

/-! ### cutAll -/
/-- The row under way: the first k streams are cut; their bytes lie where they lay. -/
def CutAll (w : World) (A : Option Addr) (n : Nat) (l : List Stm) (c : Nat → Int) (k : Nat) (wr : World) : Prop :=
  ∃ vs, wr.ownsRow w.heap.size 50 2 (.slice (some ⟨w.heap.size, 0, none⟩) n n) n vs ∧ RawS w vs (cutK l c k) ∧ (∀ P : Nat → Prop, OffS P w A n → RawO P vs) ∧ Below w.heap.size w wr
theorem ownsRow_later {w w' : World} {base : Nat} {e : TypeId} {size : Nat} {v : Value} {n : Nat} {xs : List Value} (h : w.ownsRow base e size v n xs) (hb : Below w.heap.size w w') : w'.ownsRow base e size v n xs :=
  h.kept (row := none) ⟨hb.os, hb.tape, hb.output, hb.size, fun k hk _ => hb.block k hk⟩ (by cases v.ownBlock <;> simp)
theorem rawO_zeros (P : Nat → Prop) (n : Nat) : RawO P (madeCells #[.slice none 0 0, .int .i64 0] (n * 2)).toList := by
  intro j ad len c h hl
  rw [madeM] at h
  have hj : j * 2 < n * 2 := by
    have := (List.getElem?_eq_some_iff.1 h).1
    simpa using this
  rw [List.getElem?_map, List.getElem?_range hj] at h
  simp at h
theorem CutAll.start (w : World) (A : Option Addr) (n : Nat) (l : List Stm) (c : Nat → Int) (hl : l.length = n) (hn : n ≤ 1000000) : CutAll w A n l c 0 (w.alloc (.cells (madeCells #[.slice none 0 0, .int .i64 0] (n * 2)) 50)) :=
  ⟨_, World.ownsRow_lit w _ n (Nat.le_refl _) (by unfold maxLen; omega) (by simp [madeCells]), by rw [cutK_zero, hl]; exact RawS.zeros w n, fun P _ => rawO_zeros P n, (Below.refl _ _).alloc (Nat.le_refl _) _⟩
theorem CutAll.next {w wr w' : World} {A : Option Addr} {n k : Nat} {l : List Stm} {c : Nat → Int} {x : Stm} {A0 : Option Addr} {cap b off : Nat} (h : CutAll w A n l c k wr) (hS : StmsAt w A n l) (hx : l[k]? = some x) (hr : x.right = true) (hb : Below wr.heap.size wr w')
    (ea : A = some ⟨b, off, none⟩) (hc : w.cell? ⟨b, off + k * 2, none⟩ = some (.slice A0 x.bytes.length cap)) (hat : AtB w A0 x.bytes.length x.bytes) (hm : x.bytes.length ≤ 140737488355328) :
    CutAll w A n l c (k + 1) ((w'.setCell ⟨w.heap.size, k * 2, none⟩ (.slice A0 (x.cut (c k)).bytes.length (x.cut (c k)).bytes.length)).setCell ⟨w.heap.size, k * 2 + 1, none⟩ (.int .i64 (x.cut (c k)).synced)) := by
  obtain ⟨vs, hown, hraw, ho, hbw⟩ := h
  have hk : k < l.length := (List.getElem?_eq_some_iff.1 hx).1
  have hz := Stm.cut_length hr (c k)
  have hle := Stm.cutN_le hr (c k)
  refine ⟨_, ownsRow_set2 (ownsRow_later hown hb) k _ _, ?_, fun P hP => (ho P hP).set k A0 _ _ _ ?_, below_set1 (Nat.le_refl _) _ (below_set1 (Nat.le_refl _) _ (hbw.trans (hb.mono hbw.size)))⟩
  · rw [cutK_next l c k x hx]
    refine hraw.set k (by rw [cutK_length]; exact hk) A0 _ _ (Nat.le_refl _) (by omega) ?_ ?_
    · rw [hz]; exact hat.ahead _ hle
    · simp only [Stm.cut]; omega
  · intro ad e hl
    obtain ⟨hp1, hp2⟩ := hP b off ea (by have := hS.1; omega)
    exact hp2 k (by have := hS.1; omega) ad _ cap (by rw [hc, e]) (by omega)
def CutPost (w : World) (A : Option Addr) (n : Nat) (l' : List Stm) (e : Ending) (w' : World) : Prop :=
  ∃ a c, e = .returned (.slice a n c) ∧ StmsAt w' a n l' ∧ Below w.heap.size w w' ∧ ∀ P : Nat → Prop, (∀ b, w.heap.size ≤ b → P b) → OffS P w A n → OffS P w' a n
theorem CutAll.done {w wr : World} {A : Option Addr} {n : Nat} {l : List Stm} {c : Nat → Int} (h : CutAll w A n l c n wr) (hl : l.length = n) (hn : n ≤ 1000000) : CutPost w A n (cutL l c) (.returned (.slice (some ⟨w.heap.size, 0, none⟩) n n)) wr := by
  obtain ⟨vs, hown, hraw, ho, hbw⟩ := h
  rw [cutK_all l c n (by omega)] at hraw
  obtain ⟨a, cap, e, _, hS⟩ := hraw.at_ hown hbw (by omega)
  have ea : a = some ⟨w.heap.size, 0, none⟩ := by simp at e; exact e.1.symm
  subst ea
  exact ⟨_, n, rfl, hS, hbw, fun P hF hP => off_own hown hF (ho P hP)⟩
end Go.Proofs.YtdbomlclkhkinaaDoor
namespace Go.Proofs.YtdbomlclkhkinaaDoor
open Go.ChangeShapes Go.WideShapes Go.ChangeAt Go.RowKit
set_option linter.unusedVariables false
set_option maxRecDepth 100000

/-- A row behind a crash, while the disk's variable and the result's may be written. -/
def CRow (w : World) (A : Option Addr) (n : Nat) (l' : List Stm) (a : Option Addr) (wr : World) : Prop := StmsAt wr a n l' ∧ ∀ P : Nat → Prop, (∀ b, w.heap.size + 2 ≤ b → P b) → OffS P w A n → OffS P wr a n
theorem CRow.later {w wr w' : World} {A a : Option Addr} {n : Nat} {l : List Stm} (h : CRow w A n l a wr) (hb : Below wr.heap.size wr w') : CRow w A n l a w' := ⟨h.1.later hb, fun P h1 h2 => (h.2 P h1 h2).later h.1 hb⟩
theorem CRow.apart {w wr : World} {A a : Option Addr} {n : Nat} {l q : List Stm} (h : CRow w A n l a wr) (hS : StmsAt w A n q) (b j : Nat) (v : Value) (h1 : w.heap.size ≤ b) (h2 : b < w.heap.size + 2) : CRow w A n l a (wr.setCell ⟨b, j, none⟩ v) := by
  have hne := h.2 (fun k => k ≠ b) (fun k hk => by omega) (hS.fresh b h1)
  exact ⟨h.1.apart b j v hne, fun P hF hP => (h.2 P hF hP).apart b j v hne⟩
theorem CRow.set3 {w wr : World} {A a : Option Addr} {n : Nat} {l q : List Stm} (h : CRow w A n l a wr) (hS : StmsAt w A n q) (v0 v1 v2 : Value) : CRow w A n l a (((wr.setCell ⟨w.heap.size + 1, 0, none⟩ v0).setCell ⟨w.heap.size + 1, 1, none⟩ v1).setCell ⟨w.heap.size + 1, 2, none⟩ v2) :=
  ((h.apart hS _ 0 v0 (by omega) (by omega)).apart hS _ 1 v1 (by omega) (by omega)).apart hS _ 2 v2 (by omega) (by omega)
theorem CRow.of {w wr w' : World} {A a : Option Addr} {n : Nat} {l q : List Stm} (hS : StmsAt w A n q) (hb : Below w.heap.size w wr) (hw : w.heap.size + 2 ≤ wr.heap.size) (h1 : StmsAt w' a n l) (h2 : ∀ P : Nat → Prop, (∀ b, wr.heap.size ≤ b → P b) → OffS P wr A n → OffS P w' a n) : CRow w A n l a w' :=
  ⟨h1, fun P hF hP => h2 P (fun b hb2 => hF b (by omega)) (hP.later hS hb)⟩
/-- Crash, in the midst: the disk's rows behind k of its two rounds, and what is left of the numbers. -/
def CrashRel (w : World) (r : Int) (A : Option Addr) (n a : Nat) (B : Option Addr) (m b : Nat) (l0 l1 : List Stm) (C : Option Addr) (cn cc : Nat) (f : Nat → Int) : Nat → Value → World → Prop
  | 0, v, wr => v = .slice C cn cc ∧ VarAt wr w.heap.size [.int .u64 r, .slice A n a, .slice B m b] ∧ VarAt wr (w.heap.size + 1) [.int .u64 0, .slice none 0 0, .slice none 0 0] ∧ Below w.heap.size w wr
  | 1, v, wr => v = .slice (cutA C cc (min n cn)) (cn - min n cn) (cc - min n cn) ∧ ∃ a1 c1, VarAt wr w.heap.size [.int .u64 r, .slice a1 n c1, .slice B m b] ∧ VarAt wr (w.heap.size + 1) [.int .u64 0, .slice none 0 0, .slice none 0 0] ∧ Below w.heap.size w wr ∧ CRow w A n (cutL l0 (moreAt cn f)) a1 wr
  | _, v, wr => ∃ a1 c1 b1 c2, VarAt wr w.heap.size [.int .u64 r, .slice a1 n c1, .slice b1 m c2] ∧ VarAt wr (w.heap.size + 1) [.int .u64 0, .slice none 0 0, .slice none 0 0] ∧ Below w.heap.size w wr ∧ CRow w A n (cutL l0 (moreAt cn f)) a1 wr ∧ CRow w B m (cutL l1 fun j => moreAt cn f (n + j)) b1 wr
def DskPostV (w : World) (r : Int) (A B : Option Addr) (n m : Nat) (l0 l1 : List Stm) (e : Ending) (w' : World) : Prop :=
  ∃ A' a' B' b', e = .returned (.agg #[.int .u64 r, .slice A' n a', .slice B' m b']) ∧ StmsAt w' A' n l0 ∧ StmsAt w' B' m l1 ∧ Below w.heap.size w w' ∧
    ∀ P : Nat → Prop, (∀ b, w.heap.size ≤ b → P b) → OffS P w A n → OffS P w B m → OffS P w' A' n ∧ OffS P w' B' m
end Go.Proofs.YtdbomlclkhkinaaDoor
namespace Go.Proofs.YtdbomlclkhkinaaDoor
open Go.ChangeShapes Go.WideShapes Go.ChangeAt Go.RowKit
set_option linter.unusedVariables false
set_option maxRecDepth 100000

/-- A row of streams of the call's own (its memory from s on), whose bytes are the call's own too (from base on). -/
def OwnStms (w : World) (base s : Nat) (v : Value) (n : Nat) (l : List Stm) : Prop :=
  ∃ vs, w.ownsRow s 50 2 v n vs ∧ vs.length = l.length * 2 ∧ ∀ j x, l[j]? = some x → ∃ u, vs[j * 2]? = some u ∧ vs[j * 2 + 1]? = some (.int .i64 x.synced) ∧ Own w base u x.bytes.length x.bytes ∧ (-9223372036854775808 ≤ x.synced ∧ x.synced < 9223372036854775808) ∧ x.bytes.length ≤ 1000000
theorem OwnStms.nil (w : World) (base s : Nat) : OwnStms w base s (.slice none 0 0) 0 [] := ⟨[], World.ownsRow_nil _ _ _ _, rfl, fun j x h => by simp at h⟩
theorem OwnStms.later {w w' : World} {base s n : Nat} {v : Value} {l : List Stm} (h : OwnStms w base s v n l) (hb : Below w.heap.size w w') : OwnStms w' base s v n l := by
  obtain ⟨vs, h1, h2, h3⟩ := h
  refine ⟨vs, ownsRow_later h1 hb, h2, fun j x hx => ?_⟩
  obtain ⟨u, k1, k2, k3, k4⟩ := h3 j x hx
  exact ⟨u, k1, k2, k3.later hb, k4⟩
theorem OwnStms.aside {w : World} {base s n : Nat} {v : Value} {l : List Stm} (h : OwnStms w base s v n l) (b j : Nat) (u : Value) (hb : b < base) (hs : b < s) : OwnStms (w.setCell ⟨b, j, none⟩ u) base s v n l := by
  obtain ⟨vs, h1, h2, h3⟩ := h
  refine ⟨vs, ownsRow_apart h1 b j u hs, h2, fun i x hx => ?_⟩
  obtain ⟨y, k1, k2, k3, k4⟩ := h3 i x hx
  exact ⟨y, k1, k2, k3.aside b j u hb, k4⟩
theorem own_kind {w : World} {base n : Nat} {e : TypeId} {size : Nat} {v : Value} {vs : List Value} (h : w.ownsRow base e size v n vs) (g : Nat) (hg : v.ownBlock = some g) : ∃ cur mk, w.heap[g]? = some (.cells cur e mk) := by
  rcases h.2 with ⟨rfl, _⟩ | ⟨g', cap, cur, rfl, _, hgb, _⟩
  · simp [Value.ownBlock] at hg
  · simp [Value.ownBlock] at hg
    subst hg
    exact ⟨cur, _, hgb⟩
theorem OwnStms.grown {w w' : World} {base s n : Nat} {v : Value} {l : List Stm} {row : Option Nat} (h : OwnStms w base s v n l) (hg : w.grownBy w' row) (hrow : v.ownBlock = none ∨ ¬ v.ownBlock = row) (ht : ∀ g, row = some g → ∃ cur mk, w.heap[g]? = some (.cells cur 50 mk)) : OwnStms w' base s v n l := by
  obtain ⟨vs, h1, h2, h3⟩ := h
  refine ⟨vs, h1.kept hg hrow, h2, fun j x hx => ?_⟩
  obtain ⟨u, k1, k2, k3, k4⟩ := h3 j x hx
  refine ⟨u, k1, k2, ⟨k3.1, k3.2.kept hg ?_⟩, k4⟩
  rcases row with _ | g
  · rcases hu : u.ownBlock with _ | q
    · exact .inl rfl
    · exact .inr (by simp)
  · rcases hu : u.ownBlock with _ | q
    · exact .inl rfl
    · refine .inr (fun e => ?_)
      obtain ⟨cur, mk, hc⟩ := ht g rfl
      obtain ⟨cur', mk', hc'⟩ := own_kind k3.2 q hu
      cases e
      rw [hc] at hc'
      simp at hc'
theorem OwnStms.at_ {w : World} {base s n : Nat} {v : Value} {l : List Stm} (h : OwnStms w base s v n l) (hn : n ≤ 1000000) : ∃ a cap, v = .slice a n cap ∧ n ≤ cap ∧ StmsAt w a n l ∧ ∀ P : Nat → Prop, (∀ b, base ≤ b → P b) → (∀ b, s ≤ b → P b) → OffS P w a n := by
  obtain ⟨vs, h1, h2, h3⟩ := h
  have hraw : RawS w vs l := ⟨h2, fun j x hx => by
    obtain ⟨u, k1, k2, k3, k4, k5⟩ := h3 j x hx
    obtain ⟨A, cap, rfl, k6, k7⟩ := k3.at_ (by omega)
    exact ⟨A, cap, k1, k2, k6, by omega, k7, k4⟩⟩
  obtain ⟨a, cap, rfl, hc, hS⟩ := hraw.at_ h1 (Below.refl _ _) (by omega)
  refine ⟨a, cap, rfl, hc, hS, fun P hP1 hP2 => off_own h1 hP2 ?_⟩
  intro j ad len c hu hl
  have hj : j < l.length := by have := (List.getElem?_eq_some_iff.1 hu).1; omega
  obtain ⟨u, k1, _, k3, _⟩ := h3 j _ (List.getElem?_eq_getElem hj)
  rw [hu] at k1
  cases k1
  obtain ⟨b, off, sp⟩ := ad
  have hlen : (l[j]).bytes.length = len := by
    rcases k3.2.2 with ⟨e, _⟩ | ⟨g, cap', cur, e, _⟩
    · cases e
    · simp at e; exact e.2.1.symm
  rcases k3.2.2 with ⟨e, _⟩ | ⟨g, cap', cur, e, hg, _⟩
  · cases e
  · simp only [Value.slice.injEq, Option.some.injEq, Addr.mk.injEq] at e
    obtain ⟨⟨rfl, _⟩, _⟩ := e
    exact hP1 _ hg

/-- What a world keeps while the variables are read and the result under way is written. -/
def CrS (w : World) (v0 v1 v2 : Value) (w' : World) : Prop :=
  Below w.heap.size w w' ∧ VarAt w' w.heap.size [v0, v1, v2] ∧ VarAt w' (w.heap.size + 1) [.int .u64 0, .slice none 0 0, .slice none 0 0] ∧ w.heap.size + 2 < w'.heap.size ∧ ∀ j, j < 3 → (∃ v, w'.cell? ⟨w.heap.size + 2, j, none⟩ = some v) ∧ w'.frozen? ⟨w.heap.size + 2, j, none⟩ = false
section
variable {w w' w2 : World} {v0 v1 v2 : Value}
theorem CrS.later (h : CrS w v0 v1 v2 w') (hb : Below w'.heap.size w' w2) : CrS w v0 v1 v2 w2 := by
  obtain ⟨h1, h2, h3, h4, h5⟩ := h
  refine ⟨h1.trans (hb.mono h1.size), h2.below hb, h3.below hb, Nat.lt_of_lt_of_le h4 hb.size, fun j hj => ?_⟩
  obtain ⟨⟨v, hv⟩, hf⟩ := h5 j hj
  exact ⟨⟨v, (keptCells hb _ _ h4).trans hv⟩, (keptFrozen hb _ _ h4).trans hf⟩
theorem CrS.alloc (h : CrS w v0 v1 v2 w') (o : Obj) : CrS w v0 v1 v2 (w'.alloc o) := h.later ((Below.refl _ _).alloc (Nat.le_refl _) o)
theorem CrS.drew (h : CrS w v0 v1 v2 w') : CrS w v0 v1 v2 w'.drew := h.later (Below.drew (Below.refl _ _))
theorem CrS.res (h : CrS w v0 v1 v2 w') (j : Nat) (v : Value) : CrS w v0 v1 v2 (w'.setCell ⟨w.heap.size + 2, j, none⟩ v) := by
  obtain ⟨h1, h2, h3, h4, h5⟩ := h
  refine ⟨below_set1 (by omega) v h1, h2.apart j v (by omega), h3.apart j v (by omega), by simpa using h4, fun i hi => ?_⟩
  obtain ⟨⟨u, hu⟩, hf⟩ := h5 i hi
  refine ⟨?_, by rw [World.frozen?_setCell]; exact hf⟩
  by_cases hij : i = j
  · subst hij; exact ⟨v, World.cell?_setCell_same w' _ v hu⟩
  · exact ⟨u, by rw [World.cell?_setCell_other _ _ _ _ (by simp <;> omega)]; exact hu⟩
theorem CrS.grown {row : Option Nat} (h : CrS w v0 v1 v2 w') (hg : w'.grownBy w2 row) (hr : ∀ g, row = some g → w.heap.size + 3 ≤ g) : CrS w v0 v1 v2 w2 ∧ ∀ j, w2.cell? ⟨w.heap.size + 2, j, none⟩ = w'.cell? ⟨w.heap.size + 2, j, none⟩ := by
  obtain ⟨h1, h2, h3, h4, h5⟩ := h
  have hk : Below (w.heap.size + 3) w' w2 := (Below.refl _ w').grown hg (by omega) hr
  have hc : ∀ b o, b < w.heap.size + 3 → w2.cell? ⟨b, o, none⟩ = w'.cell? ⟨b, o, none⟩ := fun b o hb => hk.cell (p := ⟨b, o, none⟩) hb
  have hfz : ∀ b o, b < w.heap.size + 3 → w2.frozen? ⟨b, o, none⟩ = w'.frozen? ⟨b, o, none⟩ := fun b o hb => hk.frozen (p := ⟨b, o, none⟩) hb
  refine ⟨⟨h1.trans (hk.mono (by omega)), ⟨Nat.lt_of_lt_of_le h2.1 hk.size, fun j u hu => (hc _ _ (by omega)).trans (h2.2.1 j u hu), fun j hj => (hfz _ _ (by omega)).trans (h2.2.2 j hj)⟩, ⟨Nat.lt_of_lt_of_le h3.1 hk.size, fun j u hu => (hc _ _ (by omega)).trans (h3.2.1 j u hu), fun j hj => (hfz _ _ (by omega)).trans (h3.2.2 j hj)⟩, Nat.lt_of_lt_of_le h4 hk.size, fun j hj => ?_⟩, fun j => hc _ _ (by omega)⟩
  obtain ⟨⟨v, hv⟩, hf⟩ := h5 j hj
  exact ⟨⟨v, (hc _ _ (by omega)).trans hv⟩, (hfz _ _ (by omega)).trans hf⟩
theorem CrS.c0 (h : CrS w v0 v1 v2 w') : w'.cell? ⟨w.heap.size, 0, none⟩ = some v0 := h.2.1.three.2.1
theorem CrS.c1 (h : CrS w v0 v1 v2 w') : w'.cell? ⟨w.heap.size, 1, none⟩ = some v1 := h.2.1.three.2.2.1
theorem CrS.c2 (h : CrS w v0 v1 v2 w') : w'.cell? ⟨w.heap.size, 2, none⟩ = some v2 := h.2.1.three.2.2.2.1
theorem CrS.r (h : CrS w v0 v1 v2 w') (j : Nat) (hj : j < 3) : w'.cell? ⟨w.heap.size + 2, j, none⟩ = some (cellV w' (w.heap.size + 2) j) := by
  obtain ⟨⟨v, hv⟩, _⟩ := h.2.2.2.2 j hj
  unfold cellV
  rw [hv]; rfl
theorem CrS.f (h : CrS w v0 v1 v2 w') (j : Nat) (hj : j < 3) : w'.frozen? ⟨w.heap.size + 2, j, none⟩ = false := (h.2.2.2.2 j hj).2
theorem CrS.bel (h : CrS w v0 v1 v2 w') : Below w.heap.size w w' := h.1
theorem CrS.cell (h : CrS w v0 v1 v2 w') {b o : Nat} {v : Value} (hb : b < w.heap.size) (hc : w.cell? ⟨b, o, none⟩ = some v) : w'.cell? ⟨b, o, none⟩ = some v := (h.1.cell (p := ⟨b, o, none⟩) hb).trans hc
end
theorem getElem?_snoc {α : Type} (l : List α) (y : α) (j : Nat) (x : α) (h : (l ++ [y])[j]? = some x) : l[j]? = some x ∨ (j = l.length ∧ x = y) := by
  by_cases hj : j < l.length
  · rw [List.getElem?_append_left hj] at h; exact .inl h
  · rw [List.getElem?_append_right (by omega)] at h
    have h0 := (List.getElem?_eq_some_iff.1 h).1
    simp at h0
    have : j = l.length := by omega
    subst this
    simp at h
    exact .inr ⟨rfl, h.symm⟩
/-- One more stream behind a row of the call's own. -/
theorem step_append_one {ops : Array Oper} {o : Oper} {a : Act} {w0 w : World} {v0 v1 v2 : Value} {K : Act → World → Prop} {Q : Exit → Act → World → Prop} {E : Prop} (hS : CrS w0 v0 v1 v2 w) (hg : o.guard = none) (s x : Operand)
    (ho : o.op = .call { callee := .builtin .append, args := #[s, x], argTypes := #[28, 28] }) (sb : Nat) (v : Value) (n : Nat) (l : List Stm) (hs : a.eval s = v) (hown : OwnStms w (w0.heap.size + 3) sb v n l) (hsb : w0.heap.size + 3 ≤ sb) (hsw : sb ≤ w.heap.size)
    (g c : Nat) (y : Stm) (u : Value) (hx : a.eval x = .slice (some ⟨g, 0, none⟩) 1 c) (hc0 : w.cell? ⟨g, 0, none⟩ = some u) (hc1 : w.cell? ⟨g, 1, none⟩ = some (.int .i64 y.synced)) (hu : Own w (w0.heap.size + 3) u y.bytes.length y.bytes)
    (hy : -9223372036854775808 ≤ y.synced ∧ y.synced < 9223372036854775808) (hyl : y.bytes.length ≤ 1000000) (hn : n < 1000000)
    (h : ∀ v' w', OwnStms w' (w0.heap.size + 3) sb v' (n + 1) (l ++ [y]) → CrS w0 v0 v1 v2 w' → (∀ j, w'.cell? ⟨w0.heap.size + 2, j, none⟩ = w.cell? ⟨w0.heap.size + 2, j, none⟩) →
      (∀ u' s' n' l', OwnStms w (w0.heap.size + 3) s' u' n' l' → (u'.ownBlock = none ∨ ¬ u'.ownBlock = v.ownBlock) → OwnStms w' (w0.heap.size + 3) s' u' n' l') → w.heap.size ≤ w'.heap.size → K (a.put o.dst v') w') : if Region.wanted o (yielded ops a.tmps) = true then Oper.wp Tryd.prog o a w K Q else E := by
  have hw : Region.wanted o (yielded ops a.tmps) = true := by simp [Region.wanted, hg]
  rw [if_pos hw]
  obtain ⟨i, hi, hz0, hz1, hz2⟩ := info_parts infoM
  obtain ⟨vs, k1, k2, k3⟩ := hown
  obtain ⟨v', w', r1, r2, r3, _⟩ := run_append_own (P := Tryd.prog) w sb 28 o.type 50 i _ 2 32 Tryd.underlying28 hi hz0 hz1 hz2 rfl (by decide) v n vs k1 ⟨g, 0, none⟩ 1 c [u, .int .i64 y.synced] rfl
    (fun j q hq => by
      have hj : j < 2 := by have := (List.getElem?_eq_some_iff.1 hq).1; simpa using this
      obtain rfl | rfl : j = 0 ∨ j = 1 := by omega
      · simp at hq; subst hq; exact hc0
      · simp at hq; subst hq; exact hc1) (fun q hq => by
      simp at hq
      rcases hq with rfl | rfl
      · rcases hu.2.2 with ⟨rfl, _⟩ | ⟨_, _, _, rfl, _⟩ <;> rfl
      · rfl) (by unfold maxLen; omega) (by omega) hsw
  have ht : ∀ g, v.ownBlock = some g → ∃ cur mk, w.heap[g]? = some (.cells cur 50 mk) := fun g hg => own_kind k1 g hg
  have hl : vs.length = n * 2 := k1.1
  have keep : ∀ (q : Value) (zs : List Nat) (m : Nat), Own w (w0.heap.size + 3) q m zs → Own w' (w0.heap.size + 3) q m zs := fun q zs m hq => by
    refine ⟨hq.1, hq.2.kept r3 ?_⟩
    rcases hv : v.ownBlock with _ | p
    · rcases hu : q.ownBlock with _ | z
      · exact .inl rfl
      · exact .inr (by simp)
    · rcases hu : q.ownBlock with _ | z
      · exact .inl rfl
      · refine .inr (fun e => ?_)
        obtain ⟨cur, mk, hc⟩ := ht p hv
        obtain ⟨cur', mk', hc'⟩ := own_kind hq.2 z hu
        cases e
        rw [hc] at hc'
        simp at hc'
  have hnew : OwnStms w' (w0.heap.size + 3) sb v' (n + 1) (l ++ [y]) := by
    refine ⟨vs ++ [u, .int .i64 y.synced], r2, by simp [k2]; omega, fun j z hz => ?_⟩
    rcases getElem?_snoc l y j z hz with h1 | ⟨rfl, rfl⟩
    · obtain ⟨q, q1, q2, q3, q4⟩ := k3 j z h1
      have hj : j < l.length := (List.getElem?_eq_some_iff.1 h1).1
      exact ⟨q, by rw [List.getElem?_append_left (by omega)]; exact q1, by rw [List.getElem?_append_left (by omega)]; exact q2, keep _ _ _ q3, q4⟩
    · exact ⟨u, by rw [List.getElem?_append_right (by omega), ← k2, Nat.sub_self]; rfl, by rw [List.getElem?_append_right (by omega), ← k2, show vs.length + 1 - vs.length = 1 by omega]; rfl, keep _ _ _ hu, hy, hyl⟩
  obtain ⟨s1, s2⟩ := hS.grown r3 (fun p hp => by have := (k1.lt p hp).1; omega)
  unfold Oper.wp execOp
  simp only [ho, resolve, invoke, builtin, Sem.run_bind, Sem.run_pure, Result.andThen_ok, List.map_toArray, List.map_cons, List.map_nil, hs, hx, r1]
  exact h v' w' hnew s1 s2 (fun u' s' n' l' q1 q2 => q1.grown r3 q2 ht) r3.size


/-- The result under way, behind k of the 2n streams. -/
def CrRel (w : World) (r : Int) (A : Option Addr) (n a : Nat) (B : Option Addr) (b : Nat) (p0 p1 : List Stm) (k : Nat) (wr : World) : Prop :=
  ∃ u0 u1 s, CrS w (.int .u64 r) (.slice A n a) (.slice B n b) wr ∧ wr.cell? ⟨w.heap.size + 2, 0, none⟩ = some (.int .u64 r) ∧ wr.cell? ⟨w.heap.size + 2, 1, none⟩ = some u0 ∧ wr.cell? ⟨w.heap.size + 2, 2, none⟩ = some u1 ∧
    w.heap.size + 3 ≤ s ∧ s ≤ wr.heap.size ∧ (∀ g, u0.ownBlock = some g → g < s) ∧ (k ≤ n → u1 = .slice none 0 0) ∧
    OwnStms wr (w.heap.size + 3) (w.heap.size + 3) u0 (min k n) (p0.take k) ∧ OwnStms wr (w.heap.size + 3) s u1 (k - n) (p1.take (k - n))
theorem takeS_snoc {l : List Stm} {k : Nat} {x : Stm} (h : l[k]? = some x) : l.take (k + 1) = l.take k ++ [x] := by rw [List.take_add_one, h]; rfl
/-- One more in the first row. -/
theorem CrRel.step0 {w w4 : World} {r : Int} {A B : Option Addr} {n a b k : Nat} {p0 p1 : List Stm} {v4 : Value} {y : Stm} (hk : k < n) (hy : p0[k]? = some y)
    (hS : CrS w (.int .u64 r) (.slice A n a) (.slice B n b) w4) (hc0 : w4.cell? ⟨w.heap.size + 2, 0, none⟩ = some (.int .u64 r)) (hc1 : ∃ u, w4.cell? ⟨w.heap.size + 2, 1, none⟩ = some u) (hc2 : w4.cell? ⟨w.heap.size + 2, 2, none⟩ = some (.slice none 0 0))
    (h : OwnStms w4 (w.heap.size + 3) (w.heap.size + 3) v4 (min k n + 1) (p0.take k ++ [y])) : CrRel w r A n a B b p0 p1 (k + 1) (w4.setCell ⟨w.heap.size + 2, 1, none⟩ v4) := by
  obtain ⟨u, hu⟩ := hc1
  have ha := h.aside (w.heap.size + 2) 1 v4 (by omega) (by omega)
  have hlt : ∀ g, v4.ownBlock = some g → g < (w4.setCell ⟨w.heap.size + 2, 1, none⟩ v4).heap.size := fun g hg => by
    obtain ⟨vs, h1, _⟩ := ha
    exact (h1.lt g hg).2
  have hsz := hS.2.2.2.1
  refine ⟨v4, .slice none 0 0, (w4.setCell ⟨w.heap.size + 2, 1, none⟩ v4).heap.size, hS.res 1 v4, by rw [World.cell?_setCell_other _ _ _ _ (by simp)]; exact hc0, World.cell?_setCell_same w4 _ v4 hu, by rw [World.cell?_setCell_other _ _ _ _ (by simp)]; exact hc2, by simp; omega, Nat.le_refl _, hlt, fun _ => rfl, ?_, ?_⟩
  · rw [takeS_snoc hy, show min (k + 1) n = min k n + 1 by omega]
    exact ha
  · rw [show k + 1 - n = 0 by omega]
    exact OwnStms.nil _ _ _
/-- One more in the second row. -/
theorem CrRel.step1 {w w4 : World} {r : Int} {A B : Option Addr} {n a b k i s : Nat} {p0 p1 : List Stm} {u0 v4 : Value} {y : Stm} (hk : k = n + i) (hl0 : p0.length = n) (hy : p1[i]? = some y)
    (hS : CrS w (.int .u64 r) (.slice A n a) (.slice B n b) w4) (hc0 : w4.cell? ⟨w.heap.size + 2, 0, none⟩ = some (.int .u64 r)) (hc1 : w4.cell? ⟨w.heap.size + 2, 1, none⟩ = some u0) (hc2 : ∃ u, w4.cell? ⟨w.heap.size + 2, 2, none⟩ = some u)
    (hs : w.heap.size + 3 ≤ s) (hs4 : s ≤ w4.heap.size) (hg : ∀ g, u0.ownBlock = some g → g < s) (h0 : OwnStms w4 (w.heap.size + 3) (w.heap.size + 3) u0 (min k n) (p0.take k)) (h : OwnStms w4 (w.heap.size + 3) s v4 (k - n + 1) (p1.take (k - n) ++ [y])) : CrRel w r A n a B b p0 p1 (k + 1) (w4.setCell ⟨w.heap.size + 2, 2, none⟩ v4) := by
  obtain ⟨u, hu⟩ := hc2
  have hsz := hS.2.2.2.1
  refine ⟨u0, v4, s, hS.res 2 v4, by rw [World.cell?_setCell_other _ _ _ _ (by simp)]; exact hc0, by rw [World.cell?_setCell_other _ _ _ _ (by simp)]; exact hc1, World.cell?_setCell_same w4 _ v4 hu, hs, by simpa using hs4, hg, fun h => by omega, ?_, ?_⟩
  · rw [show min (k + 1) n = min k n by omega, show p0.take (k + 1) = p0.take k by rw [List.take_of_length_le (by omega), List.take_of_length_le (by omega)]]
    exact h0.aside _ _ _ (by omega) (by omega)
  · rw [show k + 1 - n = (k - n) + 1 by omega, takeS_snoc (x := y) (by rw [show k - n = i by omega]; exact hy)]
    exact h.aside _ _ _ (by omega) (by omega)
/-- All is done: the two rows. -/
theorem CrRel.done {w wr : World} {r : Int} {A B : Option Addr} {n a b : Nat} {p0 p1 : List Stm} (h : CrRel w r A n a B b p0 p1 (2 * n) wr) (h0 : p0.length = n) (h1 : p1.length = n) (hn : n ≤ 1000000) :
    ∃ A' a' B' b', CrS w (.int .u64 r) (.slice A n a) (.slice B n b) wr ∧ VarAt wr (w.heap.size + 1) [.int .u64 0, .slice none 0 0, .slice none 0 0] ∧ VarAt wr (w.heap.size + 2) [.int .u64 r, .slice A' n a', .slice B' n b'] ∧ StmsAt wr A' n p0 ∧ StmsAt wr B' n p1 ∧
      ∀ P : Nat → Prop, (∀ b, w.heap.size + 3 ≤ b → P b) → OffS P wr A' n ∧ OffS P wr B' n := by
  obtain ⟨u0, u1, s, hS, c0, c1, c2, hs, hsw, hg, hu, q0, q1⟩ := h
  rw [show min (2 * n) n = n by omega, List.take_of_length_le (by omega)] at q0
  rw [show 2 * n - n = n by omega, List.take_of_length_le (by omega)] at q1
  obtain ⟨A', a', rfl, _, s0, o0⟩ := q0.at_ hn
  obtain ⟨B', b', rfl, _, s1, o1⟩ := q1.at_ hn
  refine ⟨A', a', B', b', hS, hS.2.2.1, ⟨hS.2.2.2.1, fun j v hj => ?_, fun j hj => (hS.2.2.2.2 j (by simpa using hj)).2⟩, s0, s1, fun P hP => ⟨o0 P hP hP, o1 P hP (fun b hb => hP b (by omega))⟩⟩
  have : j < 3 := by have := (List.getElem?_eq_some_iff.1 hj).1; simpa using this
  obtain rfl | rfl | rfl : j = 0 ∨ j = 1 ∨ j = 2 := by omega
  · simp at hj; subst hj; exact c0
  · simp at hj; subst hj; exact c1
  · simp at hj; subst hj; exact c2

end Go.Proofs.YtdbomlclkhkinaaDoor
namespace Go.Proofs.YtdbomlclkhkinaaDoor
open Go.ChangeShapes Go.WideShapes Go.ChangeAt Go.RowKit
set_option linter.unusedVariables false
set_option maxRecDepth 100000

theorem CrRel.start (w : World) (r : Int) (A : Option Addr) (n a : Nat) (B : Option Addr) (b : Nat) (p0 p1 : List Stm) : CrRel w r A n a B b p0 p1 0 (((w.alloc (.cells #[.int .u64 r, .slice A n a, .slice B n b] 31)).alloc (.cells #[.int .u64 0, .slice none 0 0, .slice none 0 0] 31)).alloc (.cells #[.int .u64 r, .slice none 0 0, .slice none 0 0] 31)) := by
  have hal : Below ((w.alloc (.cells #[.int .u64 r, .slice A n a, .slice B n b] 31)).alloc (.cells #[.int .u64 0, .slice none 0 0, .slice none 0 0] 31)).heap.size ((w.alloc (.cells #[.int .u64 r, .slice A n a, .slice B n b] 31)).alloc (.cells #[.int .u64 0, .slice none 0 0, .slice none 0 0] 31)) (((w.alloc (.cells #[.int .u64 r, .slice A n a, .slice B n b] 31)).alloc (.cells #[.int .u64 0, .slice none 0 0, .slice none 0 0] 31)).alloc (.cells #[.int .u64 r, .slice none 0 0, .slice none 0 0] 31)) := (Below.refl _ _).alloc (Nat.le_refl _) _
  have h2 : VarAt (((w.alloc (.cells #[.int .u64 r, .slice A n a, .slice B n b] 31)).alloc (.cells #[.int .u64 0, .slice none 0 0, .slice none 0 0] 31)).alloc (.cells #[.int .u64 r, .slice none 0 0, .slice none 0 0] 31)) (w.heap.size + 2) [.int .u64 r, .slice none 0 0, .slice none 0 0] := by
    have h := VarAt.made ((w.alloc (.cells #[.int .u64 r, .slice A n a, .slice B n b] 31)).alloc (.cells #[.int .u64 0, .slice none 0 0, .slice none 0 0] 31)) #[.int .u64 r, .slice none 0 0, .slice none 0 0] 31
    rw [show ((w.alloc (.cells #[.int .u64 r, .slice A n a, .slice B n b] 31)).alloc (.cells #[.int .u64 0, .slice none 0 0, .slice none 0 0] 31)).heap.size = w.heap.size + 2 by simp] at h
    exact h
  obtain ⟨g0, g1, g2, g3, g4, g5, g6⟩ := h2.three
  refine ⟨.slice none 0 0, .slice none 0 0, w.heap.size + 3, ⟨(below_pair w _ _).trans (hal.mono (below_pair w _ _).size), (VarAt.three0 w _ _ _ _ _).below hal, (VarAt.three1 w _ _ _ _ _).below hal, g0, fun j hj => ?_⟩, g1, g2, g3, Nat.le_refl _, by simp, fun g h => by simp [Value.ownBlock] at h, fun _ => rfl, ?_, ?_⟩
  · obtain rfl | rfl | rfl : j = 0 ∨ j = 1 ∨ j = 2 := by omega
    · exact ⟨⟨_, g1⟩, g4⟩
    · exact ⟨⟨_, g2⟩, g5⟩
    · exact ⟨⟨_, g3⟩, g6⟩
  · rw [show min 0 n = 0 by omega]; exact OwnStms.nil _ _ _
  · rw [show 0 - n = 0 by omega]; exact OwnStms.nil _ _ _
end Go.Proofs.YtdbomlclkhkinaaDoor
namespace Go.Proofs.YtdbomlclkhkinaaDoor
open Go.ChangeShapes Go.WideShapes Go.ChangeAt Go.RowKit Go.Deep
set_option linter.unusedVariables false
set_option maxRecDepth 100000

theorem gen_at {P : World → Prop} {W : World} (S : World → Prop) (hS : S W) (h : ∀ x, S x → P x) : P W := h W hS
/-- A slice that reads as a row of truth values. -/
def BlsAt (w : World) (a : Option Addr) (n : Nat) (f : Nat → Bool) : Prop := n ≤ 140737488355328 ∧ (0 < n → ∃ b off, a = some ⟨b, off, none⟩ ∧ b < w.heap.size ∧ ∀ j, j < n → w.cell? ⟨b, off + j, none⟩ = some (.bool (f j)))
theorem BlsAt.later {w w' : World} {a : Option Addr} {n : Nat} {f : Nat → Bool} (h : BlsAt w a n f) (hb : Below w.heap.size w w') : BlsAt w' a n f := by
  refine ⟨h.1, fun hp => ?_⟩
  obtain ⟨b, off, e, hlt, hc⟩ := h.2 hp
  exact ⟨b, off, e, Nat.lt_of_lt_of_le hlt hb.size, fun j hj => (hb.cell (p := ⟨b, off + j, none⟩) hlt).trans (hc j hj)⟩
theorem cellsBls : Tryd.prog.cellsOf 4 = 1 := by kernel_rfl
theorem leaf_blsat {H : Type} {enc : TypeId × Value → H} {w : World} {fuel : Nat} {cs : List Value} {x : DataW H × List MemPlace} (hf : DataW.trod enc Tryd.prog w 0 (fun _ => true) true fuel 23 cs = some x) (hs : Sized Tryd.prog 23 x.1) (hlt : ∀ z ∈ x.2, z.block < w.heap.size) :
    ∃ (a : Option Addr) (len cap : Nat) (f : Nat → Bool), cs = [.slice a len cap] ∧ (len ≤ cap ∧ BlsAt w a len f) := by
  rcases Deep.open_bools Tryd.underlying23 Tryd.underlying4 cellsBls hf with ⟨hcs, hx⟩ | ⟨a, len, cap, B, hcs, _, hl, hm, hx, hr⟩
  · exact ⟨none, 0, 0, fun _ => false, hcs, Nat.le_refl _, by omega, fun h => by omega⟩
  · subst hcs
    have hrch := slice_reach Tryd.underlying23 hf hs (by rw [show Tryd.prog.bytesOf 4 = 1 by kernel_rfl]; decide)
    refine ⟨some a, len, cap, B, rfl, hl, hrch, fun hp => ?_⟩
    obtain ⟨b, off, spot⟩ := a
    have hspot : spot = none := by simpa [Addr.add] using World.cell?_spot (hr 0 (by omega))
    subst hspot
    refine ⟨b, off, rfl, hlt (.cell b (off + 0)) (by rw [hx]; exact MemPlace.mem_row.2 ⟨0, by omega, rfl⟩), fun j hj => ?_⟩
    have := hr j (by omega)
    rwa [Go.WideShapes.add_plain] at this
/-- A slice that reads as a row of rows of bytes. -/
def RwsAt (w : World) (a : Option Addr) (n : Nat) (ll : List (List Nat)) : Prop :=
  ll.length = n ∧ n ≤ 140737488355328 ∧ (0 < n → ∃ b off, a = some ⟨b, off, none⟩ ∧ b < w.heap.size ∧ ∀ j ys, ll[j]? = some ys → ∃ D dc, w.cell? ⟨b, off + j, none⟩ = some (.slice D ys.length dc) ∧ ys.length ≤ dc ∧ ys.length ≤ 140737488355328 ∧ AtB w D ys.length ys)
theorem RwsAt.nil (w : World) (a : Option Addr) : RwsAt w a 0 [] := ⟨rfl, by omega, fun h => by omega⟩
theorem RwsAt.later {w w' : World} {a : Option Addr} {n : Nat} {ll : List (List Nat)} (h : RwsAt w a n ll) (hb : Below w.heap.size w w') : RwsAt w' a n ll := by
  obtain ⟨h1, h2, h3⟩ := h
  refine ⟨h1, h2, fun hp => ?_⟩
  obtain ⟨b, off, e, hlt, hc⟩ := h3 hp
  refine ⟨b, off, e, Nat.lt_of_lt_of_le hlt hb.size, fun j ys hy => ?_⟩
  obtain ⟨D, dc, k1, k2, k3, k4⟩ := hc j ys hy
  exact ⟨D, dc, (hb.cell (p := ⟨b, off + j, none⟩) hlt).trans k1, k2, k3, AtB.later (Lib.hid k4) hb⟩
theorem RwsAt.at_ {w : World} {a : Option Addr} {n : Nat} {ll : List (List Nat)} (h : RwsAt w a n ll) (j : Nat) (ys : List Nat) (hy : ll[j]? = some ys) :
    ∃ b off D dc, a = some ⟨b, off, none⟩ ∧ b < w.heap.size ∧ w.cell? ⟨b, off + j, none⟩ = some (.slice D ys.length dc) ∧ ys.length ≤ dc ∧ ys.length ≤ 140737488355328 ∧ AtB w D ys.length ys := by
  have hj : j < n := by have := (List.getElem?_eq_some_iff.1 hy).1; have := h.1; omega
  obtain ⟨b, off, e, hlt, hc⟩ := h.2.2 (by omega)
  obtain ⟨D, dc, k⟩ := hc j ys hy
  exact ⟨b, off, D, dc, e, hlt, k⟩
section
variable {H : Type} {enc : TypeId × Value → H} {w : World}
def rwIn (w : World) (a : Addr) (i : Nat) (ys : List Nat) : Prop := ∃ (D : Option Addr) (dc : Nat), w.cell? ((a.add (i * 1)).add 0) = some (.slice D ys.length dc) ∧ ys.length ≤ dc ∧ ys.length ≤ 140737488355328 ∧ AtB w D ys.length ys
theorem leaf_rwsat {fuel : Nat} {cs : List Value} {x : DataW H × List MemPlace} (hf : DataW.trod enc Tryd.prog w 0 (fun _ => true) true fuel 65 cs = some x) (hs : Sized Tryd.prog 65 x.1) (hlt : ∀ z ∈ x.2, z.block < w.heap.size) :
    ∃ (a : Option Addr) (len cap : Nat) (ll : List (List Nat)), cs = [.slice a len cap] ∧ (len ≤ cap ∧ RwsAt w a len ll) := by
  have h2 : Tryd.prog.cellsOf 48 = 1 := by kernel_rfl
  rcases open_slice Tryd.underlying65 hf with ⟨hcs, hx⟩ | ⟨a, len, cap, m, n, D, Pl, hcs, _, hl, hm, hmm, hx, hi⟩
  · exact ⟨none, 0, 0, [], hcs, Nat.le_refl _, RwsAt.nil _ _⟩
  · subst hcs
    have hr := slice_reach Tryd.underlying65 hf hs (by rw [show Tryd.prog.bytesOf 48 = 24 by kernel_rfl]; decide)
    simp only [if_true] at hmm
    subst hmm
    subst hx
    rw [h2] at hi
    have hex : ∀ i, i < len → ∃ ys : List Nat, rwIn w a i ys := by
      intro i hil
      obtain ⟨cs', hc, ht⟩ := hi i (by omega)
      obtain ⟨B, bl, bc, ys, e, k2, k3, k4⟩ := bytes_reach ht (fun z hz => hs z (by
        simp only [DataW.weights, Tryd.underlying65]
        exact List.mem_cons_of_mem _ (List.mem_append_left _ (weightsAll_mem (List.mem_map.2 ⟨i, List.mem_range.2 hil, rfl⟩) hz)))) (fun z hz => hlt z (List.mem_append_right _ (List.mem_flatMap.2 ⟨i, List.mem_range.2 (by omega), hz⟩)))
      obtain ⟨_, _, hat⟩ := World.cells?_some hc
      subst e
      obtain rfl : bl = ys.length := k4.1.symm
      exact ⟨ys, B, bc, hat 0 (by decide), k2, k3, k4⟩
    obtain ⟨f, hf'⟩ := @choose_lt (List Nat) ⟨[]⟩ len _ hex
    refine ⟨some a, len, _, (List.range len).map f, rfl, hl, by simp, hr, fun hp => ?_⟩
    obtain ⟨b, off, spot⟩ := a
    have hspot : spot = none := by
      obtain ⟨_, _, h0, _⟩ := hf' 0 hp
      have := World.cell?_spot h0
      simpa [Addr.add] using this
    subst hspot
    refine ⟨b, off, rfl, ?_, fun j y hy => ?_⟩
    · obtain ⟨_, _, h0, _⟩ := hf' 0 hp
      have := World.block_lt_of_cell? w _ h0
      simpa [Addr.add] using this
    · have hj : j < len := by have := (List.getElem?_eq_some_iff.1 hy).1; simpa using this
      rw [List.getElem?_map, List.getElem?_range hj] at hy
      simp only [Option.map_some, Option.some.injEq] at hy
      subst hy
      obtain ⟨B, bc, k0, k1⟩ := hf' j hj
      rw [Go.WideShapes.add_plain, Go.WideShapes.add_plain, Nat.add_zero, Nat.mul_one] at k0
      exact ⟨B, bc, k0, k1⟩
end

/-! ### Two streams -/
def upd {α : Type} (o : Nat → α) (k : Nat) (v : α) : Nat → α := fun j => if j = k then v else o j
/-- The row of two streams: their bytes, and how many of these are synced. -/
def rowO (o : Nat → List Nat) (q : Nat → Nat) : List Stm := [⟨o 0, (q 0 : Int)⟩, ⟨o 1, (q 1 : Int)⟩]
theorem rowO_at (o : Nat → List Nat) (q : Nat → Nat) {k : Nat} (hk : k < 2) : (rowO o q)[k]? = some ⟨o k, (q k : Int)⟩ := by
  obtain rfl | rfl : k = 0 ∨ k = 1 := by omega
  · rfl
  · rfl
theorem rowO_set (o : Nat → List Nat) (q : Nat → Nat) {k : Nat} (hk : k < 2) (v : List Nat) (s : Nat) : (rowO o q).set k ⟨v, (s : Int)⟩ = rowO (upd o k v) (upd q k s) := by
  obtain rfl | rfl : k = 0 ∨ k = 1 := by omega
  · rfl
  · rfl
theorem upd_same {α : Type} (o : Nat → α) (k : Nat) : upd o k (o k) = o := by funext j; unfold upd; split <;> simp_all
theorem rowO_good (o : Nat → List Nat) (q : Nat → Nat) (h : ∀ k, k < 2 → q k ≤ (o k).length) : GoodD 2 (rowO o q) (zerosS 2) := by
  refine ⟨rfl, by unfold zerosS; simp, ?_, allB_zeros 2⟩
  unfold allB rowO
  simp only [List.all_cons, List.all_nil, Bool.and_true, Bool.and_eq_true]
  exact ⟨rightB_nat (h 0 (by decide)), rightB_nat (h 1 (by decide))⟩
/-- Two texts. -/
def txt (o : Nat → List Nat) : List Value := [.string (strN (o 0)), .string (strN (o 1))]
theorem txt_at (o : Nat → List Nat) {k : Nat} (hk : k < 2) : (txt o)[k]? = some (.string (strN (o k))) := by
  obtain rfl | rfl : k = 0 ∨ k = 1 := by omega
  · rfl
  · rfl
theorem txt_set (o : Nat → List Nat) {k : Nat} (hk : k < 2) (v : List Nat) : (txt o).set k (.string (strN v)) = txt (upd o k v) := by
  obtain rfl | rfl : k = 0 ∨ k = 1 := by omega
  · rfl
  · rfl

/-! ### Accesses of the disk, told -/
section
variable (A : Option Addr) (n k : Nat) (F : Nat → Nat) (R S : Option Addr) (ra sa : Nat) (o : Nat → List Nat) (q : Nat → Nat)
abbrev wdV (A : Option Addr) (n k : Nat) (R : Option Addr) (ra : Nat) (S : Option Addr) (sa : Nat) : Value := .agg #[.int .i64 2, .int .i64 0, .slice A n k, .int .u64 0, .slice R 2 ra, .slice S 2 sa]
theorem strm_append (me : Nat) (hme : me < 2) (D : Option Addr) (dc : Nat) (ys : List Nat) (hl : (o me).length + ys.length ≤ 100000) (w : World) (hA : Hid (AtW w A n F)) (h0 : Hid (StmsAt w R 2 (rowO o q))) (h1 : Hid (StmsAt w S 2 (zerosS 2))) (hD : Hid (AtB w D ys.length ys)) :
    Calls Tryd.prog 15 #[wdV A n k R ra S sa, .int .i64 (me : Int), .agg #[.int .i64 5, .int .i64 0, .int .u64 0, .int .u64 0, .slice D ys.length dc, .slice none 0 0], .bool false] w (DoW w 2 0 A n 0 R S 2 F (rowO (upd o me (o me ++ ys)) q) (zerosS 2) 0 [] false) := by
  have e : (rowO o q).set me ((⟨o me, (q me : Int)⟩ : Stm).app ys) = rowO (upd o me (o me ++ ys)) q := by
    show (rowO o q).set me ⟨o me ++ ys, (q me : Int)⟩ = _
    rw [rowO_set o q hme, upd_same]
  have h := do_disk 2 0 A n k F 0 R S 2 ra sa (rowO o q) (zerosS 2) me 5 0 0 0 D ys.length dc none 0 0 (by decide) false rfl ys 0 0 (rowO (upd o me (o me ++ ys)) q) (zerosS 2) [] (fun w g0 g1 g2 => ofDisk_append 0 (by decide) R S 2 ra sa (rowO o q) (zerosS 2) 0 1 rfl (by decide) me 0 0 0 D ys.length dc none 0 0 _ _ 0 ys (fun w g0 g1 g2 => by
    have := dskAppend0_at 0 R 2 ra S 2 sa (rowO o q) (zerosS 2) me hme (by decide) ⟨o me, (q me : Int)⟩ (rowO_at o q hme) D dc ys.length ys (by show (o me).length + ys.length ≤ _; omega) w g0 g1 g2
    rw [e] at this
    exact this) w g0 g1 g2) w hA h0 h1 hD
  exact h
theorem strm_sync (me : Nat) (hme : me < 2) (w : World) (hA : Hid (AtW w A n F)) (h0 : Hid (StmsAt w R 2 (rowO o q))) (h1 : Hid (StmsAt w S 2 (zerosS 2))) :
    Calls Tryd.prog 15 #[wdV A n k R ra S sa, .int .i64 (me : Int), .agg #[.int .i64 6, .int .i64 0, .int .u64 0, .int .u64 0, .slice none 0 0, .slice none 0 0], .bool false] w (DoW w 2 0 A n 0 R S 2 F (rowO o (upd q me (o me).length)) (zerosS 2) 0 [] false) := by
  have e : (rowO o q).set me (⟨o me, (q me : Int)⟩ : Stm).syn = rowO o (upd q me (o me).length) := by
    show (rowO o q).set me ⟨o me, ((o me).length : Int)⟩ = _
    rw [rowO_set o q hme, upd_same]
  have h := do_disk 2 0 A n k F 0 R S 2 ra sa (rowO o q) (zerosS 2) me 6 0 0 0 none 0 0 none 0 0 (by decide) false rfl [] 0 0 (rowO o (upd q me (o me).length)) (zerosS 2) [] (fun w g0 g1 _ => ofDisk_sync 0 (by decide) R S 2 ra sa (rowO o q) (zerosS 2) 0 1 rfl (by decide) me 0 0 0 none 0 0 none 0 0 _ _ 0 [] (fun w g0 g1 => by
    have := dskSync0_at 0 R 2 ra S 2 sa (rowO o q) (zerosS 2) me hme (by decide) ⟨o me, (q me : Int)⟩ (rowO_at o q hme) w g0 g1
    rw [e] at this
    exact this) w g0 g1) w hA h0 h1 (Lib.hid (AtB.nil _ _))
  exact h
theorem strm_read (i : Nat) (hi : i < 2) (w : World) (hA : Hid (AtW w A n F)) (h0 : Hid (StmsAt w R 2 (rowO o q))) (h1 : Hid (StmsAt w S 2 (zerosS 2))) :
    Calls Tryd.prog 15 #[wdV A n k R ra S sa, .int .i64 0, .agg #[.int .i64 8, .int .i64 (i : Int), .int .u64 0, .int .u64 0, .slice none 0 0, .slice none 0 0], .bool false] w (DoW w 2 0 A n 0 R S 2 F (rowO o q) (zerosS 2) 0 (o i) false) :=
  do_disk 2 0 A n k F 0 R S 2 ra sa (rowO o q) (zerosS 2) 0 8 i 0 0 none 0 0 none 0 0 (by decide) false rfl [] 0 0 (rowO o q) (zerosS 2) (o i) (fun w g0 g1 _ => ofDisk_read 0 (by decide) R S 2 ra sa (rowO o q) (zerosS 2) 0 1 rfl (by decide) 0 i 0 0 none 0 0 none 0 0 _ 0 (fun w g0 g1 => dskReadC0_at 0 R 2 ra S 2 sa (rowO o q) (zerosS 2) i hi ⟨o i, (q i : Int)⟩ (rowO_at o q hi) w g0 g1) w g0 g1) w hA h0 h1 (Lib.hid (AtB.nil _ _))
theorem cut_row (h : ∀ k, k < 2 → q k ≤ (o k).length) : cutL (rowO o q) (moreAt 0 fun _ => 0) = rowO (fun k => (o k).take (q k)) q := by
  have hc : ∀ (k : Nat), Stm.cut ⟨o k, (q k : Int)⟩ 0 = ⟨(o k).take (q k), (q k : Int)⟩ := by
    intro k
    have e : Stm.cutN ⟨o k, (q k : Int)⟩ 0 = q k := by unfold Stm.cutN cutN; simp
    unfold Stm.cut
    rw [e]
  show [Stm.cut ⟨o 0, (q 0 : Int)⟩ 0, Stm.cut ⟨o 1, (q 1 : Int)⟩ 0] = _
  rw [hc 0, hc 1]
  rfl
theorem cut_zeros : cutL (zerosS 2) (fun j => moreAt 0 (fun _ => 0) (2 + j)) = zerosS 2 := rfl
end
/-! ### What stands behind so many rounds -/
def N3 (ga gb gc b : Nat) : Prop := b ≠ ga ∧ b ≠ gb ∧ b ≠ gc
def Q3 (ga gb gc N1 N2 b : Nat) : Prop := N3 ga gb gc b ∧ (b < N1 ∨ N2 ≤ b)
def TellEnd (wr : World) (ga gb gc n : Nat) (G : Nat → Nat) (P0 P1 : List Stm) (N : Nat) (xs : List Nat) (v9 v10 : Value) (y : World) : Prop :=
  ∃ b9 b10 A ka R ra S sa X kx, v9 = .pointer (some ⟨b9, 0, none⟩) ∧ v10 = .pointer (some ⟨b10, 0, none⟩) ∧ wr.heap.size ≤ b9 ∧ wr.heap.size ≤ b10 ∧ VarAt y b9 [.int .i64 2, .int .i64 0, .slice A n ka, .int .u64 0, .slice R 2 ra, .slice S 2 sa] ∧ VarAt y b10 [.int .u64 (N : Int), .slice X xs.length kx, .bool false] ∧
    AtW y A n G ∧ StmsAt y R 2 P0 ∧ StmsAt y S 2 P1 ∧ OffW (N3 ga gb gc) A n ∧ OffS (N3 ga gb gc) y R 2 ∧ OffS (N3 ga gb gc) y S 2 ∧ Below wr.heap.size wr y
theorem TellEnd.of {wr w4 y : World} {ga gb gc n : Nat} {G : Nat → Nat} {P0 P1 : List Stm} {N : Nat} {xs : List Nat} {N2 b9 b10 ka ra sa kx : Nat} {A R S X : Option Addr} (hk : Keep (Q3 ga gb gc wr.heap.size N2) w4 y) (n1 : wr.heap.size ≤ b9) (n2 : wr.heap.size ≤ b10)
    (v9 : VarAt y b9 [.int .i64 2, .int .i64 0, .slice A n ka, .int .u64 0, .slice R 2 ra, .slice S 2 sa]) (v10 : VarAt y b10 [.int .u64 (N : Int), .slice X xs.length kx, .bool false])
    (hA : AtW w4 A n G) (h0 : StmsAt w4 R 2 P0) (h1 : StmsAt w4 S 2 P1) (o0 : OffW (Q3 ga gb gc wr.heap.size N2) A n) (o1 : OffS (Q3 ga gb gc wr.heap.size N2) w4 R 2) (o2 : OffS (Q3 ga gb gc wr.heap.size N2) w4 S 2) (hb : Below wr.heap.size wr y) :
    TellEnd wr ga gb gc n G P0 P1 N xs (.pointer (some ⟨b9, 0, none⟩)) (.pointer (some ⟨b10, 0, none⟩)) y :=
  ⟨b9, b10, A, ka, R, ra, S, sa, X, kx, rfl, rfl, n1, n2, v9, v10, hA.keep hk o0, h0.keep hk o1, h1.keep hk o2, o0.mono fun b h => h.1, (o1.keep h0 hk o1).mono fun b h => h.1, (o2.keep h1 hk o2).mono fun b h => h.1, hb⟩
theorem tell_fact {wr wa w4 : World} {ga gb gc n m kx : Nat} {A3 A4 R3 R4 S3 S4 X : Option Addr} {G3 : Nat → Nat} {l0 l1 : List Stm} (hwr : Below wr.heap.size wr wa) (hb : Below wa.heap.size wa w4)
    (hP : ∀ P : Nat → Prop, (∀ b, wa.heap.size ≤ b → P b) → OffW P A3 n → OffS P wa R3 m → OffS P wa S3 m → OffW P A4 n ∧ OffS P w4 R4 m ∧ OffS P w4 S4 m ∧ OffW P X kx)
    (hA : AtW wr A3 n G3) (h0 : StmsAt wr R3 m l0) (h1 : StmsAt wr S3 m l1) (o0 : OffW (N3 ga gb gc) A3 n) (o1 : OffS (N3 ga gb gc) wr R3 m) (o2 : OffS (N3 ga gb gc) wr S3 m) (hg : ga < wr.heap.size ∧ gb < wr.heap.size ∧ gc < wr.heap.size) :
    ∃ N2, N2 = wa.heap.size ∧ wr.heap.size ≤ N2 ∧ N2 ≤ w4.heap.size ∧ OffW (Q3 ga gb gc wr.heap.size N2) A4 n ∧ OffS (Q3 ga gb gc wr.heap.size N2) w4 R4 m ∧ OffS (Q3 ga gb gc wr.heap.size N2) w4 S4 m := by
  have hz := hwr.size
  obtain ⟨p0, p1, p2, _⟩ := hP (Q3 ga gb gc wr.heap.size wa.heap.size) (fun b hb => ⟨⟨by omega, by omega, by omega⟩, .inr hb⟩)
    (fun hp b off e => ⟨o0 hp b off e, .inl (hA.old hp b off e)⟩)
    ((((o1.both h0.old).mono fun b hb => (⟨hb.1, .inl hb.2⟩ : Q3 ga gb gc wr.heap.size wa.heap.size b))).later h0 hwr)
    ((((o2.both h1.old).mono fun b hb => (⟨hb.1, .inl hb.2⟩ : Q3 ga gb gc wr.heap.size wa.heap.size b))).later h1 hwr)
  exact ⟨_, rfl, hz, hb.size, p0, p1, p2⟩
/-- The world's variable lies in block gw, the texts' in go and gs; the streams are o, of which q bytes are synced, behind j rounds. -/
structure RunT (y : World) (gw go gs j : Nat) (o : Nat → List Nat) (q : Nat → Nat) (x : World) : Prop where
  below : Below y.heap.size y x
  blk : y.heap.size ≤ gw ∧ y.heap.size ≤ go ∧ y.heap.size ≤ gs ∧ gw ≠ go ∧ gw ≠ gs ∧ go ≠ gs
  run : ∃ A ka R ra S sa G, WdAt x gw 2 0 A 10 ka 0 R 2 ra S sa G (rowO o q) (zerosS 2) ∧ OffW (N3 gw go gs) A 10 ∧ OffS (N3 gw go gs) x R 2 ∧ OffS (N3 gw go gs) x S 2
  own : VarAt x go (txt o)
  safe : VarAt x gs (txt fun k => (o k).take (q k))
  len : ∀ k, k < 2 → (o k).length ≤ 50 * j ∧ q k ≤ (o k).length
theorem upd_len {o : Nat → List Nat} {q : Nat → Nat} {j k : Nat} {ys : List Nat} (h : ∀ k, k < 2 → (o k).length ≤ 50 * j ∧ q k ≤ (o k).length) (hk : k < 2) (hy : ys.length ≤ 50) : ∀ i, i < 2 → (upd o k (o k ++ ys) i).length ≤ 50 * (j + 1) ∧ q i ≤ (upd o k (o k ++ ys) i).length := by
  intro i hi
  unfold upd
  have h1 := h i hi
  have h2 := h k hk
  split
  · subst i; rw [List.length_append]; omega
  · omega
theorem safe_app {o : Nat → List Nat} {q : Nat → Nat} {j k : Nat} (ys : List Nat) (h : ∀ k, k < 2 → (o k).length ≤ 50 * j ∧ q k ≤ (o k).length) : txt (fun i => (upd o k (o k ++ ys) i).take (q i)) = txt fun i => (o i).take (q i) := by
  have e : ∀ i, i < 2 → (upd o k (o k ++ ys) i).take (q i) = (o i).take (q i) := by
    intro i hi
    unfold upd
    split
    · subst i; rw [List.take_append_of_le_length (h k hi).2]
    · rfl
  unfold txt
  simp only [e 0 (by decide), e 1 (by decide)]
theorem safe_set {o : Nat → List Nat} {q : Nat → Nat} {k : Nat} (hk : k < 2) : (txt fun i => (o i).take (q i)).set k (.string (strN (o k))) = txt fun i => (o i).take (upd q k (o k).length i) := by
  rw [txt_set (fun i => (o i).take (q i)) hk]
  congr 1
  funext i
  unfold upd
  split
  · subst i; rw [List.take_length]
  · rfl
theorem sync_len {o : Nat → List Nat} {q : Nat → Nat} {j k : Nat} (h : ∀ k, k < 2 → (o k).length ≤ j ∧ q k ≤ (o k).length) : ∀ i, i < 2 → (o i).length ≤ j ∧ upd q k (o k).length i ≤ (o i).length := by
  intro i hi
  unfold upd
  have h1 := h i hi
  split
  · subst i; omega
  · omega
/-! ### What is read -/
def Q5 (N0 N1 N5 N2 b : Nat) : Prop := (b < N0 ∨ N1 ≤ b) ∧ (b < N5 ∨ N2 ≤ b)
def ReadEnd (x4 : World) (ys : List Nat) (v21 : Value) (y : World) : Prop :=
  ∃ b21 X kx, v21 = .pointer (some ⟨b21, 0, none⟩) ∧ VarAt y b21 [.int .u64 0, .slice X ys.length kx, .bool false] ∧ AtB y X ys.length ys ∧ Below x4.heap.size x4 y
theorem ReadEnd.of {x4 w6 y : World} {ys : List Nat} {N0 N1 N5 N2 b21 kx : Nat} {X : Option Addr} (hk : Keep (Q5 N0 N1 N5 N2) w6 y) (v21 : VarAt y b21 [.int .u64 0, .slice X ys.length kx, .bool false]) (hX : AtB w6 X ys.length ys) (o : OffW (Q5 N0 N1 N5 N2) X ys.length) (hb : Below x4.heap.size x4 y) :
    ReadEnd x4 ys (.pointer (some ⟨b21, 0, none⟩)) y := ⟨b21, X, kx, rfl, v21, hX.keep hk o, hb⟩
theorem crash_fact {x4 wa w5 : World} {R S R5 S5 : Option Addr} {n : Nat} {l0 l1 : List Stm} (hwr : Below x4.heap.size x4 wa) (hb : Below wa.heap.size wa w5)
    (hP : ∀ P : Nat → Prop, (∀ b, wa.heap.size ≤ b → P b) → OffS P wa R n → OffS P wa S n → OffS P w5 R5 n ∧ OffS P w5 S5 n) (h0 : StmsAt x4 R n l0) (h1 : StmsAt x4 S n l1) :
    ∃ N1, N1 = wa.heap.size ∧ x4.heap.size ≤ N1 ∧ N1 ≤ w5.heap.size ∧ OffS (fun b => b < x4.heap.size ∨ N1 ≤ b) w5 R5 n ∧ OffS (fun b => b < x4.heap.size ∨ N1 ≤ b) w5 S5 n := by
  obtain ⟨p0, p1⟩ := hP (fun b => b < x4.heap.size ∨ wa.heap.size ≤ b) (fun b hb => .inr hb) ((h0.old.mono fun b hb => (Or.inl hb : b < x4.heap.size ∨ wa.heap.size ≤ b)).later h0 hwr) ((h1.old.mono fun b hb => (Or.inl hb : b < x4.heap.size ∨ wa.heap.size ≤ b)).later h1 hwr)
  exact ⟨_, rfl, hwr.size, hb.size, p0, p1⟩
theorem read_fact {x4 w5 wd w6 : World} {A A6 R5 S5 R6 S6 X : Option Addr} {na n kx N1 : Nat} {G : Nat → Nat} {l0 l1 : List Stm} (hN0 : x4.heap.size ≤ N1) (hN1 : N1 ≤ w5.heap.size) (hwd : Below w5.heap.size w5 wd) (hb : Below wd.heap.size wd w6)
    (hP : ∀ P : Nat → Prop, (∀ b, wd.heap.size ≤ b → P b) → OffW P A na → OffS P wd R5 n → OffS P wd S5 n → OffW P A6 na ∧ OffS P w6 R6 n ∧ OffS P w6 S6 n ∧ OffW P X kx)
    (hA : AtW x4 A na G) (h0 : StmsAt w5 R5 n l0) (h1 : StmsAt w5 S5 n l1) (o0 : OffS (fun b => b < x4.heap.size ∨ N1 ≤ b) w5 R5 n) (o1 : OffS (fun b => b < x4.heap.size ∨ N1 ≤ b) w5 S5 n) :
    ∃ N2, N2 = wd.heap.size ∧ w5.heap.size ≤ N2 ∧ N2 ≤ w6.heap.size ∧ OffW (Q5 x4.heap.size N1 w5.heap.size N2) X kx := by
  have hz := hwd.size
  obtain ⟨_, _, _, p⟩ := hP (Q5 x4.heap.size N1 w5.heap.size wd.heap.size) (fun b hb => ⟨by omega, .inr hb⟩)
    (fun hp b off e => by have := hA.old hp b off e; unfold Q5; omega)
    (((o0.both h0.old).mono fun b hb => (⟨hb.1, .inl hb.2⟩ : Q5 x4.heap.size N1 w5.heap.size wd.heap.size b)).later h0 hwd)
    (((o1.both h1.old).mono fun b hb => (⟨hb.1, .inl hb.2⟩ : Q5 x4.heap.size N1 w5.heap.size wd.heap.size b)).later h1 hwd)
  exact ⟨_, rfl, hz, hb.size, p⟩
end Go.Proofs.YtdbomlclkhkinaaDoor
