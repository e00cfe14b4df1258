/-
  The contracts of package disk's Crash, and of cutAll.
-/
import Derived.Test.YtjbhichgojjakaaDskCalls2
namespace Go.Proofs.Ytjbhichgojjakaa
open Go.ChangeShapes Go.WideShapes Go.ChangeAt Go.RowKit
set_option linter.unusedVariables false
set_option maxRecDepth 100000

/-! ### A slice that reads as a row of numbers -/
def AtI (w : World) (a : Option Addr) (n : Nat) (f : Nat → Int) : Prop :=
  n ≤ 140737488355328 ∧ (∀ j, j < n → -9223372036854775808 ≤ f j ∧ f j < 9223372036854775808) ∧ (0 < n → ∃ b off, a = some ⟨b, off, none⟩ ∧ b < w.heap.size ∧ ∀ j, j < n → w.cell? ⟨b, off + j, none⟩ = some (.int .i64 (f j)))
theorem AtI.later {w w' : World} {a : Option Addr} {n : Nat} {f : Nat → Int} (h : AtI w a n f) (hb : Below w.heap.size w w') : AtI w' a n f := by
  refine ⟨h.1, h.2.1, fun hp => ?_⟩
  obtain ⟨b, off, e, hlt, hc⟩ := h.2.2 hp
  exact ⟨b, off, e, Nat.lt_of_lt_of_le hlt hb.size, fun j hj => (hb.cell (p := ⟨b, off + j, none⟩) hlt).trans (hc j hj)⟩
theorem AtI.nil (w : World) (a : Option Addr) (f : Nat → Int) : AtI w a 0 f := ⟨by omega, fun j hj => by omega, fun h => by omega⟩
theorem AtI.cutA {w : World} {a : Option Addr} {n cap : Nat} {f : Nat → Int} (h : AtI w a n f) (hc : n ≤ cap) (lo : Nat) (hl : lo ≤ n) : AtI w (cutA a cap lo) (n - lo) (fun j => f (lo + j)) := by
  refine ⟨by have := h.1; omega, fun j hj => h.2.1 _ (by omega), fun hp => ?_⟩
  obtain ⟨b, off, rfl, hlt, hcell⟩ := h.2.2 (by omega)
  unfold Ytjbhichgojjakaa.cutA
  rw [if_neg (by omega)]
  refine ⟨b, off + lo * 1, by simp [Addr.add], hlt, fun j hj => ?_⟩
  have := hcell (lo + j) (by omega)
  rw [← this]
  congr 2
  omega
theorem elemI : Try.prog.underlying 50 = some (.slice (Try.prog.elem 50)) := by kernel_rfl
theorem elemI' : Try.prog.elem 50 = 3 := by kernel_rfl
theorem sizeI (w : World) : (sizeOf 3).run Try.prog w = .ok 1 w := by kernel_rfl
theorem run_cutI_l (a : Option Addr) (len cap lo : Nat) (h1 : lo ≤ len) (W : World) :
    (Instr.slice 50 (.slice a len cap) (some (.int .i64 (lo : Int))) none none).run Try.prog W = .ok (.slice (cutA a cap lo) (len - lo) (cap - lo)) W := by
  rw [run_slice_l W 50 _ _ _ elemI .i64 _ (by omega) (by omega), elemI', sizeI]
  rfl

/-- The number at a place; where there is none, 0. -/
def moreAt (n : Nat) (f : Nat → Int) (j : Nat) : Int := if j < n then f j else 0
theorem moreAt_shift (n lo : Nat) (f : Nat → Int) (m : Nat) (h : lo = min m n) (j : Nat) : moreAt (n - lo) (fun j => f (lo + j)) j = moreAt n f (m + j) := by
  unfold moreAt
  by_cases h1 : m ≤ n
  · rw [show lo = m by omega]
    by_cases h2 : m + j < n
    · rw [if_pos (by omega), if_pos h2]
    · rw [if_neg (by omega), if_neg h2]
  · rw [if_neg (by omega), if_neg (by omega)]
/-- A row behind a crash, its streams cut by numbers; the first k of them, and the rest empty. -/
def cutK (l : List Stm) (c : Nat → Int) (k : Nat) : List Stm := (List.range l.length).map fun i => if i < k then (l.getD i Stm.zero).cut (c i) else Stm.zero
def cutL (l : List Stm) (c : Nat → Int) : List Stm := (List.range l.length).map fun i => (l.getD i Stm.zero).cut (c i)
theorem cutL_length (l : List Stm) (c : Nat → Int) : (cutL l c).length = l.length := by simp [cutL]
theorem cutL_get (l : List Stm) (c : Nat → Int) (i : Nat) (x : Stm) (h : l[i]? = some x) : (cutL l c)[i]? = some (x.cut (c i)) := by
  have hi : i < l.length := (List.getElem?_eq_some_iff.1 h).1
  unfold cutL
  rw [List.getElem?_map, List.getElem?_range hi]
  simp [List.getD_eq_getElem?_getD, h]
theorem cutK_zero (l : List Stm) (c : Nat → Int) : cutK l c 0 = zerosS l.length := by
  unfold cutK zerosS
  apply List.ext_getElem?
  intro i
  by_cases hi : i < l.length
  · rw [List.getElem?_map, List.getElem?_range hi]; simp [hi]
  · rw [List.getElem?_eq_none (by simpa using hi), List.getElem?_eq_none (by simpa using hi)]
theorem cutK_next (l : List Stm) (c : Nat → Int) (k : Nat) (x : Stm) (h : l[k]? = some x) : cutK l c (k + 1) = (cutK l c k).set k (x.cut (c k)) := by
  have hk : k < l.length := (List.getElem?_eq_some_iff.1 h).1
  unfold cutK
  apply List.ext_getElem?
  intro i
  by_cases hi : i < l.length
  · by_cases hik : k = i
    · subst hik
      rw [List.getElem?_set_self (by simpa using hk), List.getElem?_map, List.getElem?_range hk]
      simp [List.getD_eq_getElem?_getD, h]
    · rw [List.getElem?_set_ne hik, List.getElem?_map, List.getElem?_map, List.getElem?_range hi]
      simp only [Option.map_some]
      by_cases h2 : i < k
      · rw [if_pos (by omega), if_pos h2]
      · rw [if_neg (by omega), if_neg h2]
  · rw [List.getElem?_eq_none (by simpa using hi), List.getElem?_eq_none (by simpa using hi)]
theorem cutK_all (l : List Stm) (c : Nat → Int) (k : Nat) (h : l.length ≤ k) : cutK l c k = cutL l c := by
  unfold cutK cutL
  apply List.map_congr_left
  intro i hi
  rw [List.mem_range] at hi
  rw [if_pos (by omega)]
theorem cutK_length (l : List Stm) (c : Nat → Int) (k : Nat) : (cutK l c k).length = l.length := by simp [cutK]
theorem cutL_congr (l : List Stm) {c d : Nat → Int} (h : ∀ i, c i = d i) : cutL l c = cutL l d := by unfold cutL; simp [h]
theorem allB_get {l : List Stm} (h : allB l = true) {k : Nat} {x : Stm} (hx : l[k]? = some x) : x.right = true := by
  unfold allB at h
  rw [List.all_eq_true] at h
  exact h x (List.mem_of_getElem? hx)

/-! ### cutAll -/
/-- The row under way: the first k streams are cut; their bytes lie where they lay. -/
def CutAll (w : World) (A : Option Addr) (n : Nat) (l : List Stm) (c : Nat → Int) (k : Nat) (wr : World) : Prop :=
  ∃ vs, wr.ownsRow w.heap.size 76 2 (.slice (some ⟨w.heap.size, 0, none⟩) n n) n vs ∧ RawS w vs (cutK l c k) ∧ (∀ P : Nat → Prop, OffS P w A n → RawO P vs) ∧ Below w.heap.size w wr
theorem ownsRow_later {w w' : World} {base : Nat} {e : TypeId} {size : Nat} {v : Value} {n : Nat} {xs : List Value} (h : w.ownsRow base e size v n xs) (hb : Below w.heap.size w w') : w'.ownsRow base e size v n xs :=
  h.kept (row := none) ⟨hb.os, hb.tape, hb.output, hb.size, fun k hk _ => hb.block k hk⟩ (by cases v.ownBlock <;> simp)
theorem rawO_zeros (P : Nat → Prop) (n : Nat) : RawO P (madeCells #[.slice none 0 0, .int .i64 0] (n * 2)).toList := by
  intro j ad len c h hl
  rw [madeM] at h
  have hj : j * 2 < n * 2 := by
    have := (List.getElem?_eq_some_iff.1 h).1
    simpa using this
  rw [List.getElem?_map, List.getElem?_range hj] at h
  simp at h
theorem CutAll.start (w : World) (A : Option Addr) (n : Nat) (l : List Stm) (c : Nat → Int) (hl : l.length = n) (hn : n ≤ 1000000) : CutAll w A n l c 0 (w.alloc (.cells (madeCells #[.slice none 0 0, .int .i64 0] (n * 2)) 76)) :=
  ⟨_, World.ownsRow_lit w _ n (Nat.le_refl _) (by unfold maxLen; omega) (by simp [madeCells]), by rw [cutK_zero, hl]; exact RawS.zeros w n, fun P _ => rawO_zeros P n, (Below.refl _ _).alloc (Nat.le_refl _) _⟩
theorem CutAll.next {w wr w' : World} {A : Option Addr} {n k : Nat} {l : List Stm} {c : Nat → Int} {x : Stm} {A0 : Option Addr} {cap b off : Nat} (h : CutAll w A n l c k wr) (hS : StmsAt w A n l) (hx : l[k]? = some x) (hr : x.right = true) (hb : Below wr.heap.size wr w')
    (ea : A = some ⟨b, off, none⟩) (hc : w.cell? ⟨b, off + k * 2, none⟩ = some (.slice A0 x.bytes.length cap)) (hat : AtB w A0 x.bytes.length x.bytes) (hm : x.bytes.length ≤ 140737488355328) :
    CutAll w A n l c (k + 1) ((w'.setCell ⟨w.heap.size, k * 2, none⟩ (.slice A0 (x.cut (c k)).bytes.length (x.cut (c k)).bytes.length)).setCell ⟨w.heap.size, k * 2 + 1, none⟩ (.int .i64 (x.cut (c k)).synced)) := by
  obtain ⟨vs, hown, hraw, ho, hbw⟩ := h
  have hk : k < l.length := (List.getElem?_eq_some_iff.1 hx).1
  have hz := Stm.cut_length hr (c k)
  have hle := Stm.cutN_le hr (c k)
  refine ⟨_, ownsRow_set2 (ownsRow_later hown hb) k _ _, ?_, fun P hP => (ho P hP).set k A0 _ _ _ ?_, below_set1 (Nat.le_refl _) _ (below_set1 (Nat.le_refl _) _ (hbw.trans (hb.mono hbw.size)))⟩
  · rw [cutK_next l c k x hx]
    refine hraw.set k (by rw [cutK_length]; exact hk) A0 _ _ (Nat.le_refl _) (by omega) ?_ ?_
    · rw [hz]; exact hat.ahead _ hle
    · simp only [Stm.cut]; omega
  · intro ad e hl
    obtain ⟨hp1, hp2⟩ := hP b off ea (by have := hS.1; omega)
    exact hp2 k (by have := hS.1; omega) ad _ cap (by rw [hc, e]) (by omega)
def CutPost (w : World) (A : Option Addr) (n : Nat) (l' : List Stm) (e : Ending) (w' : World) : Prop :=
  ∃ a c, e = .returned (.slice a n c) ∧ StmsAt w' a n l' ∧ Below w.heap.size w w' ∧ ∀ P : Nat → Prop, (∀ b, w.heap.size ≤ b → P b) → OffS P w A n → OffS P w' a n
theorem CutAll.done {w wr : World} {A : Option Addr} {n : Nat} {l : List Stm} {c : Nat → Int} (h : CutAll w A n l c n wr) (hl : l.length = n) (hn : n ≤ 1000000) : CutPost w A n (cutL l c) (.returned (.slice (some ⟨w.heap.size, 0, none⟩) n n)) wr := by
  obtain ⟨vs, hown, hraw, ho, hbw⟩ := h
  rw [cutK_all l c n (by omega)] at hraw
  obtain ⟨a, cap, e, _, hS⟩ := hraw.at_ hown hbw (by omega)
  have ea : a = some ⟨w.heap.size, 0, none⟩ := by simp at e; exact e.1.symm
  subst ea
  exact ⟨_, n, rfl, hS, hbw, fun P hF hP => off_own hown hF (ho P hP)⟩
end Go.Proofs.Ytjbhichgojjakaa
