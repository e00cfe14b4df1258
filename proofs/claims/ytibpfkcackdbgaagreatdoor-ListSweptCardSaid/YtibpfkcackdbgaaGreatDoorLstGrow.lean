/- LstGrow -/
import Derived.Test.YtibpfkcackdbgaaGreatDoorLstC
import Derived.Test.YtibpfkcackdbgaaGreatDoorEpcE
import Derived.Test.YtibpfkcackdbgaaGreatDoorPlyApp2
namespace Go.Proofs.YtibpfkcackdbgaaGreatDoor
open Go.ChangeShapes Go.WideShapes Go.ChangeAt Go.RowKit Go.BigFrame
set_option linter.unusedVariables false
set_option maxRecDepth 100000
theorem RowW.grown {w w' : World} {v : Value} {g n : Nat} {f : Nat → Nat} (h : RowW w g n f) (hg : w.grownBy w' v.ownBlock) (hb : ∀ k, v.ownBlock = some k → g ≠ k) : RowW w' g n f := by
 have hbl := hg.block g h.1 (fun e => hb g e.symm rfl)
 refine ⟨Nat.lt_of_lt_of_le h.1 hg.size, h.2.1, fun j hj => ?_, fun j => ?_⟩
 ·have := h.2.2.1 j hj
  unfold World.cell? at this ⊢
  rw [hbl]; exact this
 ·have := h.2.2.2 j
  unfold World.frozen? at this ⊢
  rw [hbl]; exact this
structure WdB (w : World) (b : Nat) (t c : Int) (g n : Nat) (R : Option Addr) (m ra : Nat) (S : Option Addr) (sa : Nat) (G : Nat → Nat) (l0 l1 : List Stm) (B : Nat) : Prop where
 wd : WdO w b t c g n R m ra S sa G l0 l1
 q0 : OffS (fun x => x < B) w R m
 q1 : OffS (fun x => x < B) w S m
 gB : g < B
 bB : b < B
 le : B ≤ w.heap.size
section
variable {w w' : World} {b : Nat} {t c : Int} {g n : Nat} {R : Option Addr} {m ra : Nat} {S : Option Addr} {sa : Nat} {G : Nat → Nat} {l0 l1 : List Stm} {B : Nat}
theorem WdB.of (h : WdO w b t c g n R m ra S sa G l0 l1) : WdB w b t c g n R m ra S sa G l0 l1 w.heap.size :=
 ⟨h, h.s0.old, h.s1.old, h.row.1, h.var.1, Nat.le_refl _⟩
theorem WdB.later (h : WdB w b t c g n R m ra S sa G l0 l1 B) (hb : Below w.heap.size w w') : WdB w' b t c g n R m ra S sa G l0 l1 B :=
 ⟨h.wd.later hb, h.q0.later h.wd.s0 hb, h.q1.later h.wd.s1 hb, h.gB, h.bB, Nat.le_trans h.le hb.size⟩
theorem WdB.put (h : WdB w b t c g n R m ra S sa G l0 l1 B) (p v : Nat) (hp : p < n) (hv : v < 18446744073709551616) : WdB (w.setCell ⟨g, p, none⟩ (.int .u64 (v : Int))) b t c g n R m ra S sa (setW G p v) l0 l1 B := by
 have hK : Keep (fun b => b ≠ g) w (w.setCell ⟨g, p, none⟩ (.int .u64 (v : Int))) := (Keep.refl _ _).set g p _ (by simp)
 exact ⟨h.wd.put p v hp hv, h.q0.keep h.wd.s0 hK h.wd.o0, h.q1.keep h.wd.s1 hK h.wd.o1, h.gB, h.bB, by simpa using h.le⟩
theorem WdB.grown (h : WdB w b t c g n R m ra S sa G l0 l1 B) {v : Value} (hg : w.grownBy w' v.ownBlock) (hv : ∀ k, v.ownBlock = some k → B ≤ k) : WdB w' b t c g n R m ra S sa G l0 l1 B := by
 have hK : Keep (fun x => x < B) w w' := Keep.grown hg fun x hx k hk => by have := hv k hk; omega
 exact ⟨⟨h.wd.var.grown hg fun k hk => by have := hv k hk; have := h.bB; omega, h.wd.row.grown hg fun k hk => by have := hv k hk; have := h.gB; omega, h.wd.s0.keep hK h.q0, h.wd.s1.keep hK h.q1, h.wd.o0.keep h.wd.s0 hK h.q0, h.wd.o1.keep h.wd.s1 hK h.q1, h.wd.ne⟩,
  h.q0.keep h.wd.s0 hK h.q0, h.q1.keep h.wd.s1 hK h.q1, h.gB, h.bB, Nat.le_trans h.le hg.size⟩
end
theorem filter_upto (q : Nat → Bool) (i : Nat) : (List.range' 1 (i + 1)).filter q = (List.range' 1 i).filter q ++ (if q (i + 1) = true then [i + 1] else []) := by
 rw [List.range'_1_concat, List.filter_append, Nat.add_comm 1 i]
 congr 1
 by_cases h : q (i + 1) = true
 ·rw [if_pos h]; simp [h]
 ·rw [if_neg h]; simp [h]
def cntS (q : Nat → Bool) (r : Nat) : Nat := ((List.range' 1 (r - 1)).filter q).length
theorem cntS_step (q : Nat → Bool) {r : Nat} (hr : 1 ≤ r) : cntS q (r + 1) = cntS q r + if q r = true then 1 else 0 := by
 unfold cntS
 obtain ⟨k, rfl⟩ : ∃ k, r = k + 1 := ⟨r - 1, by omega⟩
 rw [show k + 1 + 1 - 1 = k + 1 by omega, show k + 1 - 1 = k by omega, filter_upto, List.length_append]
 split <;> simp
theorem filter_split (q : Nat → Bool) {n r : Nat} (h1 : 1 ≤ r) (hr : r ≤ n) : (List.range' 1 n).filter q = (List.range' 1 (r - 1)).filter q ++ (List.range' r (n + 1 - r)).filter q := by
 rw [← List.filter_append]
 congr 1
 have h := List.range'_append_1 (s := 1) (m := r - 1) (n := n + 1 - r)
 rw [show 1 + (r - 1) = r by omega, show r - 1 + (n + 1 - r) = n by omega] at h
 exact h.symm
theorem filter_at (q : Nat → Bool) {n r : Nat} (h1 : 1 ≤ r) (hr : r ≤ n) : (((List.range' 1 n).filter q)[cntS q r]? = some r) ↔ q r = true := by
 rw [filter_split q h1 hr, List.getElem?_append_right (by unfold cntS; exact Nat.le_refl _)]
 have e : cntS q r - ((List.range' 1 (r - 1)).filter q).length = 0 := by unfold cntS; omega
 rw [e]
 obtain ⟨k, hk⟩ : ∃ k, n + 1 - r = k + 1 := ⟨n - r, by omega⟩
 rw [hk, List.range'_succ, List.filter_cons]
 by_cases h : q r = true
 ·rw [if_pos h]; simp [h]
 ·rw [if_neg h]
  constructor
  ·intro hh
   have hm := List.mem_of_getElem? hh
   have := (List.mem_filter.1 hm).1
   rw [List.mem_range'_1] at this
   omega
  ·exact fun hh => absurd hh h
theorem filter_all (q : Nat → Bool) (n : Nat) : cntS q (n + 1) = ((List.range' 1 n).filter q).length := rfl
end Go.Proofs.YtibpfkcackdbgaaGreatDoor
