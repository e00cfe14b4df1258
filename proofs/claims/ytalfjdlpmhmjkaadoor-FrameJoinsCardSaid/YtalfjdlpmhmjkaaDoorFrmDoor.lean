/-
  What a law of layer 4 stands on: the condition of its row (the table lies as the program's text lays it), its arguments read as rows of bytes.
-/
import Derived.Test.YtalfjdlpmhmjkaaDoorFrmShown
import Derived.Test.YtalfjdlpmhmjkaaDoorFrmRefSplit
import Derived.Test.YtalfjdlpmhmjkaaDoorLaw
import Derived.Deep.Matrix
namespace Go.Proofs.YtalfjdlpmhmjkaaDoor
open Go.ChangeShapes Go.WideShapes Go.ChangeAt Go.RowKit
set_option linter.unusedVariables false

theorem Own.later {w w' : World} {base : Nat} {v : Value} {n : Nat} {xs : List Nat} (h : Own w base v n xs) (hb : Below w.heap.size w w') : Own w' base v n xs :=
  ⟨h.1, h.2.kept (row := none) ⟨hb.os, hb.tape, hb.output, hb.size, fun k hk _ => hb.block k hk⟩ (by cases v.ownBlock <;> simp)⟩
/-- The condition of the rows: the table lies as the program's text lays it. -/
abbrev laidHalf : List (String × DataW Unit) := [("weald/crc.half", Rows.laid_weald_crc_half)]
theorem door_met (os : Os) (args : Array Value) : laidMetH Tryd.prog laidHalf ((World.doorLaid Tryd.prog 400 os).forCall (fun _ _ => 0) ⟨#[], args, []⟩).memory :=
  laidMetH_of_parts3 (fuel := 8) (laidMet_of_run' 8 (by kernel_rfl) (by kernel_rfl)) (by kernel_rfl) (by kernel_rfl)
theorem own : ownKnob Tryd.prog.godebug = none := by kernel_rfl
theorem cells22 : Tryd.prog.cellsOf 22 = 1 := by kernel_rfl

theorem open_rows {H : Type} {enc : TypeId × Value → H} {W : World} {base : Nat} {v : Value} {d : DataW H} {ps : List MemPlace} (hval : Value.okWide Tryd.prog W .any base 29 v)
    (h : DataW.Trod enc Tryd.prog W 0 (fun _ => true) true 29 v d ps) (hlt : ∀ x ∈ ps, x.block < W.heap.size) :
    ∃ a n cap ll, v = .slice a n cap ∧ n ≤ cap ∧ AtRows W a n ll := by
  obtain ⟨a0, len, cap, rfl⟩ := okWide_slice Tryd.underlying29 hval
  obtain ⟨fuel, hf⟩ := h
  rcases Deep.open_int_rows Tryd.underlying29 Tryd.underlying22 Tryd.underlying5 cells22 cells5 hf with ⟨hcs, hx⟩ | ⟨a, len', cap', A, L, C, Z, hcs, _, hl, hm, hx, hr⟩
  · simp [Value.cells] at hcs
    obtain ⟨rfl, rfl, rfl⟩ := hcs
    exact ⟨none, 0, 0, [], rfl, Nat.le_refl _, AtRows.nil _ _⟩
  · simp [Value.cells] at hcs
    obtain ⟨rfl, rfl, rfl⟩ := hcs
    simp only [Prod.mk.injEq] at hx
    obtain ⟨rfl, rfl⟩ := hx
    refine ⟨some a, len, cap, (List.range len).map fun r => ((Z r).take (L r)).map Int.toNat, rfl, hl, by simp, by unfold maxLen at hm; omega, fun hp => ?_⟩
    obtain ⟨b, off, spot⟩ := a
    have hspot : spot = none := by simpa [Addr.add] using World.cell?_spot (hr 0 (by omega)).1
    subst hspot
    refine ⟨b, off, rfl, hlt (.cell b (off + 0)) (List.mem_append_left _ (MemPlace.mem_row.2 ⟨0, by omega, rfl⟩)), fun j hj => ?_⟩
    obtain ⟨hcell, hlc, hcm, hzl, hwz, hnone, hsome⟩ := hr j (by omega)
    have e : ((List.range len).map fun r => ((Z r).take (L r)).map Int.toNat).getD j [] = ((Z j).take (L j)).map Int.toNat := by
      simp [List.getD_eq_getElem?_getD, hj]
    rw [e]
    rw [Go.WideShapes.add_plain] at hcell
    refine ⟨A j, L j, C j, hcell, by unfold maxLen at hcm; omega, by simp; omega, fun y hy => ?_, by unfold maxLen at hcm; omega, fun hpl => ?_⟩
    · obtain ⟨z, hzm, rfl⟩ := List.mem_map.1 hy
      have := wf_u8 (hwz z (List.mem_of_mem_take hzm))
      omega
    rcases hA : A j with _ | a'
    · have := hnone hA; omega
    obtain ⟨_, hcs⟩ := hsome a' hA
    obtain ⟨b', off', rfl, hc'⟩ := ints_at (zs := Z j) (fun i hi => hcs i (by omega)) (by omega)
    refine ⟨b', off', rfl, World.block_lt_of_cell? W ⟨b', off' + 0, none⟩ (hc' 0 (by omega)), fun i hi => ?_⟩
    rw [hc' i (by omega)]
    have hiz : i < (Z j).length := by omega
    have hw := wf_u8 (hwz (Z j)[i] (List.getElem_mem _))
    have e2 : (((Z j).take (L j)).map Int.toNat).getD i 0 = (Z j)[i].toNat := by
      rw [List.getD_eq_getElem?_getD, List.getElem?_map, List.getElem?_take, if_pos hi, List.getElem?_eq_getElem hiz]; rfl
    rw [e2, List.getD_eq_getElem?_getD, List.getElem?_eq_getElem hiz]
    congr 2
    show (Z j)[i] = _
    omega

def PutAny (w : World) (xs : List Nat) (e : Ending) (w' : World) : Prop :=
  ∃ A n cap E ys, e = .returned (.tuple #[.slice A n cap, .int .i64 E]) ∧ E = (if xs = [] then 1 else 0) ∧ ys = (if xs = [] then [] else frameN xs) ∧ AtB w' A n ys ∧ Below w.heap.size w w'
theorem put_any (A : Option Addr) (len cap : Nat) (xs : List Nat) (h2 : len ≤ 65535) (w : World) (hT : Hid (Tab w)) (hA : Hid (AtB w A len xs)) :
    Calls Tryd.prog 10 #[.slice A len cap] w (PutAny w xs) := by
  by_cases h1 : 1 ≤ len
  · have hx : xs ≠ [] := fun e => by have := hA.out.1; rw [e] at this; simp at this; omega
    refine (put_at A len cap xs h1 h2 w hT hA).mono ?_
    rintro e w' ⟨v, rfl, hO, hb⟩
    obtain ⟨A', cap', rfl, _, hat⟩ := hO.at_ (by omega)
    exact ⟨A', _, cap', 0, _, rfl, by simp [hx], by simp [hx], hat, hb⟩
  · obtain rfl : len = 0 := by omega
    have hx : xs = [] := by simpa using hA.out.1
    refine (put_no A 0 cap (.inl (by omega)) w).mono ?_
    rintro e w' ⟨rfl, rfl⟩
    exact ⟨none, 0, 0, 1, [], rfl, by simp [hx], by simp [hx], AtB.nil _ _, Below.refl _ _⟩
theorem refPut_any (A : Option Addr) (len cap : Nat) (xs : List Nat) (h2 : len ≤ 65535) (w : World) (hA : Hid (AtB w A len xs)) :
    Calls Tryd.prog 11 #[.slice A len cap] w (PutAny w xs) := by
  by_cases h1 : 1 ≤ len
  · have hx : xs ≠ [] := fun e => by have := hA.out.1; rw [e] at this; simp at this; omega
    refine (refPut_at A len cap xs h1 h2 w hA).mono ?_
    rintro e w' ⟨v, rfl, hO, hb⟩
    obtain ⟨A', cap', rfl, _, hat⟩ := hO.at_ (by omega)
    exact ⟨A', _, cap', 0, _, rfl, by simp [hx], by simp [hx], hat, hb⟩
  · obtain rfl : len = 0 := by omega
    have hx : xs = [] := by simpa using hA.out.1
    refine (refPut_no A 0 cap (.inl (by omega)) w).mono ?_
    rintro e w' ⟨rfl, rfl⟩
    exact ⟨none, 0, 0, 1, [], rfl, by simp [hx], by simp [hx], AtB.nil _ _, Below.refl _ _⟩

end Go.Proofs.YtalfjdlpmhmjkaaDoor
