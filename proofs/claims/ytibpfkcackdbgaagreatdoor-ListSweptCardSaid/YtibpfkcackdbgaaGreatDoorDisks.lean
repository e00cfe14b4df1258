/- Disks -/
import Derived.Test.YtibpfkcackdbgaaGreatDoorStrA
import Derived.OwnWalk
import Derived.Laws.MakeOwn
import Derived.Deep.QuietTactic
import Derived.BigQuiet
import Derived.Deep.RegionHeld3
import Derived.Lib.SliceRun
import Derived.RegionTactic
import Derived.BigRegion
namespace Go.Proofs.YtibpfkcackdbgaaGreatDoor
open Go.ChangeShapes Go.WideShapes Go.ChangeAt Go.RowKit
set_option linter.unusedVariables false
set_option maxRecDepth 100000
structure Stm where
 bytes : List Nat
 synced : Int
def Stm.zero : Stm := ⟨[], 0⟩
instance : Inhabited Stm := ⟨Stm.zero⟩
def Stm.right (x : Stm) : Bool := rightB x.synced x.bytes.length
def CellsS (w : World) (b o : Nat) (x : Stm) : Prop :=
 ∃ A cap, w.cell? ⟨b, o, none⟩ = some (.slice A x.bytes.length cap) ∧ x.bytes.length ≤ cap ∧ x.bytes.length ≤ 140737488355328 ∧ AtB w A x.bytes.length x.bytes ∧ w.cell? ⟨b, o + 1, none⟩ = some (.int .i64 x.synced) ∧
  (-9223372036854775808 ≤ x.synced ∧ x.synced < 9223372036854775808)
theorem CellsS.below {w w' : World} {b o : Nat} {x : Stm} (h : CellsS w b o x) (hb : Below w.heap.size w w') (hlt : b < w.heap.size) : CellsS w' b o x := by
 obtain ⟨A, cap, h1, h2, h3, h4, h5, h6⟩ := h
 exact ⟨A, cap, (hb.cell (p := ⟨b, o, none⟩) hlt).trans h1, h2, h3, h4.below hb (Nat.le_refl _), (hb.cell (p := ⟨b, o + 1, none⟩) hlt).trans h5, h6⟩
def StmsAt (w : World) (a : Option Addr) (n : Nat) (l : List Stm) : Prop :=
 l.length = n ∧ n ≤ 140737488355328 ∧ (0 < n → ∃ b off, a = some ⟨b, off, none⟩ ∧ b < w.heap.size ∧ ∀ j x, l[j]? = some x → CellsS w b (off + j * 2) x)
theorem StmsAt.nil (w : World) (a : Option Addr) : StmsAt w a 0 [] := ⟨rfl, by omega, fun h => by omega⟩
theorem StmsAt.later {w w' : World} {a : Option Addr} {n : Nat} {l : List Stm} (h : StmsAt w a n l) (hb : Below w.heap.size w w') : StmsAt w' a n l := by
 obtain ⟨h1, h2, h3⟩ := h
 refine ⟨h1, h2, fun hp => ?_⟩
 obtain ⟨b, off, e, hlt, hc⟩ := h3 hp
 exact ⟨b, off, e, Nat.lt_of_lt_of_le hlt hb.size, fun j x hx => (hc j x hx).below hb hlt⟩
theorem StmsAt.hid {w w' : World} {a : Option Addr} {n : Nat} {l : List Stm} (h : Hid (StmsAt w a n l)) (hb : Below w.heap.size w w') : Hid (StmsAt w' a n l) := Lib.hid (h.out.later hb)
theorem CellsS.same {w w' : World} {b o : Nat} {x : Stm} (h : CellsS w b o x) (hd : w.heap = w'.heap) : CellsS w' b o x := by
 obtain ⟨A, cap, h1, h2, h3, h4, h5, h6⟩ := h
 have hc : ∀ p, w'.cell? p = w.cell? p := fun p => by unfold World.cell?; rw [hd]
 refine ⟨A, cap, by rw [hc]; exact h1, h2, h3, (AtB.hidD (Lib.hid h4) hd).out, by rw [hc]; exact h5, h6⟩
theorem StmsAt.same {w w' : World} {a : Option Addr} {n : Nat} {l : List Stm} (h : StmsAt w a n l) (hd : w.heap = w'.heap) : StmsAt w' a n l := by
 obtain ⟨h1, h2, h3⟩ := h
 refine ⟨h1, h2, fun hp => ?_⟩
 obtain ⟨b, off, e, hlt, hc⟩ := h3 hp
 exact ⟨b, off, e, by rw [← hd]; exact hlt, fun j x hx => (hc j x hx).same hd⟩
theorem StmsAt.at_ {w : World} {a : Option Addr} {n : Nat} {l : List Stm} (h : StmsAt w a n l) (j : Nat) (hj : j < n) :
  ∃ x b off A cap, l[j]? = some x ∧ a = some ⟨b, off, none⟩ ∧ b < w.heap.size ∧ w.cell? ⟨b, off + j * 2, none⟩ = some (.slice A x.bytes.length cap) ∧ w.cell? ⟨b, off + j * 2 + 1, none⟩ = some (.int .i64 x.synced) ∧
   x.bytes.length ≤ cap ∧ x.bytes.length ≤ 140737488355328 ∧ AtB w A x.bytes.length x.bytes ∧ (-9223372036854775808 ≤ x.synced ∧ x.synced < 9223372036854775808) := by
 obtain ⟨h1, h2, h3⟩ := h
 obtain ⟨b, off, e, hlt, hc⟩ := h3 (by omega)
 obtain ⟨A, cap, c1, c2, c3, c4, c5, c6⟩ := hc j l[j] (List.getElem?_eq_getElem (by omega))
 exact ⟨l[j], b, off, A, cap, List.getElem?_eq_getElem (by omega), e, hlt, c1, c5, c2, c3, c4, c6⟩
def OffS (P : Nat → Prop) (w : World) (a : Option Addr) (n : Nat) : Prop :=
 ∀ b off, a = some ⟨b, off, none⟩ → 0 < n → P b ∧ ∀ j, j < n → ∀ ad len c, w.cell? ⟨b, off + j * 2, none⟩ = some (.slice (some ad) len c) → 0 < len → P ad.block
theorem OffS.mono {P Q : Nat → Prop} {w : World} {a : Option Addr} {n : Nat} (h : OffS P w a n) (hPQ : ∀ b, P b → Q b) : OffS Q w a n := fun b off e hn =>
 ⟨hPQ _ (h b off e hn).1, fun j hj ad len c hc hl => hPQ _ ((h b off e hn).2 j hj ad len c hc hl)⟩
theorem OffS.nil (P : Nat → Prop) (w : World) (a : Option Addr) : OffS P w a 0 := fun b off e hn => by omega
theorem OffS.nowhere (P : Nat → Prop) (w : World) (n : Nat) : OffS P w none n := fun b off e hn => by cases e
theorem OffS.later {P : Nat → Prop} {w w' : World} {a : Option Addr} {n : Nat} {l : List Stm} (h : OffS P w a n) (hS : StmsAt w a n l) (hb : Below w.heap.size w w') : OffS P w' a n := fun b off e hn => by
 obtain ⟨b', off', e', hlt, _⟩ := hS.2.2 hn
 obtain ⟨h1, h2⟩ := h b off e hn
 rw [e'] at e
 cases e
 exact ⟨h1, fun j hj ad len c hc hl => h2 j hj ad len c ((hb.cell (p := ⟨b, off + j * 2, none⟩) hlt).symm.trans hc) hl⟩
theorem StmsAt.old {w : World} {a : Option Addr} {n : Nat} {l : List Stm} (hS : StmsAt w a n l) : OffS (fun b => b < w.heap.size) w a n := fun b off e hn => by
 obtain ⟨b', off', e', hlt, hc⟩ := hS.2.2 hn
 rw [e'] at e
 cases e
 refine ⟨hlt, fun j hj ad len c hcell hl => ?_⟩
 obtain ⟨A, cap, c1, _, _, c4, _⟩ := hc j (l[j]'(by have := hS.1; omega)) (List.getElem?_eq_getElem _)
 rw [hcell] at c1
 simp only [Option.some.injEq, Value.slice.injEq] at c1
 obtain ⟨b2, o2, e2, hlt2, _⟩ := c4.2.2.2 (by omega)
 rw [e2] at c1
 obtain ⟨rfl, _⟩ : ad = _ ∧ True := ⟨by simpa using c1.1, trivial⟩
 exact hlt2
theorem StmsAt.apart {w : World} {a : Option Addr} {n : Nat} {l : List Stm} (hS : StmsAt w a n l) (b j : Nat) (v : Value) (h : OffS (fun k => k ≠ b) w a n) : StmsAt (w.setCell ⟨b, j, none⟩ v) a n l := by
 obtain ⟨h1, h2, h3⟩ := hS
 refine ⟨h1, h2, fun hp => ?_⟩
 obtain ⟨g, off, e, hlt, hc⟩ := h3 hp
 obtain ⟨k1, k2⟩ := h g off e hp
 refine ⟨g, off, e, by simpa using hlt, fun i x hx => ?_⟩
 obtain ⟨A, cap, c1, c2, c3, c4, c5, c6⟩ := hc i x hx
 have hi : i < n := by have := (List.getElem?_eq_some_iff.1 hx).1; omega
 have hne : ∀ o, (w.setCell ⟨b, j, none⟩ v).cell? ⟨g, o, none⟩ = w.cell? ⟨g, o, none⟩ := fun o => World.cell?_setCell_other _ _ _ _ (fun e => k1 (by have e2 := congrArg Addr.block e; first | exact e2 | exact e2.symm))
 exact ⟨A, cap, (hne _).trans c1, c2, c3, c4.set b j v (fun b' o' e' hl => k2 i hi ⟨b', o', Option.none⟩ _ _ (by rw [c1, e']) hl), (hne _).trans c5, c6⟩
theorem OffS.apart {P : Nat → Prop} {w : World} {a : Option Addr} {n : Nat} (hP : OffS P w a n) (b j : Nat) (v : Value) (h : OffS (fun k => k ≠ b) w a n) : OffS P (w.setCell ⟨b, j, none⟩ v) a n := fun g off e hn => by
 obtain ⟨h1, h2⟩ := hP g off e hn
 obtain ⟨k1, _⟩ := h g off e hn
 refine ⟨h1, fun i hi ad len c hc hl => h2 i hi ad len c ?_ hl⟩
 rw [← hc]
 exact (World.cell?_setCell_other _ _ _ _ (fun e => k1 (by have e2 := congrArg Addr.block e; first | exact e2 | exact e2.symm))).symm
end Go.Proofs.YtibpfkcackdbgaaGreatDoor
namespace Go.Proofs.YtibpfkcackdbgaaGreatDoor
open Go.ChangeShapes Go.WideShapes Go.ChangeAt Go.RowKit
set_option linter.unusedVariables false
set_option maxRecDepth 100000
theorem infoM : (Tryz.prog.info? 93).map (fun i => (i.zero, i.size, i.bytes)) = some (some (.agg #[.slice none 0 0, .int .i64 0]), 2, 32) := by kernel_rfl
def RawS (w : World) (vs : List Value) (l : List Stm) : Prop :=
 vs.length = l.length * 2 ∧ ∀ j x, l[j]? = some x → ∃ A cap, vs[j * 2]? = some (.slice A x.bytes.length cap) ∧ vs[j * 2 + 1]? = some (.int .i64 x.synced) ∧ x.bytes.length ≤ cap ∧ x.bytes.length ≤ 140737488355328 ∧
  AtB w A x.bytes.length x.bytes ∧ (-9223372036854775808 ≤ x.synced ∧ x.synced < 9223372036854775808)
theorem RawS.later {w w' : World} {vs : List Value} {l : List Stm} (h : RawS w vs l) (hb : Below w.heap.size w w') : RawS w' vs l := by
 refine ⟨h.1, fun j x hx => ?_⟩
 obtain ⟨A, cap, h1, h2, h3, h4, h5, h6⟩ := h.2 j x hx
 exact ⟨A, cap, h1, h2, h3, h4, h5.below hb (Nat.le_refl _), h6⟩
theorem RawS.one {w : World} {vs : List Value} {l : List Stm} (h : RawS w vs l) : ∀ u ∈ vs, u.oneCell' = true := by
 intro u hu
 obtain ⟨i, hi⟩ := List.mem_iff_getElem?.1 hu
 have hl : i < vs.length := (List.getElem?_eq_some_iff.1 hi).1
 have hj : i / 2 < l.length := by have := h.1; omega
 obtain ⟨A, cap, h1, h2, _⟩ := h.2 (i / 2) _ (List.getElem?_eq_getElem hj)
 rcases Nat.mod_two_eq_zero_or_one i with he | he
 ·rw [show i / 2 * 2 = i by omega, hi] at h1
  cases h1; rfl
 ·rw [show i / 2 * 2 + 1 = i by omega, hi] at h2
  cases h2; rfl
theorem StmsAt.raw {w : World} {a : Option Addr} {n : Nat} {l : List Stm} (h : StmsAt w a n l) : ∃ vs, RawS w vs l ∧ ∀ ad, a = some ad → ∀ j u, vs[j]? = some u → w.cell? (ad.add j) = some u := by
 obtain ⟨h1, h2, h3⟩ := h
 by_cases hp : 0 < n
 ·obtain ⟨b, off, rfl, hlt, hc⟩ := h3 hp
  have hex : ∀ i, i < n * 2 → ∃ u, w.cell? ⟨b, off + i, none⟩ = some u := by
   intro i hi
   have hj : i / 2 < l.length := by omega
   obtain ⟨A, cap, c1, _, _, _, c2, _⟩ := hc (i / 2) _ (List.getElem?_eq_getElem hj)
   rcases Nat.mod_two_eq_zero_or_one i with he | he
   ·exact ⟨_, by rw [show off + i = off + i / 2 * 2 by omega]; exact c1⟩
   ·exact ⟨_, by rw [show off + i = off + i / 2 * 2 + 1 by omega]; exact c2⟩
  refine ⟨(List.range (n * 2)).map fun i => (w.cell? ⟨b, off + i, none⟩).getD undef, ⟨by simp [h1], fun j x hx => ?_⟩, ?_⟩
  ·have hj : j < n := by have := (List.getElem?_eq_some_iff.1 hx).1; omega
   obtain ⟨A, cap, c1, c2, c3, c4, c5, c6⟩ := hc j x hx
   refine ⟨A, cap, ?_, ?_, c2, c3, c4, c6⟩
   ·rw [List.getElem?_map, List.getElem?_range (by omega)]; simp [c1]
   ·rw [List.getElem?_map, List.getElem?_range (by omega)]; simp [Nat.add_assoc] at c5 ⊢; simp [c5]
  ·intro ad hd i u hu
   cases hd
   have hi : i < n * 2 := by have := (List.getElem?_eq_some_iff.1 hu).1; simpa using this
   obtain ⟨v, hv⟩ := hex i hi
   rw [List.getElem?_map, List.getElem?_range hi] at hu
   simp [hv] at hu
   rw [Addr.add_mid, hv, hu]
 ·obtain rfl : n = 0 := by omega
  obtain rfl : l = [] := List.eq_nil_of_length_eq_zero h1
  exact ⟨[], ⟨rfl, fun j x hx => by simp at hx⟩, fun ad _ j u hu => by simp at hu⟩
theorem RawS.at_ {w0 w : World} {base : Nat} {v : Value} {n : Nat} {vs : List Value} {l : List Stm} (h : RawS w0 vs l) (hown : w.ownsRow base 93 2 v n vs) (hb : Below w0.heap.size w0 w) (hn : n ≤ 140737488355328) :
  ∃ a cap, v = .slice a n cap ∧ n ≤ cap ∧ StmsAt w a n l := by
 have hl : l.length = n := by have := hown.1; have := h.1; omega
 rcases hown.2 with ⟨rfl, rfl⟩ | ⟨g, cap, cur, rfl, hg, hgb, hcap, _⟩
 ·obtain rfl : l = [] := List.eq_nil_of_length_eq_zero hl
  exact ⟨none, 0, rfl, Nat.le_refl _, StmsAt.nil _ _⟩
 ·refine ⟨_, cap, rfl, hcap, hl, hn, fun _ => ⟨g, 0, rfl, (Array.getElem?_eq_some_iff.1 hgb).1, fun j x hx => ?_⟩⟩
  obtain ⟨A, c, h1, h2, h3, h4, h5, h6⟩ := h.2 j x hx
  have c1 := hown.cells (g := g) rfl _ _ h1
  have c2 := hown.cells (g := g) rfl _ _ h2
  rw [Addr.add_lit] at c1 c2
  exact ⟨A, c, c1, h3, h4, h5.below hb (Nat.le_refl _), c2, h6⟩
theorem RawS.set {w : World} {vs : List Value} {l : List Stm} (h : RawS w vs l) (j : Nat) (hj : j < l.length) (A : Option Addr) (cap : Nat) (x : Stm) (h3 : x.bytes.length ≤ cap) (h4 : x.bytes.length ≤ 140737488355328) (h5 : AtB w A x.bytes.length x.bytes)
  (h6 : -9223372036854775808 ≤ x.synced ∧ x.synced < 9223372036854775808) : RawS w ((vs.set (j * 2) (.slice A x.bytes.length cap)).set (j * 2 + 1) (.int .i64 x.synced)) (l.set j x) := by
 refine ⟨by simp [h.1], fun i y hy => ?_⟩
 by_cases hij : j = i
 ·subst hij
  rw [List.getElem?_set_self hj] at hy
  cases hy
  have := h.1
  exact ⟨A, cap, by rw [List.getElem?_set_ne (by omega), List.getElem?_set_self (by omega)], by rw [List.getElem?_set_self (by rw [List.length_set]; omega)], h3, h4, h5, h6⟩
 ·rw [List.getElem?_set_ne hij] at hy
  obtain ⟨B, c, k1, k2, k3⟩ := h.2 i y hy
  exact ⟨B, c, by rw [List.getElem?_set_ne (by omega), List.getElem?_set_ne (by omega)]; exact k1, by rw [List.getElem?_set_ne (by omega), List.getElem?_set_ne (by omega)]; exact k2, k3⟩
theorem madeM (n : Nat) : (madeCells #[.slice none 0 0, .int .i64 0] (n * 2)).toList = (List.range (n * 2)).map fun i => if i % 2 = 0 then .slice none 0 0 else .int .i64 0 := by
 unfold madeCells
 rw [Array.toList_map, Array.toList_range]
 apply List.map_congr_left
 intro i hi
 rcases Nat.mod_two_eq_zero_or_one i with he | he <;> simp [he]
theorem RawS.zeros (w : World) (n : Nat) : RawS w (madeCells #[.slice none 0 0, .int .i64 0] (n * 2)).toList (List.replicate n Stm.zero) := by
 rw [madeM]
 refine ⟨by simp, fun j x hx => ?_⟩
 obtain ⟨hj, rfl⟩ : j < n ∧ x = Stm.zero := by
  have h := List.getElem?_eq_some_iff.1 hx
  obtain ⟨h1, h2⟩ := h
  exact ⟨by simpa using h1, by simpa using h2.symm⟩
 refine ⟨none, 0, ?_, ?_, Nat.le_refl _, Nat.zero_le _, AtB.nil _ _, by simp [Stm.zero]⟩
 ·rw [List.getElem?_map, List.getElem?_range (by omega)]; simp [Stm.zero]
 ·rw [List.getElem?_map, List.getElem?_range (by omega)]; simp [Stm.zero]
def RawO (P : Nat → Prop) (vs : List Value) : Prop := ∀ (j : Nat) (ad : Addr) (len c : Nat), vs[j * 2]? = some (.slice (some ad) len c) → 0 < len → P ad.block
theorem RawO.nil (P : Nat → Prop) : RawO P [] := fun j ad len c h => by simp at h
theorem rawO_of {P : Nat → Prop} {w : World} {ad : Addr} {n : Nat} {l : List Stm} {vs : List Value} (hS : StmsAt w (some ad) n l) (hraw : RawS w vs l) (hcell : ∀ j u, vs[j]? = some u → w.cell? (ad.add j) = some u) (hP : OffS P w (some ad) n) : RawO P vs := by
 intro j ad' len c hu hl
 have hj : j < n := by have := (List.getElem?_eq_some_iff.1 hu).1; have := hraw.1; have := hS.1; omega
 obtain ⟨b, off, e, hlt, _⟩ := hS.2.2 (by omega)
 cases e
 have hc := hcell _ _ hu
 rw [Addr.add_mid] at hc
 exact (hP b off rfl (by omega)).2 j hj ad' len c hc hl
theorem RawO.set {P : Nat → Prop} {vs : List Value} (h : RawO P vs) (j : Nat) (A : Option Addr) (len cap : Nat) (s : Int) (hA : ∀ ad, A = some ad → 0 < len → P ad.block) : RawO P ((vs.set (j * 2) (.slice A len cap)).set (j * 2 + 1) (.int .i64 s)) := by
 intro i ad n c hu hl
 rw [List.getElem?_set_ne (by omega)] at hu
 by_cases hij : j = i
 ·subst hij
  rw [List.getElem?_set] at hu
  split at hu
  ·split at hu
   ·simp only [Option.some.injEq, Value.slice.injEq] at hu
    exact hA ad hu.1 (by omega)
   ·cases hu
  ·exact absurd rfl ‹_›
 ·rw [List.getElem?_set_ne (by omega)] at hu
  exact h i ad n c hu hl
theorem off_own {P : Nat → Prop} {w : World} {base : Nat} {a : Option Addr} {n cap : Nat} {vs : List Value} (h : w.ownsRow base 93 2 (.slice a n cap) n vs) (hP : ∀ b, base ≤ b → P b) (ho : RawO P vs) : OffS P w a n := by
 intro b off e hn
 subst e
 rcases h.2 with ⟨_, h0⟩ | ⟨g, cap', cur, e2, hg, hgb, _⟩
 ·omega
 ·simp only [Value.slice.injEq, Option.some.injEq, Addr.mk.injEq, and_true, true_and] at e2
  obtain ⟨⟨rfl, rfl⟩, rfl⟩ := e2
  refine ⟨hP _ hg, fun j hj ad len c hc hl => ho j ad len c ?_ hl⟩
  rw [Nat.zero_add] at hc
  exact (h.cellAt (j * 2) (by omega)).symm.trans hc
theorem ownsRow_set2 {w : World} {base g n cap : Nat} {vs : List Value} (h : w.ownsRow base 93 2 (.slice (some ⟨g, 0, none⟩) n cap) n vs) (j : Nat) (u v : Value) :
  ((w.setCell ⟨g, j * 2, none⟩ u).setCell ⟨g, j * 2 + 1, none⟩ v).ownsRow base 93 2 (.slice (some ⟨g, 0, none⟩) n cap) n ((vs.set (j * 2) u).set (j * 2 + 1) v) :=
 (((h.stored (j * 2) u).1).stored (j * 2 + 1) v).1
theorem grown_set (w : World) (b j : Nat) (v : Value) : w.grownBy (w.setCell ⟨b, j, none⟩ v) (some b) :=
 ⟨by simp [World.setCell], by simp [World.setCell], by simp [World.setCell], by simp, fun k _ hk => Below.heap_setCell w ⟨b, j, none⟩ v k (fun e => hk (by rw [e]))⟩
theorem ownsRow_apart {w : World} {base : Nat} {e : TypeId} {size : Nat} {v : Value} {n : Nat} {xs : List Value} (h : w.ownsRow base e size v n xs) (b j : Nat) (u : Value) (hb : b < base) : (w.setCell ⟨b, j, none⟩ u).ownsRow base e size v n xs :=
 h.kept (grown_set w b j u) (.inr (fun e => by have := (h.lt b e).1; omega))
theorem wpList_append_stms {ops : Array Oper} {rest : List Oper} {o : Oper} {a : Act} {w0 w : World} {Q : Exit → Act → World → Prop} (hw : Region.wanted o (yielded ops a.tmps) = true) (s x : Operand)
  (ho : o.op = .call { callee := .builtin .append, args := #[s, x], argTypes := #[28, 28] }) (hs : a.eval s = .slice (some ⟨w.heap.size, 0, none⟩) 0 0)
  (A : Option Addr) (m c : Nat) (l : List Stm) (hx : a.eval x = .slice A m c) (hA : StmsAt w0 A m l) (hB : Below w0.heap.size w0 w) (hm : m ≤ 1000000)
  (h : ∀ v' w' vs, w'.ownsRow w.heap.size 93 2 v' m vs → RawS w0 vs l → (∀ P : Nat → Prop, OffS P w0 A m → RawO P vs) → Below w.heap.size w w' → wpList Tryz.prog ops Q rest (a.put o.dst v') w') :
  wpList Tryz.prog ops Q (o :: rest) a (w.alloc (.cells #[] 93)) := by
 obtain ⟨i, hi, hz0, hz1, hz2⟩ := info_parts infoM
 obtain ⟨vs, hraw, hcell⟩ := hA.raw
 have hl := hA.1
 have hO : ∀ P : Nat → Prop, OffS P w0 A m → RawO P vs := by
  intro P hP
  rcases A with _ | ad
  ·have hm : m = 0 := by
    rcases Nat.eq_zero_or_pos m with h0 | h0
    ·exact h0
    ·obtain ⟨b, off, e, _⟩ := hA.2.2 h0
     cases e
   obtain rfl : vs = [] := List.eq_nil_of_length_eq_zero (by have := hraw.1; omega)
   exact RawO.nil P
  ·exact rawO_of hA hraw (hcell _ rfl) hP
 have hown0 : (w.alloc (.cells #[] 93)).ownsRow w.heap.size 93 2 (.slice (some ⟨w.heap.size, 0, none⟩) 0 0) 0 [] := World.ownsRow_made w #[] 0 (Nat.le_refl _) (Nat.zero_le _) rfl
 have hB1 : Below w.heap.size w (w.alloc (.cells #[] 93)) := (Below.refl _ _).alloc (Nat.le_refl _) _
 have hrun : ∃ v' w', (Builtin.append_ #[28, 28] o.type #[.slice (some ⟨w.heap.size, 0, none⟩) 0 0, .slice A m c]).run Tryz.prog (w.alloc (.cells #[] 93)) = .ok v' w' ∧ w'.ownsRow w.heap.size 93 2 v' m vs ∧ Below w.heap.size w w' := by
  rcases A with _ | ad
  ·have hm : m = 0 := by
    rcases Nat.eq_zero_or_pos m with h0 | h0
    ·exact h0
    ·obtain ⟨b, off, e, _⟩ := hA.2.2 h0
     cases e
   subst hm
   obtain rfl : vs = [] := List.eq_nil_of_length_eq_zero (by have := hraw.1; omega)
   refine ⟨_, _, ?_, hown0, hB1⟩
   simp [Builtin.append_, run_underlying Tryz.underlying28, sizeOf, typeInfo, hi, Builtin.lenOf, Builtin.firstCells, storeCells]
  ·obtain ⟨v', w', h1, h2, h3, _⟩ := run_append_own (P := Tryz.prog) (w.alloc (.cells #[] 93)) w.heap.size 28 o.type 93 i _ 2 32 Tryz.underlying28 hi hz0 hz1 hz2 rfl (by decide) _ 0 [] hown0 ad m c vs
    (by have := hraw.1; omega) (fun j u hu => by
     obtain ⟨b, off, e, hlt, _⟩ := hA.2.2 (by have := (List.getElem?_eq_some_iff.1 hu).1; have := hraw.1; omega)
     cases e
     have hc := hcell _ rfl j u hu
     rw [Addr.add_mid] at hc ⊢
     exact ((hB.trans (hB1.mono hB.size)).cell (p := ⟨b, off + j, none⟩) hlt).trans hc) hraw.one (by unfold maxLen; omega) (by omega) (by simp)
   refine ⟨v', w', h1, by simpa using h2, hB1.grown h3 (by simp) (fun k hk => by simp [Value.ownBlock] at hk; omega)⟩
 obtain ⟨v', w', hr, h2, h3⟩ := hrun
 refine BigFrame.wpList_want hw fun K hK => ?_
 unfold Oper.wp execOp
 simp only [ho, resolve, invoke, builtin, Sem.run_bind, Sem.run_pure, Result.andThen_ok, List.map_toArray, List.map_cons, List.map_nil, hs, hx, hr]
 exact hK _ _ (h v' w' vs h2 hraw hO h3)
end Go.Proofs.YtibpfkcackdbgaaGreatDoor
namespace Go.Proofs.YtibpfkcackdbgaaGreatDoor
open Go.ChangeShapes Go.WideShapes Go.ChangeAt Go.RowKit
set_option linter.unusedVariables false
set_option maxRecDepth 100000
def isB (i : Int) (n : Nat) : Bool := decide (0 ≤ i) && decide (i < (n : Int))
def rowB (row : Int) : Bool := decide (0 ≤ row) && decide (row < 2)
def hasB (row i : Int) (n m : Nat) : Bool := rowB row && isB i (if row = 0 then n else m)
theorem isB_nat {k n : Nat} (h : k < n) : isB (k : Int) n = true := by unfold isB; rw [decide_eq_true (by omega), decide_eq_true (by omega)]; rfl
theorem rowB_iff {row : Int} (h : rowB row = true) : row = 0 ∨ row = 1 := by
 unfold rowB at h
 simp only [Bool.and_eq_true, decide_eq_true_eq] at h
 omega
theorem hasRow_any (d : Value) (cs : Array Value) (hd : d = .agg cs) (row : Int) (w : World) : Calls Tryz.prog 170 #[.agg cs, .int .i64 row] w (Kept w (.bool (rowB row))) := by
 by_cases h0 : 0 ≤ row
 ·have E : Hid (rowB row = decide (row < 2)) := Lib.hid (by unfold rowB; rw [decide_eq_true h0]; rfl)
  go_enter Tryz.func170, Tryz.ntmps170
  go_wp2_with fail
  go_ret
  exact ⟨ret_bool' E.out.symm, (Below.refl _ _).alloc (Nat.le_refl _) _⟩
 ·have E : Hid (rowB row = false) := Lib.hid (by unfold rowB; rw [decide_eq_false h0]; rfl)
  have d0 : decide (0 ≤ row) = false := decide_eq_false h0
  go_enter Tryz.func170, Tryz.ntmps170
  go_wp2_with fail
  go_ret
  exact ⟨ret_bool' E.out.symm, (Below.refl _ _).alloc (Nat.le_refl _) _⟩
theorem hasStream_any (r : Int) (A : Option Addr) (n a : Nat) (B : Option Addr) (m b : Nat) (row i : Int) (w : World) :
  Calls Tryz.prog 165 #[.agg #[.int .u64 r, .slice A n a, .slice B m b], .int .i64 row, .int .i64 i] w (Kept w (.bool (hasB row i n m))) := by
 have HR := fun w => hasRow_any _ #[.int .u64 r, .slice A n a, .slice B m b] rfl row w
 by_cases hr : rowB row = true
 ·rw [hr] at HR
  by_cases h0 : 0 ≤ i
  ·rcases rowB_iff hr with rfl | rfl
   ·have E : Hid (hasB 0 i n m = decide (i < (n : Int))) := Lib.hid (by unfold hasB isB; rw [hr, decide_eq_true h0]; rfl)
    clear hr
    go_enter Tryz.func165, Tryz.ntmps165
    go_wp2_with (go_at_call 170; (with_reducible refine (HR _).mono ?_); rintro e w' ⟨rfl, hb⟩; have V := ((VarAt.made w #[.int .u64 r, .slice A n a, .slice B m b] 31).below hb).three; obtain ⟨hz, hc0, hc1, hc2, hf0, hf1, hf2⟩ := V; have HB := Lib.hid (below_box hb); clear hb)
    go_ret
    exact ⟨ret_bool' E.out.symm, HB.out⟩
   ·have E : Hid (hasB 1 i n m = decide (i < (m : Int))) := Lib.hid (by unfold hasB isB; rw [hr, decide_eq_true h0]; rfl)
    clear hr
    go_enter Tryz.func165, Tryz.ntmps165
    go_wp2_with (go_at_call 170; (with_reducible refine (HR _).mono ?_); rintro e w' ⟨rfl, hb⟩; have V := ((VarAt.made w #[.int .u64 r, .slice A n a, .slice B m b] 31).below hb).three; obtain ⟨hz, hc0, hc1, hc2, hf0, hf1, hf2⟩ := V; have HB := Lib.hid (below_box hb); clear hb)
    go_ret
    exact ⟨ret_bool' E.out.symm, HB.out⟩
  ·have E : Hid (hasB row i n m = false) := Lib.hid (by unfold hasB isB; rw [hr, decide_eq_false h0]; rfl)
   have d0 : decide (0 ≤ i) = false := decide_eq_false h0
   clear hr h0
   go_enter Tryz.func165, Tryz.ntmps165
   go_wp2_with (go_at_call 170; (with_reducible refine (HR _).mono ?_); rintro e w' ⟨rfl, hb⟩; have HB := Lib.hid (below_box hb); clear hb)
   go_ret
   exact ⟨ret_bool' E.out.symm, HB.out⟩
 ·have hr' : rowB row = false := by simpa using hr
  have E : Hid (hasB row i n m = false) := Lib.hid (by unfold hasB; rw [hr']; rfl)
  rw [hr'] at HR
  clear hr hr'
  go_enter Tryz.func165, Tryz.ntmps165
  go_wp2_with (go_at_call 170; (with_reducible refine (HR _).mono ?_); rintro e w' ⟨rfl, hb⟩; have HB := Lib.hid (below_box hb); clear hb)
  go_ret
  exact ⟨ret_bool' E.out.symm, HB.out⟩
theorem row_any (r : Nat) (hr : r < 18446744073709551616) (v1 v2 : Value) (h1 : v1.oneCell' = true) (h2 : v2.oneCell' = true) (w : World) :
  Calls Tryz.prog 121 #[.agg #[.int .u64 (r : Int), v1, v2]] w (Kept w (.int .i64 ((r % 2 : Nat) : Int))) := by
 obtain ⟨q, hq⟩ : ∃ q : Int, q = (r : Int) := ⟨_, rfl⟩
 have E : ((r % 2 : Nat) : Int) = q % 2 := by omega
 have q0 : 0 ≤ q := by omega
 have E2 : Hid (((r % 2 : Nat) : Int) = q % 2) := Lib.hid E
 rw [← hq]
 clear E hq hr
 go_enter Tryz.func121, Tryz.ntmps121
 go_wp2_with fail
 go_ret
 rw [E2.out]
 exact ⟨rfl, (Below.refl _ _).alloc (Nat.le_refl _) _⟩
end Go.Proofs.YtibpfkcackdbgaaGreatDoor
namespace Go.Proofs.YtibpfkcackdbgaaGreatDoor
open Go.ChangeShapes Go.WideShapes Go.ChangeAt Go.RowKit
set_option linter.unusedVariables false
set_option maxRecDepth 100000
end Go.Proofs.YtibpfkcackdbgaaGreatDoor
namespace Go.Proofs.YtibpfkcackdbgaaGreatDoor
open Go.ChangeShapes Go.WideShapes Go.ChangeAt Go.RowKit
set_option linter.unusedVariables false
set_option maxRecDepth 100000
end Go.Proofs.YtibpfkcackdbgaaGreatDoor
namespace Go.Proofs.YtibpfkcackdbgaaGreatDoor
open Go.ChangeShapes Go.WideShapes Go.ChangeAt Go.RowKit
set_option linter.unusedVariables false
set_option maxRecDepth 100000
theorem eql_nil_any (w : World) (c : Nat) : (binOp .eql 28 (.slice none 0 c) (.slice none 0 0)).run Tryz.prog w = .ok (.bool true) w := Lib.run_eql_slice_nil w 28 _ none 0 c 0 0 Tryz.underlying28
theorem eql_some_stm (w : World) (a : Addr) (n c : Nat) : (binOp .eql 28 (.slice (some a) n c) (.slice none 0 0)).run Tryz.prog w = .ok (.bool false) w := Lib.run_eql_slice_nil w 28 _ (some a) n c 0 0 Tryz.underlying28
theorem eql_nil_b (w : World) (n c : Nat) : (binOp .eql 22 (.slice none n c) (.slice none 0 0)).run Tryz.prog w = .ok (.bool true) w := Lib.run_eql_slice_nil w 22 _ none n c 0 0 Tryz.underlying22
theorem eql_some_b (w : World) (a : Addr) (n c : Nat) : (binOp .eql 22 (.slice (some a) n c) (.slice none 0 0)).run Tryz.prog w = .ok (.bool false) w := Lib.run_eql_slice_nil w 22 _ (some a) n c 0 0 Tryz.underlying22
def ClonePost (w0 w : World) (A : Option Addr) (n : Nat) (l : List Stm) (e : Ending) (w' : World) : Prop :=
 ∃ v vs, e = .returned v ∧ w'.ownsRow w.heap.size 93 2 v n vs ∧ RawS w0 vs l ∧ Below w.heap.size w w' ∧ ∀ P : Nat → Prop, OffS P w0 A n → RawO P vs
theorem clone_at (A : Option Addr) (n c : Nat) (l : List Stm) (hn : n ≤ 1000000) (w0 w : World) (hS : Hid (StmsAt w0 A n l)) (hB0 : Hid (Below w0.heap.size w0 w)) :
  Calls Tryz.prog 192 #[.slice A n c] w (ClonePost w0 w A n l) := by
 rcases A with _ | ad
 ·obtain rfl : n = 0 := by
   rcases Nat.eq_zero_or_pos n with h0 | h0
   ·exact h0
   ·obtain ⟨b, off, e, _⟩ := hS.out.2.2 h0
    cases e
  obtain rfl : l = [] := List.eq_nil_of_length_eq_zero hS.out.1
  have ke := fun w => eql_nil_any w c
  go_enter Tryz.func192, Tryz.ntmps192
  go_wp2_with fail
  go_ret
  exact ⟨_, [], rfl, World.ownsRow_nil _ _ _ _, ⟨rfl, fun j x hx => by simp at hx⟩, Below.refl _ _, fun P _ => RawO.nil P⟩
 ·have HN := Lib.hid hn
  have ke := fun w => eql_some_stm w ad n c
  clear hn
  go_enter Tryz.func192, Tryz.ntmps192
  go_wp2_with (at_builtin; (refine wpList_append_stms (by rfl) (.tmp 5) (.tmp 6) (by rfl) (by rfl) (some ad) n c l (by rfl) hS.out hB0.out HN.out ?_); (intro v' w' vs hown hraw hro hb; have HO := Lib.hid hown; have HR := Lib.hid hraw; have HB := Lib.hid hb; have HRO := Lib.hid hro; clear hown hraw hb hro))
  go_ret
  exact ⟨v', vs, rfl, HO.out, HR.out, HB.out, HRO.out⟩
def DskPost (w : World) (r : Int) (A B : Option Addr) (n m : Nat) (C : Option Addr) (k : Nat) (l0 l1 : List Stm) (e : Ending) (w' : World) : Prop :=
 ∃ A' a' B' b', e = .returned (.agg #[.int .u64 r, .slice A' n a', .slice B' m b']) ∧ StmsAt w' A' n l0 ∧ StmsAt w' B' m l1 ∧ Below w.heap.size w w' ∧
  ∀ P : Nat → Prop, (∀ b, w.heap.size ≤ b → P b) → OffS P w A n → OffS P w B m → (∀ ad, C = some ad → 0 < k → P ad.block) → OffS P w' A' n ∧ OffS P w' B' m
end Go.Proofs.YtibpfkcackdbgaaGreatDoor
namespace Go.Proofs.YtibpfkcackdbgaaGreatDoor
open Go.ChangeShapes Go.WideShapes Go.ChangeAt Go.RowKit
set_option linter.unusedVariables false
set_option maxRecDepth 100000
set_option maxHeartbeats 1000000 in
theorem with0_at (r : Int) (A : Option Addr) (n a : Nat) (B : Option Addr) (m b : Nat) (l0 l1 : List Stm) (k : Nat) (hk : k < n) (hn : n ≤ 1000000) (C : Option Addr) (c : Nat) (x : Stm) (hc : x.bytes.length ≤ c) (hx : x.bytes.length ≤ 140737488355328)
  (hs : -9223372036854775808 ≤ x.synced ∧ x.synced < 9223372036854775808) (w : World) (h0 : Hid (StmsAt w A n l0)) (h1 : Hid (StmsAt w B m l1)) (hC : Hid (AtB w C x.bytes.length x.bytes)) :
  Calls Tryz.prog 166 #[.agg #[.int .u64 r, .slice A n a, .slice B m b], .int .i64 0, .int .i64 (k : Int), .agg #[.slice C x.bytes.length c, .int .i64 x.synced]] w (DskPost w r A B n m C x.bytes.length (l0.set k x) l1) := by
 have HX := Lib.hid hx
 have HS := Lib.hid hs
 have HCC := Lib.hid hc
 have HN := Lib.hid hn
 have HSR : Hid (StmsAt w A n l0) := h0
 have HCL := fun w' h => clone_at A n a l0 hn w w' HSR h
 clear hx hs hc hn
 go_enter Tryz.func166, Tryz.ntmps166
 have HB : Hid (Below w.heap.size w (((w.alloc (.cells #[.int .u64 r, .slice A n a, .slice B m b] 31)).alloc (.cells #[.slice C x.bytes.length c, .int .i64 x.synced] 93)).alloc (.cells #[.int .u64 0, .slice none 0 0, .slice none 0 0] 31))) := Lib.hid ((below_pair w _ _).alloc (by simp; omega) _)
 have V0 : Hid (VarAt (((w.alloc (.cells #[.int .u64 r, .slice A n a, .slice B m b] 31)).alloc (.cells #[.slice C x.bytes.length c, .int .i64 x.synced] 93)).alloc (.cells #[.int .u64 0, .slice none 0 0, .slice none 0 0] 31)) w.heap.size [.int .u64 r, .slice A n a, .slice B m b]) := Lib.hid ((VarAt.made w #[.int .u64 r, .slice A n a, .slice B m b] 31).below (((Below.refl _ _).alloc (Nat.le_refl _) _).alloc (by simp) _))
 have V1 : Hid (VarAt (((w.alloc (.cells #[.int .u64 r, .slice A n a, .slice B m b] 31)).alloc (.cells #[.slice C x.bytes.length c, .int .i64 x.synced] 93)).alloc (.cells #[.int .u64 0, .slice none 0 0, .slice none 0 0] 31)) (w.heap.size + 1) [.slice C x.bytes.length c, .int .i64 x.synced]) := Lib.hid ((VarAt.made1 w _ #[.slice C x.bytes.length c, .int .i64 x.synced] 93).below ((Below.refl _ _).alloc (Nat.le_refl _) _))
 have V2 : Hid (VarAt (((w.alloc (.cells #[.int .u64 r, .slice A n a, .slice B m b] 31)).alloc (.cells #[.slice C x.bytes.length c, .int .i64 x.synced] 93)).alloc (.cells #[.int .u64 0, .slice none 0 0, .slice none 0 0] 31)) (w.heap.size + 2) [.int .u64 0, .slice none 0 0, .slice none 0 0]) := Lib.hid (by
  have h := VarAt.made1 (w.alloc (.cells #[.int .u64 r, .slice A n a, .slice B m b] 31)) (.cells #[.slice C x.bytes.length c, .int .i64 x.synced] 93) #[.int .u64 0, .slice none 0 0, .slice none 0 0] 31
  rw [show (w.alloc (.cells #[.int .u64 r, .slice A n a, .slice B m b] 31)).heap.size = w.heap.size + 1 by simp] at h
  exact h)
 go_wp2_with fail
 (with_reducible refine (HCL _ HB).mono ?_)
 rintro e w1 ⟨v, vs, rfl, hown, hraw, hb, hro⟩
 have hsz := hb.size
 obtain ⟨g, cap, cur, rfl, hg, hgb, hcap, _⟩ : ∃ g cap cur, v = .slice (some ⟨g, 0, none⟩) n cap ∧ w.heap.size + 3 ≤ g ∧ w1.heap[g]? = some (.cells cur 93 (0, 0)) ∧ n ≤ cap ∧ True := by
  rcases hown.2 with ⟨_, h0⟩ | ⟨g, cap, cur, rfl, hg, hgb, hcap, _⟩
  ·omega
  ·exact ⟨g, cap, cur, rfl, by simpa using hg, hgb, hcap, trivial⟩
 have hgs : g < w1.heap.size := (Array.getElem?_eq_some_iff.1 hgb).1
 have HO : Hid (w1.ownsRow (w.heap.size + 3) 93 2 (.slice (some ⟨g, 0, none⟩) n cap) n vs) := Lib.hid (by simpa using hown)
 have HRW : Hid (RawS w vs l0) := Lib.hid hraw
 have HRO := Lib.hid hro
 clear hro
 have HB1 := Lib.hid (HB.out.trans (hb.mono HB.out.size))
 have U0 := Lib.hid (V0.out.below hb)
 have U1 := Lib.hid (V1.out.below hb)
 have U2 := Lib.hid (V2.out.below hb)
 have HVL := Lib.hid hraw.1
 have HLN := Lib.hid HSR.out.1
 clear hown hraw hb hcap hgb V0 V1 V2 HB hsz
 obtain ⟨hz0, hc0, hc1, hc2, hf0, hf1, hf2⟩ := U0.out.three
 go_wp2_with fail
 have T0 : Hid (VarAt (w1.setCell ⟨w.heap.size, 1, none⟩ (.slice (some ⟨g, 0, none⟩) n cap)) w.heap.size [.int .u64 r, .slice (some ⟨g, 0, none⟩) n cap, .slice B m b]) := Lib.hid (U0.out.setAt 1 _ (by simp))
 have T1 := Lib.hid (U1.out.apart (b' := w.heap.size) 1 (.slice (some ⟨g, 0, none⟩) n cap) (by omega))
 have T2 := Lib.hid (U2.out.apart (b' := w.heap.size) 1 (.slice (some ⟨g, 0, none⟩) n cap) (by omega))
 have TO := Lib.hid (ownsRow_apart HO.out w.heap.size 1 (.slice (some ⟨g, 0, none⟩) n cap) (by omega))
 have TB := Lib.hid (below_set1 (Nat.le_refl _) (j := 1) (.slice (some ⟨g, 0, none⟩) n cap) HB1.out)
 have TSZ : (w1.setCell ⟨w.heap.size, 1, none⟩ (.slice (some ⟨g, 0, none⟩) n cap)).heap.size = w1.heap.size := by simp
 clear hz0 hc0 hc1 hc2 hf0 hf1 hf2 U0 U1 U2
 generalize w1.setCell ⟨w.heap.size, 1, none⟩ (.slice (some ⟨g, 0, none⟩) n cap) = w2 at *
 obtain ⟨hz0, hc0, hc1, hc2, hf0, hf1, hf2⟩ := T0.out.three
 obtain ⟨hz1, hd0, hd1, hg0, hg1⟩ := T1.out.two
 obtain ⟨hz2, he0, he1, he2, hh0, hh1, hh2⟩ := T2.out.three
 obtain ⟨y0, k0⟩ : ∃ y, w2.cell? ⟨g, k * 2, none⟩ = some y := ⟨_, (TO.out.cellAt (k * 2) (by omega)).trans (List.getElem?_eq_getElem (by have := HVL.out; have := HLN.out; omega))⟩
 obtain ⟨y1, k1⟩ : ∃ y, w2.cell? ⟨g, k * 2 + 1, none⟩ = some y := ⟨_, (TO.out.cellAt (k * 2 + 1) (by omega)).trans (List.getElem?_eq_getElem (by have := HVL.out; have := HLN.out; omega))⟩
 have f0 := TO.out.frozenAt (k * 2)
 have f1 := TO.out.frozenAt (k * 2 + 1)
 clear TSZ
 go_region
 go_wp2_with fail
 have hown2 := ownsRow_apart (ownsRow_apart (ownsRow_apart (ownsRow_set2 TO.out k (.slice C x.bytes.length c) (.int .i64 x.synced)) (w.heap.size + 2) 0 (.int .u64 r) (by omega)) (w.heap.size + 2) 1 (.slice (some ⟨g, 0, none⟩) n cap) (by omega)) (w.heap.size + 2) 2 (.slice B m b) (by omega)
 have hbe := (below_setCells (B := w.heap.size) (b := w.heap.size + 2) (by omega) [.int .u64 r, .slice (some ⟨g, 0, none⟩) n cap, .slice B m b] 0 _ (below_setCells (B := w.heap.size) (b := g) (by omega) [.slice C x.bytes.length c, .int .i64 x.synced] (k * 2) _ TB.out)).drew
 obtain ⟨a2, c2, e2, hc2', hst⟩ := (HRW.out.set k (by have := HLN.out; omega) C c x HCC.out HX.out hC.out HS.out).at_ hown2.drew hbe (by have := HN.out; omega)
 have HE2 := Lib.hid e2
 have HST := Lib.hid hst
 have HBE := Lib.hid hbe
 have HOW := Lib.hid hown2.drew
 clear e2 hst hbe hown2
 refine bodyPost_ret (v := .agg #[.int .u64 r, .slice (some ⟨g, 0, none⟩) n cap, .slice B m b]) (by simp [results, Tryz.results166, go_sem, he0, he1, he2]) rfl ?_
 have hbe := HBE.out
 have hst := HST.out
 have e2 := HE2.out
 exact ⟨some ⟨g, 0, none⟩, cap, B, b, rfl, by cases e2; exact hst, h1.out.later hbe, hbe, fun P hP hA hB hC => ⟨off_own HOW.out (fun b hb => hP b (by omega)) ((HRO.out P hA).set k C _ c x.synced hC), hB.later h1.out hbe⟩⟩
end Go.Proofs.YtibpfkcackdbgaaGreatDoor
