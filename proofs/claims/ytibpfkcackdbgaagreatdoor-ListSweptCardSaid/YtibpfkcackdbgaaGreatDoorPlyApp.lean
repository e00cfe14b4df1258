/- PlyApp -/
import Derived.Test.YtibpfkcackdbgaaGreatDoorPlyA
import Derived.OwnWalk
namespace Go.Proofs.YtibpfkcackdbgaaGreatDoor
open Go.ChangeShapes Go.WideShapes Go.ChangeAt Go.RowKit
set_option linter.unusedVariables false
set_option maxRecDepth 100000
def resA (x : Res) (B : Option Addr) (bc : Nat) : List Value := [.int .u64 (x.n : Int), .slice B x.b.length bc, .bool x.fl]
def RawA (w : World) (vs : List Value) (l : List Acc) : Prop :=
 vs.length = l.length * 6 ∧ ∀ j x, l[j]? = some x → ∃ (D : Option Addr) (dc : Nat) (E : Option Addr) (ec : Nat), AccP w x D dc E ec ∧ ∀ i u, (accA x D dc E ec)[i]? = some u → vs[j * 6 + i]? = some u
theorem RawA.nil (w : World) : RawA w [] [] := ⟨rfl, fun j x hx => by simp at hx⟩
theorem RawA.later {w w' : World} {vs : List Value} {l : List Acc} (h : RawA w vs l) (hb : Below w.heap.size w w') : RawA w' vs l := by
 refine ⟨h.1, fun j x hx => ?_⟩
 obtain ⟨D, dc, E, ec, h1, h2⟩ := h.2 j x hx
 exact ⟨D, dc, E, ec, h1.later hb, h2⟩
theorem RawA.one {w : World} {vs : List Value} {l : List Acc} (h : RawA w vs l) : ∀ u ∈ vs, u.oneCell' = true := by
 intro u hu
 obtain ⟨i, hi⟩ := List.mem_iff_getElem?.1 hu
 have hl : i < vs.length := (List.getElem?_eq_some_iff.1 hi).1
 have hj : i / 6 < l.length := by have := h.1; omega
 obtain ⟨D, dc, E, ec, _, h2⟩ := h.2 (i / 6) _ (List.getElem?_eq_getElem hj)
 generalize l[i / 6] = x at h2
 have hr : i % 6 < 6 := Nat.mod_lt _ (by decide)
 have e : i / 6 * 6 + i % 6 = i := by omega
 have h3 := h2 (i % 6)
 rw [e] at h3
 generalize i % 6 = q at hr h3
 obtain rfl | rfl | rfl | rfl | rfl | rfl : q = 0 ∨ q = 1 ∨ q = 2 ∨ q = 3 ∨ q = 4 ∨ q = 5 := by omega
 all_goals
  have h4 := h3 _ rfl
  rw [hi] at h4
  cases h4
  rfl
theorem RawA.app {w : World} {vs ws : List Value} {l m : List Acc} (h : RawA w vs l) (h' : RawA w ws m) : RawA w (vs ++ ws) (l ++ m) := by
 refine ⟨by rw [List.length_append, List.length_append, h.1, h'.1]; omega, fun j x hx => ?_⟩
 by_cases hj : j < l.length
 ·rw [List.getElem?_append_left hj] at hx
  obtain ⟨D, dc, E, ec, h1, h2⟩ := h.2 j x hx
  refine ⟨D, dc, E, ec, h1, fun i u hu => ?_⟩
  have := h2 i u hu
  rw [List.getElem?_append_left (List.getElem?_eq_some_iff.1 this).1]
  exact this
 ·rw [List.getElem?_append_right (by omega)] at hx
  obtain ⟨D, dc, E, ec, h1, h2⟩ := h'.2 _ x hx
  refine ⟨D, dc, E, ec, h1, fun i u hu => ?_⟩
  have hv := h.1
  rw [List.getElem?_append_right (by omega), show j * 6 + i - vs.length = (j - l.length) * 6 + i by rw [hv, Nat.sub_mul]; omega]
  exact h2 i u hu
theorem AccsAt.raw {w : World} {a : Option Addr} {n : Nat} {l : List Acc} (h : AccsAt w a n l) : ∃ vs, RawA w vs l ∧ ∀ ad, a = some ad → ∀ j u, vs[j]? = some u → w.cell? (ad.add j) = some u := by
 obtain ⟨h1, h2, h3⟩ := h
 by_cases hp : 0 < n
 ·obtain ⟨b, off, rfl, hlt, hc⟩ := h3 hp
  have hcell : ∀ j x, l[j]? = some x → ∃ (D : Option Addr) (dc : Nat) (E : Option Addr) (ec : Nat), AccP w x D dc E ec ∧ ∀ i u, (accA x D dc E ec)[i]? = some u → w.cell? ⟨b, off + (j * 6 + i), none⟩ = some u := by
   intro j x hx
   obtain ⟨D, dc, E, ec, ⟨c0, c1, c2, c3, c4, c5⟩, hP⟩ := hc j x hx
   refine ⟨D, dc, E, ec, hP, fun i u hu => ?_⟩
   have hi : i < 6 := (List.getElem?_eq_some_iff.1 hu).1
   obtain rfl | rfl | rfl | rfl | rfl | rfl : i = 0 ∨ i = 1 ∨ i = 2 ∨ i = 3 ∨ i = 4 ∨ i = 5 := by omega
   all_goals
    cases hu
    first | exact c0 | (rw [← Nat.add_assoc]; assumption)
  have hex : ∀ i, i < n * 6 → ∃ u, w.cell? ⟨b, off + i, none⟩ = some u := by
   intro i hi
   have hj : i / 6 < l.length := by omega
   obtain ⟨_, _, _, _, _, hv⟩ := hcell (i / 6) _ (List.getElem?_eq_getElem hj)
   have hr : i % 6 < 6 := Nat.mod_lt _ (by decide)
   have e : i / 6 * 6 + i % 6 = i := by omega
   have h4 := hv (i % 6) _ (List.getElem?_eq_getElem (show i % 6 < 6 from hr))
   rw [e] at h4
   exact ⟨_, h4⟩
  refine ⟨(List.range (n * 6)).map fun i => (w.cell? ⟨b, off + i, none⟩).getD undef, ⟨by simp [h1], fun j x hx => ?_⟩, ?_⟩
  ·have hj : j < n := by have := (List.getElem?_eq_some_iff.1 hx).1; omega
   obtain ⟨D, dc, E, ec, hP, hv⟩ := hcell j x hx
   refine ⟨D, dc, E, ec, hP, fun i u hu => ?_⟩
   have hi : i < 6 := (List.getElem?_eq_some_iff.1 hu).1
   rw [List.getElem?_map, List.getElem?_range (by omega)]
   simp [hv i u hu]
  ·intro ad hd i u hu
   cases hd
   have hi : i < n * 6 := by have := (List.getElem?_eq_some_iff.1 hu).1; simpa using this
   obtain ⟨v, hv⟩ := hex i hi
   rw [List.getElem?_map, List.getElem?_range hi] at hu
   simp [hv] at hu
   rw [Addr.add_mid, hv, hu]
 ·obtain rfl : n = 0 := by omega
  obtain rfl : l = [] := List.eq_nil_of_length_eq_zero h1
  exact ⟨[], RawA.nil w, fun ad _ j u hu => by simp at hu⟩
theorem RawA.at_ {w : World} {base : Nat} {v : Value} {n : Nat} {vs : List Value} {l : List Acc} (h : RawA w vs l) (hown : w.ownsRow base 70 6 v n vs) (hn : n ≤ 140737488355328) :
  ∃ a cap, v = .slice a n cap ∧ n ≤ cap ∧ AccsAt w a n l ∧ OffW (fun b => base ≤ b) a n := by
 have hl : l.length = n := by have := hown.1; have := h.1; omega
 rcases hown.2 with ⟨rfl, rfl⟩ | ⟨g, cap, cur, rfl, hg, hgb, hcap, _⟩
 ·obtain rfl : l = [] := List.eq_nil_of_length_eq_zero hl
  exact ⟨none, 0, rfl, Nat.le_refl _, AccsAt.nil _ _, OffW.nil _ _⟩
 ·refine ⟨_, cap, rfl, hcap, ⟨hl, hn, fun _ => ⟨g, 0, rfl, (Array.getElem?_eq_some_iff.1 hgb).1, fun j x hx => ?_⟩⟩, OffW.one n hg⟩
  obtain ⟨D, dc, E, ec, h1, h2⟩ := h.2 j x hx
  have c := fun i u hu => hown.cells (g := g) rfl _ _ (h2 i u hu)
  refine ⟨D, dc, E, ec, ⟨by have := c 0 _ rfl; rw [Addr.add_lit] at this; exact this, by have := c 1 _ rfl; rw [Addr.add_lit] at this; exact this, by have := c 2 _ rfl; rw [Addr.add_lit] at this; exact this, by have := c 3 _ rfl; rw [Addr.add_lit] at this; exact this, by have := c 4 _ rfl; rw [Addr.add_lit] at this; exact this, by have := c 5 _ rfl; rw [Addr.add_lit] at this; exact this⟩, h1⟩
theorem infoR : (Tryz.prog.info? 81).map (fun i => (i.zero, i.size, i.bytes)) = some (some (.agg #[.int .u64 0, .slice none 0 0, .bool false]), 3, 40) := by kernel_rfl
def RawR (w : World) (vs : List Value) (l : List Res) : Prop :=
 vs.length = l.length * 3 ∧ ∀ j x, l[j]? = some x → ∃ (B : Option Addr) (bc : Nat), ResP w x B bc ∧ ∀ i u, (resA x B bc)[i]? = some u → vs[j * 3 + i]? = some u
theorem RawR.nil (w : World) : RawR w [] [] := ⟨rfl, fun j x hx => by simp at hx⟩
theorem RawR.later {w w' : World} {vs : List Value} {l : List Res} (h : RawR w vs l) (hb : Below w.heap.size w w') : RawR w' vs l := by
 refine ⟨h.1, fun j x hx => ?_⟩
 obtain ⟨B, bc, h1, h2⟩ := h.2 j x hx
 exact ⟨B, bc, h1.later hb, h2⟩
theorem RawR.one {w : World} {vs : List Value} {l : List Res} (h : RawR w vs l) : ∀ u ∈ vs, u.oneCell' = true := by
 intro u hu
 obtain ⟨i, hi⟩ := List.mem_iff_getElem?.1 hu
 have hl : i < vs.length := (List.getElem?_eq_some_iff.1 hi).1
 have hj : i / 3 < l.length := by have := h.1; omega
 obtain ⟨B, bc, _, h2⟩ := h.2 (i / 3) _ (List.getElem?_eq_getElem hj)
 generalize l[i / 3] = x at h2
 have hr : i % 3 < 3 := Nat.mod_lt _ (by decide)
 have e : i / 3 * 3 + i % 3 = i := by omega
 have h3 := h2 (i % 3)
 rw [e] at h3
 generalize i % 3 = q at hr h3
 obtain rfl | rfl | rfl : q = 0 ∨ q = 1 ∨ q = 2 := by omega
 all_goals
  have h4 := h3 _ rfl
  rw [hi] at h4
  cases h4
  rfl
theorem RawR.app {w : World} {vs ws : List Value} {l m : List Res} (h : RawR w vs l) (h' : RawR w ws m) : RawR w (vs ++ ws) (l ++ m) := by
 refine ⟨by rw [List.length_append, List.length_append, h.1, h'.1]; omega, fun j x hx => ?_⟩
 by_cases hj : j < l.length
 ·rw [List.getElem?_append_left hj] at hx
  obtain ⟨B, bc, h1, h2⟩ := h.2 j x hx
  refine ⟨B, bc, h1, fun i u hu => ?_⟩
  have := h2 i u hu
  rw [List.getElem?_append_left (List.getElem?_eq_some_iff.1 this).1]
  exact this
 ·rw [List.getElem?_append_right (by omega)] at hx
  obtain ⟨B, bc, h1, h2⟩ := h'.2 _ x hx
  refine ⟨B, bc, h1, fun i u hu => ?_⟩
  have hv := h.1
  rw [List.getElem?_append_right (by omega), show j * 3 + i - vs.length = (j - l.length) * 3 + i by rw [hv, Nat.sub_mul]; omega]
  exact h2 i u hu
theorem LogAt.raw {w : World} {a : Option Addr} {n : Nat} {l : List Res} (h : LogAt w a n l) : ∃ vs, RawR w vs l ∧ ∀ ad, a = some ad → ∀ j u, vs[j]? = some u → w.cell? (ad.add j) = some u := by
 obtain ⟨h1, h2, h3⟩ := h
 by_cases hp : 0 < n
 ·obtain ⟨b, off, rfl, hlt, hc⟩ := h3 hp
  have hcell : ∀ j x, l[j]? = some x → ∃ (B : Option Addr) (bc : Nat), ResP w x B bc ∧ ∀ i u, (resA x B bc)[i]? = some u → w.cell? ⟨b, off + (j * 3 + i), none⟩ = some u := by
   intro j x hx
   obtain ⟨B, bc, ⟨c0, c1, c2⟩, hP⟩ := hc j x hx
   refine ⟨B, bc, hP, fun i u hu => ?_⟩
   have hi : i < 3 := (List.getElem?_eq_some_iff.1 hu).1
   obtain rfl | rfl | rfl : i = 0 ∨ i = 1 ∨ i = 2 := by omega
   all_goals
    cases hu
    first | exact c0 | (rw [← Nat.add_assoc]; assumption)
  have hex : ∀ i, i < n * 3 → ∃ u, w.cell? ⟨b, off + i, none⟩ = some u := by
   intro i hi
   have hj : i / 3 < l.length := by omega
   obtain ⟨_, _, _, hv⟩ := hcell (i / 3) _ (List.getElem?_eq_getElem hj)
   have hr : i % 3 < 3 := Nat.mod_lt _ (by decide)
   have e : i / 3 * 3 + i % 3 = i := by omega
   have h4 := hv (i % 3) _ (List.getElem?_eq_getElem (show i % 3 < 3 from hr))
   rw [e] at h4
   exact ⟨_, h4⟩
  refine ⟨(List.range (n * 3)).map fun i => (w.cell? ⟨b, off + i, none⟩).getD undef, ⟨by simp [h1], fun j x hx => ?_⟩, ?_⟩
  ·have hj : j < n := by have := (List.getElem?_eq_some_iff.1 hx).1; omega
   obtain ⟨B, bc, hP, hv⟩ := hcell j x hx
   refine ⟨B, bc, hP, fun i u hu => ?_⟩
   have hi : i < 3 := (List.getElem?_eq_some_iff.1 hu).1
   rw [List.getElem?_map, List.getElem?_range (by omega)]
   simp [hv i u hu]
  ·intro ad hd i u hu
   cases hd
   have hi : i < n * 3 := by have := (List.getElem?_eq_some_iff.1 hu).1; simpa using this
   obtain ⟨v, hv⟩ := hex i hi
   rw [List.getElem?_map, List.getElem?_range hi] at hu
   simp [hv] at hu
   rw [Addr.add_mid, hv, hu]
 ·obtain rfl : n = 0 := by omega
  obtain rfl : l = [] := List.eq_nil_of_length_eq_zero h1
  exact ⟨[], RawR.nil w, fun ad _ j u hu => by simp at hu⟩
theorem RawR.at_ {w : World} {base : Nat} {v : Value} {n : Nat} {vs : List Value} {l : List Res} (h : RawR w vs l) (hown : w.ownsRow base 81 3 v n vs) (hn : n ≤ 140737488355328) :
  ∃ a cap, v = .slice a n cap ∧ n ≤ cap ∧ LogAt w a n l ∧ OffW (fun b => base ≤ b) a n := by
 have hl : l.length = n := by have := hown.1; have := h.1; omega
 rcases hown.2 with ⟨rfl, rfl⟩ | ⟨g, cap, cur, rfl, hg, hgb, hcap, _⟩
 ·obtain rfl : l = [] := List.eq_nil_of_length_eq_zero hl
  exact ⟨none, 0, rfl, Nat.le_refl _, LogAt.nil _ _, OffW.nil _ _⟩
 ·refine ⟨_, cap, rfl, hcap, ⟨hl, hn, fun _ => ⟨g, 0, rfl, (Array.getElem?_eq_some_iff.1 hgb).1, fun j x hx => ?_⟩⟩, OffW.one n hg⟩
  obtain ⟨B, bc, h1, h2⟩ := h.2 j x hx
  have c := fun i u hu => hown.cells (g := g) rfl _ _ (h2 i u hu)
  refine ⟨B, bc, ⟨by have := c 0 _ rfl; rw [Addr.add_lit] at this; exact this, by have := c 1 _ rfl; rw [Addr.add_lit] at this; exact this, by have := c 2 _ rfl; rw [Addr.add_lit] at this; exact this⟩, h1⟩
theorem ownsRow_laterR {w w' : World} {base : Nat} {v : Value} {n : Nat} {xs : List Value} (h : w.ownsRow base 81 3 v n xs) (hb : Below w.heap.size w w') : w'.ownsRow base 81 3 v n xs :=
 h.kept (row := none) ⟨hb.os, hb.tape, hb.output, hb.size, fun k hk _ => hb.block k hk⟩ (by cases v.ownBlock <;> simp)
end Go.Proofs.YtibpfkcackdbgaaGreatDoor
