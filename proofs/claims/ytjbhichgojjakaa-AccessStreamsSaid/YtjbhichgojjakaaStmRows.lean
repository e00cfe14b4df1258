/-
  Rows of streams of the call's own: made, cloned, one element laid anew. Their bytes lie where they lay when the call began.
-/
import Derived.Test.YtjbhichgojjakaaStms
import Derived.OwnWalk
import Derived.Laws.MakeOwn
namespace Go.Proofs.Ytjbhichgojjakaa
open Go.ChangeShapes Go.WideShapes Go.ChangeAt Go.RowKit
set_option linter.unusedVariables false
set_option maxRecDepth 100000

theorem infoM : (Try.prog.info? 76).map (fun i => (i.zero, i.size, i.bytes)) = some (some (.agg #[.slice none 0 0, .int .i64 0]), 2, 32) := by kernel_rfl

/-- Values that read, in a world, as streams: two cells each. -/
def RawS (w : World) (vs : List Value) (l : List Stm) : Prop :=
  vs.length = l.length * 2 ∧ ∀ j x, l[j]? = some x → ∃ A cap, vs[j * 2]? = some (.slice A x.bytes.length cap) ∧ vs[j * 2 + 1]? = some (.int .i64 x.synced) ∧ x.bytes.length ≤ cap ∧ x.bytes.length ≤ 140737488355328 ∧
    AtB w A x.bytes.length x.bytes ∧ (-9223372036854775808 ≤ x.synced ∧ x.synced < 9223372036854775808)
theorem RawS.later {w w' : World} {vs : List Value} {l : List Stm} (h : RawS w vs l) (hb : Below w.heap.size w w') : RawS w' vs l := by
  refine ⟨h.1, fun j x hx => ?_⟩
  obtain ⟨A, cap, h1, h2, h3, h4, h5, h6⟩ := h.2 j x hx
  exact ⟨A, cap, h1, h2, h3, h4, h5.below hb (Nat.le_refl _), h6⟩
theorem RawS.one {w : World} {vs : List Value} {l : List Stm} (h : RawS w vs l) : ∀ u ∈ vs, u.oneCell' = true := by
  intro u hu
  obtain ⟨i, hi⟩ := List.mem_iff_getElem?.1 hu
  have hl : i < vs.length := (List.getElem?_eq_some_iff.1 hi).1
  have hj : i / 2 < l.length := by have := h.1; omega
  obtain ⟨A, cap, h1, h2, _⟩ := h.2 (i / 2) _ (List.getElem?_eq_getElem hj)
  rcases Nat.mod_two_eq_zero_or_one i with he | he
  · rw [show i / 2 * 2 = i by omega, hi] at h1
    cases h1; rfl
  · rw [show i / 2 * 2 + 1 = i by omega, hi] at h2
    cases h2; rfl
/-- What a row that lies reads as. -/
theorem StmsAt.raw {w : World} {a : Option Addr} {n : Nat} {l : List Stm} (h : StmsAt w a n l) : ∃ vs, RawS w vs l ∧ ∀ ad, a = some ad → ∀ j u, vs[j]? = some u → w.cell? (ad.add j) = some u := by
  obtain ⟨h1, h2, h3⟩ := h
  by_cases hp : 0 < n
  · obtain ⟨b, off, rfl, hlt, hc⟩ := h3 hp
    have hex : ∀ i, i < n * 2 → ∃ u, w.cell? ⟨b, off + i, none⟩ = some u := by
      intro i hi
      have hj : i / 2 < l.length := by omega
      obtain ⟨A, cap, c1, _, _, _, c2, _⟩ := hc (i / 2) _ (List.getElem?_eq_getElem hj)
      rcases Nat.mod_two_eq_zero_or_one i with he | he
      · exact ⟨_, by rw [show off + i = off + i / 2 * 2 by omega]; exact c1⟩
      · exact ⟨_, by rw [show off + i = off + i / 2 * 2 + 1 by omega]; exact c2⟩
    refine ⟨(List.range (n * 2)).map fun i => (w.cell? ⟨b, off + i, none⟩).getD undef, ⟨by simp [h1], fun j x hx => ?_⟩, ?_⟩
    · have hj : j < n := by have := (List.getElem?_eq_some_iff.1 hx).1; omega
      obtain ⟨A, cap, c1, c2, c3, c4, c5, c6⟩ := hc j x hx
      refine ⟨A, cap, ?_, ?_, c2, c3, c4, c6⟩
      · rw [List.getElem?_map, List.getElem?_range (by omega)]; simp [c1]
      · rw [List.getElem?_map, List.getElem?_range (by omega)]; simp [Nat.add_assoc] at c5 ⊢; simp [c5]
    · intro ad hd i u hu
      cases hd
      have hi : i < n * 2 := by have := (List.getElem?_eq_some_iff.1 hu).1; simpa using this
      obtain ⟨v, hv⟩ := hex i hi
      rw [List.getElem?_map, List.getElem?_range hi] at hu
      simp [hv] at hu
      rw [Addr.add_mid, hv, hu]
  · obtain rfl : n = 0 := by omega
    obtain rfl : l = [] := List.eq_nil_of_length_eq_zero h1
    exact ⟨[], ⟨rfl, fun j x hx => by simp at hx⟩, fun ad _ j u hu => by simp at hu⟩
/-- What a row of the call's own reads as. -/
theorem RawS.at_ {w0 w : World} {base : Nat} {v : Value} {n : Nat} {vs : List Value} {l : List Stm} (h : RawS w0 vs l) (hown : w.ownsRow base 76 2 v n vs) (hb : Below w0.heap.size w0 w) (hn : n ≤ 140737488355328) :
    ∃ a cap, v = .slice a n cap ∧ n ≤ cap ∧ StmsAt w a n l := by
  have hl : l.length = n := by have := hown.1; have := h.1; omega
  rcases hown.2 with ⟨rfl, rfl⟩ | ⟨g, cap, cur, rfl, hg, hgb, hcap, _⟩
  · obtain rfl : l = [] := List.eq_nil_of_length_eq_zero hl
    exact ⟨none, 0, rfl, Nat.le_refl _, StmsAt.nil _ _⟩
  · refine ⟨_, cap, rfl, hcap, hl, hn, fun _ => ⟨g, 0, rfl, (Array.getElem?_eq_some_iff.1 hgb).1, fun j x hx => ?_⟩⟩
    obtain ⟨A, c, h1, h2, h3, h4, h5, h6⟩ := h.2 j x hx
    have c1 := hown.cells (g := g) rfl _ _ h1
    have c2 := hown.cells (g := g) rfl _ _ h2
    rw [Addr.add_lit] at c1 c2
    exact ⟨A, c, c1, h3, h4, h5.below hb (Nat.le_refl _), c2, h6⟩
/-- One element laid anew. -/
theorem RawS.set {w : World} {vs : List Value} {l : List Stm} (h : RawS w vs l) (j : Nat) (hj : j < l.length) (A : Option Addr) (cap : Nat) (x : Stm) (h3 : x.bytes.length ≤ cap) (h4 : x.bytes.length ≤ 140737488355328) (h5 : AtB w A x.bytes.length x.bytes)
    (h6 : -9223372036854775808 ≤ x.synced ∧ x.synced < 9223372036854775808) : RawS w ((vs.set (j * 2) (.slice A x.bytes.length cap)).set (j * 2 + 1) (.int .i64 x.synced)) (l.set j x) := by
  refine ⟨by simp [h.1], fun i y hy => ?_⟩
  by_cases hij : j = i
  · subst hij
    rw [List.getElem?_set_self hj] at hy
    cases hy
    have := h.1
    exact ⟨A, cap, by rw [List.getElem?_set_ne (by omega), List.getElem?_set_self (by omega)], by rw [List.getElem?_set_self (by rw [List.length_set]; omega)], h3, h4, h5, h6⟩
  · rw [List.getElem?_set_ne hij] at hy
    obtain ⟨B, c, k1, k2, k3⟩ := h.2 i y hy
    exact ⟨B, c, by rw [List.getElem?_set_ne (by omega), List.getElem?_set_ne (by omega)]; exact k1, by rw [List.getElem?_set_ne (by omega), List.getElem?_set_ne (by omega)]; exact k2, k3⟩
/-- Empty streams. -/
theorem madeM (n : Nat) : (madeCells #[.slice none 0 0, .int .i64 0] (n * 2)).toList = (List.range (n * 2)).map fun i => if i % 2 = 0 then .slice none 0 0 else .int .i64 0 := by
  unfold madeCells
  rw [Array.toList_map, Array.toList_range]
  apply List.map_congr_left
  intro i hi
  rcases Nat.mod_two_eq_zero_or_one i with he | he <;> simp [he]
theorem RawS.zeros (w : World) (n : Nat) : RawS w (madeCells #[.slice none 0 0, .int .i64 0] (n * 2)).toList (List.replicate n Stm.zero) := by
  rw [madeM]
  refine ⟨by simp, fun j x hx => ?_⟩
  obtain ⟨hj, rfl⟩ : j < n ∧ x = Stm.zero := by
    have h := List.getElem?_eq_some_iff.1 hx
    obtain ⟨h1, h2⟩ := h
    exact ⟨by simpa using h1, by simpa using h2.symm⟩
  refine ⟨none, 0, ?_, ?_, Nat.le_refl _, Nat.zero_le _, AtB.nil _ _, by simp [Stm.zero]⟩
  · rw [List.getElem?_map, List.getElem?_range (by omega)]; simp [Stm.zero]
  · rw [List.getElem?_map, List.getElem?_range (by omega)]; simp [Stm.zero]
/-! ### Where the values' bytes may lie -/
def RawO (P : Nat → Prop) (vs : List Value) : Prop := ∀ (j : Nat) (ad : Addr) (len c : Nat), vs[j * 2]? = some (.slice (some ad) len c) → 0 < len → P ad.block
theorem RawO.nil (P : Nat → Prop) : RawO P [] := fun j ad len c h => by simp at h
theorem rawO_of {P : Nat → Prop} {w : World} {ad : Addr} {n : Nat} {l : List Stm} {vs : List Value} (hS : StmsAt w (some ad) n l) (hraw : RawS w vs l) (hcell : ∀ j u, vs[j]? = some u → w.cell? (ad.add j) = some u) (hP : OffS P w (some ad) n) : RawO P vs := by
  intro j ad' len c hu hl
  have hj : j < n := by have := (List.getElem?_eq_some_iff.1 hu).1; have := hraw.1; have := hS.1; omega
  obtain ⟨b, off, e, hlt, _⟩ := hS.2.2 (by omega)
  cases e
  have hc := hcell _ _ hu
  rw [Addr.add_mid] at hc
  exact (hP b off rfl (by omega)).2 j hj ad' len c hc hl
theorem RawO.set {P : Nat → Prop} {vs : List Value} (h : RawO P vs) (j : Nat) (A : Option Addr) (len cap : Nat) (s : Int) (hA : ∀ ad, A = some ad → 0 < len → P ad.block) : RawO P ((vs.set (j * 2) (.slice A len cap)).set (j * 2 + 1) (.int .i64 s)) := by
  intro i ad n c hu hl
  rw [List.getElem?_set_ne (by omega)] at hu
  by_cases hij : j = i
  · subst hij
    rw [List.getElem?_set] at hu
    split at hu
    · split at hu
      · simp only [Option.some.injEq, Value.slice.injEq] at hu
        exact hA ad hu.1 (by omega)
      · cases hu
    · exact absurd rfl ‹_›
  · rw [List.getElem?_set_ne (by omega)] at hu
    exact h i ad n c hu hl
theorem off_own {P : Nat → Prop} {w : World} {base : Nat} {a : Option Addr} {n cap : Nat} {vs : List Value} (h : w.ownsRow base 76 2 (.slice a n cap) n vs) (hP : ∀ b, base ≤ b → P b) (ho : RawO P vs) : OffS P w a n := by
  intro b off e hn
  subst e
  rcases h.2 with ⟨_, h0⟩ | ⟨g, cap', cur, e2, hg, hgb, _⟩
  · omega
  · simp only [Value.slice.injEq, Option.some.injEq, Addr.mk.injEq, and_true, true_and] at e2
    obtain ⟨⟨rfl, rfl⟩, rfl⟩ := e2
    refine ⟨hP _ hg, fun j hj ad len c hc hl => ho j ad len c ?_ hl⟩
    rw [Nat.zero_add] at hc
    exact (h.cellAt (j * 2) (by omega)).symm.trans hc
/-- A store into an element of the call's own row. -/
theorem ownsRow_set2 {w : World} {base g n cap : Nat} {vs : List Value} (h : w.ownsRow base 76 2 (.slice (some ⟨g, 0, none⟩) n cap) n vs) (j : Nat) (u v : Value) :
    ((w.setCell ⟨g, j * 2, none⟩ u).setCell ⟨g, j * 2 + 1, none⟩ v).ownsRow base 76 2 (.slice (some ⟨g, 0, none⟩) n cap) n ((vs.set (j * 2) u).set (j * 2 + 1) v) :=
  (((h.stored (j * 2) u).1).stored (j * 2 + 1) v).1
theorem grown_set (w : World) (b j : Nat) (v : Value) : w.grownBy (w.setCell ⟨b, j, none⟩ v) (some b) :=
  ⟨by simp [World.setCell], by simp [World.setCell], by simp [World.setCell], by simp, fun k _ hk => Below.heap_setCell w ⟨b, j, none⟩ v k (fun e => hk (by rw [e]))⟩
theorem ownsRow_apart {w : World} {base : Nat} {e : TypeId} {size : Nat} {v : Value} {n : Nat} {xs : List Value} (h : w.ownsRow base e size v n xs) (b j : Nat) (u : Value) (hb : b < base) : (w.setCell ⟨b, j, none⟩ u).ownsRow base e size v n xs :=
  h.kept (grown_set w b j u) (.inr (fun e => by have := (h.lt b e).1; omega))
theorem own_form {w : World} {base n : Nat} {v : Value} {vs : List Value} (h : w.ownsRow base 76 2 v n vs) (hn : 0 < n) :
    ∃ g cap cur, v = .slice (some ⟨g, 0, none⟩) n cap ∧ base ≤ g ∧ w.heap[g]? = some (.cells cur 76 (0, 0)) ∧ n ≤ cap := by
  rcases h.2 with ⟨_, h0⟩ | ⟨g, cap, cur, rfl, hg, hgb, hcap, _⟩
  · omega
  · exact ⟨g, cap, cur, rfl, hg, hgb, hcap⟩
/-- 'append([]T{}, xs...)' of streams: a row of the call's own. -/
theorem wpList_append_stms {ops : Array Oper} {rest : List Oper} {o : Oper} {a : Act} {w0 w : World} {Q : Exit → Act → World → Prop} (hw : Region.wanted o (yielded ops a.tmps) = true) (s x : Operand)
    (ho : o.op = .call { callee := .builtin .append, args := #[s, x], argTypes := #[30, 30] }) (hs : a.eval s = .slice (some ⟨w.heap.size, 0, none⟩) 0 0)
    (A : Option Addr) (m c : Nat) (l : List Stm) (hx : a.eval x = .slice A m c) (hA : StmsAt w0 A m l) (hB : Below w0.heap.size w0 w) (hm : m ≤ 1000000)
    (h : ∀ v' w' vs, w'.ownsRow w.heap.size 76 2 v' m vs → RawS w0 vs l → (∀ P : Nat → Prop, OffS P w0 A m → RawO P vs) → Below w.heap.size w w' → wpList Try.prog ops Q rest (a.put o.dst v') w') :
    wpList Try.prog ops Q (o :: rest) a (w.alloc (.cells #[] 76)) := by
  obtain ⟨i, hi, hz0, hz1, hz2⟩ := info_parts infoM
  obtain ⟨vs, hraw, hcell⟩ := hA.raw
  have hl := hA.1
  have hO : ∀ P : Nat → Prop, OffS P w0 A m → RawO P vs := by
    intro P hP
    rcases A with _ | ad
    · have hm : m = 0 := by
        rcases Nat.eq_zero_or_pos m with h0 | h0
        · exact h0
        · obtain ⟨b, off, e, _⟩ := hA.2.2 h0
          cases e
      obtain rfl : vs = [] := List.eq_nil_of_length_eq_zero (by have := hraw.1; omega)
      exact RawO.nil P
    · exact rawO_of hA hraw (hcell _ rfl) hP
  have hown0 : (w.alloc (.cells #[] 76)).ownsRow w.heap.size 76 2 (.slice (some ⟨w.heap.size, 0, none⟩) 0 0) 0 [] := World.ownsRow_made w #[] 0 (Nat.le_refl _) (Nat.zero_le _) rfl
  have hB1 : Below w.heap.size w (w.alloc (.cells #[] 76)) := (Below.refl _ _).alloc (Nat.le_refl _) _
  have hrun : ∃ v' w', (Builtin.append_ #[30, 30] o.type #[.slice (some ⟨w.heap.size, 0, none⟩) 0 0, .slice A m c]).run Try.prog (w.alloc (.cells #[] 76)) = .ok v' w' ∧ w'.ownsRow w.heap.size 76 2 v' m vs ∧ Below w.heap.size w w' := by
    rcases A with _ | ad
    · have hm : m = 0 := by
        rcases Nat.eq_zero_or_pos m with h0 | h0
        · exact h0
        · obtain ⟨b, off, e, _⟩ := hA.2.2 h0
          cases e
      subst hm
      obtain rfl : vs = [] := List.eq_nil_of_length_eq_zero (by have := hraw.1; omega)
      refine ⟨_, _, ?_, hown0, hB1⟩
      simp [Builtin.append_, run_underlying Try.underlying30, sizeOf, typeInfo, hi, Builtin.lenOf, Builtin.firstCells, storeCells]
    · obtain ⟨v', w', h1, h2, h3, _⟩ := run_append_own (P := Try.prog) (w.alloc (.cells #[] 76)) w.heap.size 30 o.type 76 i _ 2 32 Try.underlying30 hi hz0 hz1 hz2 rfl (by decide) _ 0 [] hown0 ad m c vs
        (by have := hraw.1; omega) (fun j u hu => by
          obtain ⟨b, off, e, hlt, _⟩ := hA.2.2 (by have := (List.getElem?_eq_some_iff.1 hu).1; have := hraw.1; omega)
          cases e
          have hc := hcell _ rfl j u hu
          rw [Addr.add_mid] at hc ⊢
          exact ((hB.trans (hB1.mono hB.size)).cell (p := ⟨b, off + j, none⟩) hlt).trans hc) hraw.one (by unfold maxLen; omega) (by omega) (by simp)
      refine ⟨v', w', h1, by simpa using h2, hB1.grown h3 (by simp) (fun k hk => by simp [Value.ownBlock] at hk; omega)⟩
  obtain ⟨v', w', hr, h2, h3⟩ := hrun
  refine BigFrame.wpList_want hw fun K hK => ?_
  unfold Oper.wp execOp
  simp only [ho, resolve, invoke, builtin, Sem.run_bind, Sem.run_pure, Result.andThen_ok, List.map_toArray, List.map_cons, List.map_nil, hs, hx, hr]
  exact hK _ _ (h v' w' vs h2 hraw hO h3)
end Go.Proofs.Ytjbhichgojjakaa
