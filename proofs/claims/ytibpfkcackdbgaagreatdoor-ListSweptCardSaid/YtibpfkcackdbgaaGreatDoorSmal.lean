/- Smal -/
import Derived.Deep.Quiet
import Derived.Deep.QuietTactic
import Derived.BigQuiet
import Derived.WalkKit
import Derived.Below
import Derived.RowKit3
namespace Go.Proofs.YtibpfkcackdbgaaGreatDoor
set_option linter.unusedVariables false
set_option maxRecDepth 100000
structure LRow where
  dst : Option Nat
  looks : List Nat
  aft : List Nat
def lrow (ops : Array Oper) (o : Oper) : LRow := ⟨o.dst, o.looksAt ops, (o.after.toList.filter (Region.binds .any ·)).map (·.on)⟩
def hasNat : List Nat → Nat → Bool
  | [], _ => false
  | x :: xs, n => if Nat.beq x n = true then true else hasNat xs n
def LRow.apart (x y : LRow) : Bool :=
  (match x.dst with
   | some d => !(hasNat y.looks d) && (match y.dst with | some e => !(Nat.beq e d) | none => true)
   | none => true) &&
  (match y.dst with
   | some d => !(hasNat x.looks d)
   | none => true)
def lexGo : Nat → List LRow → Bool
  | _, [] => true
  | k, r :: rs => r.aft.all (Nat.blt · k) && rs.all (fun s => hasNat s.aft k || r.apart s) && lexGo (k + 1) rs
theorem hasNat_eq (l : List Nat) (n : Nat) : hasNat l n = l.contains n := by
  induction l with
  | nil => rfl
  | cons x xs ih =>
    simp only [hasNat, ih, List.contains_cons]
    by_cases h : x = n
    · subst h; simp
    · have h1 : Nat.beq x n = false := by rw [Bool.eq_false_iff]; intro c; exact h (Nat.eq_of_beq_eq_true c)
      have h2 : (n == x) = false := by rw [beq_eq_false_iff_ne]; exact Ne.symm h
      simp [h1, h2]
theorem apart_of {ops : Array Oper} {x y : Oper} (h : (lrow ops x).apart (lrow ops y) = true) : x.apart ops y = true := by
  simp only [LRow.apart, lrow, hasNat_eq] at h
  unfold Oper.apart
  cases hx : x.dst <;> cases hy : y.dst <;> simp only [hx, hy] at h ⊢
  · exact h
  · simpa using h
  · simpa using h
  · simp only [Bool.and_eq_true, Bool.not_eq_true'] at h ⊢
    obtain ⟨⟨h1, h2⟩, h3⟩ := h
    refine ⟨⟨by simpa using h1, ?_⟩, by simpa using h3⟩
    rw [bne_iff_ne]
    intro c
    simp only [Option.some.injEq] at c
    rw [c] at h2
    simp at h2
theorem lex_from {l : List Oper} : ∀ (fuel k : Nat) (listed : Array Bool), k + fuel = l.length → listed.size = l.length → (∀ j, j < l.length → listed[j]? = some (decide (j < k))) →
    lexGo k ((l.drop k).map (lrow l.toArray)) = true → Region.lexFrom .any l.toArray fuel k listed = true
  | 0, k, listed, hk, hs, hl, _ => by
    simp only [Region.lexFrom, Region.ready, List.isEmpty_iff, List.filter_eq_nil_iff, List.mem_range, List.size_toArray]
    intro i hi
    have := hl i hi
    rw [decide_eq_true (by omega)] at this
    simp [Array.getD_eq_getD_getElem?, this]
  | fuel + 1, k, listed, hk, hs, hl, h => by
    have hkl : k < l.length := by omega
    rw [List.drop_eq_getElem_cons hkl, List.map_cons] at h
    simp only [lexGo, Bool.and_eq_true, List.all_eq_true] at h
    obtain ⟨⟨ha, hr⟩, hn⟩ := h
    have hok : l.toArray[k]? = some l[k] := by simp [hkl]
    have haft : ∀ e ∈ l[k].after, Region.binds .any e = true → e.on < k := by
      intro e he hb
      have hm : e.on ∈ (lrow l.toArray l[k]).aft := by
        simp only [lrow, List.mem_map, List.mem_filter]
        exact ⟨e, ⟨by simpa using he, hb⟩, rfl⟩
      have := ha _ hm
      simpa [Nat.blt_eq] using this
    simp only [Region.lexFrom, Bool.and_eq_true]
    refine ⟨⟨?_, ?_⟩, lex_from fuel (k + 1) _ (by omega) (by simp [hs]) (fun j hj => ?_) hn⟩
    · rw [List.contains_iff_mem]
      simp only [Region.ready, List.mem_filter, List.mem_range, List.size_toArray, Bool.and_eq_true, hok]
      refine ⟨hkl, ?_, ?_⟩
      · have := hl k hkl
        rw [decide_eq_false (by omega)] at this
        simp [Array.getD_eq_getD_getElem?, this]
      · simp only [Option.map_some, Option.getD_some, Array.all_eq_true_iff_forall_mem]
        intro e he
        cases hb : Region.binds .any e
        · rfl
        · have h1 := haft e he hb
          have h2 := hl e.on (by omega)
          rw [decide_eq_true h1] at h2
          simp [Array.getD_eq_getD_getElem?, h2]
    · simp only [Region.free, hok, List.all_eq_true, List.mem_range, List.size_toArray]
      intro j hj
      rcases Nat.lt_trichotomy j k with h1 | h1 | h1
      · have h2 := hl j hj
        rw [decide_eq_true h1] at h2
        simp [Array.getD_eq_getD_getElem?, h2]
      · simp [h1]
      · have hoj : l.toArray[j]? = some l[j] := by simp [hj]
        have hm : lrow l.toArray l[j] ∈ ((l.drop (k + 1)).map (lrow l.toArray)) := by
          refine List.mem_map.2 ⟨l[j], ?_, rfl⟩
          rw [List.mem_drop_iff_getElem]
          exact ⟨j - (k + 1), by omega, by congr 1; omega⟩
        have h2 := hr _ hm
        rw [Bool.or_eq_true, hasNat_eq] at h2
        simp only [hoj, Bool.or_eq_true]
        right
        rcases h2 with h2 | h2
        · left
          rw [List.contains_iff_mem] at h2
          simp only [lrow, List.mem_map, List.mem_filter] at h2
          obtain ⟨e, ⟨he, hb⟩, hon⟩ := h2
          rw [Array.any_eq_true']
          exact ⟨e, by simpa using he, by simp [hb, hon]⟩
        · right
          exact apart_of h2
    · rw [Array.getElem?_setIfInBounds]
      split
      · rename_i e
        subst e
        rw [if_pos (by omega)]
        simp
      · rename_i e
        rw [hl j hj]
        congr 1
        rw [decide_eq_decide]
        omega
theorem lex_fast {l : List Oper} (L : List LRow) (hsel : Region.noSelect l.toArray = true) (hL : l.map (lrow l.toArray) = L) (h : lexGo 0 L = true) : Region.lexB .any l.toArray = true := by
  subst hL
  rw [Region.lexB, hsel, Bool.true_and]
  refine lex_from _ 0 _ (by simp) (by simp) (fun j hj => ?_) (by simpa using h)
  simp [hj]
end Go.Proofs.YtibpfkcackdbgaaGreatDoor
namespace Go.Proofs.YtibpfkcackdbgaaGreatDoor
open Go.RowKit
set_option linter.unusedVariables false
set_option maxRecDepth 100000
structure After (x : World) where
  w : World
  below : Below x.heap.size x w
instance (x : World) : Nonempty (After x) := ⟨⟨x, Below.refl _ _⟩⟩
theorem After.cells {x : World} {p : Addr} {v : Value} (h : x.cell? p = some v) (hp : p.spot = none) (u : After x) : u.w.cell? p = some v := by
  obtain ⟨b, o, sp⟩ := p
  cases hp
  exact (u.below.cell (p := ⟨b, o, none⟩) (World.block_lt_of_cell? x _ h)).trans h
theorem wp_region_after {P : Program} {id : Nat} {Q : Exit → Act → World → Prop} {a : Act} {w : World} {l : List Oper} (L : List LRow) (hm : P.follows .mixedOrders = true) (hsel : Region.noSelect l.toArray = true) (hL : l.map (lrow l.toArray) = L) (hB : lexGo 0 L = true)
    (h : wpQuiet P l.toArray (fun w' => ∃ u : After w, w' = u.w) (fun a' => ∀ w', (∃ u : After w, w' = u.w) → Q .normal a' w') l a) : (Code.region id l.toArray true).wp P Q a w :=
  wp_region_quiet (C := fun w' => ∃ u : After w, w' = u.w) hm (lex_fast L hsel hL hB) ⟨⟨w.drew, Below.drew (Below.refl _ _)⟩, rfl⟩ (by simpa using h)
theorem after_kept {P : Program} {f : FuncId} {args : Array Value} {x : World} {u : After x} {v : Value} (h : Calls P f args u.w fun e w' => e = .returned v ∧ Below u.w.heap.size u.w w') :
    Calls P f args u.w fun e w'' => e = .returned v ∧ ∃ u' : After x, w'' = u'.w := h.mono fun _ w' ⟨he, hb⟩ => ⟨he, ⟨w', u.below.trans (hb.mono u.below.size)⟩, rfl⟩
end Go.Proofs.YtibpfkcackdbgaaGreatDoor
