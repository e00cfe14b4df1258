/-
  Entries as frames, one behind the other; slices of entries that come in.
-/
import Derived.Test.YtioheffdolnciaaDoorFrm
import Derived.Test.YtioheffdolnciaaDoorEntOpen
import Derived.Deep.Slices
namespace Go.Proofs.YtioheffdolnciaaDoor
open Go.ChangeShapes Go.WideShapes Go.ChangeAt Go.RowKit Go.Deep
set_option linter.unusedVariables false

/-- The entries' bytes. -/
def rowsE (es : List Ent) : List (List Nat) := es.map Ent.bytes
theorem rowsE_length (es : List Ent) : (rowsE es).length = es.length := List.length_map _
theorem ent_framed {e : Ent} (h : e.may) : May e.bytes := ⟨e.bytes_pos.1, by have := e.bytes_pos.2; omega, Ent.bytes_ok h⟩
theorem rows_split {es : List Ent} (h : ∀ e ∈ es, e.may) : splitN (framesN (rowsE es)) = rowsE es := by
  have := split_frames (l := rowsE es) [] (fun b hb => by
    obtain ⟨e, he, rfl⟩ := List.mem_map.1 hb
    exact ent_framed (h e he))
  rw [List.append_nil] at this
  rw [this, split_short (by decide), List.append_nil]
theorem rows_used_le {es : List Ent} : usedN (rowsE es) ≤ 47 * es.length := by
  induction es with
  | nil => simp [rowsE, usedN]
  | cons e es ih =>
    have h1 := e.bytes_pos.2
    have h2 : usedN (rowsE (e :: es)) = e.bytes.length + 6 + usedN (rowsE es) := used_cons _ _
    rw [h2]
    simp only [List.length_cons]
    omega
theorem rows_take {es : List Ent} {j : Nat} {e : Ent} (h : es[j]? = some e) : rowsE (es.take (j + 1)) = rowsE (es.take j) ++ [e.bytes] := by
  unfold rowsE
  rw [List.take_add_one, h]
  simp
theorem rows_get {es : List Ent} {j : Nat} {e : Ent} (h : es[j]? = some e) : (rowsE es).getD j [] = e.bytes := by
  unfold rowsE
  rw [List.getD_eq_getElem?_getD, List.getElem?_map, h]
  rfl

/-- An entry's cells lie at a place. -/
def CellsE (w : World) (b o : Nat) (e : Ent) : Prop :=
  w.cell? ⟨b, o, none⟩ = some (.int .i64 e.k) ∧ w.cell? ⟨b, o + 1, none⟩ = some (.int .u64 (e.s : Int)) ∧ w.cell? ⟨b, o + 2, none⟩ = some (.int .u64 (e.y : Int)) ∧
  w.cell? ⟨b, o + 3, none⟩ = some (.int .u64 (e.u : Int)) ∧ w.cell? ⟨b, o + 4, none⟩ = some (.int .u64 (e.v : Int)) ∧ w.cell? ⟨b, o + 5, none⟩ = some (.int .u64 (e.x : Int))
theorem CellsE.below {w w' : World} {b o : Nat} {e : Ent} (h : CellsE w b o e) (hb : Below w.heap.size w w') (hlt : b < w.heap.size) : CellsE w' b o e := by
  have k : ∀ o, w'.cell? ⟨b, o, none⟩ = w.cell? ⟨b, o, none⟩ := fun o => hb.cell (p := ⟨b, o, none⟩) hlt
  obtain ⟨h1, h2, h3, h4, h5, h6⟩ := h
  exact ⟨(k _).trans h1, (k _).trans h2, (k _).trans h3, (k _).trans h4, (k _).trans h5, (k _).trans h6⟩
/-- A slice that reads as a row of entries. -/
def EntsAt (w : World) (a : Option Addr) (len : Nat) (es : List Ent) : Prop :=
  es.length = len ∧ (∀ e ∈ es, e.fit) ∧ len ≤ 9223372036854775807 ∧
  (0 < len → ∃ b off, a = some ⟨b, off, none⟩ ∧ b < w.heap.size ∧ ∀ j e, es[j]? = some e → CellsE w b (off + j * 6) e)
theorem EntsAt.nil (w : World) (a : Option Addr) : EntsAt w a 0 [] := ⟨rfl, fun x hx => by simp at hx, by omega, fun h => by omega⟩
theorem EntsAt.later {w w' : World} {a : Option Addr} {len : Nat} {es : List Ent} (h : EntsAt w a len es) (hb : Below w.heap.size w w') : EntsAt w' a len es := by
  obtain ⟨h1, h2, h3, h4⟩ := h
  refine ⟨h1, h2, h3, fun hp => ?_⟩
  obtain ⟨b, off, e, hlt, hc⟩ := h4 hp
  exact ⟨b, off, e, Nat.lt_of_lt_of_le hlt hb.size, fun j e he => (hc j e he).below hb hlt⟩

theorem open_ents {H : Type} {enc : TypeId × Value → H} {W : World} {base : Nat} {v : Value} {d : DataW H} {ps : List MemPlace} (hval : Value.okWide Tryd.prog W .any base 22 v)
    (h : DataW.Trod enc Tryd.prog W 0 (fun _ => true) true 22 v d ps) (hlt : ∀ x ∈ ps, x.block < W.heap.size) :
    ∃ a len cap es, v = .slice a len cap ∧ EntsAt W a len es := by
  obtain ⟨a0, len, cap, rfl⟩ := okWide_slice Tryd.underlying22 hval
  obtain ⟨fuel, hf⟩ := h
  have h6 : Tryd.prog.cellsOf 28 = 6 := by kernel_rfl
  rcases open_slice Tryd.underlying22 hf with ⟨hcs, hx⟩ | ⟨a, len', cap', m, n, D, Pl, hcs, _, hl, hm, hmm, hx, hi⟩
  · simp [Value.cells] at hcs
    obtain ⟨rfl, rfl, rfl⟩ := hcs
    exact ⟨none, 0, 0, [], rfl, EntsAt.nil _ _⟩
  · simp [Value.cells] at hcs
    obtain ⟨rfl, rfl, rfl⟩ := hcs
    simp only [if_true] at hmm
    subst hmm
    simp only [Prod.mk.injEq] at hx
    obtain ⟨rfl, rfl⟩ := hx
    rw [h6] at hi
    have hex : ∀ i, i < len → ∃ e : Ent, e.fit ∧ ∀ c u, [Value.int .i64 e.k, .int .u64 (e.s : Int), .int .u64 (e.y : Int), .int .u64 (e.u : Int), .int .u64 (e.v : Int), .int .u64 (e.x : Int)][c]? = some u → W.cell? ((a.add (i * 6)).add c) = some u := by
      intro i hil
      obtain ⟨cs', hc, ht⟩ := hi i (by omega)
      obtain ⟨k, s, y, u, v, z, e, _, hfit⟩ := ent_cells ht
      obtain ⟨_, _, hat⟩ := World.cells?_some hc
      subst e
      refine ⟨⟨k, s, y, u, v, z⟩, hfit, fun c u hu => ?_⟩
      have hc6 : c < 6 := (List.getElem?_eq_some_iff.1 hu).1
      rw [hat c hc6]
      exact hu
    obtain ⟨f, hf⟩ := @choose_lt Ent ⟨Ent.zero⟩ len _ hex
    refine ⟨some a, len, _, (List.range len).map f, rfl, by simp, fun e he => ?_, by unfold maxLen at hm; omega, fun hp => ?_⟩
    · obtain ⟨i, hir, rfl⟩ := List.mem_map.1 he
      exact (hf i (List.mem_range.1 hir)).1
    obtain ⟨b, off, spot⟩ := a
    have hspot : spot = none := by
      have h0 := (hf 0 hp).2 0 _ rfl
      have := World.cell?_spot h0
      simpa [Addr.add] using this
    subst hspot
    refine ⟨b, off, rfl, ?_, fun j e he => ?_⟩
    · have h0 := (hf 0 hp).2 0 _ rfl
      have := World.block_lt_of_cell? W _ h0
      simpa [Addr.add] using this
    · have hj : j < len := by have := (List.getElem?_eq_some_iff.1 he).1; simpa using this
      have e2 : e = f j := by simp [hj] at he; exact he.symm
      subst e2
      have hc := (hf j hj).2
      have ad : ∀ c, ((⟨b, off, none⟩ : Addr).add (j * 6)).add c = ⟨b, off + j * 6 + c, none⟩ := fun c => by rw [add_plain, add_plain]
      exact ⟨by have := hc 0 _ rfl; rw [ad] at this; exact this, by have := hc 1 _ rfl; rw [ad] at this; exact this, by have := hc 2 _ rfl; rw [ad] at this; exact this,
        by have := hc 3 _ rfl; rw [ad] at this; exact this, by have := hc 4 _ rfl; rw [ad] at this; exact this, by have := hc 5 _ rfl; rw [ad] at this; exact this⟩
end Go.Proofs.YtioheffdolnciaaDoor
