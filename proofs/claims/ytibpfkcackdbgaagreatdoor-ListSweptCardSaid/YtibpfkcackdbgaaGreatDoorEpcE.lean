/- EpcE -/
import Derived.Test.YtibpfkcackdbgaaGreatDoorPolB
namespace Go.Proofs.YtibpfkcackdbgaaGreatDoor
open Go.ChangeShapes Go.WideShapes Go.ChangeAt Go.RowKit Go.BigFrame
set_option linter.unusedVariables false
set_option maxRecDepth 100000
def intV (xs : List Nat) : List Value := xs.map fun (x : Nat) => .int .i64 (x : Int)
def OwnI (w : World) (B : Nat) (v : Value) (xs : List Nat) : Prop := w.ownsRow B 3 1 v xs.length (intV xs)
theorem intV_len (xs : List Nat) : (intV xs).length = xs.length := by unfold intV; simp
theorem intV_get {xs : List Nat} {j x : Nat} (h : xs[j]? = some x) : (intV xs)[j]? = some (.int .i64 (x : Int)) := by unfold intV; rw [List.getElem?_map, h]; rfl
section
variable {w w' : World} {B : Nat} {v : Value} {xs : List Nat}
theorem OwnI.nil (w : World) (B : Nat) : OwnI w B (.slice none 0 0) [] := World.ownsRow_nil _ _ _ _
theorem OwnI.later (h : OwnI w B v xs) (hb : Below w.heap.size w w') : OwnI w' B v xs :=
 World.ownsRow.kept (row := none) h ⟨hb.os, hb.tape, hb.output, hb.size, fun k hk _ => hb.block k hk⟩ (by
  cases hv : v.ownBlock with
  | none => exact .inl rfl
  | some k => exact .inr (by simp))
theorem OwnI.drew (h : OwnI w B v xs) : OwnI w.drew B v xs := World.ownsRow.drew h
theorem OwnI.apart (h : OwnI w B v xs) (b j : Nat) (u : Value) (hb : b < B) : OwnI (w.setCell ⟨b, j, none⟩ u) B v xs := ownsRow_apart h b j u hb
theorem OwnI.kept {row : Option Nat} (h : OwnI w B v xs) (hg : w.grownBy w' row) (hne : v.ownBlock = none ∨ v.ownBlock ≠ row) : OwnI w' B v xs := World.ownsRow.kept h hg hne
theorem OwnI.lt (h : OwnI w B v xs) : ∀ k, v.ownBlock = some k → B ≤ k ∧ k < w.heap.size := World.ownsRow.lt h
theorem OwnI.low {B' : Nat} (h : OwnI w B v xs) (hb : B' ≤ B) : OwnI w B' v xs := by
 refine ⟨h.1, ?_⟩
 rcases h.2 with hn | ⟨g, cap, cur, h1, h2, h3⟩
 ·exact .inl hn
 ·exact .inr ⟨g, cap, cur, h1, Nat.le_trans hb h2, h3⟩
theorem OwnI.form (h : OwnI w B v xs) : ∃ a cap, v = .slice a xs.length cap ∧ xs.length ≤ cap ∧ xs.length ≤ maxLen ∧
  ∀ (j x : Nat), xs[j]? = some x → ∃ g, a = some ⟨g, 0, none⟩ ∧ B ≤ g ∧ g < w.heap.size ∧ w.cell? ⟨g, j, none⟩ = some (.int .i64 (x : Int)) := by
 have hc := fun (g : Nat) (hg : v.ownBlock = some g) => World.ownsRow.cells h hg
 rcases h.2 with ⟨rfl, hn⟩ | ⟨g, cap, cur, rfl, hg, hgb, hcap, hm, _⟩
 ·refine ⟨none, 0, by rw [hn], by omega, by unfold maxLen; omega, fun j x hx => ?_⟩
  have := (List.getElem?_eq_some_iff.1 hx).1
  omega
 ·refine ⟨_, cap, rfl, hcap, Nat.le_trans hcap hm, fun j x hx => ⟨g, rfl, hg, (Array.getElem?_eq_some_iff.1 hgb).1, ?_⟩⟩
  have := hc g rfl j _ (intV_get hx)
  rw [Addr.add_mid, Nat.zero_add] at this
  exact this
theorem OwnI.cut {a : Option Addr} {n cap m : Nat} (h : OwnI w B (.slice a n cap) xs) (hm : m ≤ xs.length) (hz : a ≠ none) : OwnI w B (.slice a m cap) (xs.take m) := by
 have hl : (xs.take m).length = m := by rw [List.length_take]; omega
 refine ⟨by rw [intV_len]; omega, ?_⟩
 rcases h.2 with ⟨e, hn⟩ | ⟨g, cap', cur, e, hg, hgb, hcap, hmx, hs, ht⟩
 ·cases e; exact absurd rfl hz
 ·cases e
  refine .inr ⟨g, cap, cur, by rw [hl], hg, hgb, by omega, hmx, hs, ?_⟩
  have h1 : intV (xs.take m) = (intV xs).take m := by unfold intV; rw [List.map_take]
  rw [h1, ← ht, List.take_take, hl]
  congr 1
  omega
end
theorem infoI : (Tryz.prog.info? 3).map (fun i => (i.zero, i.size, i.bytes)) = some (some (.int .i64 0), 1, 8) := by kernel_rfl
theorem wpList_appendI {ops : Array Oper} {rest : List Oper} {o : Oper} {a : Act} {w : World} {Q : Exit → Act → World → Prop} (hw : Region.wanted o (yielded ops a.tmps) = true) (s x : Operand)
  (ho : o.op = .call { callee := .builtin .append, args := #[s, x], argTypes := #[35, 35] }) (base : Nat) (v : Value) (xs : List Nat) (hs : a.eval s = v) (hown : OwnI w base v xs)
  (b c y : Nat) (hx : a.eval x = .slice (some ⟨b, 0, none⟩) 1 c) (c0 : w.cell? ⟨b, 0, none⟩ = some (.int .i64 (y : Int))) (hm : xs.length ≤ 900000) (hb : base ≤ w.heap.size)
  (h : ∀ v' w', OwnI w' base v' (xs ++ [y]) → w.grownBy w' v.ownBlock → (v'.ownBlock = v.ownBlock ∨ v'.ownBlock = some w.heap.size) → wpList Tryz.prog ops Q rest (a.put o.dst v') w') :
  wpList Tryz.prog ops Q (o :: rest) a w := by
 obtain ⟨i, hi, hz0, hz1, hz2⟩ := info_parts infoI
 have hcell : ∀ j u, ([.int .i64 (y : Int)] : List Value)[j]? = some u → w.cell? ((⟨b, 0, none⟩ : Addr).add j) = some u := by
  intro j u hu
  rw [Addr.add_mid, Nat.zero_add]
  obtain rfl : j = 0 := by have := (List.getElem?_eq_some_iff.1 hu).1; simp at this; omega
  cases hu; exact c0
 have hone : ∀ u ∈ ([.int .i64 (y : Int)] : List Value), u.oneCell' = true := by
  intro u hu
  simp only [List.mem_cons, List.not_mem_nil, or_false] at hu
  subst hu; rfl
 obtain ⟨v', w', hr, h2, h3, h4⟩ := append_where (P := Tryz.prog) w base 35 o.type 3 i _ 1 8 Tryz.underlying35 hi hz0 hz1 hz2 rfl (by decide) v xs.length (intV xs) hown ⟨b, 0, none⟩ 1 c [.int .i64 (y : Int)] rfl hcell hone (by unfold maxLen; omega) (by omega) hb (by decide)
 refine BigFrame.wpList_want hw fun K hK => ?_
 unfold Oper.wp execOp
 simp only [ho, resolve, invoke, builtin, Sem.run_bind, Sem.run_pure, Result.andThen_ok, List.map_toArray, List.map_cons, List.map_nil, hs, hx, hr]
 have h2' : OwnI w' base v' (xs ++ [y]) := by
  unfold OwnI
  rw [List.length_append, show intV (xs ++ [y]) = intV xs ++ [.int .i64 (y : Int)] by unfold intV; rw [List.map_append]; rfl]
  exact h2
 exact hK _ _ (h v' w' h2' h3 h4)
end Go.Proofs.YtibpfkcackdbgaaGreatDoor
