/-
  Slices of slices that share their rows with others: append(append([][]byte{}, a...), b...).
-/
import Derived.Test.YtalfjdlpmhmjkaaDoorFrmDoor
namespace Go.Proofs.YtalfjdlpmhmjkaaDoor
open Go.ChangeShapes Go.WideShapes Go.ChangeAt Go.RowKit
set_option linter.unusedVariables false

/-- A slice of slices of the call's own whose rows lie as they lay in w0. -/
def CopyRows (w0 w : World) (base : Nat) (v : Value) (n : Nat) (ll : List (List Nat)) : Prop :=
  ll.length = n ∧ w0.heap.size ≤ base ∧ Below w0.heap.size w0 w ∧ ∃ vs, w.ownsRow base 22 1 v n vs ∧ ∀ j, j < n → ∃ A len cap, vs[j]? = some (.slice A len cap) ∧ AtB w0 A len (ll.getD j [])
theorem CopyRows.made {w0 w : World} (hb : Below w0.heap.size w0 w) : CopyRows w0 (w.alloc (.cells #[] 22)) w.heap.size (.slice (some ⟨w.heap.size, 0, none⟩) 0 0) 0 [] :=
  ⟨rfl, hb.size, hb.alloc hb.size _, [], World.ownsRow_made w #[] 0 (Nat.le_refl _) (by decide) rfl, fun j hj => by omega⟩
theorem CopyRows.at_ {w0 w : World} {base : Nat} {v : Value} {n : Nat} {ll : List (List Nat)} (h : CopyRows w0 w base v n ll) (hn : n ≤ 9223372036854775807) : ∃ A cap, v = .slice A n cap ∧ n ≤ cap ∧ AtRows w A n ll := by
  obtain ⟨hl, hbase, hb, vs, hvs, hel⟩ := h
  rcases hvs.2 with ⟨rfl, rfl⟩ | ⟨g, cap, cur, rfl, hg, hgb, hcap, _⟩
  · exact ⟨none, 0, rfl, Nat.le_refl _, by obtain rfl : ll = [] := List.eq_nil_of_length_eq_zero hl; exact AtRows.nil _ _⟩
  · refine ⟨_, cap, rfl, hcap, hl, hn, fun _ => ⟨g, 0, rfl, (Array.getElem?_eq_some_iff.1 hgb).1, fun j hj => ?_⟩⟩
    obtain ⟨A, len, c, hu, hat⟩ := hel j hj
    refine ⟨A, len, c, ?_, hat.2.2.1, hat.below hb (Nat.le_refl _)⟩
    have := hvs.cells (g := g) rfl j _ hu
    rw [Addr.add_lit] at this
    exact this

/-- 'append(out, rows...)'. -/
theorem wpList_append_copies {ops : Array Oper} {rest : List Oper} {o : Oper} {a : Act} {w0 w : World} {Q : Exit → Act → World → Prop} (hw : Region.wanted o (yielded ops a.tmps) = true) (s x : Operand)
    (ho : o.op = .call { callee := .builtin .append, args := #[s, x], argTypes := #[29, 29] }) (base : Nat) (v : Value) (n : Nat) (ll : List (List Nat)) (hs : a.eval s = v) (hown : CopyRows w0 w base v n ll)
    (A : Option Addr) (m c : Nat) (kk : List (List Nat)) (hx : a.eval x = .slice A m c) (hA : AtRows w0 A m kk) (hb : n + m ≤ 1000000000000) (hbase : base ≤ w.heap.size)
    (h : ∀ v' w', CopyRows w0 w' base v' (n + m) (ll ++ kk) → w.grownBy w' v.ownBlock → wpList Tryd.prog ops Q rest (a.put o.dst v') w') : wpList Tryd.prog ops Q (o :: rest) a w := by
  obtain ⟨i, hi, hz0, hz1, hz2⟩ := info_parts infoS
  obtain ⟨hl, hbs, hbel, vs, hvs, hel⟩ := hown
  have hvl : vs.length = n := by have := hvs.1; omega
  have hkl := hA.1
  have hrun : ∃ v' w', (Builtin.append_ #[29, 29] o.type #[v, .slice A m c]).run Tryd.prog w = .ok v' w' ∧ CopyRows w0 w' base v' (n + m) (ll ++ kk) ∧ w.grownBy w' v.ownBlock := by
    by_cases hp : 0 < m
    · obtain ⟨b, off, rfl, hlt, hc⟩ := hA.2.2 hp
      have hcell : ∀ j, j < m → ∃ A len cap, w.cell? ⟨b, off + j, none⟩ = some (.slice A len cap) ∧ AtB w0 A len (kk.getD j []) := fun j hj => by
        obtain ⟨A, len, cap, h1, _, h2⟩ := hc j hj
        exact ⟨A, len, cap, (hbel.cell (p := ⟨b, off + j, none⟩) hlt).trans h1, h2⟩
      have hnl : ((List.range m).map fun j => (w.cell? ⟨b, off + j, none⟩).getD undef).length = m := by simp
      have hng : ∀ j, j < m → ((List.range m).map fun j => (w.cell? ⟨b, off + j, none⟩).getD undef)[j]? = w.cell? ⟨b, off + j, none⟩ := fun j hj => by
        obtain ⟨A, len, cap, h1, _⟩ := hcell j hj
        simp [hj, h1]
      generalize ((List.range m).map fun j => (w.cell? ⟨b, off + j, none⟩).getD undef) = news at *
      obtain ⟨v', w', h1, h2, h3, _⟩ := run_append_own (P := Tryd.prog) w base 29 o.type 22 i (.slice none 0 0) 1 24 Tryd.underlying29 hi hz0 hz1 hz2 rfl (by decide) v n vs hvs ⟨b, off, none⟩ m c news
        (by omega) (fun j u hu => by
          have hj : j < m := by rw [← hnl]; exact (List.getElem?_eq_some_iff.1 hu).1
          rw [Addr.add_lit, ← hng j hj]; exact hu)
        (fun u hu => by
          obtain ⟨j, hj, rfl⟩ := List.mem_iff_getElem.1 hu
          have hjm : j < m := by omega
          obtain ⟨A, len, cap, h1, _⟩ := hcell j hjm
          have := hng j hjm
          rw [List.getElem?_eq_getElem hj, h1] at this
          rw [Option.some.inj this]; rfl) (by unfold maxLen; omega) (by omega) hbase
      refine ⟨v', w', h1, ⟨by simp; omega, hbs, hbel.grown h3 hbel.size (fun k hk => Nat.le_trans hbs (hvs.lt k hk).1), vs ++ news, h2, fun j hj => ?_⟩, h3⟩
      by_cases hjn : j < n
      · obtain ⟨A, len, cap, hu, hat⟩ := hel j hjn
        refine ⟨A, len, cap, by rw [List.getElem?_append_left (by omega)]; exact hu, ?_⟩
        rw [show (ll ++ kk).getD j [] = ll.getD j [] by simp only [List.getD_eq_getElem?_getD]; rw [List.getElem?_append_left (by omega)]]
        exact hat
      · obtain ⟨A, len, cap, hu, hat⟩ := hcell (j - n) (by omega)
        refine ⟨A, len, cap, by rw [List.getElem?_append_right (by omega), hvl, hng (j - n) (by omega)]; exact hu, ?_⟩
        rw [show (ll ++ kk).getD j [] = kk.getD (j - n) [] by simp only [List.getD_eq_getElem?_getD]; rw [List.getElem?_append_right (by omega), hl]]
        exact hat
    · obtain rfl : m = 0 := by omega
      obtain rfl : kk = [] := List.eq_nil_of_length_eq_zero hkl
      have hfin : CopyRows w0 w base v (n + 0) (ll ++ []) := by rw [List.append_nil]; exact ⟨hl, hbs, hbel, vs, hvs, hel⟩
      rcases A with _ | ad
      · refine ⟨v, w, ?_, hfin, ⟨rfl, rfl, rfl, Nat.le_refl _, fun _ _ _ => rfl⟩⟩
        rcases hvs.2 with ⟨rfl, rfl⟩ | ⟨g, cap, cur, rfl, _, _, hnc, _⟩
        · simp [Builtin.append_, run_underlying Tryd.underlying29, sizeOf, typeInfo, hi, Builtin.lenOf, Builtin.firstCells]
        · simp [Builtin.append_, run_underlying Tryd.underlying29, sizeOf, typeInfo, hi, Builtin.lenOf, Builtin.firstCells, hnc, storeCells]
      · obtain ⟨v', w', h1, h2, h3, _⟩ := run_append_own (P := Tryd.prog) w base 29 o.type 22 i (.slice none 0 0) 1 24 Tryd.underlying29 hi hz0 hz1 hz2 rfl (by decide) v n vs hvs ad 0 c [] rfl
          (fun j u hu => by simp at hu) (fun u hu => by simp at hu) (by unfold maxLen; omega) (by omega) hbase
        refine ⟨v', w', h1, ⟨by simp [hl], hbs, hbel.grown h3 hbel.size (fun k hk => Nat.le_trans hbs (hvs.lt k hk).1), vs ++ [], h2, fun j hj => ?_⟩, h3⟩
        rw [List.append_nil, List.append_nil]
        exact hel j (by omega)
  obtain ⟨v', w', hr, h2, h3⟩ := hrun
  refine BigFrame.wpList_want hw fun K hK => ?_
  unfold Oper.wp execOp
  simp only [ho, resolve, invoke, builtin, Sem.run_bind, Sem.run_pure, Result.andThen_ok, List.map_toArray, List.map_cons, List.map_nil, hs, hx, hr]
  exact hK _ _ (h v' w' h2 h3)

theorem AtRows.ahead {w : World} {a : Option Addr} {n : Nat} {ll : List (List Nat)} (h : AtRows w a n ll) (k : Nat) (hk : k ≤ n) : AtRows w a k (ll.take k) := by
  obtain ⟨h1, h2, h3⟩ := h
  refine ⟨by simp; omega, by omega, fun hp => ?_⟩
  obtain ⟨b, off, e, hlt, hc⟩ := h3 (by omega)
  refine ⟨b, off, e, hlt, fun j hj => ?_⟩
  obtain ⟨A, len, cap, h4, h5, h6⟩ := hc j (by omega)
  exact ⟨A, len, cap, h4, h5, by simpa [List.getD_eq_getElem?_getD, hj] using h6⟩
theorem Own.form {w : World} {base : Nat} {v : Value} {n : Nat} {xs : List Nat} (h : Own w base v n xs) (hn : 0 < n) : ∃ g cap, v = .slice (some ⟨g, 0, none⟩) n cap ∧ base ≤ g ∧ g < w.heap.size ∧ n ≤ cap := by
  rcases h.2.2 with ⟨_, h0⟩ | ⟨g, cap, cur, rfl, hg, hb, hc, _⟩
  · omega
  · exact ⟨g, cap, rfl, hg, (Array.getElem?_eq_some_iff.1 hb).1, hc⟩
/-- Behind k frames. -/
theorem take_used {ll : List (List Nat)} {k : Nat} (h : k < ll.length) : usedN (ll.take (k + 1)) = usedN (ll.take k) + ((ll.getD k []).length + 6) := by
  rw [List.take_succ_eq_append_getElem h, used_append, used_cons, used_nil, List.getD_eq_getElem?_getD, List.getElem?_eq_getElem h]; rfl
theorem take_frames {ll : List (List Nat)} {k : Nat} (h : k < ll.length) : framesN (ll.take (k + 1)) = framesN (ll.take k) ++ frameN (ll.getD k []) := by
  rw [List.take_succ_eq_append_getElem h, frames_snoc, List.getD_eq_getElem?_getD, List.getElem?_eq_getElem h]; rfl
theorem used_take_le (ll : List (List Nat)) (k : Nat) : usedN (ll.take k) ≤ usedN ll := by
  have := used_append (ll.take k) (ll.drop k)
  rw [List.take_append_drop] at this; omega
/-- Rows that have a frame, none longer than B, as far as they were looked at. -/
def Fits (ll : List (List Nat)) (B j : Nat) : Prop := ∀ q, q < j → 1 ≤ (ll.getD q []).length ∧ (ll.getD q []).length ≤ B
theorem Fits.next {ll : List (List Nat)} {B j : Nat} (h : Fits ll B j) (h1 : 1 ≤ (ll.getD j []).length) (h2 : (ll.getD j []).length ≤ B) : Fits ll B (j + 1) := fun q hq => by
  rcases Nat.lt_or_ge q j with h' | h'
  · exact h q h'
  · obtain rfl : q = j := by omega
    exact ⟨h1, h2⟩
theorem Fits.used {ll : List (List Nat)} {B : Nat} : ∀ {j : Nat}, Fits ll B j → j ≤ ll.length → usedN (ll.take j) ≤ (B + 6) * j
  | 0, _, _ => by simp [usedN]
  | j + 1, h, hj => by
    have := Fits.used (fun q hq => h q (by omega)) (show j ≤ ll.length by omega)
    have h2 := (h j (by omega)).2
    rw [take_used (by omega), Nat.mul_succ]; omega
theorem AtRows.bytes {w : World} {a : Option Addr} {n : Nat} {ll : List (List Nat)} (h : AtRows w a n ll) : ∀ b ∈ ll, Bytes b := fun b hb => by
  obtain ⟨j, hj, rfl⟩ := List.mem_iff_getElem.1 hb
  obtain ⟨b', off, e, hlt, hc⟩ := h.2.2 (by have := h.1; omega)
  obtain ⟨A, len, cap, _, _, hat⟩ := hc j (by have := h.1; omega)
  rw [List.getD_eq_getElem?_getD, List.getElem?_eq_getElem hj] at hat
  exact hat.2.1
theorem Fits.may {ll : List (List Nat)} {B : Nat} (h : Fits ll B ll.length) (hB : B ≤ 65535) (hb : ∀ b ∈ ll, Bytes b) : ∀ b ∈ ll, May b := fun b hm => by
  obtain ⟨j, hj, rfl⟩ := List.mem_iff_getElem.1 hm
  have := h j hj
  rw [List.getD_eq_getElem?_getD, List.getElem?_eq_getElem hj] at this
  exact ⟨this.1, by have := this.2; simp at this; omega, hb _ hm⟩
end Go.Proofs.YtalfjdlpmhmjkaaDoor
