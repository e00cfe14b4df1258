/-
  access.Do and the document's own Do, whatever the access: both tell the same, and leave the same world (told by letters, with what is known of these).
-/
import Derived.Test.YtjbhichgojjakaaAccRef
import Derived.Test.YtjbhichgojjakaaAccOther
import Derived.Test.YtjbhichgojjakaaDskCalls
namespace Go.Proofs.Ytjbhichgojjakaa
open Go.ChangeShapes Go.WideShapes Go.ChangeAt Go.RowKit
set_option linter.unusedVariables false
set_option maxRecDepth 100000

/-! ### What is plain -/
theorem allB_set {l : List Stm} (h : allB l = true) (k : Nat) {y : Stm} (hy : y.right = true) : allB (l.set k y) = true := by
  unfold allB at *
  rw [List.all_eq_true] at *
  intro x hx
  rcases List.mem_or_eq_of_mem_set hx with hx | rfl
  · exact h x hx
  · exact hy
theorem right_app {x : Stm} (h : x.right = true) (ys : List Nat) : (x.app ys).right = true := by
  obtain ⟨q, hq, hl⟩ := rightB_iff h
  unfold Stm.right Stm.app
  simp only [hq]
  exact rightB_nat (by simp; omega)
theorem right_syn (x : Stm) : x.syn.right = true := by unfold Stm.right Stm.syn; exact rightB_nat (Nat.le_refl _)
theorem allB_at {l : List Stm} {k : Nat} {x : Stm} (h : allB l = true) (hx : l[k]? = some x) : x.right = true := by
  unfold allB at h
  exact List.all_eq_true.1 h x (List.mem_of_getElem? hx)
theorem allB_zeros (n : Nat) : allB (zerosS n) = true := by
  unfold allB zerosS
  rw [List.all_eq_true]
  intro x hx
  obtain rfl := List.eq_of_mem_replicate hx
  rfl
theorem right_len {l0 l1 : List Stm} (h : rightD l0 l1 = true) : l0.length = l1.length ∧ allB l0 = true ∧ allB l1 = true ∧ 1 ≤ l0.length ∧ l0.length ≤ 64 := by
  unfold rightD countB at h
  simp only [Bool.and_eq_true, decide_eq_true_eq] at h
  exact ⟨h.1.1, h.1.2.1, h.1.2.2, by omega, by omega⟩
theorem right_of {l0 l1 : List Stm} {n : Nat} (h0 : l0.length = n) (h1 : l1.length = n) (a0 : allB l0 = true) (a1 : allB l1 = true) (hn : 1 ≤ n) (hn' : n ≤ 64) : rightD l0 l1 = true := by
  unfold rightD countB
  simp only [Bool.and_eq_true, decide_eq_true_eq]
  exact ⟨⟨by omega, a0, a1⟩, by omega, by omega⟩
theorem has_cases (row i : Int) (n : Nat) : (row = 0 ∧ ∃ k : Nat, i = (k : Int) ∧ k < n) ∨ (row = 1 ∧ ∃ k : Nat, i = (k : Int) ∧ k < n) ∨ (hasB row i n n = false ∧ (rowB row && isB i n) = false) := by
  have e : hasB row i n n = (rowB row && isB i n) := by unfold hasB; split <;> rfl
  by_cases h : (rowB row && isB i n) = true
  · simp only [Bool.and_eq_true] at h
    obtain ⟨k, hk, hl⟩ := isB_iff h.2
    rcases rowB_iff h.1 with rfl | rfl
    · exact .inl ⟨rfl, k, hk, hl⟩
    · exact .inr (.inl ⟨rfl, k, hk, hl⟩)
  · have h' : (rowB row && isB i n) = false := by simpa using h
    exact .inr (.inr ⟨by rw [e]; exact h', h'⟩)
theorem setW_self {F : Nat → Nat} {i x : Nat} (h : F i = x) : setW F i x = F := by
  funext j
  unfold setW
  split
  · rename_i e; rw [e, h]
  · rfl

/-! ### The disk -/
/-- What is known of a disk's rows behind a call: right, and as many streams. -/
def GoodD (n : Nat) (P0 P1 : List Stm) : Prop := P0.length = n ∧ P1.length = n ∧ allB P0 = true ∧ allB P1 = true
section
variable (r : Int) (A : Option Addr) (n a : Nat) (B : Option Addr) (b : Nat) (l0 l1 : List Stm) (row i : Int)
theorem appendBoth (C : Option Addr) (j jc : Nat) (ys : List Nat) (hg : GoodD n l0 l1) (hn : n ≤ 8) (hx0 : ∀ x ∈ l0, x.bytes.length ≤ 100000) (hx1 : ∀ x ∈ l1, x.bytes.length ≤ 100000) (hj : j ≤ 100000) : ∃ (P0 P1 : List Stm) (c : Int), GoodD n P0 P1 ∧
    (∀ w, Hid (StmsAt w A n l0) → Hid (StmsAt w B n l1) → Hid (AtB w C j ys) → Calls Try.prog 57 #[.agg #[.int .u64 r, .slice A n a, .slice B n b], .int .i64 row, .int .i64 i, .slice C j jc] w (DskPostC w r A B n n P0 P1 c)) ∧
    (∀ w, Hid (StmsAt w A n l0) → Hid (StmsAt w B n l1) → Hid (AtB w C j ys) → Calls Try.prog 42 #[.agg #[.int .u64 r, .slice A n a, .slice B n b], .int .i64 row, .int .i64 i, .slice C j jc] w (DskPostC w r A B n n P0 P1 c)) := by
  obtain ⟨hl0, hl1, g0, g1⟩ := hg
  rcases has_cases row i n with ⟨rfl, k, rfl, hk⟩ | ⟨rfl, k, rfl, hk⟩ | ⟨h1, h2⟩
  · have hx : l0[k]? = some (l0[k]'(by omega)) := List.getElem?_eq_getElem _
    have hb := hx0 _ (List.mem_of_getElem? hx)
    exact ⟨_, _, _, ⟨by rw [List.length_set]; exact hl0, hl1, allB_set g0 k (right_app (allB_at g0 hx) ys), g1⟩, fun w g0 g1 g2 => dskAppend0_at r A n a B n b l0 l1 k hk (by omega) _ hx C jc j ys (by omega) w g0 g1 g2, fun w g0 g1 g2 => refAppend0_at r A n a B n b l0 l1 k hk hk (by omega) _ hx C jc j ys (by omega) w g0 g1 g2⟩
  · have hx : l1[k]? = some (l1[k]'(by omega)) := List.getElem?_eq_getElem _
    have hb := hx1 _ (List.mem_of_getElem? hx)
    exact ⟨_, _, _, ⟨hl0, by rw [List.length_set]; exact hl1, g0, allB_set g1 k (right_app (allB_at g1 hx) ys)⟩, fun w g0 g1 g2 => dskAppend1_at r A n a B n b l0 l1 k hk (by omega) _ hx C jc j ys (by omega) w g0 g1 g2, fun w g0 g1 g2 => refAppend1_at r A n a B n b l0 l1 k hk hk (by omega) _ hx C jc j ys (by omega) w g0 g1 g2⟩
  · exact ⟨_, _, _, ⟨hl0, hl1, g0, g1⟩, fun w g0 g1 _ => dskAppend_no r A n a B n b l0 l1 row i h1 C jc j w g0 g1, fun w g0 g1 _ => refAppend_no r A n a B n b l0 l1 row i h2 C jc j w g0 g1⟩
theorem syncBoth (hg : GoodD n l0 l1) (hn : n ≤ 8) : ∃ (P0 P1 : List Stm) (c : Int), GoodD n P0 P1 ∧
    (∀ w, Hid (StmsAt w A n l0) → Hid (StmsAt w B n l1) → Calls Try.prog 58 #[.agg #[.int .u64 r, .slice A n a, .slice B n b], .int .i64 row, .int .i64 i] w (DskPostC w r A B n n P0 P1 c)) ∧
    (∀ w, Hid (StmsAt w A n l0) → Hid (StmsAt w B n l1) → Calls Try.prog 43 #[.agg #[.int .u64 r, .slice A n a, .slice B n b], .int .i64 row, .int .i64 i] w (DskPostC w r A B n n P0 P1 c)) := by
  obtain ⟨hl0, hl1, g0, g1⟩ := hg
  rcases has_cases row i n with ⟨rfl, k, rfl, hk⟩ | ⟨rfl, k, rfl, hk⟩ | ⟨h1, h2⟩
  · have hx : l0[k]? = some (l0[k]'(by omega)) := List.getElem?_eq_getElem _
    exact ⟨_, _, _, ⟨by rw [List.length_set]; exact hl0, hl1, allB_set g0 k (right_syn _), g1⟩, fun w g0 g1 => dskSync0_at r A n a B n b l0 l1 k hk (by omega) _ hx w g0 g1, fun w g0 g1 => refSync0_at r A n a B n b l0 l1 k hk hk (by omega) _ hx w g0 g1⟩
  · have hx : l1[k]? = some (l1[k]'(by omega)) := List.getElem?_eq_getElem _
    exact ⟨_, _, _, ⟨hl0, by rw [List.length_set]; exact hl1, g0, allB_set g1 k (right_syn _)⟩, fun w g0 g1 => dskSync1_at r A n a B n b l0 l1 k hk (by omega) _ hx w g0 g1, fun w g0 g1 => refSync1_at r A n a B n b l0 l1 k hk hk (by omega) _ hx w g0 g1⟩
  · exact ⟨_, _, _, ⟨hl0, hl1, g0, g1⟩, fun w g0 g1 => dskSync_no r A n a B n b l0 l1 row i h1 w g0 g1, fun w g0 g1 => refSync_no r A n a B n b l0 l1 row i h2 w g0 g1⟩
theorem readBoth (hg : GoodD n l0 l1) : ∃ (xs : List Nat) (c : Int),
    (∀ w, Hid (StmsAt w A n l0) → Hid (StmsAt w B n l1) → Calls Try.prog 59 #[.agg #[.int .u64 r, .slice A n a, .slice B n b], .int .i64 row, .int .i64 i] w (ReadPostC w A n B n xs c)) ∧
    (∀ w, Hid (StmsAt w A n l0) → Hid (StmsAt w B n l1) → Calls Try.prog 44 #[.agg #[.int .u64 r, .slice A n a, .slice B n b], .int .i64 row, .int .i64 i] w (ReadPostC w A n B n xs c)) := by
  obtain ⟨hl0, hl1, g0, g1⟩ := hg
  rcases has_cases row i n with ⟨rfl, k, rfl, hk⟩ | ⟨rfl, k, rfl, hk⟩ | ⟨h1, h2⟩
  · have hx : l0[k]? = some (l0[k]'(by omega)) := List.getElem?_eq_getElem _
    exact ⟨_, _, fun w g0 g1 => dskReadC0_at r A n a B n b l0 l1 k hk _ hx w g0 g1, fun w g0 g1 => refReadC0_at r A n a B n b l0 l1 k hk hk _ hx w g0 g1⟩
  · have hx : l1[k]? = some (l1[k]'(by omega)) := List.getElem?_eq_getElem _
    exact ⟨_, _, fun w g0 g1 => dskReadC1_at r A n a B n b l0 l1 k hk _ hx w g0 g1, fun w g0 g1 => refReadC1_at r A n a B n b l0 l1 k hk hk _ hx w g0 g1⟩
  · exact ⟨_, _, fun w g0 g1 => dskReadC_no r A n a B n b row i h1 w, fun w g0 g1 => refReadC_no r A n a B n b row i h2 w⟩
theorem clearBoth (hg : GoodD n l0 l1) (hn : n ≤ 8) : ∃ (P0 P1 : List Stm) (c : Int), GoodD n P0 P1 ∧
    (∀ w, Hid (StmsAt w A n l0) → Hid (StmsAt w B n l1) → Calls Try.prog 60 #[.agg #[.int .u64 r, .slice A n a, .slice B n b], .int .i64 row] w (DskPostC w r A B n n P0 P1 c)) ∧
    (∀ w, Hid (StmsAt w A n l0) → Hid (StmsAt w B n l1) → Calls Try.prog 45 #[.agg #[.int .u64 r, .slice A n a, .slice B n b], .int .i64 row] w (DskPostC w r A B n n P0 P1 c)) := by
  obtain ⟨hl0, hl1, g0, g1⟩ := hg
  by_cases h : rowB row = true
  · rcases rowB_iff h with rfl | rfl
    · exact ⟨_, _, _, ⟨by unfold zerosS; simp, hl1, allB_zeros n, g1⟩, fun w g0 g1 => dskClear0_at r A n a B n b l0 l1 (by omega) w g0 g1, fun w g0 g1 => refClear0_at r A n a B n b l0 l1 (by omega) w g0 g1⟩
    · exact ⟨_, _, _, ⟨hl0, by unfold zerosS; simp, g0, allB_zeros n⟩, fun w g0 g1 => dskClear1_at r A n a B n b l0 l1 (by omega) w g0 g1, fun w g0 g1 => refClear1_at r A n a B n b l0 l1 (by omega) w g0 g1⟩
  · have h' : rowB row = false := by simpa using h
    exact ⟨_, _, _, ⟨hl0, hl1, g0, g1⟩, fun w g0 g1 => dskClear_no r A n a B n b l0 l1 row h' w g0 g1, fun w g0 g1 => refClear_no r A n a B n b l0 l1 row h' w g0 g1⟩
end

/-! ### The accesses of a word -/
section
variable (t c : Int) (A : Option Addr) (n k : Nat) (F : Nat → Nat) (r : Nat) (R S : Option Addr) (m ra sa : Nat) (l0 l1 : List Stm) (me : Int) (a b : Nat) (D : Option Addr) (dn dc : Nat) (W : Option Addr) (wn wc : Nat)
theorem ofWord_yes (K i : Nat) (hK : K < 5) (hi : i < n) (hn : n ≤ 1000000) (hF : ∀ j, F j < 18446744073709551616) (ha : a < 18446744073709551616) (hb : b < 18446744073709551616) (w : World) (hA : Hid (AtW w A n F)) :
    Calls Try.prog 35 #[.agg #[.int .i64 t, .int .i64 c, .slice A n k], .agg #[.int .i64 (K : Int), .int .i64 (i : Int), .int .u64 (a : Int), .int .u64 (b : Int), .slice D dn dc, .slice W wn wc]] w (WordW w t c A n (setW F i (isN K a b (F i))) (toldN K a b (F i))) := by
  have hx := hF i
  have neq : ∀ {x y : Nat}, x ≠ y → ((x : Int) != (y : Int)) = true := fun h => by rw [bne_iff_ne]; omega
  have eq_ : ∀ {x y : Nat}, x = y → ((x : Int) != (y : Int)) = false := fun h => by rw [bne_eq_false_iff_eq]; omega
  obtain rfl | rfl | rfl | rfl | rfl : K = 0 ∨ K = 1 ∨ K = 2 ∨ K = 3 ∨ K = 4 := by omega
  · have e : isN 0 a b (F i) = F i := rfl
    rw [e, setW_self rfl]
    exact ofWord_load_same t c A n k F a b D dn dc W wn wc i (F i) (F i) (F i) hi hn rfl hx (eq_ rfl) (fun w => load_at (F i) 0 i a b D dn dc W wn wc w) w hA
  · have e : isN 1 a b (F i) = a := rfl
    rw [e]
    by_cases h : a = F i
    · rw [setW_self h.symm]
      exact ofWord_store_same t c A n k F a b D dn dc W wn wc i (F i) a 0 hi hn rfl ha (eq_ h) (fun w => store_at (F i) 1 i a b D dn dc W wn wc w) w hA
    · exact ofWord_store_turn t c A n k F a b D dn dc W wn wc i (F i) a 0 hi hn rfl ha (neq h) (fun w => store_at (F i) 1 i a b D dn dc W wn wc w) w hA
  · by_cases hxa : F i = a
    · have e : isN 2 a b (F i) = b := if_pos hxa
      have e' : toldN 2 a b (F i) = 1 := if_pos hxa
      rw [e, e']
      by_cases h : b = F i
      · rw [setW_self h.symm]
        exact ofWord_cas_same t c A n k F a b D dn dc W wn wc i (F i) b 1 hi hn rfl hb (eq_ h) (fun w => cas_yes (F i) 2 i a b D dn dc W wn wc w (eq_ hxa)) w hA
      · exact ofWord_cas_turn t c A n k F a b D dn dc W wn wc i (F i) b 1 hi hn rfl hb (neq h) (fun w => cas_yes (F i) 2 i a b D dn dc W wn wc w (eq_ hxa)) w hA
    · have e : isN 2 a b (F i) = F i := if_neg hxa
      have e' : toldN 2 a b (F i) = 0 := if_neg hxa
      rw [e, e', setW_self rfl]
      exact ofWord_cas_same t c A n k F a b D dn dc W wn wc i (F i) (F i) 0 hi hn rfl hx (eq_ rfl) (fun w => cas_no (F i) 2 i a b D dn dc W wn wc w (neq hxa)) w hA
  · have e : isN 3 a b (F i) = (F i + a) % 18446744073709551616 := rfl
    rw [e]
    have hs : IntKind.u64.wrap ((F i : Int) + (a : Int)) = (((F i + a) % 18446744073709551616 : Nat) : Int) := by rw [IntKind.wrap_u64]; omega
    have hlt : (F i + a) % 18446744073709551616 < 18446744073709551616 := Nat.mod_lt _ (by omega)
    by_cases h : (F i + a) % 18446744073709551616 = F i
    · rw [setW_self h.symm]
      exact ofWord_add_same t c A n k F a b D dn dc W wn wc i (F i) _ (F i) hi hn rfl hlt (eq_ h) (fun w => add_at (F i) 3 i a b D dn dc W wn wc w _ hs) w hA
    · exact ofWord_add_turn t c A n k F a b D dn dc W wn wc i (F i) _ (F i) hi hn rfl hlt (neq h) (fun w => add_at (F i) 3 i a b D dn dc W wn wc w _ hs) w hA
  · have e : isN 4 a b (F i) = a := rfl
    rw [e]
    by_cases h : a = F i
    · rw [setW_self h.symm]
      exact ofWord_swap_same t c A n k F a b D dn dc W wn wc i (F i) a (F i) hi hn rfl ha (eq_ h) (fun w => swap_at (F i) 4 i a b D dn dc W wn wc w) w hA
    · exact ofWord_swap_turn t c A n k F a b D dn dc W wn wc i (F i) a (F i) hi hn rfl ha (neq h) (fun w => swap_at (F i) 4 i a b D dn dc W wn wc w) w hA
theorem doWord (K i : Nat) (hK : K < 5) (hi : i < n) (hn : n ≤ 1000000) (hF : ∀ j, F j < 18446744073709551616) (ha : a < 18446744073709551616) (hb : b < 18446744073709551616) (fa : Bool) (w : World) (hA : Hid (AtW w A n F)) (h0 : Hid (StmsAt w R m l0)) (h1 : Hid (StmsAt w S m l1)) :
    Calls Try.prog 10 #[.agg #[.int .i64 t, .int .i64 c, .slice A n k, .int .u64 (r : Int), .slice R m ra, .slice S m sa], .int .i64 me, .agg #[.int .i64 (K : Int), .int .i64 (i : Int), .int .u64 (a : Int), .int .u64 (b : Int), .slice D dn dc, .slice W wn wc], .bool fa] w (DoW w t c A n r R S m (setW F i (isN K a b (F i))) l0 l1 (toldN K a b (F i)) [] false) :=
  do_word t c A n k F r R S m ra sa l0 l1 me K i a b D dn dc W wn wc (by unfold diskB; rw [decide_eq_false (by omega)]; rfl) (by rw [beq_eq_false_iff_ne]; omega) fa _ _ (fun w h => ofWord_yes t c A n k F a b D dn dc W wn wc K i hK hi hn hF ha hb w h) w hA h0 h1
theorem refWord (hr : r < 18446744073709551616) (K i : Nat) (hK : K < 5) (hi : i < n) (hn : n ≤ 1000000) (hF : ∀ j, F j < 18446744073709551616) (ha : a < 18446744073709551616) (hb : b < 18446744073709551616) (fa : Bool) (w : World) (hA : Hid (AtW w A n F)) (h0 : Hid (StmsAt w R m l0)) (h1 : Hid (StmsAt w S m l1)) :
    Calls Try.prog 19 #[.agg #[.int .i64 t, .int .i64 c, .slice A n k, .int .u64 (r : Int), .slice R m ra, .slice S m sa], .int .i64 me, .agg #[.int .i64 (K : Int), .int .i64 (i : Int), .int .u64 (a : Int), .int .u64 (b : Int), .slice D dn dc, .slice W wn wc], .bool fa] w (DoW w t c A n r R S m (setW F i (isN K a b (F i))) l0 l1 (toldN K a b (F i)) [] false) := by
  have hx := hF i
  have neq : ∀ {x y : Nat}, x ≠ y → ((x : Int) != (y : Int)) = true := fun h => by rw [bne_iff_ne]; omega
  have eq_ : ∀ {x y : Nat}, x = y → ((x : Int) != (y : Int)) = false := fun h => by rw [bne_eq_false_iff_eq]; omega
  have hp : (1 : Int) - ((r % 2 : Nat) : Int) = ((1 - r % 2 : Nat) : Int) := by omega
  obtain rfl | rfl | rfl | rfl | rfl : K = 0 ∨ K = 1 ∨ K = 2 ∨ K = 3 ∨ K = 4 := by omega
  · have e : isN 0 a b (F i) = F i := rfl
    rw [e, setW_self rfl]
    exact refDo_load t c A n k F r hr R S m ra sa l0 l1 _ _ rfl hp me a b D dn dc W wn wc i (F i) fa hi rfl w hA h0 h1
  · have e : isN 1 a b (F i) = a := rfl
    rw [e]
    exact refDo_store t c A n k F r hr R S m ra sa l0 l1 _ _ rfl hp me a b D dn dc W wn wc i (F i) fa hi rfl _ (fun w h => with_at t c A n k F i a hi ha hn w h) w hA h0 h1
  · by_cases hxa : F i = a
    · have e : isN 2 a b (F i) = b := if_pos hxa
      have e' : toldN 2 a b (F i) = 1 := if_pos hxa
      rw [e, e']
      exact refDo_cas_yes t c A n k F r hr R S m ra sa l0 l1 _ _ rfl hp me a b D dn dc W wn wc i (F i) fa hi rfl (eq_ hxa) _ (fun w h => with_at t c A n k F i b hi hb hn w h) w hA h0 h1
    · have e : isN 2 a b (F i) = F i := if_neg hxa
      have e' : toldN 2 a b (F i) = 0 := if_neg hxa
      rw [e, e', setW_self rfl]
      exact refDo_cas_no t c A n k F r hr R S m ra sa l0 l1 _ _ rfl hp me a b D dn dc W wn wc i (F i) fa hi rfl (neq hxa) w hA h0 h1
  · have e : isN 3 a b (F i) = (F i + a) % 18446744073709551616 := rfl
    rw [e]
    have hs : IntKind.u64.wrap ((F i : Int) + (a : Int)) = (((F i + a) % 18446744073709551616 : Nat) : Int) := by rw [IntKind.wrap_u64]; omega
    have hlt : (F i + a) % 18446744073709551616 < 18446744073709551616 := Nat.mod_lt _ (by omega)
    exact refDo_add t c A n k F r hr R S m ra sa l0 l1 _ _ rfl hp me a b D dn dc W wn wc i (F i) fa hi rfl _ hs _ (fun w h => with_at t c A n k F i _ hi hlt hn w h) w hA h0 h1
  · have e : isN 4 a b (F i) = a := rfl
    rw [e]
    exact refDo_swap t c A n k F r hr R S m ra sa l0 l1 _ _ rfl hp me a b D dn dc W wn wc i (F i) fa hi rfl _ (fun w h => with_at t c A n k F i a hi ha hn w h) w hA h0 h1
end

/-! ### Whatever the access -/
section
variable (t c : Int) (A : Option Addr) (n k : Nat) (F : Nat → Nat) (r : Nat) (R S : Option Addr) (m ra sa : Nat) (l0 l1 : List Stm) (me ki i : Int) (a b : Nat) (D : Option Addr) (dn dc : Nat) (ys : List Nat) (W : Option Addr) (wn wc : Nat) (ws : Nat → Nat) (fa : Bool)
/-- A call of Do, told by letters. -/
def DoCalls (fn : Nat) (r1 : Nat) (G : Nat → Nat) (P0 P1 : List Stm) (N : Nat) (xs : List Nat) (fl : Bool) : Prop :=
  ∀ w, Hid (AtW w A n F) → Hid (StmsAt w R m l0) → Hid (StmsAt w S m l1) → Hid (AtB w D dn ys) → Hid (AtW w W wn ws) →
    Calls Try.prog fn #[.agg #[.int .i64 t, .int .i64 c, .slice A n k, .int .u64 (r : Int), .slice R m ra, .slice S m sa], .int .i64 me, .agg #[.int .i64 ki, .int .i64 i, .int .u64 (a : Int), .int .u64 (b : Int), .slice D dn dc, .slice W wn wc], .bool fa] w (DoW w t c A n r1 R S m G P0 P1 N xs fl)
/-- What is known of it. -/
structure DoGood (r1 : Nat) (G : Nat → Nat) (P0 P1 : List Stm) (N : Nat) (xs : List Nat) (fl : Bool) : Prop where
  good : GoodD m P0 P1
  fails : fl = (fa && diskB ki)
  words : diskB ki = false → r1 = r ∧ P0 = l0 ∧ P1 = l1
  failed : fl = true → r1 = r ∧ P0 = l0 ∧ P1 = l1 ∧ N = 0 ∧ xs = []
  one : ki ≠ 13 → G = F ∨ ∃ q v : Nat, i = (q : Int) ∧ q < n ∧ 0 ≤ ki ∧ ki ≤ 4 ∧ G = setW F q v
set_option maxHeartbeats 1000000 in
theorem doBoth (hr : r < 18446744073709551616) (hn : n ≤ 1000000) (hn0 : 0 < n) (hF : ∀ j, F j < 18446744073709551616) (ha : a < 18446744073709551616) (hb : b < 18446744073709551616) (hm1 : 1 ≤ m) (hm8 : m ≤ 8) (hg : GoodD m l0 l1)
    (hx0 : ∀ x ∈ l0, x.bytes.length ≤ 100000) (hx1 : ∀ x ∈ l1, x.bytes.length ≤ 100000) (hdn : dn ≤ 100000) :
    ∃ r1 G P0 P1 N xs fl, DoGood n F r m l0 l1 ki i fa r1 G P0 P1 N xs fl ∧ DoCalls t c A n k F r R S m ra sa l0 l1 me ki i a b D dn dc ys W wn wc ws fa 10 r1 G P0 P1 N xs fl ∧ DoCalls t c A n k F r R S m ra sa l0 l1 me ki i a b D dn dc ys W wn wc ws fa 19 r1 G P0 P1 N xs fl := by
  have hp : (1 : Int) - ((r % 2 : Nat) : Int) = ((1 - r % 2 : Nat) : Int) := by omega
  by_cases hd : diskB ki = true
  · have h5 : 5 ≤ ki ∧ ki ≤ 12 := by
      unfold diskB at hd
      simpa using hd
    cases fa with
    | true =>
      refine ⟨r, F, l0, l1, 0, [], true, ⟨hg, (by rw [hd]; rfl), (fun h => by rw [hd] at h; cases h), fun _ => ⟨rfl, rfl, rfl, rfl, rfl⟩, fun _ => .inl rfl⟩, fun w hA h0 h1 _ _ => ?_, fun w hA h0 h1 _ _ => ?_⟩
      · exact do_fails t c A n k F r R S m ra sa l0 l1 me ki i a b D dn dc W wn wc hd w hA h0 h1
      · exact refDo_fails t c A n k F r hr R S m ra sa l0 l1 _ _ rfl hp me a b D dn dc W wn wc ki i (decide_eq_true h5.1) (decide_eq_true h5.2) w hA h0 h1
    | false =>
      have hgood : ∀ {r1 : Nat} {P0 P1 : List Stm} {N : Nat} {xs : List Nat}, GoodD m P0 P1 → DoGood n F r m l0 l1 ki i false r1 F P0 P1 N xs false := fun g => ⟨g, rfl, (fun h => by rw [hd] at h; cases h), (fun h => by cases h), fun _ => .inl rfl⟩
      obtain rfl | rfl | rfl | rfl | rfl | rfl | rfl | rfl : ki = 5 ∨ ki = 6 ∨ ki = 7 ∨ ki = 8 ∨ ki = 9 ∨ ki = 10 ∨ ki = 11 ∨ ki = 12 := by omega
      · obtain ⟨P0, P1, cd, g, H1, H2⟩ := appendBoth (r : Int) R m ra S sa l0 l1 ((r % 2 : Nat) : Int) me D dn dc ys hg hm8 hx0 hx1 hdn
        exact ⟨r, F, P0, P1, 0, [], false, hgood g, fun w hA h0 h1 hD _ => do_disk t c A n k F r R S m ra sa l0 l1 me 5 i a b D dn dc W wn wc hd false rfl ys r 0 P0 P1 [] (fun w g0 g1 g2 => ofDisk_append r hr R S m ra sa l0 l1 _ _ rfl hp me i a b D dn dc W wn wc P0 P1 cd ys H1 w g0 g1 g2) w hA h0 h1 hD,
          fun w hA h0 h1 hD _ => refDo_append t c A n k F r hr R S m ra sa l0 l1 _ _ rfl hp me a b D dn dc W wn wc i P0 P1 cd ys H2 w hA h0 h1 hD⟩
      · obtain ⟨P0, P1, cd, g, H1, H2⟩ := syncBoth (r : Int) R m ra S sa l0 l1 ((r % 2 : Nat) : Int) me hg hm8
        exact ⟨r, F, P0, P1, 0, [], false, hgood g, fun w hA h0 h1 hD _ => do_disk t c A n k F r R S m ra sa l0 l1 me 6 i a b D dn dc W wn wc hd false rfl ys r 0 P0 P1 [] (fun w g0 g1 _ => ofDisk_sync r hr R S m ra sa l0 l1 _ _ rfl hp me i a b D dn dc W wn wc P0 P1 cd ys H1 w g0 g1) w hA h0 h1 hD,
          fun w hA h0 h1 hD _ => refDo_sync t c A n k F r hr R S m ra sa l0 l1 _ _ rfl hp me a b D dn dc W wn wc i P0 P1 cd ys H2 w hA h0 h1⟩
      · exact ⟨r, F, l0, l1, r, [], false, hgood hg, fun w hA h0 h1 hD _ => do_disk t c A n k F r R S m ra sa l0 l1 me 7 i a b D dn dc W wn wc hd false rfl ys r r l0 l1 [] (fun w g0 g1 _ => ofDisk_root r hr R S m ra sa l0 l1 _ _ rfl hp me i a b D dn dc W wn wc w g0 g1) w hA h0 h1 hD,
          fun w hA h0 h1 hD _ => refDo_root t c A n k F r hr R S m ra sa l0 l1 _ _ rfl hp me a b D dn dc W wn wc i w hA h0 h1⟩
      · obtain ⟨xs, cd, H1, H2⟩ := readBoth (r : Int) R m ra S sa l0 l1 ((r % 2 : Nat) : Int) i hg
        exact ⟨r, F, l0, l1, 0, xs, false, hgood hg, fun w hA h0 h1 hD _ => do_disk t c A n k F r R S m ra sa l0 l1 me 8 i a b D dn dc W wn wc hd false rfl ys r 0 l0 l1 xs (fun w g0 g1 _ => ofDisk_read r hr R S m ra sa l0 l1 _ _ rfl hp me i a b D dn dc W wn wc xs cd H1 w g0 g1) w hA h0 h1 hD,
          fun w hA h0 h1 hD _ => refDo_read t c A n k F r hr R S m ra sa l0 l1 _ _ rfl hp me a b D dn dc W wn wc i xs cd H2 w hA h0 h1⟩
      · obtain ⟨P0, P1, cd, g, H1, H2⟩ := clearBoth (r : Int) R m ra S sa l0 l1 ((1 - r % 2 : Nat) : Int) hg hm8
        exact ⟨r, F, P0, P1, 0, [], false, hgood g, fun w hA h0 h1 hD _ => do_disk t c A n k F r R S m ra sa l0 l1 me 9 i a b D dn dc W wn wc hd false rfl ys r 0 P0 P1 [] (fun w g0 g1 _ => ofDisk_clear r hr R S m ra sa l0 l1 _ _ rfl hp me i a b D dn dc W wn wc P0 P1 cd ys H1 w g0 g1) w hA h0 h1 hD,
          fun w hA h0 h1 hD _ => refDo_clear t c A n k F r hr R S m ra sa l0 l1 _ _ rfl hp me a b D dn dc W wn wc i P0 P1 cd ys H2 w hA h0 h1⟩
      · obtain ⟨P0, P1, cd, g, H1, H2⟩ := appendBoth (r : Int) R m ra S sa l0 l1 ((1 - r % 2 : Nat) : Int) 0 D dn dc ys hg hm8 hx0 hx1 hdn
        exact ⟨r, F, P0, P1, 0, [], false, hgood g, fun w hA h0 h1 hD _ => do_disk t c A n k F r R S m ra sa l0 l1 me 10 i a b D dn dc W wn wc hd false rfl ys r 0 P0 P1 [] (fun w g0 g1 g2 => ofDisk_write r hr R S m ra sa l0 l1 _ _ rfl hp me i a b D dn dc W wn wc P0 P1 cd ys H1 w g0 g1 g2) w hA h0 h1 hD,
          fun w hA h0 h1 hD _ => refDo_write t c A n k F r hr R S m ra sa l0 l1 _ _ rfl hp me a b D dn dc W wn wc i P0 P1 cd ys H2 w hA h0 h1 hD⟩
      · obtain ⟨P0, P1, cd, g, H1, H2⟩ := syncBoth (r : Int) R m ra S sa l0 l1 ((1 - r % 2 : Nat) : Int) 0 hg hm8
        exact ⟨r, F, P0, P1, 0, [], false, hgood g, fun w hA h0 h1 hD _ => do_disk t c A n k F r R S m ra sa l0 l1 me 11 i a b D dn dc W wn wc hd false rfl ys r 0 P0 P1 [] (fun w g0 g1 _ => ofDisk_flush r hr R S m ra sa l0 l1 _ _ rfl hp me i a b D dn dc W wn wc P0 P1 cd ys H1 w g0 g1) w hA h0 h1 hD,
          fun w hA h0 h1 hD _ => refDo_flush t c A n k F r hr R S m ra sa l0 l1 _ _ rfl hp me a b D dn dc W wn wc i P0 P1 cd ys H2 w hA h0 h1⟩
      · have hs : IntKind.u64.wrap ((r : Int) + 1) = (((r + 1) % 18446744073709551616 : Nat) : Int) := by rw [IntKind.wrap_u64]; omega
        exact ⟨_, F, l0, l1, 0, [], false, hgood hg, fun w hA h0 h1 hD _ => do_disk t c A n k F r R S m ra sa l0 l1 me 12 i a b D dn dc W wn wc hd false rfl ys _ 0 l0 l1 [] (fun w g0 g1 _ => ofDisk_setroot r hr R S m ra sa l0 l1 _ _ rfl hp me i a b D dn dc W wn wc _ hs w g0 g1) w hA h0 h1 hD,
          fun w hA h0 h1 hD _ => refDo_setroot t c A n k F r hr R S m ra sa l0 l1 _ _ rfl hp me a b D dn dc W wn wc i _ hs w hA h0 h1⟩
  · have hd' : diskB ki = false := by simpa using hd
    by_cases h13 : ki = 13
    · subst h13
      by_cases hw : wn = n
      · subst hw
        refine ⟨r, ws, l0, l1, 0, [], false, ⟨hg, (by rw [hd', Bool.and_false]), fun _ => ⟨rfl, rfl, rfl⟩, (fun h => by cases h), fun h => absurd rfl h⟩, fun w hA h0 h1 _ hW => ?_, fun w hA h0 h1 _ hW => ?_⟩
        · exact do_install t c A wn k F r R S m ra sa l0 l1 me 13 i a b D dn dc W wn wc hd' rfl fa ws ws (fun w _ g => install_yes t c A wn k W wc ws hn0 hn w g) w hA h0 h1 hW
        · exact refDo_install_yes t c A wn k F r hr R S m ra sa l0 l1 _ _ rfl hp me a b D dn dc W wc i fa ws hn0 hn w hA h0 h1 hW
      · have hne : ((wn : Int) == (n : Int)) = false := by rw [beq_eq_false_iff_ne]; omega
        refine ⟨r, F, l0, l1, 0, [], false, ⟨hg, (by rw [hd', Bool.and_false]), fun _ => ⟨rfl, rfl, rfl⟩, (fun h => by cases h), fun h => absurd rfl h⟩, fun w hA h0 h1 _ hW => ?_, fun w hA h0 h1 _ hW => ?_⟩
        · exact do_install t c A n k F r R S m ra sa l0 l1 me 13 i a b D dn dc W wn wc hd' rfl fa F ws (fun w g _ => install_no t c A n k F W wn wc hne w g) w hA h0 h1 hW
        · exact refDo_install_no t c A n k F r hr R S m ra sa l0 l1 _ _ rfl hp me a b D dn dc W wn wc i fa hne w hA h0 h1
    · have h13' : (ki == 13) = false := by rw [beq_eq_false_iff_ne]; exact h13
      have hnd : ¬ (5 ≤ ki ∧ ki ≤ 12) := fun h => hd (by unfold diskB; simp [h.1, h.2])
      have hgood : ∀ {G : Nat → Nat} {N : Nat}, (G = F ∨ ∃ q v : Nat, i = (q : Int) ∧ q < n ∧ 0 ≤ ki ∧ ki ≤ 4 ∧ G = setW F q v) → DoGood n F r m l0 l1 ki i fa r G l0 l1 N [] false := fun g => ⟨hg, (by rw [hd', Bool.and_false]), fun _ => ⟨rfl, rfl, rfl⟩, (fun h => by cases h), fun _ => g⟩
      have he : ∀ j : Int, 5 ≤ j → j ≤ 13 → (ki == j) = false := fun j h1 h2 => by rw [beq_eq_false_iff_ne]; omega
      by_cases ha' : ki < 0
      · exact ⟨r, F, l0, l1, 0, [], false, hgood (.inl rfl), fun w hA h0 h1 _ _ => do_word t c A n k F r R S m ra sa l0 l1 me ki i a b D dn dc W wn wc hd' h13' fa F 0 (fun w g => ofWord_no_a t c A n k F a b D dn dc W wn wc ki i (decide_eq_true ha') w g) w hA h0 h1,
          fun w hA h0 h1 _ _ => refDo_none_a t c A n k F r hr R S m ra sa l0 l1 _ _ rfl hp me a b D dn dc W wn wc ki i fa (decide_eq_false (by omega)) (decide_eq_true ha') (he 5 (by omega) (by omega)) (he 6 (by omega) (by omega)) (he 7 (by omega) (by omega)) (he 8 (by omega) (by omega)) (he 9 (by omega) (by omega)) (he 10 (by omega) (by omega)) (he 11 (by omega) (by omega)) (he 12 (by omega) (by omega)) (he 13 (by omega) (by omega)) w hA h0 h1⟩
      by_cases hb' : 5 ≤ ki
      · exact ⟨r, F, l0, l1, 0, [], false, hgood (.inl rfl), fun w hA h0 h1 _ _ => do_word t c A n k F r R S m ra sa l0 l1 me ki i a b D dn dc W wn wc hd' h13' fa F 0 (fun w g => ofWord_no_b t c A n k F a b D dn dc W wn wc ki i (decide_eq_false ha') (decide_eq_true hb') w g) w hA h0 h1,
          fun w hA h0 h1 _ _ => refDo_none_b t c A n k F r hr R S m ra sa l0 l1 _ _ rfl hp me a b D dn dc W wn wc ki i fa (decide_eq_true hb') (decide_eq_false (by omega)) (decide_eq_false ha') (decide_eq_true (by omega)) (he 5 (by omega) (by omega)) (he 6 (by omega) (by omega)) (he 7 (by omega) (by omega)) (he 8 (by omega) (by omega)) (he 9 (by omega) (by omega)) (he 10 (by omega) (by omega)) (he 11 (by omega) (by omega)) (he 12 (by omega) (by omega)) (he 13 (by omega) (by omega)) w hA h0 h1⟩
      by_cases hc' : i < 0
      · exact ⟨r, F, l0, l1, 0, [], false, hgood (.inl rfl), fun w hA h0 h1 _ _ => do_word t c A n k F r R S m ra sa l0 l1 me ki i a b D dn dc W wn wc hd' h13' fa F 0 (fun w g => ofWord_no_c t c A n k F a b D dn dc W wn wc ki i (decide_eq_false ha') (decide_eq_false hb') (decide_eq_true hc') w g) w hA h0 h1,
          fun w hA h0 h1 _ _ => refDo_none_c t c A n k F r hr R S m ra sa l0 l1 _ _ rfl hp me a b D dn dc W wn wc ki i fa (decide_eq_false hb') (decide_eq_false ha') (decide_eq_false (by omega)) (decide_eq_true hc') (he 5 (by omega) (by omega)) (he 6 (by omega) (by omega)) (he 7 (by omega) (by omega)) (he 8 (by omega) (by omega)) (he 9 (by omega) (by omega)) (he 10 (by omega) (by omega)) (he 11 (by omega) (by omega)) (he 12 (by omega) (by omega)) (he 13 (by omega) (by omega)) w hA h0 h1⟩
      by_cases hd'' : (n : Int) ≤ i
      · exact ⟨r, F, l0, l1, 0, [], false, hgood (.inl rfl), fun w hA h0 h1 _ _ => do_word t c A n k F r R S m ra sa l0 l1 me ki i a b D dn dc W wn wc hd' h13' fa F 0 (fun w g => ofWord_no_d t c A n k F a b D dn dc W wn wc ki i (decide_eq_false ha') (decide_eq_false hb') (decide_eq_false hc') (decide_eq_true hd'') w g) w hA h0 h1,
          fun w hA h0 h1 _ _ => refDo_none_d t c A n k F r hr R S m ra sa l0 l1 _ _ rfl hp me a b D dn dc W wn wc ki i fa (decide_eq_false hb') (decide_eq_false ha') (decide_eq_false (by omega)) (decide_eq_false hc') (decide_eq_true hd'') (he 5 (by omega) (by omega)) (he 6 (by omega) (by omega)) (he 7 (by omega) (by omega)) (he 8 (by omega) (by omega)) (he 9 (by omega) (by omega)) (he 10 (by omega) (by omega)) (he 11 (by omega) (by omega)) (he 12 (by omega) (by omega)) (he 13 (by omega) (by omega)) w hA h0 h1⟩
      obtain ⟨K, rfl⟩ := Int.eq_ofNat_of_zero_le (show 0 ≤ ki by omega)
      obtain ⟨q, rfl⟩ := Int.eq_ofNat_of_zero_le (show 0 ≤ i by omega)
      exact ⟨r, setW F q (isN K a b (F q)), l0, l1, toldN K a b (F q), [], false, hgood (.inr ⟨q, _, rfl, by omega, by omega, by omega, rfl⟩), fun w hA h0 h1 _ _ => doWord t c A n k F r R S m ra sa l0 l1 me a b D dn dc W wn wc K q (by omega) (by omega) hn hF ha hb fa w hA h0 h1,
        fun w hA h0 h1 _ _ => refWord t c A n k F r R S m ra sa l0 l1 me a b D dn dc W wn wc hr K q (by omega) (by omega) hn hF ha hb fa w hA h0 h1⟩
end
end Go.Proofs.Ytjbhichgojjakaa
