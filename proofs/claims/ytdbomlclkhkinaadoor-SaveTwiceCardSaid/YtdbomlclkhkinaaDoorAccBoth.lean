/-
  access.Do and the document's own Do, whatever the access: both tell the same, and leave the same world (told by letters, with what is known of these).
-/
import Derived.Test.YtdbomlclkhkinaaDoorAccRef
import Derived.Test.YtdbomlclkhkinaaDoorAccOther
import Derived.Test.YtdbomlclkhkinaaDoorDskCalls
namespace Go.Proofs.YtdbomlclkhkinaaDoor
open Go.ChangeShapes Go.WideShapes Go.ChangeAt Go.RowKit
set_option linter.unusedVariables false
set_option maxRecDepth 100000

/-! ### What is plain -/
theorem allB_set {l : List Stm} (h : allB l = true) (k : Nat) {y : Stm} (hy : y.right = true) : allB (l.set k y) = true := by
  unfold allB at *
  rw [List.all_eq_true] at *
  intro x hx
  rcases List.mem_or_eq_of_mem_set hx with hx | rfl
  · exact h x hx
  · exact hy
theorem right_app {x : Stm} (h : x.right = true) (ys : List Nat) : (x.app ys).right = true := by
  obtain ⟨q, hq, hl⟩ := rightB_iff h
  unfold Stm.right Stm.app
  simp only [hq]
  exact rightB_nat (by simp; omega)
theorem right_syn (x : Stm) : x.syn.right = true := by unfold Stm.right Stm.syn; exact rightB_nat (Nat.le_refl _)
theorem allB_at {l : List Stm} {k : Nat} {x : Stm} (h : allB l = true) (hx : l[k]? = some x) : x.right = true := by
  unfold allB at h
  exact List.all_eq_true.1 h x (List.mem_of_getElem? hx)
theorem allB_zeros (n : Nat) : allB (zerosS n) = true := by
  unfold allB zerosS
  rw [List.all_eq_true]
  intro x hx
  obtain rfl := List.eq_of_mem_replicate hx
  rfl
theorem right_len {l0 l1 : List Stm} (h : rightD l0 l1 = true) : l0.length = l1.length ∧ allB l0 = true ∧ allB l1 = true ∧ 1 ≤ l0.length ∧ l0.length ≤ 64 := by
  unfold rightD countB at h
  simp only [Bool.and_eq_true, decide_eq_true_eq] at h
  exact ⟨h.1.1, h.1.2.1, h.1.2.2, by omega, by omega⟩
theorem right_of {l0 l1 : List Stm} {n : Nat} (h0 : l0.length = n) (h1 : l1.length = n) (a0 : allB l0 = true) (a1 : allB l1 = true) (hn : 1 ≤ n) (hn' : n ≤ 64) : rightD l0 l1 = true := by
  unfold rightD countB
  simp only [Bool.and_eq_true, decide_eq_true_eq]
  exact ⟨⟨by omega, a0, a1⟩, by omega, by omega⟩
theorem has_cases (row i : Int) (n : Nat) : (row = 0 ∧ ∃ k : Nat, i = (k : Int) ∧ k < n) ∨ (row = 1 ∧ ∃ k : Nat, i = (k : Int) ∧ k < n) ∨ (hasB row i n n = false ∧ (rowB row && isB i n) = false) := by
  have e : hasB row i n n = (rowB row && isB i n) := by unfold hasB; split <;> rfl
  by_cases h : (rowB row && isB i n) = true
  · simp only [Bool.and_eq_true] at h
    obtain ⟨k, hk, hl⟩ := isB_iff h.2
    rcases rowB_iff h.1 with rfl | rfl
    · exact .inl ⟨rfl, k, hk, hl⟩
    · exact .inr (.inl ⟨rfl, k, hk, hl⟩)
  · have h' : (rowB row && isB i n) = false := by simpa using h
    exact .inr (.inr ⟨by rw [e]; exact h', h'⟩)
theorem setW_self {F : Nat → Nat} {i x : Nat} (h : F i = x) : setW F i x = F := by
  funext j
  unfold setW
  split
  · rename_i e; rw [e, h]
  · rfl

/-! ### The disk -/
/-- What is known of a disk's rows behind a call: right, and as many streams. -/
def GoodD (n : Nat) (P0 P1 : List Stm) : Prop := P0.length = n ∧ P1.length = n ∧ allB P0 = true ∧ allB P1 = true
section
variable (r : Int) (A : Option Addr) (n a : Nat) (B : Option Addr) (b : Nat) (l0 l1 : List Stm) (row i : Int)
end

/-! ### The accesses of a word -/
section
variable (t c : Int) (A : Option Addr) (n k : Nat) (F : Nat → Nat) (r : Nat) (R S : Option Addr) (m ra sa : Nat) (l0 l1 : List Stm) (me : Int) (a b : Nat) (D : Option Addr) (dn dc : Nat) (W : Option Addr) (wn wc : Nat)
theorem ofWord_yes (K i : Nat) (hK : K < 5) (hi : i < n) (hn : n ≤ 1000000) (hF : ∀ j, F j < 18446744073709551616) (ha : a < 18446744073709551616) (hb : b < 18446744073709551616) (w : World) (hA : Hid (AtW w A n F)) :
    Calls Tryd.prog 42 #[.agg #[.int .i64 t, .int .i64 c, .slice A n k], .agg #[.int .i64 (K : Int), .int .i64 (i : Int), .int .u64 (a : Int), .int .u64 (b : Int), .slice D dn dc, .slice W wn wc]] w (WordW w t c A n (setW F i (isN K a b (F i))) (toldN K a b (F i))) := by
  have hx := hF i
  have neq : ∀ {x y : Nat}, x ≠ y → ((x : Int) != (y : Int)) = true := fun h => by rw [bne_iff_ne]; omega
  have eq_ : ∀ {x y : Nat}, x = y → ((x : Int) != (y : Int)) = false := fun h => by rw [bne_eq_false_iff_eq]; omega
  obtain rfl | rfl | rfl | rfl | rfl : K = 0 ∨ K = 1 ∨ K = 2 ∨ K = 3 ∨ K = 4 := by omega
  · have e : isN 0 a b (F i) = F i := rfl
    rw [e, setW_self rfl]
    exact ofWord_load_same t c A n k F a b D dn dc W wn wc i (F i) (F i) (F i) hi hn rfl hx (eq_ rfl) (fun w => load_at (F i) 0 i a b D dn dc W wn wc w) w hA
  · have e : isN 1 a b (F i) = a := rfl
    rw [e]
    by_cases h : a = F i
    · rw [setW_self h.symm]
      exact ofWord_store_same t c A n k F a b D dn dc W wn wc i (F i) a 0 hi hn rfl ha (eq_ h) (fun w => store_at (F i) 1 i a b D dn dc W wn wc w) w hA
    · exact ofWord_store_turn t c A n k F a b D dn dc W wn wc i (F i) a 0 hi hn rfl ha (neq h) (fun w => store_at (F i) 1 i a b D dn dc W wn wc w) w hA
  · by_cases hxa : F i = a
    · have e : isN 2 a b (F i) = b := if_pos hxa
      have e' : toldN 2 a b (F i) = 1 := if_pos hxa
      rw [e, e']
      by_cases h : b = F i
      · rw [setW_self h.symm]
        exact ofWord_cas_same t c A n k F a b D dn dc W wn wc i (F i) b 1 hi hn rfl hb (eq_ h) (fun w => cas_yes (F i) 2 i a b D dn dc W wn wc w (eq_ hxa)) w hA
      · exact ofWord_cas_turn t c A n k F a b D dn dc W wn wc i (F i) b 1 hi hn rfl hb (neq h) (fun w => cas_yes (F i) 2 i a b D dn dc W wn wc w (eq_ hxa)) w hA
    · have e : isN 2 a b (F i) = F i := if_neg hxa
      have e' : toldN 2 a b (F i) = 0 := if_neg hxa
      rw [e, e', setW_self rfl]
      exact ofWord_cas_same t c A n k F a b D dn dc W wn wc i (F i) (F i) 0 hi hn rfl hx (eq_ rfl) (fun w => cas_no (F i) 2 i a b D dn dc W wn wc w (neq hxa)) w hA
  · have e : isN 3 a b (F i) = (F i + a) % 18446744073709551616 := rfl
    rw [e]
    have hs : IntKind.u64.wrap ((F i : Int) + (a : Int)) = (((F i + a) % 18446744073709551616 : Nat) : Int) := by rw [IntKind.wrap_u64]; omega
    have hlt : (F i + a) % 18446744073709551616 < 18446744073709551616 := Nat.mod_lt _ (by omega)
    by_cases h : (F i + a) % 18446744073709551616 = F i
    · rw [setW_self h.symm]
      exact ofWord_add_same t c A n k F a b D dn dc W wn wc i (F i) _ (F i) hi hn rfl hlt (eq_ h) (fun w => add_at (F i) 3 i a b D dn dc W wn wc w _ hs) w hA
    · exact ofWord_add_turn t c A n k F a b D dn dc W wn wc i (F i) _ (F i) hi hn rfl hlt (neq h) (fun w => add_at (F i) 3 i a b D dn dc W wn wc w _ hs) w hA
  · have e : isN 4 a b (F i) = a := rfl
    rw [e]
    by_cases h : a = F i
    · rw [setW_self h.symm]
      exact ofWord_swap_same t c A n k F a b D dn dc W wn wc i (F i) a (F i) hi hn rfl ha (eq_ h) (fun w => swap_at (F i) 4 i a b D dn dc W wn wc w) w hA
    · exact ofWord_swap_turn t c A n k F a b D dn dc W wn wc i (F i) a (F i) hi hn rfl ha (neq h) (fun w => swap_at (F i) 4 i a b D dn dc W wn wc w) w hA
theorem doWord (K i : Nat) (hK : K < 5) (hi : i < n) (hn : n ≤ 1000000) (hF : ∀ j, F j < 18446744073709551616) (ha : a < 18446744073709551616) (hb : b < 18446744073709551616) (fa : Bool) (w : World) (hA : Hid (AtW w A n F)) (h0 : Hid (StmsAt w R m l0)) (h1 : Hid (StmsAt w S m l1)) :
    Calls Tryd.prog 15 #[.agg #[.int .i64 t, .int .i64 c, .slice A n k, .int .u64 (r : Int), .slice R m ra, .slice S m sa], .int .i64 me, .agg #[.int .i64 (K : Int), .int .i64 (i : Int), .int .u64 (a : Int), .int .u64 (b : Int), .slice D dn dc, .slice W wn wc], .bool fa] w (DoW w t c A n r R S m (setW F i (isN K a b (F i))) l0 l1 (toldN K a b (F i)) [] false) :=
  do_word t c A n k F r R S m ra sa l0 l1 me K i a b D dn dc W wn wc (by unfold diskB; rw [decide_eq_false (by omega)]; rfl) (by rw [beq_eq_false_iff_ne]; omega) fa _ _ (fun w h => ofWord_yes t c A n k F a b D dn dc W wn wc K i hK hi hn hF ha hb w h) w hA h0 h1
end

/-! ### Whatever the access -/
section
variable (t c : Int) (A : Option Addr) (n k : Nat) (F : Nat → Nat) (r : Nat) (R S : Option Addr) (m ra sa : Nat) (l0 l1 : List Stm) (me ki i : Int) (a b : Nat) (D : Option Addr) (dn dc : Nat) (ys : List Nat) (W : Option Addr) (wn wc : Nat) (ws : Nat → Nat) (fa : Bool)
/-- A call of Do, told by letters. -/
def DoCalls (fn : Nat) (r1 : Nat) (G : Nat → Nat) (P0 P1 : List Stm) (N : Nat) (xs : List Nat) (fl : Bool) : Prop :=
  ∀ w, Hid (AtW w A n F) → Hid (StmsAt w R m l0) → Hid (StmsAt w S m l1) → Hid (AtB w D dn ys) → Hid (AtW w W wn ws) →
    Calls Tryd.prog fn #[.agg #[.int .i64 t, .int .i64 c, .slice A n k, .int .u64 (r : Int), .slice R m ra, .slice S m sa], .int .i64 me, .agg #[.int .i64 ki, .int .i64 i, .int .u64 (a : Int), .int .u64 (b : Int), .slice D dn dc, .slice W wn wc], .bool fa] w (DoW w t c A n r1 R S m G P0 P1 N xs fl)
/-- What is known of it. -/
structure DoGood (r1 : Nat) (G : Nat → Nat) (P0 P1 : List Stm) (N : Nat) (xs : List Nat) (fl : Bool) : Prop where
  good : GoodD m P0 P1
  fails : fl = (fa && diskB ki)
  words : diskB ki = false → r1 = r ∧ P0 = l0 ∧ P1 = l1
  failed : fl = true → r1 = r ∧ P0 = l0 ∧ P1 = l1 ∧ N = 0 ∧ xs = []
  one : ki ≠ 13 → G = F ∨ ∃ q v : Nat, i = (q : Int) ∧ q < n ∧ 0 ≤ ki ∧ ki ≤ 4 ∧ G = setW F q v
end
end Go.Proofs.YtdbomlclkhkinaaDoor
