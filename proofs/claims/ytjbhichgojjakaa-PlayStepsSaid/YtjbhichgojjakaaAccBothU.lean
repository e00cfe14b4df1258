/-
  access.Do and the document's own Do, whatever the access: one answer for all places in memory; how streams grow. (Out of AccBoth.)
-/
import Derived.Test.YtjbhichgojjakaaAccBoth
namespace Go.Proofs.Ytjbhichgojjakaa
open Go.ChangeShapes Go.WideShapes Go.ChangeAt Go.RowKit
set_option linter.unusedVariables false
set_option maxRecDepth 100000

/-- Streams are longer by so much at most. -/
def Grow (j : Nat) (l0 l1 P0 P1 : List Stm) : Prop := ∀ K, (∀ x ∈ l0, x.bytes.length ≤ K) → (∀ x ∈ l1, x.bytes.length ≤ K) → (∀ x ∈ P0, x.bytes.length ≤ K + j) ∧ ∀ x ∈ P1, x.bytes.length ≤ K + j
theorem Grow.same {l0 l1 : List Stm} (j : Nat) : Grow j l0 l1 l0 l1 := fun K h0 h1 => ⟨fun x hx => Nat.le_trans (h0 x hx) (Nat.le_add_right _ _), fun x hx => Nat.le_trans (h1 x hx) (Nat.le_add_right _ _)⟩
theorem Grow.le {j j' : Nat} {l0 l1 P0 P1 : List Stm} (h : Grow j l0 l1 P0 P1) (hj : j ≤ j') : Grow j' l0 l1 P0 P1 := fun K h0 h1 => ⟨fun x hx => Nat.le_trans ((h K h0 h1).1 x hx) (by omega), fun x hx => Nat.le_trans ((h K h0 h1).2 x hx) (by omega)⟩
theorem Grow.set0 {j : Nat} {l0 l1 : List Stm} (k : Nat) {x y : Stm} (hx : l0[k]? = some x) (hy : y.bytes.length ≤ x.bytes.length + j) : Grow j l0 l1 (l0.set k y) l1 := fun K h0 h1 =>
  ⟨fun z hz => by
    rcases List.mem_or_eq_of_mem_set hz with hz | rfl
    · have := h0 z hz; omega
    · have := h0 x (List.mem_of_getElem? hx); omega, fun z hz => by have := h1 z hz; omega⟩
theorem Grow.set1 {j : Nat} {l0 l1 : List Stm} (k : Nat) {x y : Stm} (hx : l1[k]? = some x) (hy : y.bytes.length ≤ x.bytes.length + j) : Grow j l0 l1 l0 (l1.set k y) := fun K h0 h1 =>
  ⟨fun z hz => by have := h0 z hz; omega, fun z hz => by
    rcases List.mem_or_eq_of_mem_set hz with hz | rfl
    · have := h1 z hz; omega
    · have := h1 x (List.mem_of_getElem? hx); omega⟩
theorem Grow.zero0 {j : Nat} {l0 l1 : List Stm} (n : Nat) : Grow j l0 l1 (zerosS n) l1 := fun K h0 h1 =>
  ⟨fun z hz => by unfold zerosS at hz; obtain rfl := List.eq_of_mem_replicate hz; exact Nat.zero_le _, fun z hz => by have := h1 z hz; omega⟩
theorem Grow.zero1 {j : Nat} {l0 l1 : List Stm} (n : Nat) : Grow j l0 l1 l0 (zerosS n) := fun K h0 h1 =>
  ⟨fun z hz => by have := h0 z hz; omega, fun z hz => by unfold zerosS at hz; obtain rfl := List.eq_of_mem_replicate hz; exact Nat.zero_le _⟩
theorem app_len (x : Stm) (ys : List Nat) {j : Nat} (h : ys.length = j) : (x.app ys).bytes.length ≤ x.bytes.length + j := by unfold Stm.app; simp; omega
theorem told_lt {F : Nat → Nat} {K a b q : Nat} (hF : ∀ j, F j < 18446744073709551616) (ha : a < 18446744073709551616) : toldN K a b (F q) < 18446744073709551616 := by
  unfold toldN
  have := hF q
  split
  · decide
  · split
    · split <;> decide
    · exact this
structure DoGrow (r dn : Nat) (l0 l1 : List Stm) (r1 : Nat) (P0 P1 : List Stm) (N : Nat) (xs : List Nat) : Prop where
  grow : Grow dn l0 l1 P0 P1
  root : r1 < 18446744073709551616
  told : N < 18446744073709551616
  read : ∀ K, (∀ x ∈ l0, x.bytes.length ≤ K) → (∀ x ∈ l1, x.bytes.length ≤ K) → xs.length ≤ K
section
variable (r : Int) (n : Nat) (l0 l1 : List Stm) (row i : Int)
theorem appendBothU (j : Nat) (ys : List Nat) (hys : ys.length = j) (hg : GoodD n l0 l1) (hn : n ≤ 8) (hx0 : ∀ x ∈ l0, x.bytes.length ≤ 100000) (hx1 : ∀ x ∈ l1, x.bytes.length ≤ 100000) (hj : j ≤ 100000) : ∃ (P0 P1 : List Stm) (c : Int), GoodD n P0 P1 ∧ Grow j l0 l1 P0 P1 ∧
    (∀ (A : Option Addr) (a : Nat) (B : Option Addr) (b : Nat) (C : Option Addr) (jc : Nat) (w : World), Hid (StmsAt w A n l0) → Hid (StmsAt w B n l1) → Hid (AtB w C j ys) → Calls Try.prog 57 #[.agg #[.int .u64 r, .slice A n a, .slice B n b], .int .i64 row, .int .i64 i, .slice C j jc] w (DskPostC w r A B n n P0 P1 c)) ∧
    (∀ (A : Option Addr) (a : Nat) (B : Option Addr) (b : Nat) (C : Option Addr) (jc : Nat) (w : World), Hid (StmsAt w A n l0) → Hid (StmsAt w B n l1) → Hid (AtB w C j ys) → Calls Try.prog 42 #[.agg #[.int .u64 r, .slice A n a, .slice B n b], .int .i64 row, .int .i64 i, .slice C j jc] w (DskPostC w r A B n n P0 P1 c)) := by
  obtain ⟨hl0, hl1, g0, g1⟩ := hg
  rcases has_cases row i n with ⟨rfl, k, rfl, hk⟩ | ⟨rfl, k, rfl, hk⟩ | ⟨h1, h2⟩
  · have hx : l0[k]? = some (l0[k]'(by omega)) := List.getElem?_eq_getElem _
    have hb := hx0 _ (List.mem_of_getElem? hx)
    exact ⟨_, _, _, ⟨by rw [List.length_set]; exact hl0, hl1, allB_set g0 k (right_app (allB_at g0 hx) ys), g1⟩, Grow.set0 k hx (app_len _ ys hys), fun A a B b C jc w g0 g1 g2 => dskAppend0_at r A n a B n b l0 l1 k hk (by omega) _ hx C jc j ys (by omega) w g0 g1 g2, fun A a B b C jc w g0 g1 g2 => refAppend0_at r A n a B n b l0 l1 k hk hk (by omega) _ hx C jc j ys (by omega) w g0 g1 g2⟩
  · have hx : l1[k]? = some (l1[k]'(by omega)) := List.getElem?_eq_getElem _
    have hb := hx1 _ (List.mem_of_getElem? hx)
    exact ⟨_, _, _, ⟨hl0, by rw [List.length_set]; exact hl1, g0, allB_set g1 k (right_app (allB_at g1 hx) ys)⟩, Grow.set1 k hx (app_len _ ys hys), fun A a B b C jc w g0 g1 g2 => dskAppend1_at r A n a B n b l0 l1 k hk (by omega) _ hx C jc j ys (by omega) w g0 g1 g2, fun A a B b C jc w g0 g1 g2 => refAppend1_at r A n a B n b l0 l1 k hk hk (by omega) _ hx C jc j ys (by omega) w g0 g1 g2⟩
  · exact ⟨_, _, _, ⟨hl0, hl1, g0, g1⟩, Grow.same _, fun A a B b C jc w g0 g1 _ => dskAppend_no r A n a B n b l0 l1 row i h1 C jc j w g0 g1, fun A a B b C jc w g0 g1 _ => refAppend_no r A n a B n b l0 l1 row i h2 C jc j w g0 g1⟩
theorem syncBothU (hg : GoodD n l0 l1) (hn : n ≤ 8) : ∃ (P0 P1 : List Stm) (c : Int), GoodD n P0 P1 ∧ Grow 0 l0 l1 P0 P1 ∧
    (∀ (A : Option Addr) (a : Nat) (B : Option Addr) (b : Nat) (w : World), Hid (StmsAt w A n l0) → Hid (StmsAt w B n l1) → Calls Try.prog 58 #[.agg #[.int .u64 r, .slice A n a, .slice B n b], .int .i64 row, .int .i64 i] w (DskPostC w r A B n n P0 P1 c)) ∧
    (∀ (A : Option Addr) (a : Nat) (B : Option Addr) (b : Nat) (w : World), Hid (StmsAt w A n l0) → Hid (StmsAt w B n l1) → Calls Try.prog 43 #[.agg #[.int .u64 r, .slice A n a, .slice B n b], .int .i64 row, .int .i64 i] w (DskPostC w r A B n n P0 P1 c)) := by
  obtain ⟨hl0, hl1, g0, g1⟩ := hg
  rcases has_cases row i n with ⟨rfl, k, rfl, hk⟩ | ⟨rfl, k, rfl, hk⟩ | ⟨h1, h2⟩
  · have hx : l0[k]? = some (l0[k]'(by omega)) := List.getElem?_eq_getElem _
    exact ⟨_, _, _, ⟨by rw [List.length_set]; exact hl0, hl1, allB_set g0 k (right_syn _), g1⟩, Grow.set0 k hx (Nat.le_refl _), fun A a B b w g0 g1 => dskSync0_at r A n a B n b l0 l1 k hk (by omega) _ hx w g0 g1, fun A a B b w g0 g1 => refSync0_at r A n a B n b l0 l1 k hk hk (by omega) _ hx w g0 g1⟩
  · have hx : l1[k]? = some (l1[k]'(by omega)) := List.getElem?_eq_getElem _
    exact ⟨_, _, _, ⟨hl0, by rw [List.length_set]; exact hl1, g0, allB_set g1 k (right_syn _)⟩, Grow.set1 k hx (Nat.le_refl _), fun A a B b w g0 g1 => dskSync1_at r A n a B n b l0 l1 k hk (by omega) _ hx w g0 g1, fun A a B b w g0 g1 => refSync1_at r A n a B n b l0 l1 k hk hk (by omega) _ hx w g0 g1⟩
  · exact ⟨_, _, _, ⟨hl0, hl1, g0, g1⟩, Grow.same _, fun A a B b w g0 g1 => dskSync_no r A n a B n b l0 l1 row i h1 w g0 g1, fun A a B b w g0 g1 => refSync_no r A n a B n b l0 l1 row i h2 w g0 g1⟩
theorem readBothU (hg : GoodD n l0 l1) : ∃ (xs : List Nat) (c : Int), (∀ K, (∀ x ∈ l0, x.bytes.length ≤ K) → (∀ x ∈ l1, x.bytes.length ≤ K) → xs.length ≤ K) ∧
    (∀ (A : Option Addr) (a : Nat) (B : Option Addr) (b : Nat) (w : World), Hid (StmsAt w A n l0) → Hid (StmsAt w B n l1) → Calls Try.prog 59 #[.agg #[.int .u64 r, .slice A n a, .slice B n b], .int .i64 row, .int .i64 i] w (ReadPostC w A n B n xs c)) ∧
    (∀ (A : Option Addr) (a : Nat) (B : Option Addr) (b : Nat) (w : World), Hid (StmsAt w A n l0) → Hid (StmsAt w B n l1) → Calls Try.prog 44 #[.agg #[.int .u64 r, .slice A n a, .slice B n b], .int .i64 row, .int .i64 i] w (ReadPostC w A n B n xs c)) := by
  obtain ⟨hl0, hl1, g0, g1⟩ := hg
  rcases has_cases row i n with ⟨rfl, k, rfl, hk⟩ | ⟨rfl, k, rfl, hk⟩ | ⟨h1, h2⟩
  · have hx : l0[k]? = some (l0[k]'(by omega)) := List.getElem?_eq_getElem _
    exact ⟨_, _, fun K h0 _ => h0 _ (List.mem_of_getElem? hx), fun A a B b w g0 g1 => dskReadC0_at r A n a B n b l0 l1 k hk _ hx w g0 g1, fun A a B b w g0 g1 => refReadC0_at r A n a B n b l0 l1 k hk hk _ hx w g0 g1⟩
  · have hx : l1[k]? = some (l1[k]'(by omega)) := List.getElem?_eq_getElem _
    exact ⟨_, _, fun K _ h1 => h1 _ (List.mem_of_getElem? hx), fun A a B b w g0 g1 => dskReadC1_at r A n a B n b l0 l1 k hk _ hx w g0 g1, fun A a B b w g0 g1 => refReadC1_at r A n a B n b l0 l1 k hk hk _ hx w g0 g1⟩
  · exact ⟨_, _, fun K _ _ => Nat.zero_le _, fun A a B b w g0 g1 => dskReadC_no r A n a B n b row i h1 w, fun A a B b w g0 g1 => refReadC_no r A n a B n b row i h2 w⟩
theorem clearBothU (hg : GoodD n l0 l1) (hn : n ≤ 8) : ∃ (P0 P1 : List Stm) (c : Int), GoodD n P0 P1 ∧ Grow 0 l0 l1 P0 P1 ∧
    (∀ (A : Option Addr) (a : Nat) (B : Option Addr) (b : Nat) (w : World), Hid (StmsAt w A n l0) → Hid (StmsAt w B n l1) → Calls Try.prog 60 #[.agg #[.int .u64 r, .slice A n a, .slice B n b], .int .i64 row] w (DskPostC w r A B n n P0 P1 c)) ∧
    (∀ (A : Option Addr) (a : Nat) (B : Option Addr) (b : Nat) (w : World), Hid (StmsAt w A n l0) → Hid (StmsAt w B n l1) → Calls Try.prog 45 #[.agg #[.int .u64 r, .slice A n a, .slice B n b], .int .i64 row] w (DskPostC w r A B n n P0 P1 c)) := by
  obtain ⟨hl0, hl1, g0, g1⟩ := hg
  by_cases h : rowB row = true
  · rcases rowB_iff h with rfl | rfl
    · exact ⟨_, _, _, ⟨by unfold zerosS; simp, hl1, allB_zeros n, g1⟩, Grow.zero0 n, fun A a B b w g0 g1 => dskClear0_at r A n a B n b l0 l1 (by omega) w g0 g1, fun A a B b w g0 g1 => refClear0_at r A n a B n b l0 l1 (by omega) w g0 g1⟩
    · exact ⟨_, _, _, ⟨hl0, by unfold zerosS; simp, g0, allB_zeros n⟩, Grow.zero1 n, fun A a B b w g0 g1 => dskClear1_at r A n a B n b l0 l1 (by omega) w g0 g1, fun A a B b w g0 g1 => refClear1_at r A n a B n b l0 l1 (by omega) w g0 g1⟩
  · have h' : rowB row = false := by simpa using h
    exact ⟨_, _, _, ⟨hl0, hl1, g0, g1⟩, Grow.same _, fun A a B b w g0 g1 => dskClear_no r A n a B n b l0 l1 row h' w g0 g1, fun A a B b w g0 g1 => refClear_no r A n a B n b l0 l1 row h' w g0 g1⟩
end
section
variable (t c : Int) (n : Nat) (F : Nat → Nat) (r : Nat) (m : Nat) (l0 l1 : List Stm) (me ki i : Int) (a b : Nat) (dn : Nat) (ys : List Nat) (wn : Nat) (ws : Nat → Nat) (fa : Bool)
set_option maxHeartbeats 1000000 in
theorem doBothU (hr : r < 18446744073709551616) (hn : n ≤ 1000000) (hn0 : 0 < n) (hF : ∀ j, F j < 18446744073709551616) (ha : a < 18446744073709551616) (hb : b < 18446744073709551616) (hm1 : 1 ≤ m) (hm8 : m ≤ 8) (hg : GoodD m l0 l1)
    (hx0 : ∀ x ∈ l0, x.bytes.length ≤ 100000) (hx1 : ∀ x ∈ l1, x.bytes.length ≤ 100000) (hdn : dn ≤ 100000) (hys : ys.length = dn) :
    ∃ r1 G P0 P1 N xs fl, DoGood n F r m l0 l1 ki i fa r1 G P0 P1 N xs fl ∧ DoGrow r dn l0 l1 r1 P0 P1 N xs ∧ (∀ (A : Option Addr) (k : Nat) (R S : Option Addr) (ra sa : Nat) (D : Option Addr) (dc : Nat) (W : Option Addr) (wc : Nat), DoCalls t c A n k F r R S m ra sa l0 l1 me ki i a b D dn dc ys W wn wc ws fa 10 r1 G P0 P1 N xs fl) ∧ ∀ (A : Option Addr) (k : Nat) (R S : Option Addr) (ra sa : Nat) (D : Option Addr) (dc : Nat) (W : Option Addr) (wc : Nat), DoCalls t c A n k F r R S m ra sa l0 l1 me ki i a b D dn dc ys W wn wc ws fa 19 r1 G P0 P1 N xs fl := by
  have hp : (1 : Int) - ((r % 2 : Nat) : Int) = ((1 - r % 2 : Nat) : Int) := by omega
  by_cases hd : diskB ki = true
  · have h5 : 5 ≤ ki ∧ ki ≤ 12 := by
      unfold diskB at hd
      simpa using hd
    cases fa with
    | true =>
      refine ⟨r, F, l0, l1, 0, [], true, ⟨hg, (by rw [hd]; rfl), (fun h => by rw [hd] at h; cases h), fun _ => ⟨rfl, rfl, rfl, rfl, rfl⟩, fun _ => .inl rfl⟩, ⟨Grow.same _, hr, by decide, fun K _ _ => Nat.zero_le K⟩, fun A k R S ra sa D dc W wc w hA h0 h1 _ _ => ?_, fun A k R S ra sa D dc W wc w hA h0 h1 _ _ => ?_⟩
      · exact do_fails t c A n k F r R S m ra sa l0 l1 me ki i a b D dn dc W wn wc hd w hA h0 h1
      · exact refDo_fails t c A n k F r hr R S m ra sa l0 l1 _ _ rfl hp me a b D dn dc W wn wc ki i (decide_eq_true h5.1) (decide_eq_true h5.2) w hA h0 h1
    | false =>
      have hgood : ∀ {r1 : Nat} {P0 P1 : List Stm} {N : Nat} {xs : List Nat}, GoodD m P0 P1 → DoGood n F r m l0 l1 ki i false r1 F P0 P1 N xs false := fun g => ⟨g, rfl, (fun h => by rw [hd] at h; cases h), (fun h => by cases h), fun _ => .inl rfl⟩
      obtain rfl | rfl | rfl | rfl | rfl | rfl | rfl | rfl : ki = 5 ∨ ki = 6 ∨ ki = 7 ∨ ki = 8 ∨ ki = 9 ∨ ki = 10 ∨ ki = 11 ∨ ki = 12 := by omega
      · obtain ⟨P0, P1, cd, g, gw, H1, H2⟩ := appendBothU (r : Int) m l0 l1 ((r % 2 : Nat) : Int) me dn ys hys hg hm8 hx0 hx1 hdn
        exact ⟨r, F, P0, P1, 0, [], false, hgood g, ⟨gw, hr, by decide, fun K _ _ => Nat.zero_le K⟩, fun A k R S ra sa D dc W wc w hA h0 h1 hD _ => do_disk t c A n k F r R S m ra sa l0 l1 me 5 i a b D dn dc W wn wc hd false rfl ys r 0 P0 P1 [] (fun w g0 g1 g2 => ofDisk_append r hr R S m ra sa l0 l1 _ _ rfl hp me i a b D dn dc W wn wc P0 P1 cd ys (H1 R ra S sa D dc) w g0 g1 g2) w hA h0 h1 hD,
          fun A k R S ra sa D dc W wc w hA h0 h1 hD _ => refDo_append t c A n k F r hr R S m ra sa l0 l1 _ _ rfl hp me a b D dn dc W wn wc i P0 P1 cd ys (H2 R ra S sa D dc) w hA h0 h1 hD⟩
      · obtain ⟨P0, P1, cd, g, gw, H1, H2⟩ := syncBothU (r : Int) m l0 l1 ((r % 2 : Nat) : Int) me hg hm8
        exact ⟨r, F, P0, P1, 0, [], false, hgood g, ⟨gw.le (Nat.zero_le _), hr, by decide, fun K _ _ => Nat.zero_le K⟩, fun A k R S ra sa D dc W wc w hA h0 h1 hD _ => do_disk t c A n k F r R S m ra sa l0 l1 me 6 i a b D dn dc W wn wc hd false rfl ys r 0 P0 P1 [] (fun w g0 g1 _ => ofDisk_sync r hr R S m ra sa l0 l1 _ _ rfl hp me i a b D dn dc W wn wc P0 P1 cd ys (H1 R ra S sa) w g0 g1) w hA h0 h1 hD,
          fun A k R S ra sa D dc W wc w hA h0 h1 hD _ => refDo_sync t c A n k F r hr R S m ra sa l0 l1 _ _ rfl hp me a b D dn dc W wn wc i P0 P1 cd ys (H2 R ra S sa) w hA h0 h1⟩
      · exact ⟨r, F, l0, l1, r, [], false, hgood hg, ⟨Grow.same _, hr, hr, fun K _ _ => Nat.zero_le K⟩, fun A k R S ra sa D dc W wc w hA h0 h1 hD _ => do_disk t c A n k F r R S m ra sa l0 l1 me 7 i a b D dn dc W wn wc hd false rfl ys r r l0 l1 [] (fun w g0 g1 _ => ofDisk_root r hr R S m ra sa l0 l1 _ _ rfl hp me i a b D dn dc W wn wc w g0 g1) w hA h0 h1 hD,
          fun A k R S ra sa D dc W wc w hA h0 h1 hD _ => refDo_root t c A n k F r hr R S m ra sa l0 l1 _ _ rfl hp me a b D dn dc W wn wc i w hA h0 h1⟩
      · obtain ⟨xs, cd, gx, H1, H2⟩ := readBothU (r : Int) m l0 l1 ((r % 2 : Nat) : Int) i hg
        exact ⟨r, F, l0, l1, 0, xs, false, hgood hg, ⟨Grow.same _, hr, by decide, gx⟩, fun A k R S ra sa D dc W wc w hA h0 h1 hD _ => do_disk t c A n k F r R S m ra sa l0 l1 me 8 i a b D dn dc W wn wc hd false rfl ys r 0 l0 l1 xs (fun w g0 g1 _ => ofDisk_read r hr R S m ra sa l0 l1 _ _ rfl hp me i a b D dn dc W wn wc xs cd (H1 R ra S sa) w g0 g1) w hA h0 h1 hD,
          fun A k R S ra sa D dc W wc w hA h0 h1 hD _ => refDo_read t c A n k F r hr R S m ra sa l0 l1 _ _ rfl hp me a b D dn dc W wn wc i xs cd (H2 R ra S sa) w hA h0 h1⟩
      · obtain ⟨P0, P1, cd, g, gw, H1, H2⟩ := clearBothU (r : Int) m l0 l1 ((1 - r % 2 : Nat) : Int) hg hm8
        exact ⟨r, F, P0, P1, 0, [], false, hgood g, ⟨gw.le (Nat.zero_le _), hr, by decide, fun K _ _ => Nat.zero_le K⟩, fun A k R S ra sa D dc W wc w hA h0 h1 hD _ => do_disk t c A n k F r R S m ra sa l0 l1 me 9 i a b D dn dc W wn wc hd false rfl ys r 0 P0 P1 [] (fun w g0 g1 _ => ofDisk_clear r hr R S m ra sa l0 l1 _ _ rfl hp me i a b D dn dc W wn wc P0 P1 cd ys (H1 R ra S sa) w g0 g1) w hA h0 h1 hD,
          fun A k R S ra sa D dc W wc w hA h0 h1 hD _ => refDo_clear t c A n k F r hr R S m ra sa l0 l1 _ _ rfl hp me a b D dn dc W wn wc i P0 P1 cd ys (H2 R ra S sa) w hA h0 h1⟩
      · obtain ⟨P0, P1, cd, g, gw, H1, H2⟩ := appendBothU (r : Int) m l0 l1 ((1 - r % 2 : Nat) : Int) 0 dn ys hys hg hm8 hx0 hx1 hdn
        exact ⟨r, F, P0, P1, 0, [], false, hgood g, ⟨gw, hr, by decide, fun K _ _ => Nat.zero_le K⟩, fun A k R S ra sa D dc W wc w hA h0 h1 hD _ => do_disk t c A n k F r R S m ra sa l0 l1 me 10 i a b D dn dc W wn wc hd false rfl ys r 0 P0 P1 [] (fun w g0 g1 g2 => ofDisk_write r hr R S m ra sa l0 l1 _ _ rfl hp me i a b D dn dc W wn wc P0 P1 cd ys (H1 R ra S sa D dc) w g0 g1 g2) w hA h0 h1 hD,
          fun A k R S ra sa D dc W wc w hA h0 h1 hD _ => refDo_write t c A n k F r hr R S m ra sa l0 l1 _ _ rfl hp me a b D dn dc W wn wc i P0 P1 cd ys (H2 R ra S sa D dc) w hA h0 h1 hD⟩
      · obtain ⟨P0, P1, cd, g, gw, H1, H2⟩ := syncBothU (r : Int) m l0 l1 ((1 - r % 2 : Nat) : Int) 0 hg hm8
        exact ⟨r, F, P0, P1, 0, [], false, hgood g, ⟨gw.le (Nat.zero_le _), hr, by decide, fun K _ _ => Nat.zero_le K⟩, fun A k R S ra sa D dc W wc w hA h0 h1 hD _ => do_disk t c A n k F r R S m ra sa l0 l1 me 11 i a b D dn dc W wn wc hd false rfl ys r 0 P0 P1 [] (fun w g0 g1 _ => ofDisk_flush r hr R S m ra sa l0 l1 _ _ rfl hp me i a b D dn dc W wn wc P0 P1 cd ys (H1 R ra S sa) w g0 g1) w hA h0 h1 hD,
          fun A k R S ra sa D dc W wc w hA h0 h1 hD _ => refDo_flush t c A n k F r hr R S m ra sa l0 l1 _ _ rfl hp me a b D dn dc W wn wc i P0 P1 cd ys (H2 R ra S sa) w hA h0 h1⟩
      · have hs : IntKind.u64.wrap ((r : Int) + 1) = (((r + 1) % 18446744073709551616 : Nat) : Int) := by rw [IntKind.wrap_u64]; omega
        exact ⟨_, F, l0, l1, 0, [], false, hgood hg, ⟨Grow.same _, Nat.mod_lt _ (by decide), by decide, fun K _ _ => Nat.zero_le K⟩, fun A k R S ra sa D dc W wc w hA h0 h1 hD _ => do_disk t c A n k F r R S m ra sa l0 l1 me 12 i a b D dn dc W wn wc hd false rfl ys _ 0 l0 l1 [] (fun w g0 g1 _ => ofDisk_setroot r hr R S m ra sa l0 l1 _ _ rfl hp me i a b D dn dc W wn wc _ hs w g0 g1) w hA h0 h1 hD,
          fun A k R S ra sa D dc W wc w hA h0 h1 hD _ => refDo_setroot t c A n k F r hr R S m ra sa l0 l1 _ _ rfl hp me a b D dn dc W wn wc i _ hs w hA h0 h1⟩
  · have hd' : diskB ki = false := by simpa using hd
    by_cases h13 : ki = 13
    · subst h13
      by_cases hw : wn = n
      · subst hw
        refine ⟨r, ws, l0, l1, 0, [], false, ⟨hg, (by rw [hd', Bool.and_false]), fun _ => ⟨rfl, rfl, rfl⟩, (fun h => by cases h), fun h => absurd rfl h⟩, ⟨Grow.same _, hr, by decide, fun K _ _ => Nat.zero_le K⟩, fun A k R S ra sa D dc W wc w hA h0 h1 _ hW => ?_, fun A k R S ra sa D dc W wc w hA h0 h1 _ hW => ?_⟩
        · exact do_install t c A wn k F r R S m ra sa l0 l1 me 13 i a b D dn dc W wn wc hd' rfl fa ws ws (fun w _ g => install_yes t c A wn k W wc ws hn0 hn w g) w hA h0 h1 hW
        · exact refDo_install_yes t c A wn k F r hr R S m ra sa l0 l1 _ _ rfl hp me a b D dn dc W wc i fa ws hn0 hn w hA h0 h1 hW
      · have hne : ((wn : Int) == (n : Int)) = false := by rw [beq_eq_false_iff_ne]; omega
        refine ⟨r, F, l0, l1, 0, [], false, ⟨hg, (by rw [hd', Bool.and_false]), fun _ => ⟨rfl, rfl, rfl⟩, (fun h => by cases h), fun h => absurd rfl h⟩, ⟨Grow.same _, hr, by decide, fun K _ _ => Nat.zero_le K⟩, fun A k R S ra sa D dc W wc w hA h0 h1 _ hW => ?_, fun A k R S ra sa D dc W wc w hA h0 h1 _ hW => ?_⟩
        · exact do_install t c A n k F r R S m ra sa l0 l1 me 13 i a b D dn dc W wn wc hd' rfl fa F ws (fun w g _ => install_no t c A n k F W wn wc hne w g) w hA h0 h1 hW
        · exact refDo_install_no t c A n k F r hr R S m ra sa l0 l1 _ _ rfl hp me a b D dn dc W wn wc i fa hne w hA h0 h1
    · have h13' : (ki == 13) = false := by rw [beq_eq_false_iff_ne]; exact h13
      have hnd : ¬ (5 ≤ ki ∧ ki ≤ 12) := fun h => hd (by unfold diskB; simp [h.1, h.2])
      have hgood : ∀ {G : Nat → Nat} {N : Nat}, (G = F ∨ ∃ q v : Nat, i = (q : Int) ∧ q < n ∧ 0 ≤ ki ∧ ki ≤ 4 ∧ G = setW F q v) → DoGood n F r m l0 l1 ki i fa r G l0 l1 N [] false := fun g => ⟨hg, (by rw [hd', Bool.and_false]), fun _ => ⟨rfl, rfl, rfl⟩, (fun h => by cases h), fun _ => g⟩
      have he : ∀ j : Int, 5 ≤ j → j ≤ 13 → (ki == j) = false := fun j h1 h2 => by rw [beq_eq_false_iff_ne]; omega
      by_cases ha' : ki < 0
      · exact ⟨r, F, l0, l1, 0, [], false, hgood (.inl rfl), ⟨Grow.same _, hr, by decide, fun K _ _ => Nat.zero_le K⟩, fun A k R S ra sa D dc W wc w hA h0 h1 _ _ => do_word t c A n k F r R S m ra sa l0 l1 me ki i a b D dn dc W wn wc hd' h13' fa F 0 (fun w g => ofWord_no_a t c A n k F a b D dn dc W wn wc ki i (decide_eq_true ha') w g) w hA h0 h1,
          fun A k R S ra sa D dc W wc w hA h0 h1 _ _ => refDo_none_a t c A n k F r hr R S m ra sa l0 l1 _ _ rfl hp me a b D dn dc W wn wc ki i fa (decide_eq_false (by omega)) (decide_eq_true ha') (he 5 (by omega) (by omega)) (he 6 (by omega) (by omega)) (he 7 (by omega) (by omega)) (he 8 (by omega) (by omega)) (he 9 (by omega) (by omega)) (he 10 (by omega) (by omega)) (he 11 (by omega) (by omega)) (he 12 (by omega) (by omega)) (he 13 (by omega) (by omega)) w hA h0 h1⟩
      by_cases hb' : 5 ≤ ki
      · exact ⟨r, F, l0, l1, 0, [], false, hgood (.inl rfl), ⟨Grow.same _, hr, by decide, fun K _ _ => Nat.zero_le K⟩, fun A k R S ra sa D dc W wc w hA h0 h1 _ _ => do_word t c A n k F r R S m ra sa l0 l1 me ki i a b D dn dc W wn wc hd' h13' fa F 0 (fun w g => ofWord_no_b t c A n k F a b D dn dc W wn wc ki i (decide_eq_false ha') (decide_eq_true hb') w g) w hA h0 h1,
          fun A k R S ra sa D dc W wc w hA h0 h1 _ _ => refDo_none_b t c A n k F r hr R S m ra sa l0 l1 _ _ rfl hp me a b D dn dc W wn wc ki i fa (decide_eq_true hb') (decide_eq_false (by omega)) (decide_eq_false ha') (decide_eq_true (by omega)) (he 5 (by omega) (by omega)) (he 6 (by omega) (by omega)) (he 7 (by omega) (by omega)) (he 8 (by omega) (by omega)) (he 9 (by omega) (by omega)) (he 10 (by omega) (by omega)) (he 11 (by omega) (by omega)) (he 12 (by omega) (by omega)) (he 13 (by omega) (by omega)) w hA h0 h1⟩
      by_cases hc' : i < 0
      · exact ⟨r, F, l0, l1, 0, [], false, hgood (.inl rfl), ⟨Grow.same _, hr, by decide, fun K _ _ => Nat.zero_le K⟩, fun A k R S ra sa D dc W wc w hA h0 h1 _ _ => do_word t c A n k F r R S m ra sa l0 l1 me ki i a b D dn dc W wn wc hd' h13' fa F 0 (fun w g => ofWord_no_c t c A n k F a b D dn dc W wn wc ki i (decide_eq_false ha') (decide_eq_false hb') (decide_eq_true hc') w g) w hA h0 h1,
          fun A k R S ra sa D dc W wc w hA h0 h1 _ _ => refDo_none_c t c A n k F r hr R S m ra sa l0 l1 _ _ rfl hp me a b D dn dc W wn wc ki i fa (decide_eq_false hb') (decide_eq_false ha') (decide_eq_false (by omega)) (decide_eq_true hc') (he 5 (by omega) (by omega)) (he 6 (by omega) (by omega)) (he 7 (by omega) (by omega)) (he 8 (by omega) (by omega)) (he 9 (by omega) (by omega)) (he 10 (by omega) (by omega)) (he 11 (by omega) (by omega)) (he 12 (by omega) (by omega)) (he 13 (by omega) (by omega)) w hA h0 h1⟩
      by_cases hd'' : (n : Int) ≤ i
      · exact ⟨r, F, l0, l1, 0, [], false, hgood (.inl rfl), ⟨Grow.same _, hr, by decide, fun K _ _ => Nat.zero_le K⟩, fun A k R S ra sa D dc W wc w hA h0 h1 _ _ => do_word t c A n k F r R S m ra sa l0 l1 me ki i a b D dn dc W wn wc hd' h13' fa F 0 (fun w g => ofWord_no_d t c A n k F a b D dn dc W wn wc ki i (decide_eq_false ha') (decide_eq_false hb') (decide_eq_false hc') (decide_eq_true hd'') w g) w hA h0 h1,
          fun A k R S ra sa D dc W wc w hA h0 h1 _ _ => refDo_none_d t c A n k F r hr R S m ra sa l0 l1 _ _ rfl hp me a b D dn dc W wn wc ki i fa (decide_eq_false hb') (decide_eq_false ha') (decide_eq_false (by omega)) (decide_eq_false hc') (decide_eq_true hd'') (he 5 (by omega) (by omega)) (he 6 (by omega) (by omega)) (he 7 (by omega) (by omega)) (he 8 (by omega) (by omega)) (he 9 (by omega) (by omega)) (he 10 (by omega) (by omega)) (he 11 (by omega) (by omega)) (he 12 (by omega) (by omega)) (he 13 (by omega) (by omega)) w hA h0 h1⟩
      obtain ⟨K, rfl⟩ := Int.eq_ofNat_of_zero_le (show 0 ≤ ki by omega)
      obtain ⟨q, rfl⟩ := Int.eq_ofNat_of_zero_le (show 0 ≤ i by omega)
      exact ⟨r, setW F q (isN K a b (F q)), l0, l1, toldN K a b (F q), [], false, hgood (.inr ⟨q, _, rfl, by omega, by omega, by omega, rfl⟩), ⟨Grow.same _, hr, told_lt hF ha, fun K _ _ => Nat.zero_le K⟩, fun A k R S ra sa D dc W wc w hA h0 h1 _ _ => doWord t c A n k F r R S m ra sa l0 l1 me a b D dn dc W wn wc K q (by omega) (by omega) hn hF ha hb fa w hA h0 h1,
        fun A k R S ra sa D dc W wc w hA h0 h1 _ _ => refWord t c A n k F r R S m ra sa l0 l1 me a b D dn dc W wn wc hr K q (by omega) (by omega) hn hF ha hb fa w hA h0 h1⟩
end
end Go.Proofs.Ytjbhichgojjakaa
