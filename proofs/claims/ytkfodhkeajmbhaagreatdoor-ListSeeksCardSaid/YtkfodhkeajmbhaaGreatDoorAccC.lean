/-
  Texts of one kind, one behind the other: AccOther, AccBoth, AccAt, AccKeep.
-/
import Derived.Test.YtkfodhkeajmbhaaGreatDoorAccDo
import Derived.Test.YtkfodhkeajmbhaaGreatDoorCllA
import Derived.Test.YtkfodhkeajmbhaaGreatDoorBase
import Derived.Test.YtkfodhkeajmbhaaGreatDoorAccRef
import Derived.Test.YtkfodhkeajmbhaaGreatDoorDskA
namespace Go.Proofs.YtkfodhkeajmbhaaGreatDoor
open Go.ChangeShapes Go.WideShapes Go.ChangeAt Go.RowKit
set_option linter.unusedVariables false
set_option maxRecDepth 100000

/-- Is a world right? -/
def rightW (t c : Int) (n : Nat) (l0 l1 : List Stm) : Bool := rightM t c n && (rightD l0 l1 && (((l0.length : Nat) : Int) == t))
section
variable (t c : Int) (A : Option Addr) (n k : Nat) (r : Nat) (R : Option Addr) (m0 ra : Nat) (S : Option Addr) (m1 sa : Nat) (l0 l1 : List Stm)
/-- Is a world right, and small, and a thread one of it? -/
def smallB (t c : Int) (n : Nat) (l0 l1 : List Stm) (me : Int) : Bool := fewD l0 l1 && (rightW t c n l0 l1 && (decide (n ≤ 600) && (decide (0 ≤ me) && decide (me < t))))
end
/-- Two worlds that read alike. -/
theorem sameW_at (t c : Int) (A B : Option Addr) (n ka kb : Nat) (G : Nat → Nat) (hn : n ≤ 140737488355328) (r : Nat) (R : Option Addr) (m0 ra : Nat) (S : Option Addr) (m1 sa : Nat) (R' : Option Addr) (ra' : Nat) (S' : Option Addr) (sa' : Nat) (l0 l1 : List Stm) (w : World)
    (hA : Hid (AtW w A n G)) (hB : Hid (AtW w B n G)) (h0 : Hid (StmsAt w R m0 l0)) (h1 : Hid (StmsAt w S m1 l1)) (h0' : Hid (StmsAt w R' m0 l0)) (h1' : Hid (StmsAt w S' m1 l1)) :
    Calls Tryz.prog 22 #[.agg #[.int .i64 t, .int .i64 c, .slice A n ka, .int .u64 (r : Int), .slice R m0 ra, .slice S m1 sa], .agg #[.int .i64 t, .int .i64 c, .slice B n kb, .int .u64 (r : Int), .slice R' m0 ra', .slice S' m1 sa']] w (Kept w (.bool true)) := by
  have K0 : Hid (Kp w [(1, [.int .i64 t, .int .i64 c, .slice B n kb, .int .u64 (r : Int), .slice R' m0 ra', .slice S' m1 sa']), (0, [.int .i64 t, .int .i64 c, .slice A n ka, .int .u64 (r : Int), .slice R m0 ra, .slice S m1 sa])] [] ((w.alloc (.cells #[.int .i64 t, .int .i64 c, .slice A n ka, .int .u64 (r : Int), .slice R m0 ra, .slice S m1 sa] 52)).alloc (.cells #[.int .i64 t, .int .i64 c, .slice B n kb, .int .u64 (r : Int), .slice R' m0 ra', .slice S' m1 sa'] 52))) :=
    Lib.hid (((Kp.nil w).var 0 rfl #[.int .i64 t, .int .i64 c, .slice A n ka, .int .u64 (r : Int), .slice R m0 ra, .slice S m1 sa] 52).var 1 (by simp) #[.int .i64 t, .int .i64 c, .slice B n kb, .int .u64 (r : Int), .slice R' m0 ra', .slice S' m1 sa'] 52)
  go_enter Tryz.func22, Tryz.ntmps22
  go_wp2_with fail
  refine (refSame_yes t c A B n ka kb G hn _ (Lib.hid (hA.out.later K0.out.bel)) (Lib.hid (hB.out.later K0.out.bel))).mono ?_
  rintro e w2 ⟨rfl, hb⟩
  have K2 := Lib.hid (K0.out.later hb)
  clear hb
  obtain ⟨_, ⟨c0, c1, c2, c3, c4, c5⟩, _⟩ := (K2.out.at_ (o := 0) (.tail _ (.head _))).six
  obtain ⟨_, ⟨d0, d1, d2, d3, d4, d5⟩, _⟩ := (K2.out.at_ (o := 1) (.head _)).six
  rw [Nat.add_zero] at c0 c1 c2 c3 c4 c5
  go_wp2_with fail
  refine (sameD_at (r : Int) R m0 ra S m1 sa R' ra' S' sa' l0 l1 _ (Lib.hid (h0.out.later K2.out.bel)) (Lib.hid (h1.out.later K2.out.bel)) (Lib.hid (h0'.out.later K2.out.bel)) (Lib.hid (h1'.out.later K2.out.bel))).mono ?_
  rintro e w3 ⟨rfl, hb⟩
  have K3 := Lib.hid (K2.out.later hb)
  clear hb
  go_wp2_with fail
  go_ret
  exact ⟨rfl, K3.out.bel⟩
/-- A new world. -/
def NewWd (w : World) (t c sz : Nat) (nf : Nat → Nat) (e : Ending) (w' : World) : Prop :=
  ∃ A k R ra S sa, e = .returned (.agg #[.int .i64 (t : Int), .int .i64 (c : Int), .slice A sz k, .int .u64 0, .slice R t ra, .slice S t sa]) ∧ AtW w' A sz nf ∧ StmsAt w' R t (zerosS t) ∧ StmsAt w' S t (zerosS t) ∧ Below w.heap.size w w' ∧
    ∀ P : Nat → Prop, (∀ b, w.heap.size ≤ b → P b) → OffW P A sz ∧ OffS P w' R t ∧ OffS P w' S t
set_option maxHeartbeats 2000000 in
theorem newWd_at (t c : Nat) (h1 : 1 ≤ t) (h2 : t ≤ 64) (h3 : c ≤ 65536) (w : World) : Calls Tryz.prog 15 #[.int .i64 (t : Int), .int .i64 (c : Int)] w (NewWd w t c (sizeN t c) (newF t c)) := by
  have HN := fun w => refNew_yes t c h1 h2 h3 w
  have HD := fun w => refNewD_yes t h1 h2 w
  go_enter Tryz.func15, Tryz.ntmps15
  go_wp2_with fail
  refine (HN _).mono ?_
  rintro e w2 ⟨g, rfl, hg, hrow, hb⟩
  obtain ⟨x2, hx2⟩ : ∃ x, w2.alloc (.cells #[.int .i64 (t : Int), .int .i64 (c : Int), .slice (some ⟨g, 0, none⟩) (sizeN t c) (sizeN t c)] 46) = x := ⟨_, rfl⟩
  have R0 : Hid (Room (w.alloc (.cells #[.int .i64 0, .int .i64 0, .slice none 0 0, .int .u64 0, .slice none 0 0, .slice none 0 0] 52)) w.heap.size 6) := Lib.hid (Room.made w _ _ 6 (by simp))
  have hz0 : (w.alloc (.cells #[.int .i64 0, .int .i64 0, .slice none 0 0, .int .u64 0, .slice none 0 0, .slice none 0 0] 52)).heap.size = w.heap.size + 1 := by simp
  have R2 : Hid (Room x2 w.heap.size 6) := Lib.hid (by rw [← hx2]; exact (R0.out.below hb).below (al_below _ _))
  have V2 : Hid (VarAt x2 w2.heap.size [.int .i64 (t : Int), .int .i64 (c : Int), .slice (some ⟨g, 0, none⟩) (sizeN t c) (sizeN t c)]) := Lib.hid (by rw [← hx2]; exact VarAt.made w2 _ _)
  have W2 : Hid (RowW x2 g (sizeN t c) (newF t c)) := Lib.hid (by rw [← hx2]; exact hrow.later (al_below _ _))
  have HG : Hid (w.heap.size + 1 ≤ g) := Lib.hid (by omega)
  have HZ2 : Hid (w.heap.size + 1 ≤ w2.heap.size) := Lib.hid (by have := hb.size; omega)
  have HZ2' : Hid (w2.heap.size ≤ x2.heap.size) := Lib.hid (by rw [← hx2]; simp)
  have HB2 : Hid (Below w.heap.size w x2) := Lib.hid (by rw [← hx2]; exact below_al ((al_below w _).trans (hb.mono (by simp))))
  clear hb hrow hg R0 HN hz0
  generalize sizeN t c = sz at *
  generalize newF t c = nf at *
  go_wp2_with fail
  refine (HD _).mono ?_
  rintro e w3 ⟨R', ra, S', sa, rfl, hs0, hs1, hb, hP⟩
  obtain ⟨x3, hx3⟩ : ∃ x, w3.alloc (.cells #[.int .u64 0, .slice R' t ra, .slice S' t sa] 50) = x := ⟨_, rfl⟩
  have hb3 : Below x2.heap.size x2 x3 := by rw [← hx3]; exact below_al hb
  have R3 := Lib.hid (R2.out.below hb3)
  have V3 := Lib.hid (V2.out.below hb3)
  have W3 := Lib.hid (W2.out.later hb3)
  have U3 : Hid (VarAt x3 w3.heap.size [.int .u64 0, .slice R' t ra, .slice S' t sa]) := Lib.hid (by rw [← hx3]; exact VarAt.made w3 _ _)
  have S3 : Hid (StmsAt x3 R' t (zerosS t)) := Lib.hid (by rw [← hx3]; exact hs0.later (al_below _ _))
  have T3 : Hid (StmsAt x3 S' t (zerosS t)) := Lib.hid (by rw [← hx3]; exact hs1.later (al_below _ _))
  have HB3 := Lib.hid (HB2.out.trans (hb3.mono HB2.out.size))
  have HP3 : Hid (∀ P : Nat → Prop, (∀ b, x2.heap.size ≤ b → P b) → OffS P x3 R' t ∧ OffS P x3 S' t) := Lib.hid (fun P hF => by
    have h := hP P hF (OffS.nowhere _ _ _) (OffS.nowhere _ _ _)
    rw [← hx3]
    exact ⟨h.1.later hs0 (al_below _ _), h.2.later hs1 (al_below _ _)⟩)
  have HZ3 : Hid (x2.heap.size ≤ w3.heap.size) := Lib.hid hb.size
  clear hs0 hs1 hb hP hb3
  obtain ⟨_, m0, m1, m2, _⟩ := V3.out.three
  obtain ⟨_, d0, d1, d2, _⟩ := U3.out.three
  obtain ⟨_, hr⟩ := R3.out
  obtain ⟨p0, q0⟩ := hr 0 (by decide)
  obtain ⟨p1, q1⟩ := hr 1 (by decide)
  obtain ⟨p2, q2⟩ := hr 2 (by decide)
  obtain ⟨p3, q3⟩ := hr 3 (by decide)
  obtain ⟨p4, q4⟩ := hr 4 (by decide)
  obtain ⟨p5, q5⟩ := hr 5 (by decide)
  obtain ⟨b0, p0⟩ := Option.isSome_iff_exists.1 p0
  obtain ⟨b1, p1⟩ := Option.isSome_iff_exists.1 p1
  obtain ⟨b2, p2⟩ := Option.isSome_iff_exists.1 p2
  obtain ⟨b3, p3⟩ := Option.isSome_iff_exists.1 p3
  obtain ⟨b4, p4⟩ := Option.isSome_iff_exists.1 p4
  obtain ⟨b5, p5⟩ := Option.isSome_iff_exists.1 p5
  rw [Nat.zero_add] at p0 p1 p2 p3 p4 p5 q0 q1 q2 q3 q4 q5
  clear hr
  have HB := HB3.out
  go_wp2_with fail
  obtain ⟨o0, o1⟩ := HP3.out (Out w.heap.size 1) (fun b hb => .inr (by have := HZ2.out; have := HZ2'.out; omega))
  exact bodyPost_ret (v := .agg #[.int .i64 (t : Int), .int .i64 (c : Int), .slice (some ⟨g, 0, none⟩) sz sz, .int .u64 0, .slice R' t ra, .slice S' t sa]) (by simp [results, Tryz.results15, go_sem, p0, p1, p2, p3, p4, p5]) rfl
    ⟨some ⟨g, 0, none⟩, sz, R', ra, S', sa, rfl, W3.out.at_.alike (N := w.heap.size) (k := 1) (by repeat (first | with_reducible exact Alike.refl _ _ _ | with_reducible refine Alike.drew ?_ | (with_reducible refine Alike.set ?_ _ _ _ (by omega) (by omega)))) (OffW.one _ (.inr HG.out)),
      S3.out.alike (N := w.heap.size) (k := 1) (by repeat (first | with_reducible exact Alike.refl _ _ _ | with_reducible refine Alike.drew ?_ | (with_reducible refine Alike.set ?_ _ _ _ (by omega) (by omega)))) o0,
      T3.out.alike (N := w.heap.size) (k := 1) (by repeat (first | with_reducible exact Alike.refl _ _ _ | with_reducible refine Alike.drew ?_ | (with_reducible refine Alike.set ?_ _ _ _ (by omega) (by omega)))) o1,
      (by repeat (first | with_reducible assumption | with_reducible refine Below.drew ?_ | (with_reducible refine below_set1 (by omega) _ ?_))),
      fun P hF => ⟨OffW.one _ (hF g (by have := HG.out; omega)), ((HP3.out P (fun b hb => hF b (by have := HZ2.out; have := HZ2'.out; omega))).1).alike (N := w.heap.size) (k := 1) (by repeat (first | with_reducible exact Alike.refl _ _ _ | with_reducible refine Alike.drew ?_ | (with_reducible refine Alike.set ?_ _ _ _ (by omega) (by omega)))) o0,
        ((HP3.out P (fun b hb => hF b (by have := HZ2.out; have := HZ2'.out; omega))).2).alike (N := w.heap.size) (k := 1) (by repeat (first | with_reducible exact Alike.refl _ _ _ | with_reducible refine Alike.drew ?_ | (with_reducible refine Alike.set ?_ _ _ _ (by omega) (by omega)))) o1⟩⟩
end Go.Proofs.YtkfodhkeajmbhaaGreatDoor
namespace Go.Proofs.YtkfodhkeajmbhaaGreatDoor
open Go.ChangeShapes Go.WideShapes Go.ChangeAt Go.RowKit
set_option linter.unusedVariables false
set_option maxRecDepth 100000

/-! ### What is plain -/
theorem allB_set {l : List Stm} (h : allB l = true) (k : Nat) {y : Stm} (hy : y.right = true) : allB (l.set k y) = true := by
  unfold allB at *
  rw [List.all_eq_true] at *
  intro x hx
  rcases List.mem_or_eq_of_mem_set hx with hx | rfl
  · exact h x hx
  · exact hy
theorem right_app {x : Stm} (h : x.right = true) (ys : List Nat) : (x.app ys).right = true := by
  obtain ⟨q, hq, hl⟩ := rightB_iff h
  unfold Stm.right Stm.app
  simp only [hq]
  exact rightB_nat (by simp; omega)
theorem right_syn (x : Stm) : x.syn.right = true := by unfold Stm.right Stm.syn; exact rightB_nat (Nat.le_refl _)
theorem allB_at {l : List Stm} {k : Nat} {x : Stm} (h : allB l = true) (hx : l[k]? = some x) : x.right = true := by
  unfold allB at h
  exact List.all_eq_true.1 h x (List.mem_of_getElem? hx)
theorem allB_zeros (n : Nat) : allB (zerosS n) = true := by
  unfold allB zerosS
  rw [List.all_eq_true]
  intro x hx
  obtain rfl := List.eq_of_mem_replicate hx
  rfl
theorem right_len {l0 l1 : List Stm} (h : rightD l0 l1 = true) : l0.length = l1.length ∧ allB l0 = true ∧ allB l1 = true ∧ 1 ≤ l0.length ∧ l0.length ≤ 64 := by
  unfold rightD countB at h
  simp only [Bool.and_eq_true, decide_eq_true_eq] at h
  exact ⟨h.1.1, h.1.2.1, h.1.2.2, by omega, by omega⟩
theorem right_of {l0 l1 : List Stm} {n : Nat} (h0 : l0.length = n) (h1 : l1.length = n) (a0 : allB l0 = true) (a1 : allB l1 = true) (hn : 1 ≤ n) (hn' : n ≤ 64) : rightD l0 l1 = true := by
  unfold rightD countB
  simp only [Bool.and_eq_true, decide_eq_true_eq]
  exact ⟨⟨by omega, a0, a1⟩, by omega, by omega⟩
theorem has_cases (row i : Int) (n : Nat) : (row = 0 ∧ ∃ k : Nat, i = (k : Int) ∧ k < n) ∨ (row = 1 ∧ ∃ k : Nat, i = (k : Int) ∧ k < n) ∨ (hasB row i n n = false ∧ (rowB row && isB i n) = false) := by
  have e : hasB row i n n = (rowB row && isB i n) := by unfold hasB; split <;> rfl
  by_cases h : (rowB row && isB i n) = true
  · simp only [Bool.and_eq_true] at h
    obtain ⟨k, hk, hl⟩ := isB_iff h.2
    rcases rowB_iff h.1 with rfl | rfl
    · exact .inl ⟨rfl, k, hk, hl⟩
    · exact .inr (.inl ⟨rfl, k, hk, hl⟩)
  · have h' : (rowB row && isB i n) = false := by simpa using h
    exact .inr (.inr ⟨by rw [e]; exact h', h'⟩)
theorem setW_self {F : Nat → Nat} {i x : Nat} (h : F i = x) : setW F i x = F := by
  funext j
  unfold setW
  split
  · rename_i e; rw [e, h]
  · rfl

/-! ### The disk -/
/-- What is known of a disk's rows behind a call: right, and as many streams. -/
def GoodD (n : Nat) (P0 P1 : List Stm) : Prop := P0.length = n ∧ P1.length = n ∧ allB P0 = true ∧ allB P1 = true
section
variable (r : Int) (A : Option Addr) (n a : Nat) (B : Option Addr) (b : Nat) (l0 l1 : List Stm) (row i : Int)
end

/-! ### The accesses of a word -/
section
variable (t c : Int) (A : Option Addr) (n k : Nat) (F : Nat → Nat) (r : Nat) (R S : Option Addr) (m ra sa : Nat) (l0 l1 : List Stm) (me : Int) (a b : Nat) (D : Option Addr) (dn dc : Nat) (W : Option Addr) (wn wc : Nat)
theorem ofWord_yes (K i : Nat) (hK : K < 5) (hi : i < n) (hn : n ≤ 1000000) (hF : ∀ j, F j < 18446744073709551616) (ha : a < 18446744073709551616) (hb : b < 18446744073709551616) (w : World) (hA : Hid (AtW w A n F)) :
    Calls Tryz.prog 71 #[.agg #[.int .i64 t, .int .i64 c, .slice A n k], .agg #[.int .i64 (K : Int), .int .i64 (i : Int), .int .u64 (a : Int), .int .u64 (b : Int), .slice D dn dc, .slice W wn wc]] w (WordW w t c A n (setW F i (isN K a b (F i))) (toldN K a b (F i))) := by
  have hx := hF i
  have neq : ∀ {x y : Nat}, x ≠ y → ((x : Int) != (y : Int)) = true := fun h => by rw [bne_iff_ne]; omega
  have eq_ : ∀ {x y : Nat}, x = y → ((x : Int) != (y : Int)) = false := fun h => by rw [bne_eq_false_iff_eq]; omega
  obtain rfl | rfl | rfl | rfl | rfl : K = 0 ∨ K = 1 ∨ K = 2 ∨ K = 3 ∨ K = 4 := by omega
  · have e : isN 0 a b (F i) = F i := rfl
    rw [e, setW_self rfl]
    exact ofWord_load_same t c A n k F a b D dn dc W wn wc i (F i) (F i) (F i) hi hn rfl hx (eq_ rfl) (fun w => load_at (F i) 0 i a b D dn dc W wn wc w) w hA
  · have e : isN 1 a b (F i) = a := rfl
    rw [e]
    by_cases h : a = F i
    · rw [setW_self h.symm]
      exact ofWord_store_same t c A n k F a b D dn dc W wn wc i (F i) a 0 hi hn rfl ha (eq_ h) (fun w => store_at (F i) 1 i a b D dn dc W wn wc w) w hA
    · exact ofWord_store_turn t c A n k F a b D dn dc W wn wc i (F i) a 0 hi hn rfl ha (neq h) (fun w => store_at (F i) 1 i a b D dn dc W wn wc w) w hA
  · by_cases hxa : F i = a
    · have e : isN 2 a b (F i) = b := if_pos hxa
      have e' : toldN 2 a b (F i) = 1 := if_pos hxa
      rw [e, e']
      by_cases h : b = F i
      · rw [setW_self h.symm]
        exact ofWord_cas_same t c A n k F a b D dn dc W wn wc i (F i) b 1 hi hn rfl hb (eq_ h) (fun w => cas_yes (F i) 2 i a b D dn dc W wn wc w (eq_ hxa)) w hA
      · exact ofWord_cas_turn t c A n k F a b D dn dc W wn wc i (F i) b 1 hi hn rfl hb (neq h) (fun w => cas_yes (F i) 2 i a b D dn dc W wn wc w (eq_ hxa)) w hA
    · have e : isN 2 a b (F i) = F i := if_neg hxa
      have e' : toldN 2 a b (F i) = 0 := if_neg hxa
      rw [e, e', setW_self rfl]
      exact ofWord_cas_same t c A n k F a b D dn dc W wn wc i (F i) (F i) 0 hi hn rfl hx (eq_ rfl) (fun w => cas_no (F i) 2 i a b D dn dc W wn wc w (neq hxa)) w hA
  · have e : isN 3 a b (F i) = (F i + a) % 18446744073709551616 := rfl
    rw [e]
    have hs : IntKind.u64.wrap ((F i : Int) + (a : Int)) = (((F i + a) % 18446744073709551616 : Nat) : Int) := by rw [IntKind.wrap_u64]; omega
    have hlt : (F i + a) % 18446744073709551616 < 18446744073709551616 := Nat.mod_lt _ (by omega)
    by_cases h : (F i + a) % 18446744073709551616 = F i
    · rw [setW_self h.symm]
      exact ofWord_add_same t c A n k F a b D dn dc W wn wc i (F i) _ (F i) hi hn rfl hlt (eq_ h) (fun w => add_at (F i) 3 i a b D dn dc W wn wc w _ hs) w hA
    · exact ofWord_add_turn t c A n k F a b D dn dc W wn wc i (F i) _ (F i) hi hn rfl hlt (neq h) (fun w => add_at (F i) 3 i a b D dn dc W wn wc w _ hs) w hA
  · have e : isN 4 a b (F i) = a := rfl
    rw [e]
    by_cases h : a = F i
    · rw [setW_self h.symm]
      exact ofWord_swap_same t c A n k F a b D dn dc W wn wc i (F i) a (F i) hi hn rfl ha (eq_ h) (fun w => swap_at (F i) 4 i a b D dn dc W wn wc w) w hA
    · exact ofWord_swap_turn t c A n k F a b D dn dc W wn wc i (F i) a (F i) hi hn rfl ha (neq h) (fun w => swap_at (F i) 4 i a b D dn dc W wn wc w) w hA
theorem doWord (K i : Nat) (hK : K < 5) (hi : i < n) (hn : n ≤ 1000000) (hF : ∀ j, F j < 18446744073709551616) (ha : a < 18446744073709551616) (hb : b < 18446744073709551616) (fa : Bool) (w : World) (hA : Hid (AtW w A n F)) (h0 : Hid (StmsAt w R m l0)) (h1 : Hid (StmsAt w S m l1)) :
    Calls Tryz.prog 40 #[.agg #[.int .i64 t, .int .i64 c, .slice A n k, .int .u64 (r : Int), .slice R m ra, .slice S m sa], .int .i64 me, .agg #[.int .i64 (K : Int), .int .i64 (i : Int), .int .u64 (a : Int), .int .u64 (b : Int), .slice D dn dc, .slice W wn wc], .bool fa] w (DoW w t c A n r R S m (setW F i (isN K a b (F i))) l0 l1 (toldN K a b (F i)) [] false) :=
  do_word t c A n k F r R S m ra sa l0 l1 me K i a b D dn dc W wn wc (by unfold diskB; rw [decide_eq_false (by omega)]; rfl) (by rw [beq_eq_false_iff_ne]; omega) fa _ _ (fun w h => ofWord_yes t c A n k F a b D dn dc W wn wc K i hK hi hn hF ha hb w h) w hA h0 h1
end

/-! ### Whatever the access -/
section
variable (t c : Int) (A : Option Addr) (n k : Nat) (F : Nat → Nat) (r : Nat) (R S : Option Addr) (m ra sa : Nat) (l0 l1 : List Stm) (me ki i : Int) (a b : Nat) (D : Option Addr) (dn dc : Nat) (ys : List Nat) (W : Option Addr) (wn wc : Nat) (ws : Nat → Nat) (fa : Bool)
/-- A call of Do, told by letters. -/
def DoCalls (fn : Nat) (r1 : Nat) (G : Nat → Nat) (P0 P1 : List Stm) (N : Nat) (xs : List Nat) (fl : Bool) : Prop :=
  ∀ w, Hid (AtW w A n F) → Hid (StmsAt w R m l0) → Hid (StmsAt w S m l1) → Hid (AtB w D dn ys) → Hid (AtW w W wn ws) →
    Calls Tryz.prog fn #[.agg #[.int .i64 t, .int .i64 c, .slice A n k, .int .u64 (r : Int), .slice R m ra, .slice S m sa], .int .i64 me, .agg #[.int .i64 ki, .int .i64 i, .int .u64 (a : Int), .int .u64 (b : Int), .slice D dn dc, .slice W wn wc], .bool fa] w (DoW w t c A n r1 R S m G P0 P1 N xs fl)
/-- What is known of it. -/
structure DoGood (r1 : Nat) (G : Nat → Nat) (P0 P1 : List Stm) (N : Nat) (xs : List Nat) (fl : Bool) : Prop where
  good : GoodD m P0 P1
  fails : fl = (fa && diskB ki)
  words : diskB ki = false → r1 = r ∧ P0 = l0 ∧ P1 = l1
  failed : fl = true → r1 = r ∧ P0 = l0 ∧ P1 = l1 ∧ N = 0 ∧ xs = []
  one : ki ≠ 13 → G = F ∨ ∃ q v : Nat, i = (q : Int) ∧ q < n ∧ 0 ≤ ki ∧ ki ≤ 4 ∧ G = setW F q v
end
end Go.Proofs.YtkfodhkeajmbhaaGreatDoor
namespace Go.Proofs.YtkfodhkeajmbhaaGreatDoor
open Go.ChangeShapes Go.WideShapes Go.ChangeAt Go.RowKit
set_option linter.unusedVariables false
set_option maxRecDepth 100000

def WdAt (x : World) (b : Nat) (t c : Int) (A : Option Addr) (n k r : Nat) (R : Option Addr) (m ra : Nat) (S : Option Addr) (sa : Nat) (G : Nat → Nat) (l0 l1 : List Stm) : Prop :=
  VarAt x b [.int .i64 t, .int .i64 c, .slice A n k, .int .u64 (r : Int), .slice R m ra, .slice S m sa] ∧ AtW x A n G ∧ StmsAt x R m l0 ∧ StmsAt x S m l1
def ResAt (x : World) (b N : Nat) (X : Option Addr) (k : Nat) (xs : List Nat) (fl : Bool) : Prop :=
  VarAt x b [.int .u64 (N : Int), .slice X xs.length k, .bool fl] ∧ AtB x X xs.length xs
section
variable {x x' : World} {b : Nat} {t c : Int} {A : Option Addr} {n k r : Nat} {R : Option Addr} {m ra : Nat} {S : Option Addr} {sa : Nat} {G : Nat → Nat} {l0 l1 : List Stm}
theorem WdAt.later (h : WdAt x b t c A n k r R m ra S sa G l0 l1) (hb : Below x.heap.size x x') : WdAt x' b t c A n k r R m ra S sa G l0 l1 := ⟨h.1.below hb, h.2.1.later hb, h.2.2.1.later hb, h.2.2.2.later hb⟩
theorem WdAt.made (w : World) (o : Obj) (ty : TypeId) (hA : AtW w A n G) (h0 : StmsAt w R m l0) (h1 : StmsAt w S m l1) :
    WdAt ((w.alloc (.cells #[.int .i64 t, .int .i64 c, .slice A n k, .int .u64 (r : Int), .slice R m ra, .slice S m sa] ty)).alloc o) w.heap.size t c A n k r R m ra S sa G l0 l1 :=
  ⟨(VarAt.made w #[.int .i64 t, .int .i64 c, .slice A n k, .int .u64 (r : Int), .slice R m ra, .slice S m sa] ty).below (al_below _ _), hA.later (below_pair _ _ _), h0.later (below_pair _ _ _), h1.later (below_pair _ _ _)⟩
theorem WdAt.made0 (w : World) (ty : TypeId) (hA : AtW w A n G) (h0 : StmsAt w R m l0) (h1 : StmsAt w S m l1) :
    WdAt (w.alloc (.cells #[.int .i64 t, .int .i64 c, .slice A n k, .int .u64 (r : Int), .slice R m ra, .slice S m sa] ty)) w.heap.size t c A n k r R m ra S sa G l0 l1 :=
  ⟨VarAt.made w #[.int .i64 t, .int .i64 c, .slice A n k, .int .u64 (r : Int), .slice R m ra, .slice S m sa] ty, hA.later (al_below _ _), h0.later (al_below _ _), h1.later (al_below _ _)⟩
theorem WdAt.cells (h : WdAt x b t c A n k r R m ra S sa G l0 l1) : x.cell? ⟨b, 0, none⟩ = some (.int .i64 t) ∧ x.cell? ⟨b, 1, none⟩ = some (.int .i64 c) ∧ x.cell? ⟨b, 2, none⟩ = some (.slice A n k) ∧ x.cell? ⟨b, 3, none⟩ = some (.int .u64 (r : Int)) ∧ x.cell? ⟨b, 4, none⟩ = some (.slice R m ra) ∧ x.cell? ⟨b, 5, none⟩ = some (.slice S m sa) := h.1.six.2.1
end
section
variable {x x' : World} {b N : Nat} {X : Option Addr} {k : Nat} {xs : List Nat} {fl : Bool}
theorem ResAt.later (h : ResAt x b N X k xs fl) (hb : Below x.heap.size x x') : ResAt x' b N X k xs fl := ⟨h.1.below hb, AtB.later (Lib.hid h.2) hb⟩
theorem ResAt.made (w : World) (o : Obj) (ty : TypeId) (hX : AtB w X xs.length xs) : ResAt ((w.alloc o).alloc (.cells #[.int .u64 (N : Int), .slice X xs.length k, .bool fl] ty)) (w.heap.size + 1) N X k xs fl :=
  ⟨VarAt.made1 w o #[.int .u64 (N : Int), .slice X xs.length k, .bool fl] ty, AtB.later (Lib.hid hX) (below_pair _ _ _)⟩
theorem ResAt.cells (h : ResAt x b N X k xs fl) : x.cell? ⟨b, 0, none⟩ = some (.int .u64 (N : Int)) ∧ x.cell? ⟨b, 1, none⟩ = some (.slice X xs.length k) ∧ x.cell? ⟨b, 2, none⟩ = some (.bool fl) := ⟨h.1.three.2.1, h.1.three.2.2.1, h.1.three.2.2.2.1⟩
end
theorem AtW.word {x : World} {A : Option Addr} {n : Nat} {G : Nat → Nat} (h : AtW x A n G) (hn : 0 < n) : ∃ b off, A = some ⟨b, off, none⟩ ∧ ∀ j, j < n → x.cell? ⟨b, off + j, none⟩ = some (.int .u64 ((G j : Nat) : Int)) := by
  obtain ⟨b, off, e, _, hc⟩ := h.2 hn
  exact ⟨b, off, e, hc⟩
/-- What a law of this layer is asked of, but for numbers: a world's memory, and an access's. -/
def ParmAt (x : World) (A : Option Addr) (n : Nat) (F : Nat → Nat) (R : Option Addr) (m0 : Nat) (S : Option Addr) (m1 : Nat) (l0 l1 : List Stm) (D : Option Addr) (dn : Nat) (ys : List Nat) (W : Option Addr) (wn : Nat) (ws : Nat → Nat) : Prop :=
  AtW x A n F ∧ StmsAt x R m0 l0 ∧ StmsAt x S m1 l1 ∧ AtB x D dn ys ∧ AtW x W wn ws
theorem ParmAt.later {x x' : World} {A : Option Addr} {n : Nat} {F : Nat → Nat} {R : Option Addr} {m0 : Nat} {S : Option Addr} {m1 : Nat} {l0 l1 : List Stm} {D : Option Addr} {dn : Nat} {ys : List Nat} {W : Option Addr} {wn : Nat} {ws : Nat → Nat}
    (h : ParmAt x A n F R m0 S m1 l0 l1 D dn ys W wn ws) (hb : Below x.heap.size x x') : ParmAt x' A n F R m0 S m1 l0 l1 D dn ys W wn ws :=
  ⟨h.1.later hb, h.2.1.later hb, h.2.2.1.later hb, AtB.later (Lib.hid h.2.2.2.1) hb, h.2.2.2.2.later hb⟩
theorem WdAt.gA {x : World} {b : Nat} {t c : Int} {A : Option Addr} {n k r : Nat} {R : Option Addr} {m ra : Nat} {S : Option Addr} {sa : Nat} {G : Nat → Nat} {l0 l1 : List Stm} (h : WdAt x b t c A n k r R m ra S sa G l0 l1) : Hid (AtW x A n G) := Lib.hid h.2.1
theorem WdAt.g0 {x : World} {b : Nat} {t c : Int} {A : Option Addr} {n k r : Nat} {R : Option Addr} {m ra : Nat} {S : Option Addr} {sa : Nat} {G : Nat → Nat} {l0 l1 : List Stm} (h : WdAt x b t c A n k r R m ra S sa G l0 l1) : Hid (StmsAt x R m l0) := Lib.hid h.2.2.1
theorem WdAt.g1 {x : World} {b : Nat} {t c : Int} {A : Option Addr} {n k r : Nat} {R : Option Addr} {m ra : Nat} {S : Option Addr} {sa : Nat} {G : Nat → Nat} {l0 l1 : List Stm} (h : WdAt x b t c A n k r R m ra S sa G l0 l1) : Hid (StmsAt x S m l1) := Lib.hid h.2.2.2
theorem ResAt.gX {x : World} {b N : Nat} {X : Option Addr} {k : Nat} {xs : List Nat} {fl : Bool} (h : ResAt x b N X k xs fl) : Hid (AtB x X xs.length xs) := Lib.hid h.2
theorem ParmAt.gA {x : World} {A : Option Addr} {n : Nat} {F : Nat → Nat} {R : Option Addr} {m0 : Nat} {S : Option Addr} {m1 : Nat} {l0 l1 : List Stm} {D : Option Addr} {dn : Nat} {ys : List Nat} {W : Option Addr} {wn : Nat} {ws : Nat → Nat} (h : ParmAt x A n F R m0 S m1 l0 l1 D dn ys W wn ws) : Hid (AtW x A n F) := Lib.hid h.1
theorem ParmAt.g0 {x : World} {A : Option Addr} {n : Nat} {F : Nat → Nat} {R : Option Addr} {m0 : Nat} {S : Option Addr} {m1 : Nat} {l0 l1 : List Stm} {D : Option Addr} {dn : Nat} {ys : List Nat} {W : Option Addr} {wn : Nat} {ws : Nat → Nat} (h : ParmAt x A n F R m0 S m1 l0 l1 D dn ys W wn ws) : Hid (StmsAt x R m0 l0) := Lib.hid h.2.1
theorem ParmAt.g1 {x : World} {A : Option Addr} {n : Nat} {F : Nat → Nat} {R : Option Addr} {m0 : Nat} {S : Option Addr} {m1 : Nat} {l0 l1 : List Stm} {D : Option Addr} {dn : Nat} {ys : List Nat} {W : Option Addr} {wn : Nat} {ws : Nat → Nat} (h : ParmAt x A n F R m0 S m1 l0 l1 D dn ys W wn ws) : Hid (StmsAt x S m1 l1) := Lib.hid h.2.2.1
theorem ParmAt.gD {x : World} {A : Option Addr} {n : Nat} {F : Nat → Nat} {R : Option Addr} {m0 : Nat} {S : Option Addr} {m1 : Nat} {l0 l1 : List Stm} {D : Option Addr} {dn : Nat} {ys : List Nat} {W : Option Addr} {wn : Nat} {ws : Nat → Nat} (h : ParmAt x A n F R m0 S m1 l0 l1 D dn ys W wn ws) : Hid (AtB x D dn ys) := Lib.hid h.2.2.2.1
theorem ParmAt.gW {x : World} {A : Option Addr} {n : Nat} {F : Nat → Nat} {R : Option Addr} {m0 : Nat} {S : Option Addr} {m1 : Nat} {l0 l1 : List Stm} {D : Option Addr} {dn : Nat} {ys : List Nat} {W : Option Addr} {wn : Nat} {ws : Nat → Nat} (h : ParmAt x A n F R m0 S m1 l0 l1 D dn ys W wn ws) : Hid (AtW x W wn ws) := Lib.hid h.2.2.2.2
theorem right_parts {t c : Int} {n m0 m1 : Nat} {l0 l1 : List Stm} (hr : rightW t c n l0 l1 = true) (hf : fewD l0 l1 = true) (h0 : l0.length = m0) (h1 : l1.length = m1) :
    0 < n ∧ 1 ≤ m0 ∧ m0 ≤ 8 ∧ GoodD m0 l0 l1 ∧ (∀ x ∈ l0, x.bytes.length ≤ 100000) ∧ (∀ x ∈ l1, x.bytes.length ≤ 100000) ∧ m1 = m0 := by
  unfold rightW at hr
  simp only [Bool.and_eq_true] at hr
  obtain ⟨hm, hd, ht⟩ := hr
  obtain ⟨e1, g0, g1, k1, _⟩ := right_len hd
  obtain ⟨f8, _, fs⟩ := fewD_iff hf
  unfold rightM at hm
  simp only [Bool.and_eq_true, decide_eq_true_eq] at hm
  obtain ⟨hmb, hn⟩ := hm
  obtain ⟨tn, cn, rfl, rfl, q1, q2, q3⟩ := mayB_iff hmb
  refine ⟨by omega, by omega, by omega, ⟨h0, by omega, g0, g1⟩, fun x hx => ?_, fun x hx => ?_, by omega⟩
  · have := sumN_mem hx; omega
  · have := sumN_mem hx; omega
end Go.Proofs.YtkfodhkeajmbhaaGreatDoor
namespace Go.Proofs.YtkfodhkeajmbhaaGreatDoor
open Go.ChangeShapes Go.WideShapes Go.ChangeAt Go.RowKit
set_option linter.unusedVariables false
set_option maxRecDepth 100000

def Keep (Q : Nat → Prop) (y x : World) : Prop := y.heap.size ≤ x.heap.size ∧ ∀ b o, b < y.heap.size → Q b → x.cell? ⟨b, o, none⟩ = y.cell? ⟨b, o, none⟩
section
variable {Q : Nat → Prop} {y x : World}
theorem Keep.refl (Q : Nat → Prop) (y : World) : Keep Q y y := ⟨Nat.le_refl _, fun _ _ _ _ => rfl⟩
theorem Keep.drew (h : Keep Q y x) : Keep Q y x.drew := h
theorem Keep.alloc (h : Keep Q y x) (o : Obj) : Keep Q y (x.alloc o) := by
  have hb := al_below x o
  exact ⟨Nat.le_trans h.1 hb.size, fun b o hlt hq => (hb.cell (p := ⟨b, o, none⟩) (Nat.lt_of_lt_of_le hlt h.1)).trans (h.2 b o hlt hq)⟩
theorem Keep.set (h : Keep Q y x) (b j : Nat) (v : Value) (hb : b < y.heap.size → ¬ Q b) : Keep Q y (x.setCell ⟨b, j, none⟩ v) := by
  refine ⟨by simpa using h.1, fun g o hlt hq => ?_⟩
  rw [World.cell?_setCell_other _ _ _ _ (fun e => by
    have e2 : b = g := by first | exact congrArg Addr.block e | exact (congrArg Addr.block e).symm
    subst e2
    exact hb hlt hq)]
  exact h.2 g o hlt hq
theorem AtW.keep {a : Option Addr} {n : Nat} {f : Nat → Nat} (h : AtW y a n f) (hK : Keep Q y x) (hO : OffW Q a n) : AtW x a n f := by
  refine ⟨h.1, fun hp => ?_⟩
  obtain ⟨b, off, e, hlt, hc⟩ := h.2 hp
  exact ⟨b, off, e, Nat.lt_of_lt_of_le hlt hK.1, fun j hj => (hK.2 _ _ hlt (hO hp b off e)).trans (hc j hj)⟩
theorem AtB.keep {a : Option Addr} {n : Nat} {xs : List Nat} (h : AtB y a n xs) (hK : Keep Q y x) (hO : OffW Q a n) : AtB x a n xs := by
  refine ⟨h.1, h.2.1, h.2.2.1, fun hp => ?_⟩
  obtain ⟨b, off, e, hlt, hc⟩ := h.2.2.2 hp
  exact ⟨b, off, e, Nat.lt_of_lt_of_le hlt hK.1, fun j hj => (hK.2 _ _ hlt (hO hp b off e)).trans (hc j hj)⟩
theorem StmsAt.keep {a : Option Addr} {n : Nat} {l : List Stm} (h : StmsAt y a n l) (hK : Keep Q y x) (hO : OffS Q y a n) : StmsAt x a n l := by
  obtain ⟨h1, h2, h3⟩ := h
  refine ⟨h1, h2, fun hp => ?_⟩
  obtain ⟨b, off, e, hlt, hc⟩ := h3 hp
  obtain ⟨k1, k2⟩ := hO b off e hp
  refine ⟨b, off, e, Nat.lt_of_lt_of_le hlt hK.1, fun j z hz => ?_⟩
  obtain ⟨A, cap, c1, c2, c3, c4, c5, c6⟩ := hc j z hz
  have hj : j < n := by have := (List.getElem?_eq_some_iff.1 hz).1; omega
  exact ⟨A, cap, (hK.2 _ _ hlt k1).trans c1, c2, c3, c4.keep hK (fun hl b' o' e' => k2 j hj ⟨b', o', none⟩ _ _ (by rw [c1, e']) hl), (hK.2 _ _ hlt k1).trans c5, c6⟩
theorem OffS.keep {P : Nat → Prop} {a : Option Addr} {n : Nat} {l : List Stm} (h : OffS P y a n) (hS : StmsAt y a n l) (hK : Keep Q y x) (hO : OffS Q y a n) : OffS P x a n := fun b off e hp => by
  obtain ⟨h1, h2⟩ := h b off e hp
  obtain ⟨k1, _⟩ := hO b off e hp
  obtain ⟨b', off', e', hlt, _⟩ := hS.2.2 hp
  rw [e'] at e
  cases e
  exact ⟨h1, fun j hj ad len c hc hl => h2 j hj ad len c ((hK.2 _ _ hlt k1).symm.trans hc) hl⟩
end
theorem VarAt.onto {w0 w w' : World} {b : Nat} {vs : List Value} (hb : Below w.heap.size w w') (h : VarAt w0 b vs) (hh : w0.heap = w.heap) : VarAt w' b vs := by
  refine VarAt.below (w := w) ⟨by rw [← hh]; exact h.1, fun j v hv => ?_, fun j hj => ?_⟩ hb
  · have := h.2.1 j v hv
    unfold World.cell? at this ⊢
    rw [← hh]; exact this
  · have := h.2.2 j hj
    unfold World.frozen? at this ⊢
    rw [← hh]; exact this
/-- Not a variable's block, nor between two. -/
def Qn (g N1 N2 b : Nat) : Prop := b ≠ g ∧ (b < N1 ∨ N2 ≤ b)
theorem OffS.both {P Q : Nat → Prop} {w : World} {a : Option Addr} {n : Nat} (h : OffS P w a n) (h' : OffS Q w a n) : OffS (fun b => P b ∧ Q b) w a n := fun b off e hn =>
  ⟨⟨(h b off e hn).1, (h' b off e hn).1⟩, fun j hj ad len c hc hl => ⟨(h b off e hn).2 j hj ad len c hc hl, (h' b off e hn).2 j hj ad len c hc hl⟩⟩
theorem arm_fact {wr wa w4 : World} {g n m kx : Nat} {A3 A4 R3 R4 S3 S4 X : Option Addr} {G3 : Nat → Nat} {l0 l1 : List Stm} (hwr : Below wr.heap.size wr wa) (hb : Below wa.heap.size wa w4)
    (hP : ∀ P : Nat → Prop, (∀ b, wa.heap.size ≤ b → P b) → OffW P A3 n → OffS P wa R3 m → OffS P wa S3 m → OffW P A4 n ∧ OffS P w4 R4 m ∧ OffS P w4 S4 m ∧ OffW P X kx)
    (hA : AtW wr A3 n G3) (h0 : StmsAt wr R3 m l0) (h1 : StmsAt wr S3 m l1) (o0 : OffW (Out g 1) A3 n) (o1 : OffS (Out g 1) wr R3 m) (o2 : OffS (Out g 1) wr S3 m) (hg : g < wr.heap.size) :
    ∃ N2, N2 = wa.heap.size ∧ wr.heap.size ≤ N2 ∧ N2 ≤ w4.heap.size ∧ OffW (Qn g wr.heap.size N2) A4 n ∧ OffS (Qn g wr.heap.size N2) w4 R4 m ∧ OffS (Qn g wr.heap.size N2) w4 S4 m := by
  have hz := hwr.size
  obtain ⟨p0, p1, p2, _⟩ := hP (Qn g wr.heap.size wa.heap.size) (fun b hb => ⟨by omega, .inr hb⟩)
    (fun hp b off e => ⟨by have := o0 hp b off e; unfold Out at this; omega, .inl (hA.old hp b off e)⟩)
    ((((o1.both h0.old).mono fun b hb => (⟨by have := hb.1; unfold Out at this; omega, .inl hb.2⟩ : Qn g wr.heap.size wa.heap.size b))).later h0 hwr)
    ((((o2.both h1.old).mono fun b hb => (⟨by have := hb.1; unfold Out at this; omega, .inl hb.2⟩ : Qn g wr.heap.size wa.heap.size b))).later h1 hwr)
  exact ⟨_, rfl, hz, hb.size, p0, p1, p2⟩
end Go.Proofs.YtkfodhkeajmbhaaGreatDoor
