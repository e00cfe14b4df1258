/-
  WeightRows: for every two slices of numbers of 64 bits, the greatest one of both rows (of up to 40 each), one behind the other, in either order, is the greater one of both rows' greatest ones. No condition.
-/
import Derived.Test.YtalhliickoflaaaRows
import Derived.Test.YtalhliickoflaaaSlices
import Derived.OwnWalk
namespace Go.Proofs.Ytalhliickoflaaa.weightRows
open Go.ChangeShapes Go.WideShapes Go.ChangeAt Go.RowKit
set_option linter.unusedVariables false
theorem own : ownKnob Try.prog.godebug = none := by kernel_rfl
theorem info22 : (Try.prog.info? 22).map (fun i => (i.zero, i.size, i.bytes)) = some (some (.int .u64 0), 1, 8) := by kernel_rfl

theorem foldl_gre (l : List Int) (x : Int) (h : l ≠ []) : l.foldl (fun t y => if lessB t y then y else t) x = if lessB x (greI l) then greI l else x := by
  cases l with
  | nil => exact absurd rfl h
  | cons y l =>
    show l.foldl _ (if lessB x y then y else x) = if lessB x (l.foldl _ y) then l.foldl _ y else x
    clear h
    induction l generalizing x y with
    | nil => rfl
    | cons z l ih =>
      simp only [List.foldl_cons]
      have e1 := ih (if lessB x y then y else x) z
      have e2 := ih x (if lessB y z then z else y)
      have e3 : (if lessB (if lessB x y then y else x) z then z else (if lessB x y then y else x)) = (if lessB x (if lessB y z then z else y) then (if lessB y z then z else y) else x) := by
        unfold lessB
        by_cases h1 : plI x < plI y <;> by_cases h2 : plI y < plI z <;> by_cases h3 : plI x < plI z <;> simp [h1, h2, h3] <;> omega
      rw [e3]
      exact e2

theorem gre_append (l1 l2 : List Int) (h1 : l1 ≠ []) (h2 : l2 ≠ []) : greI (l1 ++ l2) = if lessB (greI l1) (greI l2) then greI l2 else greI l1 := by
  cases l1 with
  | nil => exact absurd rfl h1
  | cons x l1 =>
    show List.foldl _ x (l1 ++ l2) = _
    rw [List.foldl_append, foldl_gre l2 _ h2]
    rfl

def news (zs : List Int) (len : Nat) : List Value := (zs.take len).map (Value.int .u64)

theorem news_len {zs : List Int} {len : Nat} (h : len ≤ zs.length) : (news zs len).length = len * 1 := by
  unfold news; rw [List.length_map, List.length_take]; omega
theorem news_one (zs : List Int) (len : Nat) : ∀ u ∈ news zs len, u.oneCell' = true := by
  intro u hu
  unfold news at hu
  obtain ⟨z, _, rfl⟩ := List.mem_map.1 hu
  rfl
theorem news_cells {w : World} {b off len : Nat} {zs : List Int} (h : At w (some ⟨b, off, none⟩) len zs) (hp : 0 < len) :
    ∀ j u, (news zs len)[j]? = some u → w.cell? ((⟨b, off, none⟩ : Addr).add j) = some u := by
  intro j u hu
  obtain ⟨h1, h2, h3, h4⟩ := h
  obtain ⟨b', off', e, hlt, hc⟩ := h4 hp
  simp only [Option.some.injEq, Addr.mk.injEq, and_true] at e
  obtain ⟨rfl, rfl⟩ := e
  have hj : j < len := by
    have := (List.getElem?_eq_some_iff.1 hu).1
    rw [news_len h1] at this; omega
  rw [add_plain, hc j (by omega)]
  unfold news at hu
  rw [List.getElem?_map, List.getElem?_take, if_pos hj, List.getElem?_eq_getElem (by omega)] at hu
  rw [List.getD_eq_getElem?_getD, List.getElem?_eq_getElem (by omega)]
  exact hu

theorem greatest_own (v : Value) (n base : Nat) (l : List Int) (x : Int) (w : World) (hown : w.ownsRow base 22 1 v n (l.map (Value.int .u64))) (hp : 0 < n) (hn : n ≤ 9223372036854775807) (hb : ∀ y ∈ l, 0 ≤ y ∧ y < 18446744073709551616) (hx : greI l = x) :
    Calls Try.prog 12 #[v] w fun e w' => e = .returned (.tuple #[.int .u64 x, .bool true]) ∧ w = w' := by
  have hlen : l.length = n := by have := hown.1; rw [List.length_map] at this; omega
  rcases hown.2 with ⟨_, h0⟩ | ⟨g, cap, cur, rfl, hg, hheap, hcap, hmax, hsz, htake⟩
  · omega
  · have hat : At w (some ⟨g, 0, none⟩) n l := by
      refine ⟨by omega, hb, hn, fun _ => ⟨g, 0, rfl, (Array.getElem?_eq_some_iff.1 hheap).1, fun j hj => ?_⟩⟩
      have := hown.cells (g := g) rfl j (.int .u64 (l.getD j 0)) (by
        rw [List.getElem?_map, List.getElem?_eq_getElem hj, List.getD_eq_getElem?_getD, List.getElem?_eq_getElem hj]; rfl)
      rwa [add_plain] at this
    have := greatest_at (some ⟨g, 0, none⟩) n cap l w hat
    rw [List.take_of_length_le (by omega), hx] at this
    have e : decide (0 < n) = true := by simpa using hp
    rw [e] at this
    exact this

theorem greatest_is (a : Option Addr) (len cap : Nat) (zs : List Int) (x : Int) (w : World) (h : At w a len zs) (hp : 0 < len) (hx : greI (zs.take len) = x) :
    Calls Try.prog 12 #[.slice a len cap] w fun e w' => e = .returned (.tuple #[.int .u64 x, .bool true]) ∧ w = w' := by
  have := greatest_at a len cap zs w h
  have e : decide (0 < len) = true := by simpa using hp
  rw [hx, e] at this
  exact this

theorem made (w : World) : (w.alloc (.cells #[] 22)).ownsRow w.heap.size 22 1 (.slice (some ⟨w.heap.size, 0, none⟩) 0 0) 0 [] :=
  World.ownsRow_made w #[] 0 (Nat.le_refl _) (by decide) rfl

theorem walkOut (A1 A2 : Option Addr) (len1 cap1 len2 cap2 : Nat) (h : 40 < len1 ∨ 40 < len2 ∨ len1 = 0 ∨ len2 = 0) (w : World) :
    Calls Try.prog 9 #[.slice A1 len1 cap1, .slice A2 len2 cap2] w fun e w' => e = .returned (.bool true) ∧ Below w.heap.size w w' := by
  by_cases h1 : 40 < len1
  · clear h
    go_enter Try.func9, Try.ntmps9
    go_wp2_with fail
    refine (shown_below _).mono ?_
    rintro e w1 ⟨rfl, hb⟩
    have HB := Lib.hid hb
    clear hb
    go_wp2_with fail
    go_ret
    exact ⟨rfl, HB.out⟩
  · have h1' : decide ((40 : Int) < (len1 : Int)) = false := by rw [decide_eq_false_iff_not]; omega
    by_cases h2 : 40 < len2
    · have h2' : decide ((40 : Int) < (len2 : Int)) = true := by rw [decide_eq_true_eq]; omega
      clear h h1 h2
      go_enter Try.func9, Try.ntmps9
      go_wp2_with fail
      refine (shown_below _).mono ?_
      rintro e w1 ⟨rfl, hb⟩
      have HB := Lib.hid hb
      clear hb
      go_wp2_with fail
      go_ret
      exact ⟨rfl, HB.out⟩
    · have h2' : decide ((40 : Int) < (len2 : Int)) = false := by rw [decide_eq_false_iff_not]; omega
      by_cases h3 : len1 = 0
      · subst h3
        clear h h1 h2
        go_enter Try.func9, Try.ntmps9
        go_wp2_with fail
        refine (shown_below _).mono ?_
        rintro e w1 ⟨rfl, hb⟩
        have HB := Lib.hid hb
        clear hb
        go_wp2_with fail
        go_ret
        exact ⟨rfl, HB.out⟩
      · have h4 : len2 = 0 := by omega
        subst h4
        have h3' : ((len1 : Int) == 0) = false := by rw [beq_eq_false_iff_ne]; omega
        clear h h1 h2 h3
        go_enter Try.func9, Try.ntmps9
        go_wp2_with fail
        refine (shown_below _).mono ?_
        rintro e w1 ⟨rfl, hb⟩
        have HB := Lib.hid hb
        clear hb
        go_wp2_with fail
        go_ret
        exact ⟨rfl, HB.out⟩


/-- What is left behind two appends onto a new, empty slice: its cells, and what of the world has stayed. -/
theorem appended {w w1 w2 : World} {v1 v2 : Value} {l1 l2 : List Int} {n1 n2 : Nat} {news1 news2 : List Value} (e1 : news1 = l1.map (Value.int .u64)) (e2 : news2 = l2.map (Value.int .u64))
    (h1 : w1.ownsRow w.heap.size 22 1 v1 (0 + n1) ([] ++ news1)) (g1 : (w.alloc (.cells #[] 22)).grownBy w1 (Value.slice (some ⟨w.heap.size, 0, none⟩) 0 0).ownBlock)
    (h2 : w2.ownsRow w.heap.size 22 1 v2 (0 + n1 + n2) ([] ++ news1 ++ news2)) (g2 : w1.grownBy w2 v1.ownBlock) :
    w2.ownsRow w.heap.size 22 1 v2 (n1 + n2) ((l1 ++ l2).map (Value.int .u64)) ∧ Below w.heap.size w w2 := by
  constructor
  · rw [Nat.zero_add, List.nil_append, e1, e2] at h2
    rw [List.map_append]
    exact h2
  · have b0 : Below w.heap.size w (w.alloc (.cells #[] 22)) := (Below.refl _ _).alloc (Nat.le_refl _) _
    have b1 : Below w.heap.size w w1 := b0.grown g1 (by simp) (fun k hk => by simp [Value.ownBlock] at hk; omega)
    exact b1.grown g2 b1.size (fun k hk => (h1.lt k hk).1)

theorem below1 {w w1 : World} (g1 : (w.alloc (.cells #[] 22)).grownBy w1 (Value.slice (some ⟨w.heap.size, 0, none⟩) 0 0).ownBlock) : Below w.heap.size w w1 := by
  have b0 : Below w.heap.size w (w.alloc (.cells #[] 22)) := (Below.refl _ _).alloc (Nat.le_refl _) _
  exact b0.grown g1 (by simp) (fun k hk => by simp [Value.ownBlock] at hk; omega)

theorem below0 (w : World) : Below w.heap.size w (w.alloc (.cells #[] 22)) := (Below.refl _ _).alloc (Nat.le_refl _) _

theorem mem_two {zs1 zs2 : List Int} {n1 n2 : Nat} (h1 : ∀ y ∈ zs1, 0 ≤ y ∧ y < 18446744073709551616) (h2 : ∀ y ∈ zs2, 0 ≤ y ∧ y < 18446744073709551616) : ∀ y ∈ zs1.take n1 ++ zs2.take n2, 0 ≤ y ∧ y < 18446744073709551616 := by
  intro y hy
  rcases List.mem_append.1 hy with h | h
  · exact h1 y (List.mem_of_mem_take h)
  · exact h2 y (List.mem_of_mem_take h)

theorem take_ne {zs : List Int} {n : Nat} (h : n ≤ zs.length) (hp : 0 < n) : zs.take n ≠ [] := by
  intro e
  rcases List.take_eq_nil_iff.1 e with e | e
  · omega
  · rw [e] at h; simp at h; omega

set_option maxHeartbeats 1000000 in
set_option maxRecDepth 100000 in
theorem walkIn (b1 o1 b2 o2 len1 cap1 len2 cap2 : Nat) (zs1 zs2 : List Int) (x y m n t : Int) (w : World) (p1 : 0 < len1) (q1 : len1 ≤ 40) (p2 : 0 < len2) (q2 : len2 ≤ 40)
    (H1 : Hid (At w (some ⟨b1, o1, none⟩) len1 zs1)) (H2 : Hid (At w (some ⟨b2, o2, none⟩) len2 zs2))
    (X : Hid (greI (zs1.take len1) = x)) (Y : Hid (greI (zs2.take len2) = y)) (M : Hid (greI (zs1.take len1 ++ zs2.take len2) = m)) (N : Hid (greI (zs2.take len2 ++ zs1.take len1) = n))
    (x0 : 0 ≤ x) (x1 : x < 18446744073709551616) (y0 : 0 ≤ y) (y1 : y < 18446744073709551616)
    (hl : (lessB x y = true ∧ (m == y) = true ∧ (n == y) = true) ∨ (lessB x y = false ∧ (m == x) = true ∧ (n == x) = true)) :
    Calls Try.prog 9 #[.slice (some ⟨b1, o1, none⟩) len1 cap1, .slice (some ⟨b2, o2, none⟩) len2 cap2] w fun e w' => e = .returned (.bool true) ∧ Below w.heap.size w w' := by
  have d1 : decide ((40 : Int) < (len1 : Int)) = false := by rw [decide_eq_false_iff_not]; omega
  have d2 : decide ((40 : Int) < (len2 : Int)) = false := by rw [decide_eq_false_iff_not]; omega
  have d3 : ((len1 : Int) == 0) = false := by rw [beq_eq_false_iff_ne]; omega
  have d4 : ((len2 : Int) == 0) = false := by rw [beq_eq_false_iff_ne]; omega
  have HM := Lib.hid (mem_two (n1 := len1) (n2 := len2) H1.out.2.1 H2.out.2.1)
  have HN := Lib.hid (mem_two (n1 := len2) (n2 := len1) H2.out.2.1 H1.out.2.1)
  obtain ⟨i0, hi0, hz0, hz1, hz2⟩ := info_parts info22
  have HI := Lib.hid hi0
  have HZ0 := Lib.hid hz0
  have HZ1 := Lib.hid hz1
  have HZ2 := Lib.hid hz2
  clear hi0 hz0 hz1 hz2
  rcases hl with ⟨l1, l2, l3⟩ | ⟨l1, l2, l3⟩
  all_goals
    go_enter Try.func9, Try.ntmps9
    go_wp2_with fail
    refine (shown_below _).mono ?_
    rintro e w1 ⟨rfl, hb⟩
    have HB := Lib.hid hb
    have H1' := Lib.hid (H1.out.below hb)
    have H2' := Lib.hid (H2.out.below hb)
    clear hb H1 H2
    go_wp2_with (first
      | (go_at_call 12; ((with_reducible refine (greatest_is (some ⟨b1, o1, none⟩) len1 cap1 zs1 x _ H1'.out p1 X.out).mono ?_); rintro e w' ⟨rfl, rfl⟩))
      | (go_at_call 12; ((with_reducible refine (greatest_is (some ⟨b2, o2, none⟩) len2 cap2 zs2 y _ H2'.out p2 Y.out).mono ?_); rintro e w' ⟨rfl, rfl⟩))
      | (at_builtin; refine wpList_append_own _ rfl (.tmp 46) (.tmp 47) 23 rfl w1.heap.size 22 i0 (.int .u64 0) 1 8 Try.underlying23 HI.out HZ0.out HZ1.out HZ2.out rfl (by decide) _ 0 [] rfl (made w1) ⟨b1, o1, none⟩ len1 cap1 (news zs1 len1) rfl (news_len H1'.out.1) (news_cells (H1'.out.below (below0 w1)) p1) (news_one zs1 len1) (by unfold maxLen; omega) (by omega) (by simp) ?_; intro v1 w2 hown1 hgrow1 hx; clear hx; have O1 := Lib.hid hown1; have G1 := Lib.hid hgrow1; clear hown1 hgrow1)
      | (at_builtin; refine wpList_append_own _ rfl (.tmp 48) (.tmp 49) 23 rfl w1.heap.size 22 i0 (.int .u64 0) 1 8 Try.underlying23 HI.out HZ0.out HZ1.out HZ2.out rfl (by decide) _ _ _ rfl O1.out ⟨b2, o2, none⟩ len2 cap2 (news zs2 len2) rfl (news_len H2'.out.1) (news_cells (H2'.out.below (below1 G1.out)) p2) (news_one zs2 len2) (by unfold maxLen; omega) (by omega) (below1 G1.out).size ?_; intro v2 w3 hown2 hgrow2 hx; clear hx; have O2 := Lib.hid (appended (l1 := zs1.take len1) (l2 := zs2.take len2) rfl rfl O1.out G1.out hown2 hgrow2); have H3 := Lib.hid (H1'.out.below O2.out.2); have H4 := Lib.hid (H2'.out.below O2.out.2); clear hown2 hgrow2 O1 G1)
      | (go_at_call 12; ((with_reducible refine (greatest_own v2 (len1 + len2) w1.heap.size (zs1.take len1 ++ zs2.take len2) m _ O2.out.1 (by omega) (by omega) HM.out M.out).mono ?_); rintro e w' ⟨rfl, rfl⟩))
      | (at_builtin; refine wpList_append_own _ rfl (.tmp 55) (.tmp 56) 23 rfl w3.heap.size 22 i0 (.int .u64 0) 1 8 Try.underlying23 HI.out HZ0.out HZ1.out HZ2.out rfl (by decide) _ 0 [] rfl (made w3) ⟨b2, o2, none⟩ len2 cap2 (news zs2 len2) rfl (news_len H4.out.1) (news_cells (H4.out.below (below0 w3)) p2) (news_one zs2 len2) (by unfold maxLen; omega) (by omega) (by simp) ?_; intro v3 w4 hown3 hgrow3 hx; clear hx; have O3 := Lib.hid hown3; have G3 := Lib.hid hgrow3; clear hown3 hgrow3)
      | (at_builtin; refine wpList_append_own _ rfl (.tmp 57) (.tmp 58) 23 rfl w3.heap.size 22 i0 (.int .u64 0) 1 8 Try.underlying23 HI.out HZ0.out HZ1.out HZ2.out rfl (by decide) _ _ _ rfl O3.out ⟨b1, o1, none⟩ len1 cap1 (news zs1 len1) rfl (news_len H3.out.1) (news_cells (H3.out.below (below1 G3.out)) p1) (news_one zs1 len1) (by unfold maxLen; omega) (by omega) (below1 G3.out).size ?_; intro v4 w5 hown4 hgrow4 hx; clear hx; have O4 := Lib.hid (appended (l1 := zs2.take len2) (l2 := zs1.take len1) rfl rfl O3.out G3.out hown4 hgrow4); clear hown4 hgrow4 O3 G3)
      | (go_at_call 12; ((with_reducible refine (greatest_own v4 (len2 + len1) w3.heap.size (zs2.take len2 ++ zs1.take len1) n _ O4.out.1 (by omega) (by omega) HN.out N.out).mono ?_); rintro e w' ⟨rfl, rfl⟩))
      | (go_at_call 16; refine (less_any _ _ _ (by omega) (by omega) (by omega) (by omega)).mono ?_; rintro e w' ⟨rfl, rfl⟩))
    go_ret
    exact ⟨rfl, (HB.out.trans (O2.out.2.mono HB.out.size)).trans (O4.out.2.mono (Nat.le_trans HB.out.size O2.out.2.size))⟩

theorem lifted (os : Os) (started : os.Started) (H : Type) (enc : TypeId × Value → H) :
    ReturnsInHanded {} Try.checked os 9 .any (Rows.weightRowsSpec.pre6 enc Try.prog Try.f9 Rows.weightRowsRow.domain false) (Rows.weightRowsSpec.post enc Try.prog Try.f9 false true false false) := by
  refine law_lifted (C := Try.checked) own started (by kernel_rfl) Try.func9
    (ChangeSpec.witness6 (enc := enc) (C := Try.checked) false ⟨#[], #[.slice none 0 0, .slice none 0 0], []⟩ 8 (by kernel_rfl) (by kernel_rfl) (by kernel_rfl) (by kernel_rfl))
    (by kernel_rfl) (by kernel_rfl) Try.underlying4 rfl (by kernel_rfl) ?_
  intro W base args ds before hval hA _ hlt
  have hA' : DataW.TrodAll enc Try.prog W 0 (fun _ => true) true Try.f9.params.toList args.toList ds before := hA
  have hval' : ∀ (j : Nat) t v, Try.f9.params[j]? = some t → args[j]? = some v → Value.okWide Try.prog W .any base t v := hval
  rw [Try.params9] at hA' hval'
  obtain ⟨v0, vs0, d0, ds0, p0, q0, hargs, rfl, rfl, h0, r0⟩ := trodAll_cons hA'
  obtain ⟨v1, vs1, d1, ds1, p1, q1, rfl, rfl, rfl, h1, r1⟩ := trodAll_cons r0
  obtain ⟨rfl, rfl, rfl⟩ := trodAll_nil r1
  obtain rfl : args = #[v0, v1] := by cases args; simp_all
  obtain ⟨A1, len1, cap1, zs1, rfl, hat1⟩ := open_at (hval' 0 23 v0 rfl rfl) h0 (fun x hx => hlt x (by simp [hx]))
  obtain ⟨A2, len2, cap2, zs2, rfl, hat2⟩ := open_at (hval' 1 23 v1 rfl rfl) h1 (fun x hx => hlt x (by simp [hx]))
  refine ⟨rfl, ?_⟩
  by_cases h : 40 < len1 ∨ 40 < len2 ∨ len1 = 0 ∨ len2 = 0
  · exact walkOut A1 A2 len1 cap1 len2 cap2 h W
  · obtain ⟨b1, o1, rfl, _, _⟩ := hat1.2.2.2 (by omega)
    obtain ⟨b2, o2, rfl, _, _⟩ := hat2.2.2.2 (by omega)
    have n1 := take_ne hat1.1 (by omega)
    have n2 := take_ne hat2.1 (by omega)
    have e1 := gre_append _ _ n1 n2
    have e2 := gre_append _ _ n2 n1
    have g1 := greI_bd (zs1.take len1) (fun y hy => hat1.2.1 y (List.mem_of_mem_take hy))
    have g2 := greI_bd (zs2.take len2) (fun y hy => hat2.2.1 y (List.mem_of_mem_take hy))
    refine walkIn b1 o1 b2 o2 len1 cap1 len2 cap2 zs1 zs2 _ _ _ _ 0 W (by omega) (by omega) (by omega) (by omega) (Lib.hid hat1) (Lib.hid hat2) (Lib.hid rfl) (Lib.hid rfl) (Lib.hid rfl) (Lib.hid rfl) g1.1 g1.2 g2.1 g2.2 ?_
    rw [e1, e2]
    generalize greI (zs1.take len1) = x at *
    generalize greI (zs2.take len2) = y at *
    unfold lessB
    by_cases c1 : plI x < plI y
    · have c2 : ¬ plI y < plI x := by omega
      left
      simp [c1, c2]
    · right
      by_cases c2 : plI y < plI x
      · simp [c1, c2]
      · have := plI_inj g1.1 g1.2 g2.1 g2.2 (by omega)
        subst this
        simp [c1]

theorem over : Rows.weightRowsRow.holds Try.pinned (OpenSpec.ofChange Rows.weightRowsSpec) :=
  OpenClaim.holds_of_wide 9 Try.f9 rfl rfl rfl rfl rfl rfl rfl ⟨rfl, rfl, rfl, rfl, rfl⟩ rfl rfl rfl rfl rfl (by kernel_rfl) Try.func9 (by kernel_rfl)
    (of_decide_eq_true (by kernel_rfl)) (by unfold Func.isWrapper; first | (rw [if_pos (by decide +kernel)]; kernel_rfl) | (rw [if_neg (by decide +kernel)]; exact ⟨rfl, rfl⟩))
    (fun os started H enc _ => lifted os started H enc)

/-- The statement. -/
theorem proved : Rows.WeightRowsSaid :=
  over
#print axioms proved
end Go.Proofs.Ytalhliickoflaaa.weightRows
