/-
  StreamParts: two texts appended, one behind the other, are both appended as one; how much is synced stays; for every stream and every two rows of bytes (of up to 300). No condition.
-/
import Derived.Test.YtocnndpfpplleaaStrmShown
import Derived.Test.YtocnndpfpplleaaStrmOpen
import Derived.Test.YtocnndpfpplleaaLaw
import Derived.Deep.RegionHeld3
namespace Go.Proofs.Ytocnndpfpplleaa.streamParts
open Go.ChangeShapes Go.WideShapes Go.ChangeAt Go.RowKit
set_option linter.unusedVariables false
theorem own : ownKnob Try.prog.godebug = none := by kernel_rfl

theorem walkLong (A : Option Addr) (len cap : Nat) (s : Int) (B : Option Addr) (m c : Nat) (C : Option Addr) (n d : Nat) (l1 : 300 < len) (w : World) :
    Calls Try.prog 7 #[.agg #[.slice A len cap, .int .i64 s], .slice B m c, .slice C n d] w fun e w' => e = .returned (.bool true) ∧ Below w.heap.size w w' := by
  have d1 : decide ((300 : Int) < (len : Int)) = true := by rw [decide_eq_true_iff]; omega
  go_enter Try.func7, Try.ntmps7
  go_wp2_with fail
  refine (shown_below _).mono ?_
  rintro e w1 ⟨rfl, hb⟩
  have HB1 := Lib.hid (below_box hb)
  have V1 := Lib.hid ((VarAt.made w #[.slice A len cap, .int .i64 s] 24).below hb)
  clear hb
  obtain ⟨hz1, hc0, hc1, hf0, hf1⟩ := V1.out.two
  go_wp2_with fail
  go_ret
  exact ⟨rfl, HB1.out⟩

theorem walkLongA (A : Option Addr) (len cap : Nat) (s : Int) (B : Option Addr) (m c : Nat) (C : Option Addr) (n d : Nat) (l1 : len ≤ 300) (l2 : 300 < m) (w : World) :
    Calls Try.prog 7 #[.agg #[.slice A len cap, .int .i64 s], .slice B m c, .slice C n d] w fun e w' => e = .returned (.bool true) ∧ Below w.heap.size w w' := by
  have d1 : decide ((300 : Int) < (len : Int)) = false := by rw [decide_eq_false_iff_not]; omega
  have d2 : decide ((300 : Int) < (m : Int)) = true := by rw [decide_eq_true_iff]; omega
  go_enter Try.func7, Try.ntmps7
  go_wp2_with fail
  refine (shown_below _).mono ?_
  rintro e w1 ⟨rfl, hb⟩
  have HB1 := Lib.hid (below_box hb)
  have V1 := Lib.hid ((VarAt.made w #[.slice A len cap, .int .i64 s] 24).below hb)
  clear hb
  obtain ⟨hz1, hc0, hc1, hf0, hf1⟩ := V1.out.two
  go_wp2_with fail
  go_ret
  exact ⟨rfl, HB1.out⟩

theorem walkLongB (A : Option Addr) (len cap : Nat) (s : Int) (B : Option Addr) (m c : Nat) (C : Option Addr) (n d : Nat) (l1 : len ≤ 300) (l2 : m ≤ 300) (l3 : 300 < n) (w : World) :
    Calls Try.prog 7 #[.agg #[.slice A len cap, .int .i64 s], .slice B m c, .slice C n d] w fun e w' => e = .returned (.bool true) ∧ Below w.heap.size w w' := by
  have d1 : decide ((300 : Int) < (len : Int)) = false := by rw [decide_eq_false_iff_not]; omega
  have d2 : decide ((300 : Int) < (m : Int)) = false := by rw [decide_eq_false_iff_not]; omega
  have d3 : decide ((300 : Int) < (n : Int)) = true := by rw [decide_eq_true_iff]; omega
  go_enter Try.func7, Try.ntmps7
  go_wp2_with fail
  refine (shown_below _).mono ?_
  rintro e w1 ⟨rfl, hb⟩
  have HB1 := Lib.hid (below_box hb)
  have V1 := Lib.hid ((VarAt.made w #[.slice A len cap, .int .i64 s] 24).below hb)
  clear hb
  obtain ⟨hz1, hc0, hc1, hf0, hf1⟩ := V1.out.two
  go_wp2_with fail
  go_ret
  exact ⟨rfl, HB1.out⟩

theorem walkWrong (A : Option Addr) (len cap : Nat) (s : Int) (B : Option Addr) (m c : Nat) (C : Option Addr) (n d : Nat) (l1 : len ≤ 300) (l2 : m ≤ 300) (l3 : n ≤ 300) (hr : rightB s len = false) (w : World) :
    Calls Try.prog 7 #[.agg #[.slice A len cap, .int .i64 s], .slice B m c, .slice C n d] w fun e w' => e = .returned (.bool true) ∧ Below w.heap.size w w' := by
  have d1 : decide ((300 : Int) < (len : Int)) = false := by rw [decide_eq_false_iff_not]; omega
  have d2 : decide ((300 : Int) < (m : Int)) = false := by rw [decide_eq_false_iff_not]; omega
  have d3 : decide ((300 : Int) < (n : Int)) = false := by rw [decide_eq_false_iff_not]; omega
  have HRR := fun w => refRight_any A len cap s w
  rw [hr] at HRR
  clear hr
  go_enter Try.func7, Try.ntmps7
  go_wp2_with fail
  refine (shown_below _).mono ?_
  rintro e w1 ⟨rfl, hb⟩
  have HB1 := Lib.hid (below_box hb)
  have V1 := Lib.hid ((VarAt.made w #[.slice A len cap, .int .i64 s] 24).below hb)
  clear hb
  obtain ⟨hz1, hc0, hc1, hf0, hf1⟩ := V1.out.two
  go_wp2_with (go_at_call 9; (with_reducible refine (HRR _).mono ?_); rintro e w2 ⟨rfl, hb⟩; have HB2 := Lib.hid (HB1.out.trans (hb.mono HB1.out.size)); clear hb)
  go_ret
  exact ⟨rfl, HB2.out⟩

/-- A variable of the call's own, in a block of its own. -/
def YAt (w : World) (b : Nat) (v0 v1 : Value) : Prop := w.heap[b]? = some (.cells #[v0, v1] 24)
theorem YAt.made (w : World) (v0 v1 : Value) : YAt (w.alloc (.cells #[v0, v1] 24)) w.heap.size v0 v1 := heap_alloc_new w _
theorem YAt.lt {w : World} {b : Nat} {v0 v1 : Value} (h : YAt w b v0 v1) : b < w.heap.size := (Array.getElem?_eq_some_iff.1 h).1
theorem YAt.below {w w' : World} {b : Nat} {v0 v1 : Value} (h : YAt w b v0 v1) (hb : Below w.heap.size w w') : YAt w' b v0 v1 := (hb.block b h.lt).trans h
theorem YAt.alloc {w : World} {b : Nat} {v0 v1 : Value} (h : YAt w b v0 v1) (o : Obj) : YAt (w.alloc o) b v0 v1 := h.below ((Below.refl _ _).alloc (Nat.le_refl _) o)
theorem YAt.grown {w w' : World} {b base : Nat} {v0 v1 v : Value} {n : Nat} {xs : List Nat} (h : YAt w b v0 v1) (hown : Own w base v n xs) (hg : w.grownBy w' v.ownBlock) : YAt w' b v0 v1 := by
  refine (hg.block b h.lt (fun e => ?_)).trans h
  rcases hown.2.2 with ⟨rfl, _⟩ | ⟨g, cap, cur, rfl, _, hgb, _⟩
  · simp [Value.ownBlock] at e
  · simp [Value.ownBlock] at e
    subst e
    unfold YAt at h
    rw [hgb] at h
    simp at h
theorem YAt.var {w : World} {b : Nat} {v0 v1 : Value} (h : YAt w b v0 v1) : VarAt w b [v0, v1] := by
  have e : w.heap[b]? = some (.cells #[v0, v1] 24) := h
  refine ⟨h.lt, fun j v hv => ?_, fun j hj => ?_⟩
  · unfold World.cell?
    simp only [e]
    simpa using hv
  · unfold World.frozen?
    simp only [e]
    simp
theorem AtB.ne {w : World} {A : Option Addr} {n : Nat} {xs : List Nat} (h : AtB w A n xs) : ∀ b off, A = some ⟨b, off, none⟩ → 0 < n → b ≠ w.heap.size := fun b off e h0 => by
  obtain ⟨b', off', e', hlt, _⟩ := h.2.2.2 h0
  rw [e'] at e
  simp only [Option.some.injEq, Addr.mk.injEq] at e
  omega
theorem nigh_ne {w0 w : World} {A A' : Option Addr} {n k g : Nat} {xs : List Nat} (h : 0 < k → Nigh w A n A') (hA : AtB w0 A n xs) (h1 : w0.heap.size ≤ g) (h2 : g < w.heap.size) : ∀ b off, A' = some ⟨b, off, none⟩ → 0 < k → b ≠ g := fun b off e h0 => by
  rcases h h0 b off e with ⟨hn, off', e'⟩ | h3
  · obtain ⟨b2, o2, e2, hlt, _⟩ := hA.2.2.2 hn
    rw [e2] at e'
    simp only [Option.some.injEq, Addr.mk.injEq] at e'
    omega
  · omega

set_option maxRecDepth 100000 in
set_option maxHeartbeats 8000000 in
theorem walk (A : Option Addr) (len cap : Nat) (xs : List Nat) (hl : len ≤ cap) (l1 : len ≤ 300) (q : Nat) (hq : q ≤ len) (B : Option Addr) (m c : Nat) (ys : List Nat) (l2 : m ≤ 300) (C : Option Addr) (n d : Nat) (zs : List Nat) (l3 : n ≤ 300) (w : World)
    (hA : Hid (AtB w A len xs)) (hB : Hid (AtB w B m ys)) (hC : Hid (AtB w C n zs)) :
    Calls Try.prog 7 #[.agg #[.slice A len cap, .int .i64 (q : Int)], .slice B m c, .slice C n d] w fun e w' => e = .returned (.bool true) ∧ Below w.heap.size w w' := by
  have d1 : decide ((300 : Int) < (len : Int)) = false := by rw [decide_eq_false_iff_not]; omega
  have d2 : decide ((300 : Int) < (m : Int)) = false := by rw [decide_eq_false_iff_not]; omega
  have d3 : decide ((300 : Int) < (n : Int)) = false := by rw [decide_eq_false_iff_not]; omega
  have HRR := fun w => refRight_any A len cap (q : Int) w
  rw [rightB_nat hq] at HRR
  have HAPP1 := fun w hA hB => append_at A len cap xs hl (q : Int) B m c ys (by omega) w hA hB
  obtain ⟨r, hr⟩ : ∃ r, m + n = r := ⟨_, rfl⟩
  obtain ⟨p, hp⟩ : ∃ p, len + r = p := ⟨_, rfl⟩
  obtain ⟨ts, hts⟩ : ∃ ts, ys ++ zs = ts := ⟨_, rfl⟩
  obtain ⟨us, hus⟩ : ∃ us, xs ++ ts = us := ⟨_, rfl⟩
  have HAPP2 : ∀ (A3 : Option Addr) (c3 : Nat) (hc : len + m ≤ c3) w, Hid (AtB w A3 (len + m) (xs ++ ys)) → Hid (AtB w C n zs) → Calls Try.prog 12 #[.agg #[.slice A3 (len + m) c3, .int .i64 (q : Int)], .slice C n d] w (StmPost w p us (q : Int)) := fun A3 c3 hc w h1 h2 => by
    have := append_at A3 (len + m) c3 (xs ++ ys) hc (q : Int) C n d zs (by omega) w h1 h2
    rwa [Nat.add_assoc, hr, hp, List.append_assoc, hts, hus] at this
  have HAPPY : ∀ (T : Option Addr) (ct : Nat) (hct : r ≤ ct) w, Hid (AtB w A len xs) → Hid (AtB w T r ts) → Calls Try.prog 12 #[.agg #[.slice A len cap, .int .i64 (q : Int)], .slice T r ct] w (StmPostN w A len p us (q : Int)) := fun T ct hct w h1 h2 => by
    have := append_atN A len cap xs hl (q : Int) T r ct ts (by omega) w h1 h2
    rwa [hp, hus] at this
  have HNIL : ∀ w, Hid (AtB w A len xs) → Calls Try.prog 12 #[.agg #[.slice A len cap, .int .i64 (q : Int)], .slice none 0 0] w (StmPost w len xs (q : Int)) := fun w h1 => by
    have := append_at A len cap xs hl (q : Int) none 0 0 [] (by omega) w h1 (Lib.hid (AtB.nil _ _))
    rwa [Nat.add_zero, List.append_nil] at this
  go_enter Try.func7, Try.ntmps7
  go_wp2_with fail
  refine (shown_below _).mono ?_
  rintro e w1 ⟨rfl, hb⟩
  have HB1 := Lib.hid (below_box hb)
  have V1 := Lib.hid ((VarAt.made w #[.slice A len cap, .int .i64 (q : Int)] 24).below hb)
  have HX1 := Lib.hid (AtB.later hA (below_box hb))
  have HY1 := Lib.hid (AtB.later hB (below_box hb))
  have HZ1 := Lib.hid (AtB.later hC (below_box hb))
  clear hb hA hB hC
  obtain ⟨hz1, hc0, hc1, hf0, hf1⟩ := V1.out.two
  go_wp2_with (go_at_call 9; (with_reducible refine (HRR _).mono ?_); rintro e w2 ⟨rfl, hb⟩; have HB2 := Lib.hid (HB1.out.trans (hb.mono HB1.out.size)); have HX2 := Lib.hid (AtB.later HX1 hb); have HY2 := Lib.hid (AtB.later HY1 hb); have HZ2 := Lib.hid (AtB.later HZ1 hb); have V2 := Lib.hid (V1.out.below hb); clear hb; clear hz1 hc0 hc1 hf0 hf1 HB1 HX1 HY1 HZ1 V1; obtain ⟨hz1, hc0, hc1, hf0, hf1⟩ := V2.out.two)
  (refine (HAPP1 _ HX2 HY2).mono ?_)
  rintro e w0 ⟨A3, c3, rfl, hc3, hat3, hb⟩
  have HB0 := Lib.hid (HB2.out.trans (hb.mono HB2.out.size))
  have HX0 := Lib.hid (AtB.later HX2 hb)
  have HY0 := Lib.hid (AtB.later HY2 hb)
  have HZ0 := Lib.hid (AtB.later HZ2 hb)
  have V0 := Lib.hid (V2.out.below hb)
  have HP0 := Lib.hid hat3
  clear hb HB2 HX2 HY2 HZ2 V2 hz1 hc0 hc1 hf0 hf1 hat3
  obtain ⟨hz1, hc0, hc1, hf0, hf1⟩ := V0.out.two
  go_wp2_with fail
  (refine (HAPP2 A3 c3 hc3 _ HP0 HZ0).mono ?_)
  rintro e w3 ⟨A4, c4, rfl, hc4, hat4, hb⟩
  obtain ⟨w4, hw4⟩ : ∃ w4, w3.alloc (.cells #[.slice A4 p c4, .int .i64 (q : Int)] 24) = w4 := ⟨_, rfl⟩
  have hba : Below w0.heap.size w0 w4 := by rw [← hw4]; exact hb.alloc hb.size _
  have hbz : Below w3.heap.size w3 w4 := by rw [← hw4]; exact below_al (Below.refl _ _)
  have HB4 := Lib.hid (HB0.out.trans (hba.mono HB0.out.size))
  have HX4 := Lib.hid (AtB.later HX0 hba)
  have HY4 := Lib.hid (AtB.later HY0 hba)
  have HZ4 := Lib.hid (AtB.later HZ0 hba)
  have HP4 := Lib.hid (AtB.later (Lib.hid hat4) hbz)
  have V4 := Lib.hid (V0.out.below hba)
  have X4 : Hid (VarAt w4 w3.heap.size [.slice A4 p c4, .int .i64 (q : Int)]) := Lib.hid (by rw [← hw4]; exact VarAt.made w3 #[.slice A4 p c4, .int .i64 (q : Int)] 24)
  clear hb hba hbz HB0 HX0 HY0 HZ0 HP0 V0 hz1 hc0 hc1 hf0 hf1 hat4
  have hS0 : ∀ w', Below w4.heap.size w4 w' → w'.cell? ⟨w.heap.size, 0, none⟩ = some (.slice A len cap) := fun w' hb => (V4.out.below hb).two.2.1
  have hS1 : ∀ w', Below w4.heap.size w4 w' → w'.cell? ⟨w.heap.size, 1, none⟩ = some (.int .i64 (q : Int)) := fun w' hb => (V4.out.below hb).two.2.2.1
  go_wp2_with fail
  try rw [hw4]
  clear hw4
  refine wp_region_noPanic ?_
  refine wp_region_held_drew (S := fun w' => Below w4.heap.size w4 w') (by kernel_rfl) (Below.drew (Below.refl _ _)) (fun hHeld => ?_)
  refine wpAnyH_take (i := 0) (oi := _) (v := ?_) rfl (by kernel_rfl) (by kernel_rfl) (by kernel_rfl) (fun _ _ _ h => h) (Or.inl ⟨by rfl, ?_⟩) (by assumption) ?_
  rotate_left
  · intro w hSw
    (try dsimp only at hSw)
    go_simp
    with_reducible rfl
  try simp only [List.getElem_toArray, List.getElem_cons_zero, Act.put, List.setIfInBounds_toArray, List.set_cons_zero, List.set_cons_succ]
  refine wpAnyH_take (i := 2) (oi := _) (v := ?_) rfl (by kernel_rfl) (by kernel_rfl) (by kernel_rfl) (fun _ _ _ h => h) (Or.inl ⟨by rfl, ?_⟩) (by assumption) ?_
  rotate_left
  · intro w hSw
    (try dsimp only at hSw)
    go_simp
    with_reducible rfl
  try simp only [List.getElem_toArray, List.getElem_cons_succ, List.getElem_cons_zero, Act.put, List.setIfInBounds_toArray, List.set_cons_zero, List.set_cons_succ]
  refine wpAnyH_take (i := 4) (oi := _) (v := ?_) rfl (by kernel_rfl) (by kernel_rfl) (by kernel_rfl) (fun _ _ _ h => h) (Or.inl ⟨by rfl, ?_⟩) (by assumption) ?_
  rotate_left
  · intro w hSw
    (try dsimp only at hSw)
    go_simp
    with_reducible rfl
  try simp only [List.getElem_toArray, List.getElem_cons_succ, List.getElem_cons_zero, Act.put, List.setIfInBounds_toArray, List.set_cons_zero, List.set_cons_succ]
  clear hS0 hS1
  have B0 : Below w4.heap.size w4 w4.drew := hHeld
  clear hHeld
  generalize w4.drew = u0 at *
  refine wpAnyH_ready (rs := [1, 7]) (by kernel_rfl) (by simp) ?_
  refine AllReadyH.cons rfl (fun K hK => ?_) ?_
  · skip
    go_simp
    refine hK.out _ _ (B0.alloc B0.size _) (fun hHeld => ?_)
    clear hK K hHeld
    try simp only [List.getElem_toArray, List.getElem_cons_succ, List.getElem_cons_zero, Act.put, List.setIfInBounds_toArray, List.set_cons_zero, List.set_cons_succ]
    have B1 := B0.alloc B0.size (.cells #[] 5)
    have O1 := Lib.hid ((Own.made u0).lower B0.size)
    generalize u0.alloc (.cells #[] 5) = u1 at *
    clear B0
    refine wpAnyH_ready (rs := [3, 7]) (by kernel_rfl) (by simp) ?_
    refine AllReadyH.cons rfl (fun K hK => ?_) ?_
    · skip
      refine step_append_bytes (by rfl) (.tmp 37) (.tmp 38) (by rfl) w4.heap.size _ 0 [] (by rfl) O1.out B m c ys (by rfl) (AtB.below HY4.out B1 (Nat.le_refl _)) (by omega) B1.size ?_
      intro v2 u2 hown hgrow
      have B2 := below_own B1 O1.out hgrow
      have O2 := Lib.hid hown
      refine hK.out _ _ B2 (fun hHeld => ?_)
      clear hK K hHeld hown hgrow B1 O1
      try simp only [List.getElem_toArray, List.getElem_cons_succ, List.getElem_cons_zero, Act.put, List.setIfInBounds_toArray, List.set_cons_zero, List.set_cons_succ]
      refine wpAnyH_ready (rs := [5, 7]) (by kernel_rfl) (by simp) ?_
      refine AllReadyH.cons rfl (fun K hK => ?_) ?_
      · skip
        refine step_append_bytes (by rfl) (.tmp 39) (.tmp 40) (by rfl) w4.heap.size _ (0 + m) ([] ++ ys) (by rfl) O2.out C n d zs (by rfl) (AtB.below HZ4.out B2 (Nat.le_refl _)) (by omega) B2.size ?_
        intro v3 u3 hown hgrow
        have B3 := below_own B2 O2.out hgrow
        rw [Nat.zero_add, List.nil_append, hr, hts] at hown
        obtain ⟨T, ct, rfl, hct, hatT⟩ := hown.at_ (by omega)
        have T3 := Lib.hid hatT
        clear hatT
        refine hK.out _ _ B3 (fun hHeld => ?_)
        clear hK K hHeld hown hgrow B2 O2
        try simp only [List.getElem_toArray, List.getElem_cons_succ, List.getElem_cons_zero, Act.put, List.setIfInBounds_toArray, List.set_cons_zero, List.set_cons_succ]
        refine wpAnyH_ready (rs := [6, 7]) (by kernel_rfl) (by simp) ?_
        refine AllReadyH.cons rfl (fun K hK => ?_) ?_
        · skip
          go_simp
          go_at_call 12
          (with_reducible refine (HAPPY T ct hct _ (Lib.hid (AtB.below HX4.out B3 (Nat.le_refl _))) T3).mono ?_)
          rintro e u4 ⟨A6, c6, rfl, hc6, hat6, hb, hni⟩
          have B4 := B3.trans (hb.mono B3.size)
          have R4 := Lib.hid hat6
          have M := Lib.hid hni
          refine hK.out _ _ B4 (fun hHeld => ?_)
          clear hK K hHeld hb hni hat6 B3 T3
          try simp only [List.getElem_toArray, List.getElem_cons_succ, List.getElem_cons_zero, Act.put, List.setIfInBounds_toArray, List.set_cons_zero, List.set_cons_succ]
          refine wpAnyH_ready (rs := [7]) (by kernel_rfl) (by simp) ?_
          refine AllReadyH.cons rfl (fun K hK => ?_) ?_
          · skip
            go_simp
            refine hK.out _ _ (B4.alloc B4.size _) (fun hHeld => ?_)
            clear hK K hHeld
            try simp only [List.getElem_toArray, List.getElem_cons_succ, List.getElem_cons_zero, Act.put, List.setIfInBounds_toArray, List.set_cons_zero, List.set_cons_succ]
            have B5 := B4.alloc B4.size (.cells #[.slice none 0 0, .int .i64 0] 24)
            have Y5 := Lib.hid (YAt.made u4 (.slice none 0 0) (.int .i64 0))
            have HBY := Lib.hid B4.size
            have N5 : Hid (∀ b off, A6 = some ⟨b, off, none⟩ → 0 < p → b ≠ u4.heap.size) := Lib.hid (AtB.ne R4.out)
            have R5 := Lib.hid (AtB.later R4 (below_al (o := (.cells #[.slice none 0 0, .int .i64 0] 24)) (Below.refl _ _)))
            clear M
            generalize u4.alloc (.cells #[.slice none 0 0, .int .i64 0] 24) = u5 at *
            generalize hby : u4.heap.size = gy at *
            clear B4 R4
            obtain ⟨hy, he0, he1, hh0, hh1⟩ := Y5.out.var.two
            refine wpAnyH_ready (rs := [8]) (by kernel_rfl) (by simp) ?_
            refine AllReadyH.cons rfl (fun K hK => ?_) AllReadyH.nil
            go_simp
            have B9 := below_set2 HBY.out (.slice A6 p c6) (.int .i64 (q : Int)) B5
            refine hK.out _ _ B9 (fun hHeld => ?_)
            clear hK K hHeld
            try simp only [List.getElem_toArray, List.getElem_cons_succ, List.getElem_cons_zero, Act.put, List.setIfInBounds_toArray, List.set_cons_zero, List.set_cons_succ]
            refine wpAnyH_done (by kernel_rfl) ?_ _
            refine NoPanic.normal ?_
            have Y9 := Lib.hid ((Y5.out.var.setAt 0 (.slice A6 p c6) (by simp)).setAt 1 (.int .i64 (q : Int)) (by simp))
            have R9 := Lib.hid ((R5.out.set gy 0 (.slice A6 p c6) N5.out).set gy 1 (.int .i64 (q : Int)) N5.out)
            generalize (u5.setCell ⟨gy, 0, none⟩ (.slice A6 p c6)).setCell ⟨gy, 1, none⟩ (.int .i64 (q : Int)) = w9 at *
            clear hy he0 he1 hh0 hh1 Y5 B5 R5 N5
            have HB9 := Lib.hid (HB4.out.trans (B9.mono HB4.out.size))
            have V9 := Lib.hid (V4.out.below B9)
            have X9 := Lib.hid (X4.out.below B9)
            have HX9 := Lib.hid (AtB.later HX4 B9)
            have HP9 := Lib.hid (AtB.later HP4 B9)
            clear B9 HB4 V4 X4 HX4 HP4 HY4 HZ4
            have hB0 : Below w9.heap.size w9 w9 := Below.refl _ _
            have hS0 : ∀ w', Below w9.heap.size w9 w' → w'.cell? ⟨w.heap.size, 0, none⟩ = some (.slice A len cap) := fun w' hb => (V9.out.below hb).two.2.1
            have hS1 : ∀ w', Below w9.heap.size w9 w' → w'.cell? ⟨w.heap.size, 1, none⟩ = some (.int .i64 (q : Int)) := fun w' hb => (V9.out.below hb).two.2.2.1
            have hX0 : ∀ w', Below w9.heap.size w9 w' → w'.cell? ⟨w3.heap.size, 0, none⟩ = some (.slice A4 p c4) := fun w' hb => (X9.out.below hb).two.2.1
            have hX1 : ∀ w', Below w9.heap.size w9 w' → w'.cell? ⟨w3.heap.size, 1, none⟩ = some (.int .i64 (q : Int)) := fun w' hb => (X9.out.below hb).two.2.2.1
            have hY0 : ∀ w', Below w9.heap.size w9 w' → w'.cell? ⟨gy, 0, none⟩ = some (.slice A6 p c6) := fun w' hb => (Y9.out.below hb).two.2.1
            have hY1 : ∀ w', Below w9.heap.size w9 w' → w'.cell? ⟨gy, 1, none⟩ = some (.int .i64 (q : Int)) := fun w' hb => (Y9.out.below hb).two.2.2.1
            go_wp2_with fail
            first | (go_region_held3 (fun w' => Below w9.heap.size w9 w') (first | assumption | (exact Below.drew (by assumption)) | (exact Below.drew (Below.refl _ _)))
                (first
                  | (go_at_call 11; (with_reducible refine (same_at A4 A6 p c4 c6 us (q : Int) _ (Lib.hid (AtB.below HP9.out (by first | assumption | (exact Below.drew (Below.refl _ _)) | (exact Below.drew (by assumption))) (Nat.le_refl _))) (Lib.hid (AtB.below R9.out (by first | assumption | (exact Below.drew (Below.refl _ _)) | (exact Below.drew (by assumption))) (Nat.le_refl _)))).mono ?_); rintro e w10 ⟨rfl, hbw10⟩; have hBw10 : Below w9.heap.size w9 w10 := below_step hbw10 (by first | assumption | (exact Below.drew (Below.refl _ _)) | (exact Below.drew (by assumption))); skip; clear hbw10)
                  | (go_at_call 12; (with_reducible refine (HNIL _ (Lib.hid (AtB.below HX9.out (by first | assumption | (exact Below.drew (Below.refl _ _)) | (exact Below.drew (by assumption))) (Nat.le_refl _)))).mono ?_); rintro e w11 ⟨A7, c7, rfl, hc7, hat7, hbw11⟩; have hBw11 : Below w9.heap.size w9 w11 := below_step hbw11 (by first | assumption | (exact Below.drew (Below.refl _ _)) | (exact Below.drew (by assumption))); have HN7 := Lib.hid hat7; clear hat7; clear hbw11)
                  | (go_at_call 11; (with_reducible refine (same_at A7 A len c7 cap xs (q : Int) _ (AtB.hidD HN7 rfl) (Lib.hid (AtB.below HX9.out (by first | assumption | (exact Below.drew (Below.refl _ _)) | (exact Below.drew (by assumption))) (Nat.le_refl _)))).mono ?_); rintro e w12 ⟨rfl, hbw12⟩; have hBw12 : Below w9.heap.size w9 w12 := below_step hbw12 (by first | assumption | (exact Below.drew (Below.refl _ _)) | (exact Below.drew (by assumption))); skip; clear hbw12))) | fail
            all_goals
              go_wp2_with fail
              go_ret
              exact ⟨rfl, HB9.out.trans (Below.mono (by assumption) HB9.out.size)⟩
          exact AllReadyH.nil
        refine AllReadyH.cons rfl (fun K hK => ?_) ?_
        · skip
          go_simp
          refine hK.out _ _ (B3.alloc B3.size _) (fun hHeld => ?_)
          clear hK K hHeld
          try simp only [List.getElem_toArray, List.getElem_cons_succ, List.getElem_cons_zero, Act.put, List.setIfInBounds_toArray, List.set_cons_zero, List.set_cons_succ]
          have B4 := B3.alloc B3.size (.cells #[.slice none 0 0, .int .i64 0] 24)
          have Y4 := Lib.hid (YAt.made u3 (.slice none 0 0) (.int .i64 0))
          have HBY := Lib.hid B3.size
          have T4 := Lib.hid (AtB.later T3 (below_al (o := (.cells #[.slice none 0 0, .int .i64 0] 24)) (Below.refl _ _)))
          generalize u3.alloc (.cells #[.slice none 0 0, .int .i64 0] 24) = u4 at *
          generalize hby : u3.heap.size = gy at *
          clear B3 T3
          refine wpAnyH_ready (rs := [6]) (by kernel_rfl) (by simp) ?_
          refine AllReadyH.cons rfl (fun K hK => ?_) ?_
          · skip
            go_simp
            go_at_call 12
            (with_reducible refine (HAPPY T ct hct _ (Lib.hid (AtB.below HX4.out B4 (Nat.le_refl _))) T4).mono ?_)
            rintro e u5 ⟨A6, c6, rfl, hc6, hat6, hb, hni⟩
            have B5 := B4.trans (hb.mono B4.size)
            have R5 := Lib.hid hat6
            have Y5 := Lib.hid (Y4.out.below hb)
            have N5 : Hid (∀ b off, A6 = some ⟨b, off, none⟩ → 0 < p → b ≠ gy) := Lib.hid (nigh_ne hni HX4.out HBY.out Y4.out.lt)
            refine hK.out _ _ B5 (fun hHeld => ?_)
            clear hK K hHeld hb hni hat6 B4 T4 Y4
            try simp only [List.getElem_toArray, List.getElem_cons_succ, List.getElem_cons_zero, Act.put, List.setIfInBounds_toArray, List.set_cons_zero, List.set_cons_succ]
            obtain ⟨hy, he0, he1, hh0, hh1⟩ := Y5.out.var.two
            refine wpAnyH_ready (rs := [8]) (by kernel_rfl) (by simp) ?_
            refine AllReadyH.cons rfl (fun K hK => ?_) AllReadyH.nil
            go_simp
            have B9 := below_set2 HBY.out (.slice A6 p c6) (.int .i64 (q : Int)) B5
            refine hK.out _ _ B9 (fun hHeld => ?_)
            clear hK K hHeld
            try simp only [List.getElem_toArray, List.getElem_cons_succ, List.getElem_cons_zero, Act.put, List.setIfInBounds_toArray, List.set_cons_zero, List.set_cons_succ]
            refine wpAnyH_done (by kernel_rfl) ?_ _
            refine NoPanic.normal ?_
            have Y9 := Lib.hid ((Y5.out.var.setAt 0 (.slice A6 p c6) (by simp)).setAt 1 (.int .i64 (q : Int)) (by simp))
            have R9 := Lib.hid ((R5.out.set gy 0 (.slice A6 p c6) N5.out).set gy 1 (.int .i64 (q : Int)) N5.out)
            generalize (u5.setCell ⟨gy, 0, none⟩ (.slice A6 p c6)).setCell ⟨gy, 1, none⟩ (.int .i64 (q : Int)) = w9 at *
            clear hy he0 he1 hh0 hh1 Y5 B5 R5 N5
            have HB9 := Lib.hid (HB4.out.trans (B9.mono HB4.out.size))
            have V9 := Lib.hid (V4.out.below B9)
            have X9 := Lib.hid (X4.out.below B9)
            have HX9 := Lib.hid (AtB.later HX4 B9)
            have HP9 := Lib.hid (AtB.later HP4 B9)
            clear B9 HB4 V4 X4 HX4 HP4 HY4 HZ4
            have hB0 : Below w9.heap.size w9 w9 := Below.refl _ _
            have hS0 : ∀ w', Below w9.heap.size w9 w' → w'.cell? ⟨w.heap.size, 0, none⟩ = some (.slice A len cap) := fun w' hb => (V9.out.below hb).two.2.1
            have hS1 : ∀ w', Below w9.heap.size w9 w' → w'.cell? ⟨w.heap.size, 1, none⟩ = some (.int .i64 (q : Int)) := fun w' hb => (V9.out.below hb).two.2.2.1
            have hX0 : ∀ w', Below w9.heap.size w9 w' → w'.cell? ⟨w3.heap.size, 0, none⟩ = some (.slice A4 p c4) := fun w' hb => (X9.out.below hb).two.2.1
            have hX1 : ∀ w', Below w9.heap.size w9 w' → w'.cell? ⟨w3.heap.size, 1, none⟩ = some (.int .i64 (q : Int)) := fun w' hb => (X9.out.below hb).two.2.2.1
            have hY0 : ∀ w', Below w9.heap.size w9 w' → w'.cell? ⟨gy, 0, none⟩ = some (.slice A6 p c6) := fun w' hb => (Y9.out.below hb).two.2.1
            have hY1 : ∀ w', Below w9.heap.size w9 w' → w'.cell? ⟨gy, 1, none⟩ = some (.int .i64 (q : Int)) := fun w' hb => (Y9.out.below hb).two.2.2.1
            go_wp2_with fail
            first | (go_region_held3 (fun w' => Below w9.heap.size w9 w') (first | assumption | (exact Below.drew (by assumption)) | (exact Below.drew (Below.refl _ _)))
                (first
                  | (go_at_call 11; (with_reducible refine (same_at A4 A6 p c4 c6 us (q : Int) _ (Lib.hid (AtB.below HP9.out (by first | assumption | (exact Below.drew (Below.refl _ _)) | (exact Below.drew (by assumption))) (Nat.le_refl _))) (Lib.hid (AtB.below R9.out (by first | assumption | (exact Below.drew (Below.refl _ _)) | (exact Below.drew (by assumption))) (Nat.le_refl _)))).mono ?_); rintro e w10 ⟨rfl, hbw10⟩; have hBw10 : Below w9.heap.size w9 w10 := below_step hbw10 (by first | assumption | (exact Below.drew (Below.refl _ _)) | (exact Below.drew (by assumption))); skip; clear hbw10)
                  | (go_at_call 12; (with_reducible refine (HNIL _ (Lib.hid (AtB.below HX9.out (by first | assumption | (exact Below.drew (Below.refl _ _)) | (exact Below.drew (by assumption))) (Nat.le_refl _)))).mono ?_); rintro e w11 ⟨A7, c7, rfl, hc7, hat7, hbw11⟩; have hBw11 : Below w9.heap.size w9 w11 := below_step hbw11 (by first | assumption | (exact Below.drew (Below.refl _ _)) | (exact Below.drew (by assumption))); have HN7 := Lib.hid hat7; clear hat7; clear hbw11)
                  | (go_at_call 11; (with_reducible refine (same_at A7 A len c7 cap xs (q : Int) _ (AtB.hidD HN7 rfl) (Lib.hid (AtB.below HX9.out (by first | assumption | (exact Below.drew (Below.refl _ _)) | (exact Below.drew (by assumption))) (Nat.le_refl _)))).mono ?_); rintro e w12 ⟨rfl, hbw12⟩; have hBw12 : Below w9.heap.size w9 w12 := below_step hbw12 (by first | assumption | (exact Below.drew (Below.refl _ _)) | (exact Below.drew (by assumption))); skip; clear hbw12))) | fail
            all_goals
              go_wp2_with fail
              go_ret
              exact ⟨rfl, HB9.out.trans (Below.mono (by assumption) HB9.out.size)⟩
          exact AllReadyH.nil
        exact AllReadyH.nil
      refine AllReadyH.cons rfl (fun K hK => ?_) ?_
      · skip
        go_simp
        refine hK.out _ _ (B2.alloc B2.size _) (fun hHeld => ?_)
        clear hK K hHeld
        try simp only [List.getElem_toArray, List.getElem_cons_succ, List.getElem_cons_zero, Act.put, List.setIfInBounds_toArray, List.set_cons_zero, List.set_cons_succ]
        have B3 := B2.alloc B2.size (.cells #[.slice none 0 0, .int .i64 0] 24)
        have Y3 := Lib.hid (YAt.made u2 (.slice none 0 0) (.int .i64 0))
        have HBY := Lib.hid B2.size
        have O3 := Lib.hid (O2.out.alloc (.cells #[.slice none 0 0, .int .i64 0] 24))
        generalize u2.alloc (.cells #[.slice none 0 0, .int .i64 0] 24) = u3 at *
        generalize hby : u2.heap.size = gy at *
        clear B2 O2
        refine wpAnyH_ready (rs := [5]) (by kernel_rfl) (by simp) ?_
        refine AllReadyH.cons rfl (fun K hK => ?_) ?_
        · skip
          refine step_append_bytes (by rfl) (.tmp 39) (.tmp 40) (by rfl) w4.heap.size _ (0 + m) ([] ++ ys) (by rfl) O3.out C n d zs (by rfl) (AtB.below HZ4.out B3 (Nat.le_refl _)) (by omega) B3.size ?_
          intro v4 u4 hown hgrow
          have B4 := below_own B3 O3.out hgrow
          have Y4 := Lib.hid (Y3.out.grown O3.out hgrow)
          rw [Nat.zero_add, List.nil_append, hr, hts] at hown
          obtain ⟨T, ct, rfl, hct, hatT⟩ := hown.at_ (by omega)
          have T4 := Lib.hid hatT
          clear hatT
          refine hK.out _ _ B4 (fun hHeld => ?_)
          clear hK K hHeld hown hgrow B3 O3 Y3
          try simp only [List.getElem_toArray, List.getElem_cons_succ, List.getElem_cons_zero, Act.put, List.setIfInBounds_toArray, List.set_cons_zero, List.set_cons_succ]
          refine wpAnyH_ready (rs := [6]) (by kernel_rfl) (by simp) ?_
          refine AllReadyH.cons rfl (fun K hK => ?_) ?_
          · skip
            go_simp
            go_at_call 12
            (with_reducible refine (HAPPY T ct hct _ (Lib.hid (AtB.below HX4.out B4 (Nat.le_refl _))) T4).mono ?_)
            rintro e u5 ⟨A6, c6, rfl, hc6, hat6, hb, hni⟩
            have B5 := B4.trans (hb.mono B4.size)
            have R5 := Lib.hid hat6
            have Y5 := Lib.hid (Y4.out.below hb)
            have N5 : Hid (∀ b off, A6 = some ⟨b, off, none⟩ → 0 < p → b ≠ gy) := Lib.hid (nigh_ne hni HX4.out HBY.out Y4.out.lt)
            refine hK.out _ _ B5 (fun hHeld => ?_)
            clear hK K hHeld hb hni hat6 B4 T4 Y4
            try simp only [List.getElem_toArray, List.getElem_cons_succ, List.getElem_cons_zero, Act.put, List.setIfInBounds_toArray, List.set_cons_zero, List.set_cons_succ]
            obtain ⟨hy, he0, he1, hh0, hh1⟩ := Y5.out.var.two
            refine wpAnyH_ready (rs := [8]) (by kernel_rfl) (by simp) ?_
            refine AllReadyH.cons rfl (fun K hK => ?_) AllReadyH.nil
            go_simp
            have B9 := below_set2 HBY.out (.slice A6 p c6) (.int .i64 (q : Int)) B5
            refine hK.out _ _ B9 (fun hHeld => ?_)
            clear hK K hHeld
            try simp only [List.getElem_toArray, List.getElem_cons_succ, List.getElem_cons_zero, Act.put, List.setIfInBounds_toArray, List.set_cons_zero, List.set_cons_succ]
            refine wpAnyH_done (by kernel_rfl) ?_ _
            refine NoPanic.normal ?_
            have Y9 := Lib.hid ((Y5.out.var.setAt 0 (.slice A6 p c6) (by simp)).setAt 1 (.int .i64 (q : Int)) (by simp))
            have R9 := Lib.hid ((R5.out.set gy 0 (.slice A6 p c6) N5.out).set gy 1 (.int .i64 (q : Int)) N5.out)
            generalize (u5.setCell ⟨gy, 0, none⟩ (.slice A6 p c6)).setCell ⟨gy, 1, none⟩ (.int .i64 (q : Int)) = w9 at *
            clear hy he0 he1 hh0 hh1 Y5 B5 R5 N5
            have HB9 := Lib.hid (HB4.out.trans (B9.mono HB4.out.size))
            have V9 := Lib.hid (V4.out.below B9)
            have X9 := Lib.hid (X4.out.below B9)
            have HX9 := Lib.hid (AtB.later HX4 B9)
            have HP9 := Lib.hid (AtB.later HP4 B9)
            clear B9 HB4 V4 X4 HX4 HP4 HY4 HZ4
            have hB0 : Below w9.heap.size w9 w9 := Below.refl _ _
            have hS0 : ∀ w', Below w9.heap.size w9 w' → w'.cell? ⟨w.heap.size, 0, none⟩ = some (.slice A len cap) := fun w' hb => (V9.out.below hb).two.2.1
            have hS1 : ∀ w', Below w9.heap.size w9 w' → w'.cell? ⟨w.heap.size, 1, none⟩ = some (.int .i64 (q : Int)) := fun w' hb => (V9.out.below hb).two.2.2.1
            have hX0 : ∀ w', Below w9.heap.size w9 w' → w'.cell? ⟨w3.heap.size, 0, none⟩ = some (.slice A4 p c4) := fun w' hb => (X9.out.below hb).two.2.1
            have hX1 : ∀ w', Below w9.heap.size w9 w' → w'.cell? ⟨w3.heap.size, 1, none⟩ = some (.int .i64 (q : Int)) := fun w' hb => (X9.out.below hb).two.2.2.1
            have hY0 : ∀ w', Below w9.heap.size w9 w' → w'.cell? ⟨gy, 0, none⟩ = some (.slice A6 p c6) := fun w' hb => (Y9.out.below hb).two.2.1
            have hY1 : ∀ w', Below w9.heap.size w9 w' → w'.cell? ⟨gy, 1, none⟩ = some (.int .i64 (q : Int)) := fun w' hb => (Y9.out.below hb).two.2.2.1
            go_wp2_with fail
            first | (go_region_held3 (fun w' => Below w9.heap.size w9 w') (first | assumption | (exact Below.drew (by assumption)) | (exact Below.drew (Below.refl _ _)))
                (first
                  | (go_at_call 11; (with_reducible refine (same_at A4 A6 p c4 c6 us (q : Int) _ (Lib.hid (AtB.below HP9.out (by first | assumption | (exact Below.drew (Below.refl _ _)) | (exact Below.drew (by assumption))) (Nat.le_refl _))) (Lib.hid (AtB.below R9.out (by first | assumption | (exact Below.drew (Below.refl _ _)) | (exact Below.drew (by assumption))) (Nat.le_refl _)))).mono ?_); rintro e w10 ⟨rfl, hbw10⟩; have hBw10 : Below w9.heap.size w9 w10 := below_step hbw10 (by first | assumption | (exact Below.drew (Below.refl _ _)) | (exact Below.drew (by assumption))); skip; clear hbw10)
                  | (go_at_call 12; (with_reducible refine (HNIL _ (Lib.hid (AtB.below HX9.out (by first | assumption | (exact Below.drew (Below.refl _ _)) | (exact Below.drew (by assumption))) (Nat.le_refl _)))).mono ?_); rintro e w11 ⟨A7, c7, rfl, hc7, hat7, hbw11⟩; have hBw11 : Below w9.heap.size w9 w11 := below_step hbw11 (by first | assumption | (exact Below.drew (Below.refl _ _)) | (exact Below.drew (by assumption))); have HN7 := Lib.hid hat7; clear hat7; clear hbw11)
                  | (go_at_call 11; (with_reducible refine (same_at A7 A len c7 cap xs (q : Int) _ (AtB.hidD HN7 rfl) (Lib.hid (AtB.below HX9.out (by first | assumption | (exact Below.drew (Below.refl _ _)) | (exact Below.drew (by assumption))) (Nat.le_refl _)))).mono ?_); rintro e w12 ⟨rfl, hbw12⟩; have hBw12 : Below w9.heap.size w9 w12 := below_step hbw12 (by first | assumption | (exact Below.drew (Below.refl _ _)) | (exact Below.drew (by assumption))); skip; clear hbw12))) | fail
            all_goals
              go_wp2_with fail
              go_ret
              exact ⟨rfl, HB9.out.trans (Below.mono (by assumption) HB9.out.size)⟩
          exact AllReadyH.nil
        exact AllReadyH.nil
      exact AllReadyH.nil
    refine AllReadyH.cons rfl (fun K hK => ?_) ?_
    · skip
      go_simp
      refine hK.out _ _ (B1.alloc B1.size _) (fun hHeld => ?_)
      clear hK K hHeld
      try simp only [List.getElem_toArray, List.getElem_cons_succ, List.getElem_cons_zero, Act.put, List.setIfInBounds_toArray, List.set_cons_zero, List.set_cons_succ]
      have B2 := B1.alloc B1.size (.cells #[.slice none 0 0, .int .i64 0] 24)
      have Y2 := Lib.hid (YAt.made u1 (.slice none 0 0) (.int .i64 0))
      have HBY := Lib.hid B1.size
      have O2 := Lib.hid (O1.out.alloc (.cells #[.slice none 0 0, .int .i64 0] 24))
      generalize u1.alloc (.cells #[.slice none 0 0, .int .i64 0] 24) = u2 at *
      generalize hby : u1.heap.size = gy at *
      clear B1 O1
      refine wpAnyH_ready (rs := [3]) (by kernel_rfl) (by simp) ?_
      refine AllReadyH.cons rfl (fun K hK => ?_) ?_
      · skip
        refine step_append_bytes (by rfl) (.tmp 37) (.tmp 38) (by rfl) w4.heap.size _ 0 [] (by rfl) O2.out B m c ys (by rfl) (AtB.below HY4.out B2 (Nat.le_refl _)) (by omega) B2.size ?_
        intro v3 u3 hown hgrow
        have B3 := below_own B2 O2.out hgrow
        have Y3 := Lib.hid (Y2.out.grown O2.out hgrow)
        have O3 := Lib.hid hown
        refine hK.out _ _ B3 (fun hHeld => ?_)
        clear hK K hHeld hown hgrow B2 O2 Y2
        try simp only [List.getElem_toArray, List.getElem_cons_succ, List.getElem_cons_zero, Act.put, List.setIfInBounds_toArray, List.set_cons_zero, List.set_cons_succ]
        refine wpAnyH_ready (rs := [5]) (by kernel_rfl) (by simp) ?_
        refine AllReadyH.cons rfl (fun K hK => ?_) ?_
        · skip
          refine step_append_bytes (by rfl) (.tmp 39) (.tmp 40) (by rfl) w4.heap.size _ (0 + m) ([] ++ ys) (by rfl) O3.out C n d zs (by rfl) (AtB.below HZ4.out B3 (Nat.le_refl _)) (by omega) B3.size ?_
          intro v4 u4 hown hgrow
          have B4 := below_own B3 O3.out hgrow
          have Y4 := Lib.hid (Y3.out.grown O3.out hgrow)
          rw [Nat.zero_add, List.nil_append, hr, hts] at hown
          obtain ⟨T, ct, rfl, hct, hatT⟩ := hown.at_ (by omega)
          have T4 := Lib.hid hatT
          clear hatT
          refine hK.out _ _ B4 (fun hHeld => ?_)
          clear hK K hHeld hown hgrow B3 O3 Y3
          try simp only [List.getElem_toArray, List.getElem_cons_succ, List.getElem_cons_zero, Act.put, List.setIfInBounds_toArray, List.set_cons_zero, List.set_cons_succ]
          refine wpAnyH_ready (rs := [6]) (by kernel_rfl) (by simp) ?_
          refine AllReadyH.cons rfl (fun K hK => ?_) ?_
          · skip
            go_simp
            go_at_call 12
            (with_reducible refine (HAPPY T ct hct _ (Lib.hid (AtB.below HX4.out B4 (Nat.le_refl _))) T4).mono ?_)
            rintro e u5 ⟨A6, c6, rfl, hc6, hat6, hb, hni⟩
            have B5 := B4.trans (hb.mono B4.size)
            have R5 := Lib.hid hat6
            have Y5 := Lib.hid (Y4.out.below hb)
            have N5 : Hid (∀ b off, A6 = some ⟨b, off, none⟩ → 0 < p → b ≠ gy) := Lib.hid (nigh_ne hni HX4.out HBY.out Y4.out.lt)
            refine hK.out _ _ B5 (fun hHeld => ?_)
            clear hK K hHeld hb hni hat6 B4 T4 Y4
            try simp only [List.getElem_toArray, List.getElem_cons_succ, List.getElem_cons_zero, Act.put, List.setIfInBounds_toArray, List.set_cons_zero, List.set_cons_succ]
            obtain ⟨hy, he0, he1, hh0, hh1⟩ := Y5.out.var.two
            refine wpAnyH_ready (rs := [8]) (by kernel_rfl) (by simp) ?_
            refine AllReadyH.cons rfl (fun K hK => ?_) AllReadyH.nil
            go_simp
            have B9 := below_set2 HBY.out (.slice A6 p c6) (.int .i64 (q : Int)) B5
            refine hK.out _ _ B9 (fun hHeld => ?_)
            clear hK K hHeld
            try simp only [List.getElem_toArray, List.getElem_cons_succ, List.getElem_cons_zero, Act.put, List.setIfInBounds_toArray, List.set_cons_zero, List.set_cons_succ]
            refine wpAnyH_done (by kernel_rfl) ?_ _
            refine NoPanic.normal ?_
            have Y9 := Lib.hid ((Y5.out.var.setAt 0 (.slice A6 p c6) (by simp)).setAt 1 (.int .i64 (q : Int)) (by simp))
            have R9 := Lib.hid ((R5.out.set gy 0 (.slice A6 p c6) N5.out).set gy 1 (.int .i64 (q : Int)) N5.out)
            generalize (u5.setCell ⟨gy, 0, none⟩ (.slice A6 p c6)).setCell ⟨gy, 1, none⟩ (.int .i64 (q : Int)) = w9 at *
            clear hy he0 he1 hh0 hh1 Y5 B5 R5 N5
            have HB9 := Lib.hid (HB4.out.trans (B9.mono HB4.out.size))
            have V9 := Lib.hid (V4.out.below B9)
            have X9 := Lib.hid (X4.out.below B9)
            have HX9 := Lib.hid (AtB.later HX4 B9)
            have HP9 := Lib.hid (AtB.later HP4 B9)
            clear B9 HB4 V4 X4 HX4 HP4 HY4 HZ4
            have hB0 : Below w9.heap.size w9 w9 := Below.refl _ _
            have hS0 : ∀ w', Below w9.heap.size w9 w' → w'.cell? ⟨w.heap.size, 0, none⟩ = some (.slice A len cap) := fun w' hb => (V9.out.below hb).two.2.1
            have hS1 : ∀ w', Below w9.heap.size w9 w' → w'.cell? ⟨w.heap.size, 1, none⟩ = some (.int .i64 (q : Int)) := fun w' hb => (V9.out.below hb).two.2.2.1
            have hX0 : ∀ w', Below w9.heap.size w9 w' → w'.cell? ⟨w3.heap.size, 0, none⟩ = some (.slice A4 p c4) := fun w' hb => (X9.out.below hb).two.2.1
            have hX1 : ∀ w', Below w9.heap.size w9 w' → w'.cell? ⟨w3.heap.size, 1, none⟩ = some (.int .i64 (q : Int)) := fun w' hb => (X9.out.below hb).two.2.2.1
            have hY0 : ∀ w', Below w9.heap.size w9 w' → w'.cell? ⟨gy, 0, none⟩ = some (.slice A6 p c6) := fun w' hb => (Y9.out.below hb).two.2.1
            have hY1 : ∀ w', Below w9.heap.size w9 w' → w'.cell? ⟨gy, 1, none⟩ = some (.int .i64 (q : Int)) := fun w' hb => (Y9.out.below hb).two.2.2.1
            go_wp2_with fail
            first | (go_region_held3 (fun w' => Below w9.heap.size w9 w') (first | assumption | (exact Below.drew (by assumption)) | (exact Below.drew (Below.refl _ _)))
                (first
                  | (go_at_call 11; (with_reducible refine (same_at A4 A6 p c4 c6 us (q : Int) _ (Lib.hid (AtB.below HP9.out (by first | assumption | (exact Below.drew (Below.refl _ _)) | (exact Below.drew (by assumption))) (Nat.le_refl _))) (Lib.hid (AtB.below R9.out (by first | assumption | (exact Below.drew (Below.refl _ _)) | (exact Below.drew (by assumption))) (Nat.le_refl _)))).mono ?_); rintro e w10 ⟨rfl, hbw10⟩; have hBw10 : Below w9.heap.size w9 w10 := below_step hbw10 (by first | assumption | (exact Below.drew (Below.refl _ _)) | (exact Below.drew (by assumption))); skip; clear hbw10)
                  | (go_at_call 12; (with_reducible refine (HNIL _ (Lib.hid (AtB.below HX9.out (by first | assumption | (exact Below.drew (Below.refl _ _)) | (exact Below.drew (by assumption))) (Nat.le_refl _)))).mono ?_); rintro e w11 ⟨A7, c7, rfl, hc7, hat7, hbw11⟩; have hBw11 : Below w9.heap.size w9 w11 := below_step hbw11 (by first | assumption | (exact Below.drew (Below.refl _ _)) | (exact Below.drew (by assumption))); have HN7 := Lib.hid hat7; clear hat7; clear hbw11)
                  | (go_at_call 11; (with_reducible refine (same_at A7 A len c7 cap xs (q : Int) _ (AtB.hidD HN7 rfl) (Lib.hid (AtB.below HX9.out (by first | assumption | (exact Below.drew (Below.refl _ _)) | (exact Below.drew (by assumption))) (Nat.le_refl _)))).mono ?_); rintro e w12 ⟨rfl, hbw12⟩; have hBw12 : Below w9.heap.size w9 w12 := below_step hbw12 (by first | assumption | (exact Below.drew (Below.refl _ _)) | (exact Below.drew (by assumption))); skip; clear hbw12))) | fail
            all_goals
              go_wp2_with fail
              go_ret
              exact ⟨rfl, HB9.out.trans (Below.mono (by assumption) HB9.out.size)⟩
          exact AllReadyH.nil
        exact AllReadyH.nil
      exact AllReadyH.nil
    exact AllReadyH.nil
  refine AllReadyH.cons rfl (fun K hK => ?_) ?_
  · skip
    go_simp
    refine hK.out _ _ (B0.alloc B0.size _) (fun hHeld => ?_)
    clear hK K hHeld
    try simp only [List.getElem_toArray, List.getElem_cons_succ, List.getElem_cons_zero, Act.put, List.setIfInBounds_toArray, List.set_cons_zero, List.set_cons_succ]
    have B1 := B0.alloc B0.size (.cells #[.slice none 0 0, .int .i64 0] 24)
    have Y1 := Lib.hid (YAt.made u0 (.slice none 0 0) (.int .i64 0))
    have HBY := Lib.hid B0.size
    generalize u0.alloc (.cells #[.slice none 0 0, .int .i64 0] 24) = u1 at *
    generalize hby : u0.heap.size = gy at *
    clear B0
    refine wpAnyH_ready (rs := [1]) (by kernel_rfl) (by simp) ?_
    refine AllReadyH.cons rfl (fun K hK => ?_) ?_
    · skip
      go_simp
      refine hK.out _ _ (B1.alloc B1.size _) (fun hHeld => ?_)
      clear hK K hHeld
      try simp only [List.getElem_toArray, List.getElem_cons_succ, List.getElem_cons_zero, Act.put, List.setIfInBounds_toArray, List.set_cons_zero, List.set_cons_succ]
      have B2 := B1.alloc B1.size (.cells #[] 5)
      have O2 := Lib.hid ((Own.made u1).lower B1.size)
      have Y2 := Lib.hid (Y1.out.alloc (.cells #[] 5))
      generalize u1.alloc (.cells #[] 5) = u2 at *
      clear B1 Y1
      refine wpAnyH_ready (rs := [3]) (by kernel_rfl) (by simp) ?_
      refine AllReadyH.cons rfl (fun K hK => ?_) ?_
      · skip
        refine step_append_bytes (by rfl) (.tmp 37) (.tmp 38) (by rfl) w4.heap.size _ 0 [] (by rfl) O2.out B m c ys (by rfl) (AtB.below HY4.out B2 (Nat.le_refl _)) (by omega) B2.size ?_
        intro v3 u3 hown hgrow
        have B3 := below_own B2 O2.out hgrow
        have Y3 := Lib.hid (Y2.out.grown O2.out hgrow)
        have O3 := Lib.hid hown
        refine hK.out _ _ B3 (fun hHeld => ?_)
        clear hK K hHeld hown hgrow B2 O2 Y2
        try simp only [List.getElem_toArray, List.getElem_cons_succ, List.getElem_cons_zero, Act.put, List.setIfInBounds_toArray, List.set_cons_zero, List.set_cons_succ]
        refine wpAnyH_ready (rs := [5]) (by kernel_rfl) (by simp) ?_
        refine AllReadyH.cons rfl (fun K hK => ?_) ?_
        · skip
          refine step_append_bytes (by rfl) (.tmp 39) (.tmp 40) (by rfl) w4.heap.size _ (0 + m) ([] ++ ys) (by rfl) O3.out C n d zs (by rfl) (AtB.below HZ4.out B3 (Nat.le_refl _)) (by omega) B3.size ?_
          intro v4 u4 hown hgrow
          have B4 := below_own B3 O3.out hgrow
          have Y4 := Lib.hid (Y3.out.grown O3.out hgrow)
          rw [Nat.zero_add, List.nil_append, hr, hts] at hown
          obtain ⟨T, ct, rfl, hct, hatT⟩ := hown.at_ (by omega)
          have T4 := Lib.hid hatT
          clear hatT
          refine hK.out _ _ B4 (fun hHeld => ?_)
          clear hK K hHeld hown hgrow B3 O3 Y3
          try simp only [List.getElem_toArray, List.getElem_cons_succ, List.getElem_cons_zero, Act.put, List.setIfInBounds_toArray, List.set_cons_zero, List.set_cons_succ]
          refine wpAnyH_ready (rs := [6]) (by kernel_rfl) (by simp) ?_
          refine AllReadyH.cons rfl (fun K hK => ?_) ?_
          · skip
            go_simp
            go_at_call 12
            (with_reducible refine (HAPPY T ct hct _ (Lib.hid (AtB.below HX4.out B4 (Nat.le_refl _))) T4).mono ?_)
            rintro e u5 ⟨A6, c6, rfl, hc6, hat6, hb, hni⟩
            have B5 := B4.trans (hb.mono B4.size)
            have R5 := Lib.hid hat6
            have Y5 := Lib.hid (Y4.out.below hb)
            have N5 : Hid (∀ b off, A6 = some ⟨b, off, none⟩ → 0 < p → b ≠ gy) := Lib.hid (nigh_ne hni HX4.out HBY.out Y4.out.lt)
            refine hK.out _ _ B5 (fun hHeld => ?_)
            clear hK K hHeld hb hni hat6 B4 T4 Y4
            try simp only [List.getElem_toArray, List.getElem_cons_succ, List.getElem_cons_zero, Act.put, List.setIfInBounds_toArray, List.set_cons_zero, List.set_cons_succ]
            obtain ⟨hy, he0, he1, hh0, hh1⟩ := Y5.out.var.two
            refine wpAnyH_ready (rs := [8]) (by kernel_rfl) (by simp) ?_
            refine AllReadyH.cons rfl (fun K hK => ?_) AllReadyH.nil
            go_simp
            have B9 := below_set2 HBY.out (.slice A6 p c6) (.int .i64 (q : Int)) B5
            refine hK.out _ _ B9 (fun hHeld => ?_)
            clear hK K hHeld
            try simp only [List.getElem_toArray, List.getElem_cons_succ, List.getElem_cons_zero, Act.put, List.setIfInBounds_toArray, List.set_cons_zero, List.set_cons_succ]
            refine wpAnyH_done (by kernel_rfl) ?_ _
            refine NoPanic.normal ?_
            have Y9 := Lib.hid ((Y5.out.var.setAt 0 (.slice A6 p c6) (by simp)).setAt 1 (.int .i64 (q : Int)) (by simp))
            have R9 := Lib.hid ((R5.out.set gy 0 (.slice A6 p c6) N5.out).set gy 1 (.int .i64 (q : Int)) N5.out)
            generalize (u5.setCell ⟨gy, 0, none⟩ (.slice A6 p c6)).setCell ⟨gy, 1, none⟩ (.int .i64 (q : Int)) = w9 at *
            clear hy he0 he1 hh0 hh1 Y5 B5 R5 N5
            have HB9 := Lib.hid (HB4.out.trans (B9.mono HB4.out.size))
            have V9 := Lib.hid (V4.out.below B9)
            have X9 := Lib.hid (X4.out.below B9)
            have HX9 := Lib.hid (AtB.later HX4 B9)
            have HP9 := Lib.hid (AtB.later HP4 B9)
            clear B9 HB4 V4 X4 HX4 HP4 HY4 HZ4
            have hB0 : Below w9.heap.size w9 w9 := Below.refl _ _
            have hS0 : ∀ w', Below w9.heap.size w9 w' → w'.cell? ⟨w.heap.size, 0, none⟩ = some (.slice A len cap) := fun w' hb => (V9.out.below hb).two.2.1
            have hS1 : ∀ w', Below w9.heap.size w9 w' → w'.cell? ⟨w.heap.size, 1, none⟩ = some (.int .i64 (q : Int)) := fun w' hb => (V9.out.below hb).two.2.2.1
            have hX0 : ∀ w', Below w9.heap.size w9 w' → w'.cell? ⟨w3.heap.size, 0, none⟩ = some (.slice A4 p c4) := fun w' hb => (X9.out.below hb).two.2.1
            have hX1 : ∀ w', Below w9.heap.size w9 w' → w'.cell? ⟨w3.heap.size, 1, none⟩ = some (.int .i64 (q : Int)) := fun w' hb => (X9.out.below hb).two.2.2.1
            have hY0 : ∀ w', Below w9.heap.size w9 w' → w'.cell? ⟨gy, 0, none⟩ = some (.slice A6 p c6) := fun w' hb => (Y9.out.below hb).two.2.1
            have hY1 : ∀ w', Below w9.heap.size w9 w' → w'.cell? ⟨gy, 1, none⟩ = some (.int .i64 (q : Int)) := fun w' hb => (Y9.out.below hb).two.2.2.1
            go_wp2_with fail
            first | (go_region_held3 (fun w' => Below w9.heap.size w9 w') (first | assumption | (exact Below.drew (by assumption)) | (exact Below.drew (Below.refl _ _)))
                (first
                  | (go_at_call 11; (with_reducible refine (same_at A4 A6 p c4 c6 us (q : Int) _ (Lib.hid (AtB.below HP9.out (by first | assumption | (exact Below.drew (Below.refl _ _)) | (exact Below.drew (by assumption))) (Nat.le_refl _))) (Lib.hid (AtB.below R9.out (by first | assumption | (exact Below.drew (Below.refl _ _)) | (exact Below.drew (by assumption))) (Nat.le_refl _)))).mono ?_); rintro e w10 ⟨rfl, hbw10⟩; have hBw10 : Below w9.heap.size w9 w10 := below_step hbw10 (by first | assumption | (exact Below.drew (Below.refl _ _)) | (exact Below.drew (by assumption))); skip; clear hbw10)
                  | (go_at_call 12; (with_reducible refine (HNIL _ (Lib.hid (AtB.below HX9.out (by first | assumption | (exact Below.drew (Below.refl _ _)) | (exact Below.drew (by assumption))) (Nat.le_refl _)))).mono ?_); rintro e w11 ⟨A7, c7, rfl, hc7, hat7, hbw11⟩; have hBw11 : Below w9.heap.size w9 w11 := below_step hbw11 (by first | assumption | (exact Below.drew (Below.refl _ _)) | (exact Below.drew (by assumption))); have HN7 := Lib.hid hat7; clear hat7; clear hbw11)
                  | (go_at_call 11; (with_reducible refine (same_at A7 A len c7 cap xs (q : Int) _ (AtB.hidD HN7 rfl) (Lib.hid (AtB.below HX9.out (by first | assumption | (exact Below.drew (Below.refl _ _)) | (exact Below.drew (by assumption))) (Nat.le_refl _)))).mono ?_); rintro e w12 ⟨rfl, hbw12⟩; have hBw12 : Below w9.heap.size w9 w12 := below_step hbw12 (by first | assumption | (exact Below.drew (Below.refl _ _)) | (exact Below.drew (by assumption))); skip; clear hbw12))) | fail
            all_goals
              go_wp2_with fail
              go_ret
              exact ⟨rfl, HB9.out.trans (Below.mono (by assumption) HB9.out.size)⟩
          exact AllReadyH.nil
        exact AllReadyH.nil
      exact AllReadyH.nil
    exact AllReadyH.nil
  exact AllReadyH.nil

set_option maxRecDepth 100000 in
theorem lifted (os : Os) (started : os.Started) (H : Type) (enc : TypeId × Value → H) :
    ReturnsInHanded {} Try.checked os 7 .any (Rows.streamPartsSpec.pre6 enc Try.prog Try.f7 Rows.streamPartsRow.domain false) (Rows.streamPartsSpec.post enc Try.prog Try.f7 false true false false) := by
  refine law_lifted (C := Try.checked) own started (by kernel_rfl) Try.func7
    (ChangeSpec.witness6 (enc := enc) (C := Try.checked) false ⟨#[], #[.agg #[.slice none 0 0, .int .i64 0], .slice none 0 0, .slice none 0 0], []⟩ 8 (by kernel_rfl) (by kernel_rfl) (by kernel_rfl) (by kernel_rfl))
    (by kernel_rfl) (by kernel_rfl) Try.underlying4 rfl (by kernel_rfl) ?_
  intro W base args ds before hval hA _ hlt
  have hA' : DataW.TrodAll enc Try.prog W 0 (fun _ => true) true Try.f7.params.toList args.toList ds before := hA
  have hval' : ∀ (j : Nat) t v, Try.f7.params[j]? = some t → args[j]? = some v → Value.okWide Try.prog W .any base t v := hval
  rw [Try.params7] at hA' hval'
  obtain ⟨v0, vs0, d0, ds0, p0, q0, hargs, rfl, rfl, h0, r0⟩ := trodAll_cons hA'
  obtain ⟨v1, vs1, d1, ds1, p1, q1, rfl, rfl, rfl, h1, r1⟩ := trodAll_cons r0
  obtain ⟨v2, vs2, d2, ds2, p2, q2, rfl, rfl, rfl, h2, r2⟩ := trodAll_cons r1
  obtain ⟨rfl, rfl, rfl⟩ := trodAll_nil r2
  obtain rfl : args = #[v0, v1, v2] := by cases args; simp_all
  obtain ⟨As, lens, caps, s, Ss, rfl, hcs, hats, hbs⟩ := open_stm (hval' 0 24 v0 rfl rfl) h0 (fun x hx => hlt x (by simp [hx]))
  obtain ⟨Aa, lena, capa, a, rfl, hca, hata⟩ := open_at2 (hval' 1 22 v1 rfl rfl) h1 (fun x hx => hlt x (by simp [hx]))
  obtain ⟨Ab, lenb, capb, b, rfl, hcb, hatb⟩ := open_at2 (hval' 2 22 v2 rfl rfl) h2 (fun x hx => hlt x (by simp [hx]))
  refine ⟨rfl, ?_⟩
  by_cases h : 300 < lens
  · exact walkLong As lens caps Ss Aa lena capa Ab lenb capb h W
  · by_cases h2 : 300 < lena
    · exact walkLongA As lens caps Ss Aa lena capa Ab lenb capb (by omega) h2 W
    · by_cases h3 : 300 < lenb
      · exact walkLongB As lens caps Ss Aa lena capa Ab lenb capb (by omega) (by omega) h3 W
      · by_cases hr : rightB Ss lens = true
        · obtain ⟨q, rfl, hq⟩ := rightB_iff hr
          exact walk As lens caps s hcs (by omega) q hq Aa lena capa a (by omega) Ab lenb capb b (by omega) W (Lib.hid hats) (Lib.hid hata) (Lib.hid hatb)
        · exact walkWrong As lens caps Ss Aa lena capa Ab lenb capb (by omega) (by omega) (by omega) (by simpa using hr) W

theorem over : Rows.streamPartsRow.holds Try.pinned (OpenSpec.ofChange Rows.streamPartsSpec) :=
  OpenClaim.holds_of_wide 7 Try.f7 rfl rfl rfl rfl rfl rfl rfl ⟨rfl, rfl, rfl, rfl, rfl⟩ rfl rfl rfl rfl rfl (by kernel_rfl) Try.func7 (by kernel_rfl)
    (of_decide_eq_true (by kernel_rfl)) (by unfold Func.isWrapper; first | (rw [if_pos (by decide +kernel)]; kernel_rfl) | (rw [if_neg (by decide +kernel)]; exact ⟨rfl, rfl⟩))
    (fun os started H enc _ => lifted os started H enc)

/-- The statement. -/
theorem proved : Rows.StreamPartsSaid :=
  over
#print axioms proved
end Go.Proofs.Ytocnndpfpplleaa.streamParts
