/-
  The document's example of layer 4: the function that asks it answers yes, and lays at most new memory.
-/
import Derived.Test.YtalfjdlpmhmjkaaDoorFrmRef
import Derived.Test.YtalfjdlpmhmjkaaDoorFrmSplit
import Derived.Deep.RegionHeld3
import Derived.Lib.SlBytesConst
namespace Go.Proofs.YtalfjdlpmhmjkaaDoor
open Go.ChangeShapes Go.WideShapes Go.ChangeAt Go.RowKit
set_option linter.unusedVariables false

theorem frame_a : frameN [97] = [1, 0, 67, 190, 183, 232, 97] := by decide +kernel
theorem str_a : strN [1, 0, 67, 190, 183, 232, 97] = ⟨#[1, 0, 67, 190, 183, 232, 97]⟩ := by decide +kernel
theorem str_97 : strN [97] = ⟨#[97]⟩ := by decide +kernel
theorem split_a : splitN ([1, 0, 67, 190, 183, 232, 97] ++ [1, 0, 67, 190, 183, 232]) = [[97]] := by
  rw [← frame_a, split_frame _ ⟨by decide, by decide, fun x hx => by simp at hx; omega⟩, split_short (by decide)]

theorem Own.lower {w : World} {b b' : Nat} {v : Value} {n : Nat} {xs : List Nat} (h : Own w b v n xs) (hb : b' ≤ b) : Own w b' v n xs := by
  refine ⟨h.1, h.2.1, ?_⟩
  rcases h.2.2 with h | ⟨g, cap, cur, e, hg, r⟩
  · exact .inl h
  · exact .inr ⟨g, cap, cur, e, Nat.le_trans hb hg, r⟩
theorem below_own {a w w' : World} {v : Value} {n : Nat} {xs : List Nat} (h : Below a.heap.size a w) (hown : Own w a.heap.size v n xs) (hg : w.grownBy w' v.ownBlock) : Below a.heap.size a w' :=
  h.grown hg h.size (fun k hk => (hown.2.lt k hk).1)
theorem made_at {a w : World} (h : Below a.heap.size a w) : Own (w.alloc (.cells #[] 5)) a.heap.size (.slice (some ⟨w.heap.size, 0, none⟩) 0 0) 0 [] := (Own.made w).lower h.size

/-- 'append(out, xs...)' as one step of a region that draws its order. -/
theorem step_append_bytes {ops : Array Oper} {o : Oper} {a : Act} {w : World} {K : Act → World → Prop} {Q : Exit → Act → World → Prop} {E : Prop} (hg : o.guard = none) (s x : Operand)
    (ho : o.op = .call { callee := .builtin .append, args := #[s, x], argTypes := #[22, 22] }) (base : Nat) (v : Value) (n : Nat) (xs : List Nat) (hs : a.eval s = v) (hown : Own w base v n xs)
    (A : Option Addr) (m c : Nat) (ys : List Nat) (hx : a.eval x = .slice A m c) (hA : AtB w A m ys) (hb : (n + m) ≤ 140737488355328) (hbase : base ≤ w.heap.size)
    (h : ∀ v' w', Own w' base v' (n + m) (xs ++ ys) → w.grownBy w' v.ownBlock → K (a.put o.dst v') w') : if Region.wanted o (yielded ops a.tmps) = true then Oper.wp Tryd.prog o a w K Q else E := by
  have hw : Region.wanted o (yielded ops a.tmps) = true := by simp [Region.wanted, hg]
  rw [if_pos hw]
  obtain ⟨i, hi, hz0, hz1, hz2⟩ := info_parts info5
  have hB : Bytes (xs ++ ys) := fun z hz => (List.mem_append.1 hz).elim (hown.1 z) (hA.2.1 z)
  have hrun : ∃ v' w', (Builtin.append_ #[22, 22] o.type #[v, .slice A m c]).run Tryd.prog w = .ok v' w' ∧ Own w' base v' (n + m) (xs ++ ys) ∧ w.grownBy w' v.ownBlock := by
    rcases A with _ | ad
    · have hm : m = 0 := by
        rcases Nat.eq_zero_or_pos m with h0 | h0
        · exact h0
        · obtain ⟨b, off, e, _⟩ := hA.2.2.2 h0
          cases e
      subst hm
      obtain rfl : ys = [] := List.eq_nil_of_length_eq_zero hA.1
      exact ⟨v, w, run_append_nil_any w base o.type v n _ hown.2 c, by rw [List.append_nil]; exact hown, ⟨rfl, rfl, rfl, Nat.le_refl _, fun _ _ _ => rfl⟩⟩
    · obtain ⟨v', w', h1, h2, h3, _⟩ := run_append_own (P := Tryd.prog) w base 22 o.type 5 i (.int .u8 0) 1 1 Tryd.underlying22 hi hz0 hz1 hz2 rfl (by decide) v n (vals xs) hown.2 ad m c (vals ys)
        (by rw [vals_length, hA.1]; omega) (hA.news ad rfl) (vals_one ys) (by unfold maxLen; omega) (by omega) hbase
      exact ⟨v', w', h1, ⟨hB, by rw [vals_append]; exact h2⟩, h3⟩
  obtain ⟨v', w', hr, h2, h3⟩ := hrun
  unfold Oper.wp execOp
  simp only [ho, resolve, invoke, builtin, Sem.run_bind, Sem.run_pure, Result.andThen_ok, List.map_toArray, List.map_cons, List.map_nil, hs, hx, hr]
  exact h v' w' h2 h3

/-- Onto a row of the call's own: what lay when w0 was is as it was. -/
theorem step_append_below {ops : Array Oper} {o : Oper} {a : Act} {w0 w : World} {K : Act → World → Prop} {Q : Exit → Act → World → Prop} {E : Prop} (hB : Below w0.heap.size w0 w) (hg : o.guard = none) (s x : Operand)
    (ho : o.op = .call { callee := .builtin .append, args := #[s, x], argTypes := #[22, 22] }) (v : Value) (n : Nat) (xs : List Nat) (hs : a.eval s = v) (hown : Own w w0.heap.size v n xs)
    (A : Option Addr) (m c : Nat) (ys : List Nat) (hx : a.eval x = .slice A m c) (hA : AtB w A m ys) (hb : n + m ≤ 140737488355328)
    (h : ∀ v' w', Own w' w0.heap.size v' (n + m) (xs ++ ys) → Below w0.heap.size w0 w' → K (a.put o.dst v') w') : if Region.wanted o (yielded ops a.tmps) = true then Oper.wp Tryd.prog o a w K Q else E :=
  step_append_bytes hg s x ho w0.heap.size v n xs hs hown A m c ys hx hA hb hB.size (fun v' w' h1 h2 => h v' w' h1 (below_own hB hown h2))

set_option maxRecDepth 100000 in
set_option maxHeartbeats 2000000 in
theorem shown_below (w : World) (hT : Hid (Tab w)) :
    Calls Tryd.prog 9 #[] w fun e w' => e = .returned (.bool true) ∧ Below w.heap.size w w' := by
  have kc := fun (w : World) (C : Array Value) (n c : Nat) => Lib.run_convert_bytes_const (P := Tryd.prog) w 22 5 C n c Tryd.underlying22 Tryd.underlying5
  go_enter Tryd.func9, Tryd.ntmps9
  go_wp2_with fail
  have hT0 := Tab.later hT ((Below.refl _ w).alloc (Nat.le_refl _) (.cells #[.int .u8 97] 5 (1, 2)))
  have hA0 : Hid (AtB (w.alloc (.cells #[.int .u8 97] 5 (1, 2))) (some ⟨w.heap.size, 0, none⟩) 1 [97]) := Lib.hid (AtB.one (by decide) (by rw [World.cell?_alloc_mark]; rfl))
  refine (put_at (some ⟨w.heap.size, 0, none⟩) 1 1 [97] (by omega) (by omega) _ hT0 hA0).mono ?_
  rintro e w1 ⟨v1, rfl, hO1, hB1⟩
  rw [frame_a] at hO1
  have hO7 : Own w1 (w.alloc (.cells #[.int .u8 97] 5 (1, 2))).heap.size v1 7 [1, 0, 67, 190, 183, 232, 97] := hO1
  obtain ⟨A1, k1, rfl, hk1, hat1⟩ := hO7.at_ (by omega)
  have B1 : Hid (Below w.heap.size w w1) := Lib.hid (((Below.refl _ w).alloc (Nat.le_refl _) (.cells #[.int .u8 97] 5 (1, 2))).trans (hB1.mono (by simp)))
  have T1 := Lib.hid (hT.out.below B1.out hT.out.pos)
  have HA1 := Lib.hid hat1
  clear hO1 hO7 hat1 hB1 hT0 hA0 hT kc
  go_wp2_with fail
  refine (put_no none 0 0 (.inl (by omega)) _).mono ?_
  rintro e w' ⟨rfl, rfl⟩
  go_wp2_with fail
  have R6 : ∀ W, (Instr.slice 22 (.slice A1 7 k1) none (some (.int .i64 6)) none).run Tryd.prog W = .ok (.slice (cutA A1 k1 0) 6 k1) W := fun W => run_cut_h A1 7 k1 6 (by omega) W
  have HD : Hid (AtB w1 (cutA A1 k1 0) 6 [1, 0, 67, 190, 183, 232]) := Lib.hid (HA1.out.cutA hk1 0 6 (by omega) (by omega))
  generalize cutA A1 k1 0 = D at *
  go_region_held3 (fun w' => Below w1.heap.size w1 w') (first | assumption | (exact Below.drew (Below.refl _ _)) | (exact Below.drew (by assumption)) | (exact (fun h => Below.alloc h h.size _) (by assumption)))
    (first
      | (refine step_append_below (w0 := w1) (by assumption) (by rfl) (.tmp 21) (.tmp 22) (by rfl) _ 0 [] (by rfl) (show Own ((w1.alloc (.cells #[] 5)).drew) w1.heap.size _ 0 [] from Own.made w1) A1 7 k1 [1, 0, 67, 190, 183, 232, 97] (by rfl) (AtB.below HA1.out (by assumption) (Nat.le_refl _)) (by omega) ?_; intro v2 w2 hown2 hB2; have HO2 : Hid (Own w2 w1.heap.size v2 7 [1, 0, 67, 190, 183, 232, 97]) := hown2; clear hown2)
      | (refine step_append_below (w0 := w1) (by assumption) (by rfl) (.tmp 23) (.tmp 25) (by rfl) v2 7 [1, 0, 67, 190, 183, 232, 97] (by rfl) HO2.out D 6 k1 [1, 0, 67, 190, 183, 232] (by rfl) (AtB.below HD.out (by assumption) (Nat.le_refl _)) (by omega) ?_; intro v3 w3 hown3 hB3; have HO3 : Hid (Own w3 w1.heap.size v3 13 ([1, 0, 67, 190, 183, 232, 97] ++ [1, 0, 67, 190, 183, 232])) := hown3; clear hown3)
      | (go_at_call 12; (refine (split_own v3 w1.heap.size 13 _ _ (Tab.later T1 (by assumption)) HO3.out (by omega)).mono ?_); rintro e w4 ⟨v4, rfl, hO4, hB4⟩; have B4 : Below w1.heap.size w1 w4 := hB3.trans (hB4.mono hB3.size); have HO4 := Lib.hid hO4; clear hO4))
  have hr4 := HO4.out
  have hu4 : usedN [[97]] = 7 := by decide
  rw [split_a] at hr4
  obtain ⟨A4, k4, rfl, hk4, hat4⟩ := hr4.at_ (by decide)
  obtain ⟨b4, o4, rfl, hlt4, hc4⟩ := hat4.2.2 (by decide)
  obtain ⟨A5, l5, k5, hcell5, _, hat5⟩ := hc4 0 (by decide)
  have hA4 : AtB w4 A1 7 [1, 0, 67, 190, 183, 232, 97] := AtB.below HA1.out (by assumption) (Nat.le_refl _)
  have s1 := run_str hA4 k1
  rw [str_a] at s1
  have s2 := run_str hat5 k5
  rw [show strN ([[97]].getD 0 []) = ⟨#[97]⟩ from str_97] at s2
  have HBE : Hid (Below w.heap.size w w4) := Lib.hid (B1.out.trans (Below.mono (by assumption) B1.out.size))
  rw [show splitN [1, 0, 67, 190, 183, 232, 97, 1, 0, 67, 190, 183, 232] = [[97]] from split_a, hu4]
  rw [Nat.add_zero] at hcell5
  clear hr4 hat4 hc4 hat5 hA4 HO4 HO3 HO2 HA1 HD R6 hu4 hk4 hk1
  go_wp2_with fail
  go_ret
  exact ⟨rfl, HBE.out⟩
end Go.Proofs.YtalfjdlpmhmjkaaDoor
