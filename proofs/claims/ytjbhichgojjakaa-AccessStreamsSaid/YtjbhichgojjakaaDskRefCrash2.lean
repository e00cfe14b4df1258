/-
  The contract of the document's own Crash: its loop.
-/
import Derived.Test.YtjbhichgojjakaaDskRefCrash
namespace Go.Proofs.Ytjbhichgojjakaa
open Go.ChangeShapes Go.WideShapes Go.ChangeAt Go.RowKit
set_option linter.unusedVariables false
set_option maxRecDepth 100000

theorem CrRel.start (w : World) (r : Int) (A : Option Addr) (n a : Nat) (B : Option Addr) (b : Nat) (p0 p1 : List Stm) : CrRel w r A n a B b p0 p1 0 (((w.alloc (.cells #[.int .u64 r, .slice A n a, .slice B n b] 33)).alloc (.cells #[.int .u64 0, .slice none 0 0, .slice none 0 0] 33)).alloc (.cells #[.int .u64 r, .slice none 0 0, .slice none 0 0] 33)) := by
  have hal : Below ((w.alloc (.cells #[.int .u64 r, .slice A n a, .slice B n b] 33)).alloc (.cells #[.int .u64 0, .slice none 0 0, .slice none 0 0] 33)).heap.size ((w.alloc (.cells #[.int .u64 r, .slice A n a, .slice B n b] 33)).alloc (.cells #[.int .u64 0, .slice none 0 0, .slice none 0 0] 33)) (((w.alloc (.cells #[.int .u64 r, .slice A n a, .slice B n b] 33)).alloc (.cells #[.int .u64 0, .slice none 0 0, .slice none 0 0] 33)).alloc (.cells #[.int .u64 r, .slice none 0 0, .slice none 0 0] 33)) := (Below.refl _ _).alloc (Nat.le_refl _) _
  have h2 : VarAt (((w.alloc (.cells #[.int .u64 r, .slice A n a, .slice B n b] 33)).alloc (.cells #[.int .u64 0, .slice none 0 0, .slice none 0 0] 33)).alloc (.cells #[.int .u64 r, .slice none 0 0, .slice none 0 0] 33)) (w.heap.size + 2) [.int .u64 r, .slice none 0 0, .slice none 0 0] := by
    have h := VarAt.made ((w.alloc (.cells #[.int .u64 r, .slice A n a, .slice B n b] 33)).alloc (.cells #[.int .u64 0, .slice none 0 0, .slice none 0 0] 33)) #[.int .u64 r, .slice none 0 0, .slice none 0 0] 33
    rw [show ((w.alloc (.cells #[.int .u64 r, .slice A n a, .slice B n b] 33)).alloc (.cells #[.int .u64 0, .slice none 0 0, .slice none 0 0] 33)).heap.size = w.heap.size + 2 by simp] at h
    exact h
  obtain ⟨g0, g1, g2, g3, g4, g5, g6⟩ := h2.three
  refine ⟨.slice none 0 0, .slice none 0 0, w.heap.size + 3, ⟨(below_pair w _ _).trans (hal.mono (below_pair w _ _).size), (VarAt.three0 w _ _ _ _ _).below hal, (VarAt.three1 w _ _ _ _ _).below hal, g0, fun j hj => ?_⟩, g1, g2, g3, Nat.le_refl _, by simp, fun g h => by simp [Value.ownBlock] at h, fun _ => rfl, ?_, ?_⟩
  · obtain rfl | rfl | rfl : j = 0 ∨ j = 1 ∨ j = 2 := by omega
    · exact ⟨⟨_, g1⟩, g4⟩
    · exact ⟨⟨_, g2⟩, g5⟩
    · exact ⟨⟨_, g3⟩, g6⟩
  · rw [show min 0 n = 0 by omega]; exact OwnStms.nil _ _ _
  · rw [show 0 - n = 0 by omega]; exact OwnStms.nil _ _ _
set_option maxHeartbeats 4000000 in
theorem refCrash_at (r : Int) (A : Option Addr) (n a : Nat) (B : Option Addr) (b : Nat) (l0 l1 : List Stm) (hn1 : 1 ≤ n) (hn : n ≤ 64) (hr0 : allB l0 = true) (hr1 : allB l1 = true) (hm0 : ∀ x ∈ l0, x.bytes.length ≤ 1000000) (hm1 : ∀ x ∈ l1, x.bytes.length ≤ 1000000) (C : Option Addr) (cn cc : Nat) (f : Nat → Int) (w : World) (h0 : Hid (StmsAt w A n l0)) (h1 : Hid (StmsAt w B n l1)) (hC : Hid (AtI w C cn f)) :
    Calls Try.prog 11 #[.agg #[.int .u64 r, .slice A n a, .slice B n b], .slice C cn cc] w (DskPostV w r A B n n (cutL l0 (moreAt cn f)) (cutL l1 fun j => moreAt cn f (n + j))) := by
  have hcm := hC.out.1
  have HL0 : Hid ((cutL l0 (moreAt cn f)).length = n) := Lib.hid (by rw [cutL_length]; exact h0.out.1)
  have HL1 : Hid ((cutL l1 fun j => moreAt cn f (n + j)).length = n) := Lib.hid (by rw [cutL_length]; exact h1.out.1)
  have HN := Lib.hid hn
  have HR0 := Lib.hid hr0
  have HR1 := Lib.hid hr1
  have HST := Lib.hid (CrRel.start w r A n a B b (cutL l0 (moreAt cn f)) (cutL l1 fun j => moreAt cn f (n + j)))
  clear hr0 hr1
  go_enter Try.func11, Try.ntmps11
  go_wp2_with fail
  rw [show w.heap.size + 1 + 1 = w.heap.size + 2 from rfl]
  have hn0 : ¬ n = 0 := by omega
  go_loopw [7, 8] (fun i _ wr => ∃ k : Nat, k ≤ 2 * n ∧ i = .int .i64 k ∧ CrRel w r A n a B b (cutL l0 (moreAt cn f)) (cutL l1 fun j => moreAt cn f (n + j)) k wr) (fun i _ _ => 2 * n - (intOf i).toNat)
  case atStart => exact ⟨0, Nat.zero_le _, rfl, HST.out⟩
  case round =>
    obtain ⟨k, hk, rfl, hrel⟩ := hrel
    clear HST
    have HREL := Lib.hid hrel
    by_cases hlt : k < 2 * n
    · obtain ⟨u0, u1, s, hS, ho0, ho1, ho2, hs, hsw, hgs, hu, hq0, hq1⟩ := hrel
      have HS := Lib.hid hS
      have HSS := Lib.hid (And.intro hs (And.intro hsw hgs))
      have HQ0 := Lib.hid hq0
      have HQ1 := Lib.hid hq1
      obtain ⟨_, cC0, cC1, cC2, _, _, _⟩ := hS.2.1.three
      clear hs hsw hgs hq0 hq1 hS
      by_cases hkn : k < n
      · obtain rfl := hu (by omega)
        clear hu
        have kq : (k : Int) / (n : Int) = 0 := Int.ediv_eq_zero_of_lt (by omega) (by omega)
        have kqw : IntKind.i64.wrap 0 = 0 := rfl
        have kr : ((k : Int).tmod (n : Int)) = (k : Int) := by rw [Int.tmod_eq_emod_of_nonneg (by omega)]; exact Int.emod_eq_of_lt (by omega) (by omega)
        by_cases hcn : k < cn
        · obtain ⟨b2, o2, rfl, hb2, hc2⟩ := hC.out.2.2 (by omega)
          have hq : wr.cell? ⟨b2, o2 + k, none⟩ = some (.int .i64 (f k)) := (HS.out.1.cell (p := ⟨b2, o2 + k, none⟩) hb2).trans (hc2 k hcn)
          have HFK := Lib.hid (hC.out.2.1 k hcn)
          clear hc2
          obtain ⟨x, g, off, A0, cap, hx, rfl, hg, hg0, hg1, hlc, hlm, hat, hsy⟩ := h0.out.at_ k (by omega)
          have HX := Lib.hid hx
          have HXR := Lib.hid (allB_get HR0.out hx)
          have HXM := Lib.hid (hm0 x (List.mem_of_getElem? hx))
          have HAT := Lib.hid hat
          have hD0 : ∀ w', CrS w (.int .u64 r) (.slice (some ⟨g, off, none⟩) n a) (.slice B n b) w' → w'.cell? ⟨g, off + k * 2, none⟩ = some (.slice A0 x.bytes.length cap) := fun w' h => h.cell hg hg0
          have hD1 : ∀ w', CrS w (.int .u64 r) (.slice (some ⟨g, off, none⟩) n a) (.slice B n b) w' → w'.cell? ⟨g, off + k * 2 + 1, none⟩ = some (.int .i64 x.synced) := fun w' h => h.cell hg hg1
          have hC0 : ∀ w', CrS w (.int .u64 r) (.slice (some ⟨g, off, none⟩) n a) (.slice B n b) w' → w'.cell? ⟨w.heap.size, 0, none⟩ = some (.int .u64 r) := fun w' h => h.c0
          have hC1 : ∀ w', CrS w (.int .u64 r) (.slice (some ⟨g, off, none⟩) n a) (.slice B n b) w' → w'.cell? ⟨w.heap.size, 1, none⟩ = some (.slice (some ⟨g, off, none⟩) n a) := fun w' h => h.c1
          have hC2 : ∀ w', CrS w (.int .u64 r) (.slice (some ⟨g, off, none⟩) n a) (.slice B n b) w' → w'.cell? ⟨w.heap.size, 2, none⟩ = some (.slice B n b) := fun w' h => h.c2
          have hF1 : ∀ w', CrS w (.int .u64 r) (.slice (some ⟨g, off, none⟩) n a) (.slice B n b) w' → w'.frozen? ⟨w.heap.size + 2, 1, none⟩ = false := fun w' h => h.f 1 (by omega)
          have hR1 : ∀ w', CrS w (.int .u64 r) (.slice (some ⟨g, off, none⟩) n a) (.slice B n b) w' → ∃ v, w'.cell? ⟨w.heap.size + 2, 1, none⟩ = some v := fun w' h => ⟨_, h.r 1 (by omega)⟩
          have HY := Lib.hid (cutL_get l0 (moreAt cn f) k x hx)
          have HYL := Lib.hid (Stm.cut_length (allB_get HR0.out hx) (moreAt cn f k))
          have HYC := Lib.hid (Stm.cutN_le (allB_get HR0.out hx) (moreAt cn f k))
          have hYM2 : moreAt cn f k = (f k) := if_pos hcn
          have hYM : moreAt cn f k = (f k) := hYM2
          rw [hYM2] at HYL HYC
          rw [hYM] at HY
          clear hx hg0 hg1 hat hlm hsy hlc hYM hYM2 hg hb2
          go_wp2_with fail
          have hS0 : CrS w (.int .u64 r) (.slice (some ⟨g, off, none⟩) n a) (.slice B n b) wr := HS.out
          refine wp_region_noPanic ?_
          refine wp_region_held_drew (S := fun w' => CrS w (.int .u64 r) (.slice (some ⟨g, off, none⟩) n a) (.slice B n b) w') (by kernel_rfl) (CrS.drew (by assumption)) (fun hHeld => ?_)
          refine wpAnyH_take (i := 0) (oi := _) (v := ?_) rfl (by kernel_rfl) (by kernel_rfl) (by kernel_rfl) (fun _ _ _ h => h) (Or.inl ⟨by rfl, ?_⟩) (by assumption) ?_
          rotate_left
          · intro w hSw
            (try dsimp only at hSw)
            go_simp
            with_reducible rfl
          try simp only [List.getElem_toArray, List.getElem_cons_zero, Act.put, List.setIfInBounds_toArray, List.set_cons_zero, List.set_cons_succ]
          refine wpAnyH_take (i := 1) (oi := _) (v := ?_) rfl (by kernel_rfl) (by kernel_rfl) (by kernel_rfl) (fun _ _ _ h => h) (Or.inl ⟨by rfl, ?_⟩) (by assumption) ?_
          rotate_left
          · intro w hSw
            (try dsimp only at hSw)
            go_simp
            with_reducible rfl
          try simp only [List.getElem_toArray, List.getElem_cons_succ, List.getElem_cons_zero, Act.put, List.setIfInBounds_toArray, List.set_cons_zero, List.set_cons_succ]
          refine wpAnyH_take (i := 3) (oi := _) (v := ?_) rfl (by kernel_rfl) (by kernel_rfl) (by kernel_rfl) (fun _ _ _ h => h) (Or.inl ⟨by rfl, ?_⟩) (by assumption) ?_
          rotate_left
          · intro w hSw
            (try dsimp only at hSw)
            go_simp
            with_reducible rfl
          try simp only [List.getElem_toArray, List.getElem_cons_succ, List.getElem_cons_zero, Act.put, List.setIfInBounds_toArray, List.set_cons_zero, List.set_cons_succ]
          refine wpAnyH_take (i := 4) (oi := _) (v := ?_) rfl (by kernel_rfl) (by kernel_rfl) (by kernel_rfl) (fun _ _ _ h => h) (Or.inl ⟨by rfl, ?_⟩) (by assumption) ?_
          rotate_left
          · intro w hSw
            (try dsimp only at hSw)
            go_simp
            with_reducible rfl
          try simp only [List.getElem_toArray, List.getElem_cons_succ, List.getElem_cons_zero, Act.put, List.setIfInBounds_toArray, List.set_cons_zero, List.set_cons_succ]
          refine wpAnyH_take (i := 6) (oi := _) (v := ?_) rfl (by kernel_rfl) (by kernel_rfl) (by kernel_rfl) (fun _ _ _ h => h) (Or.inl ⟨by rfl, ?_⟩) (by assumption) ?_
          rotate_left
          · intro w hSw
            (try dsimp only at hSw)
            go_simp
            with_reducible rfl
          try simp only [List.getElem_toArray, List.getElem_cons_succ, List.getElem_cons_zero, Act.put, List.setIfInBounds_toArray, List.set_cons_zero, List.set_cons_succ]
          refine wpAnyH_take (i := 9) (oi := _) (v := ?_) rfl (by kernel_rfl) (by kernel_rfl) (by kernel_rfl) (fun _ _ _ h => h) (Or.inl ⟨by rfl, ?_⟩) (by assumption) ?_
          rotate_left
          · intro w hSw
            (try dsimp only at hSw)
            go_simp
            with_reducible rfl
          try simp only [List.getElem_toArray, List.getElem_cons_succ, List.getElem_cons_zero, Act.put, List.setIfInBounds_toArray, List.set_cons_zero, List.set_cons_succ]
          refine wpAnyH_take (i := 10) (oi := _) (v := ?_) rfl (by kernel_rfl) (by kernel_rfl) (by kernel_rfl) (fun _ _ _ h => h) (Or.inl ⟨by rfl, ?_⟩) (by assumption) ?_
          rotate_left
          · intro w hSw
            (try dsimp only at hSw)
            go_simp
            with_reducible rfl
          try simp only [List.getElem_toArray, List.getElem_cons_succ, List.getElem_cons_zero, Act.put, List.setIfInBounds_toArray, List.set_cons_zero, List.set_cons_succ]
          refine wpAnyH_take (i := 12) (oi := _) (v := ?_) rfl (by kernel_rfl) (by kernel_rfl) (by kernel_rfl) (fun _ _ _ h => h) (Or.inl ⟨by rfl, ?_⟩) (by assumption) ?_
          rotate_left
          · intro w hSw
            (try dsimp only at hSw)
            go_simp
            with_reducible rfl
          try simp only [List.getElem_toArray, List.getElem_cons_succ, List.getElem_cons_zero, Act.put, List.setIfInBounds_toArray, List.set_cons_zero, List.set_cons_succ]
          refine wpAnyH_take (i := 15) (oi := _) (v := ?_) rfl (by kernel_rfl) (by kernel_rfl) (by kernel_rfl) (fun _ _ _ h => h) (Or.inl ⟨by rfl, ?_⟩) (by assumption) ?_
          rotate_left
          · intro w hSw
            (try dsimp only at hSw)
            go_simp
            with_reducible rfl
          try simp only [List.getElem_toArray, List.getElem_cons_succ, List.getElem_cons_zero, Act.put, List.setIfInBounds_toArray, List.set_cons_zero, List.set_cons_succ]
          refine wpAnyH_take (i := 16) (oi := _) (v := ?_) rfl (by kernel_rfl) (by kernel_rfl) (by kernel_rfl) (fun _ _ _ h => h) (Or.inl ⟨by rfl, ?_⟩) (by assumption) ?_
          rotate_left
          · intro w hSw
            (try dsimp only at hSw)
            go_simp
            with_reducible rfl
          try simp only [List.getElem_toArray, List.getElem_cons_succ, List.getElem_cons_zero, Act.put, List.setIfInBounds_toArray, List.set_cons_zero, List.set_cons_succ]
          refine wpAnyH_take (i := 20) (oi := _) (v := ?_) rfl (by kernel_rfl) (by kernel_rfl) (by kernel_rfl) (fun _ _ _ h => h) (Or.inl ⟨by rfl, ?_⟩) (by assumption) ?_
          rotate_left
          · intro w hSw
            (try dsimp only at hSw)
            go_simp
            with_reducible rfl
          try simp only [List.getElem_toArray, List.getElem_cons_succ, List.getElem_cons_zero, Act.put, List.setIfInBounds_toArray, List.set_cons_zero, List.set_cons_succ]
          refine wpAnyH_take (i := 24) (oi := _) (v := ?_) rfl (by kernel_rfl) (by kernel_rfl) (by kernel_rfl) (fun _ _ _ h => h) (Or.inl ⟨by rfl, ?_⟩) (by assumption) ?_
          rotate_left
          · intro w hSw
            (try dsimp only at hSw)
            go_simp
            with_reducible rfl
          try simp only [List.getElem_toArray, List.getElem_cons_succ, List.getElem_cons_zero, Act.put, List.setIfInBounds_toArray, List.set_cons_zero, List.set_cons_succ]
          refine wpAnyH_take (i := 2) (oi := _) (v := ?_) rfl (by kernel_rfl) (by kernel_rfl) (by kernel_rfl) (fun _ _ _ h => h) (Or.inl ⟨by rfl, ?_⟩) (by assumption) ?_
          rotate_left
          · intro w hSw
            (try dsimp only at hSw)
            go_simp
            with_reducible rfl
          try simp only [List.getElem_toArray, List.getElem_cons_succ, List.getElem_cons_zero, Act.put, List.setIfInBounds_toArray, List.set_cons_zero, List.set_cons_succ]
          refine wpAnyH_take (i := 5) (oi := _) (v := ?_) rfl (by kernel_rfl) (by kernel_rfl) (by kernel_rfl) (fun _ _ _ h => h) (Or.inl ⟨by rfl, ?_⟩) (by assumption) ?_
          rotate_left
          · intro w hSw
            (try dsimp only at hSw)
            go_simp
            with_reducible rfl
          try simp only [List.getElem_toArray, List.getElem_cons_succ, List.getElem_cons_zero, Act.put, List.setIfInBounds_toArray, List.set_cons_zero, List.set_cons_succ]
          refine wpAnyH_take (i := 11) (oi := _) (v := ?_) rfl (by kernel_rfl) (by kernel_rfl) (by kernel_rfl) (fun _ _ _ h => h) (Or.inl ⟨by rfl, ?_⟩) (by assumption) ?_
          rotate_left
          · intro w hSw
            (try dsimp only at hSw)
            go_simp
            with_reducible rfl
          try simp only [List.getElem_toArray, List.getElem_cons_succ, List.getElem_cons_zero, Act.put, List.setIfInBounds_toArray, List.set_cons_zero, List.set_cons_succ]
          refine wpAnyH_take (i := 17) (oi := _) (v := ?_) rfl (by kernel_rfl) (by kernel_rfl) (by kernel_rfl) (fun _ _ _ h => h) (Or.inl ⟨by rfl, ?_⟩) (by assumption) ?_
          rotate_left
          · intro w hSw
            (try dsimp only at hSw)
            go_simp
            with_reducible rfl
          try simp only [List.getElem_toArray, List.getElem_cons_succ, List.getElem_cons_zero, Act.put, List.setIfInBounds_toArray, List.set_cons_zero, List.set_cons_succ]
          refine wpAnyH_take (i := 7) (oi := _) (v := ?_) rfl (by kernel_rfl) (by kernel_rfl) (by kernel_rfl) (fun _ _ _ h => h) (Or.inl ⟨by rfl, ?_⟩) (by assumption) ?_
          rotate_left
          · intro w hSw
            (try dsimp only at hSw)
            go_simp
            with_reducible rfl
          try simp only [List.getElem_toArray, List.getElem_cons_succ, List.getElem_cons_zero, Act.put, List.setIfInBounds_toArray, List.set_cons_zero, List.set_cons_succ]
          refine wpAnyH_take (i := 13) (oi := _) (v := ?_) rfl (by kernel_rfl) (by kernel_rfl) (by kernel_rfl) (fun _ _ _ h => h) (Or.inl ⟨by rfl, ?_⟩) (by assumption) ?_
          rotate_left
          · intro w hSw
            (try dsimp only at hSw)
            go_simp
            with_reducible rfl
          try simp only [List.getElem_toArray, List.getElem_cons_succ, List.getElem_cons_zero, Act.put, List.setIfInBounds_toArray, List.set_cons_zero, List.set_cons_succ]
          refine wpAnyH_take (i := 14) (oi := _) (v := ?_) rfl (by kernel_rfl) (by kernel_rfl) (by kernel_rfl) (fun _ _ _ h => h) (Or.inl ⟨by rfl, ?_⟩) (by assumption) ?_
          rotate_left
          · intro w hSw
            (try dsimp only at hSw)
            go_simp
            with_reducible rfl
          try simp only [List.getElem_toArray, List.getElem_cons_succ, List.getElem_cons_zero, Act.put, List.setIfInBounds_toArray, List.set_cons_zero, List.set_cons_succ]
          refine wpAnyH_take (i := 18) (oi := _) (v := ?_) rfl (by kernel_rfl) (by kernel_rfl) (by kernel_rfl) (fun _ _ _ h => h) (Or.inl ⟨by rfl, ?_⟩) (by assumption) ?_
          rotate_left
          · intro w hSw
            (try dsimp only at hSw)
            go_simp
            with_reducible rfl
          try simp only [List.getElem_toArray, List.getElem_cons_succ, List.getElem_cons_zero, Act.put, List.setIfInBounds_toArray, List.set_cons_zero, List.set_cons_succ]
          refine wpAnyH_take (i := 19) (oi := _) (v := ?_) rfl (by kernel_rfl) (by kernel_rfl) (by kernel_rfl) (fun _ _ _ h => h) (Or.inl ⟨by rfl, ?_⟩) (by assumption) ?_
          rotate_left
          · intro w hSw
            (try dsimp only at hSw)
            go_simp
            with_reducible rfl
          try simp only [List.getElem_toArray, List.getElem_cons_succ, List.getElem_cons_zero, Act.put, List.setIfInBounds_toArray, List.set_cons_zero, List.set_cons_succ]
          refine wpAnyH_ready (rs := [8, 21]) (by kernel_rfl) (by simp) ?_
          refine AllReadyH.cons rfl (fun K hK => ?_) (AllReadyH.cons rfl (fun K hK => ?_) (AllReadyH.nil))
          · go_simp
            refine hK.out _ _ ?_ (fun hHeld => ?_)
            · assumption
            clear hK K
            try simp only [List.getElem_toArray, List.getElem_cons_succ, List.getElem_cons_zero, Act.put, List.setIfInBounds_toArray, List.set_cons_zero, List.set_cons_succ]
            refine wpAnyH_ready (rs := [21]) (by kernel_rfl) (by simp) ?_
            refine AllReadyH.cons rfl (fun K hK => ?_) (AllReadyH.nil)
            go_simp
            (go_at_call 36; (with_reducible refine (refCutS_own A0 x cap HXM.out HXR.out (f k) HFK.out.1 HFK.out.2 _ (Lib.hid (AtB.below HAT.out (CrS.bel (by assumption)) (Nat.le_refl _)))).mono ?_); rintro e w3 ⟨v3, rfl, hown3, hb3⟩; have hS3 := CrS.later (by assumption : CrS w (.int .u64 r) (.slice (some ⟨g, off, none⟩) n a) (.slice B n b) _) hb3; have hbr3 : Below wr.heap.size wr w3 := below_step hb3 (by first | assumption | (exact Below.drew (Below.refl _ _)) | (exact Below.drew (by assumption))); have q0 := (keptCells hbr3 _ 0 HS.out.2.2.2.1).trans ho0; have q1 := (keptCells hbr3 _ 1 HS.out.2.2.2.1).trans ho1; have q2 := (keptCells hbr3 _ 2 HS.out.2.2.2.1).trans ho2; have qa : ∀ o : Obj, (w3.alloc o).cell? ⟨w.heap.size + 2, 1, none⟩ = some u0 := (fun o => (World.cell?_alloc_lt _ _ _ (by have := hS3.2.2.2.1; exact this)).trans q1); have HV3 := Lib.hid (hown3.lower (b' := w.heap.size + 3) (by have := HS.out.2.2.2.1; have := hbr3.size; simp; omega)); have HA3 := Lib.hid (HQ0.out.later hbr3); have HB3 := Lib.hid (HQ1.out.later hbr3); have HBR3 := Lib.hid hbr3; have HS3 := Lib.hid hS3; clear hown3 hb3 hbr3)
            refine hK.out _ _ ?_ (fun hHeld => ?_)
            · assumption
            clear hK K
            try simp only [List.getElem_toArray, List.getElem_cons_succ, List.getElem_cons_zero, Act.put, List.setIfInBounds_toArray, List.set_cons_zero, List.set_cons_succ]
            refine wpAnyH_ready (rs := [22]) (by kernel_rfl) (by simp) ?_
            refine AllReadyH.cons rfl (fun K hK => ?_) (AllReadyH.nil)
            go_simp
            refine hK.out _ _ ?_ (fun hHeld => ?_)
            · first | assumption | (exact CrS.alloc (by assumption) _)
            clear hK K
            try simp only [List.getElem_toArray, List.getElem_cons_succ, List.getElem_cons_zero, Act.put, List.setIfInBounds_toArray, List.set_cons_zero, List.set_cons_succ]
            refine wpAnyH_ready (rs := [23]) (by kernel_rfl) (by simp) ?_
            refine AllReadyH.cons rfl (fun K hK => ?_) (AllReadyH.nil)
            (refine step_append_one (by assumption : CrS w (.int .u64 r) (.slice (some ⟨g, off, none⟩) n a) (.slice B n b) _) (by rfl) (.tmp 38) (.tmp 52) (by rfl) (w.heap.size + 3) u0 (min k n) ((cutL l0 (moreAt cn f)).take k) (by rfl) (OwnStms.later HA3.out ((Below.refl _ _).alloc (Nat.le_refl _) _)) (Nat.le_refl _) (by have := HBR3.out.size; have := HS.out.2.2.2.1; simp; omega) w3.heap.size 1 (x.cut (f k)) v3 (by rfl) (by rw [World.cell?_alloc_mark]; rfl) (by rw [World.cell?_alloc_mark]; rfl) (HV3.out.later ((Below.refl _ _).alloc (Nat.le_refl _) _)) (by simp only [Stm.cut]; have := HYC.out; have := HXM.out; omega) (by have := HYL.out; have := HYC.out; have := HXM.out; omega) (by have := HN.out; omega) ?_; intro v4 w4 hown4 hS4 hcell4 hkeep4 hsz4; obtain ⟨A4, c4, rfl, _, _, _⟩ := hown4.at_ (by have := HN.out; omega); have HO4 := Lib.hid hown4; have HS4 := Lib.hid hS4; have z0 := (hcell4 0).trans ((World.cell?_alloc_lt _ _ _ (by have := HS3.out.2.2.2.1; exact this)).trans q0); have z1 := (hcell4 1).trans ((World.cell?_alloc_lt _ _ _ (by have := HS3.out.2.2.2.1; exact this)).trans q1); have z2 := (hcell4 2).trans ((World.cell?_alloc_lt _ _ _ (by have := HS3.out.2.2.2.1; exact this)).trans q2); clear hown4 hcell4 hkeep4 hsz4)
            refine hK.out _ _ ?_ (fun hHeld => ?_)
            · assumption
            clear hK K
            try simp only [List.getElem_toArray, List.getElem_cons_succ, List.getElem_cons_zero, Act.put, List.setIfInBounds_toArray, List.set_cons_zero, List.set_cons_succ]
            refine wpAnyH_take (i := 25) (oi := _) (v := ?_) rfl (by kernel_rfl) (by kernel_rfl) (by kernel_rfl) (fun _ _ _ h => h) (Or.inl ⟨by rfl, ?_⟩) (by assumption) ?_
            rotate_left
            · intro w hSw
              (try dsimp only at hSw)
              go_simp
              with_reducible rfl
            try simp only [List.getElem_toArray, List.getElem_cons_succ, List.getElem_cons_zero, Act.put, List.setIfInBounds_toArray, List.set_cons_zero, List.set_cons_succ]
            refine wpAnyH_ready (rs := [26]) (by kernel_rfl) (by simp) ?_
            refine AllReadyH.cons rfl (fun K hK => ?_) (AllReadyH.nil)
            go_simp
            refine hK.out _ _ ?_ (fun hHeld => ?_)
            · first | (with_reducible refine CrS.res ?_ _ _; with_reducible assumption) | assumption
            clear hK K
            try simp only [List.getElem_toArray, List.getElem_cons_succ, List.getElem_cons_zero, Act.put, List.setIfInBounds_toArray, List.set_cons_zero, List.set_cons_succ]
            refine wpAnyH_done (by kernel_rfl) ?_ _
            refine NoPanic.normal ?_
            clear hC0 hC1 hC2 hD0 hD1 hF1 hR1
            go_wp2_with fail
            go_roundw
            case rel => exact ⟨k + 1, by omega, by go_num, CrRel.step0 hkn HY.out HS4.out z0 ⟨_, z1⟩ z2 HO4.out⟩
            case measure => simp [intOf]; omega
          · go_simp
            (go_at_call 36; (with_reducible refine (refCutS_own A0 x cap HXM.out HXR.out (f k) HFK.out.1 HFK.out.2 _ (Lib.hid (AtB.below HAT.out (CrS.bel (by assumption)) (Nat.le_refl _)))).mono ?_); rintro e w3 ⟨v3, rfl, hown3, hb3⟩; have hS3 := CrS.later (by assumption : CrS w (.int .u64 r) (.slice (some ⟨g, off, none⟩) n a) (.slice B n b) _) hb3; have hbr3 : Below wr.heap.size wr w3 := below_step hb3 (by first | assumption | (exact Below.drew (Below.refl _ _)) | (exact Below.drew (by assumption))); have q0 := (keptCells hbr3 _ 0 HS.out.2.2.2.1).trans ho0; have q1 := (keptCells hbr3 _ 1 HS.out.2.2.2.1).trans ho1; have q2 := (keptCells hbr3 _ 2 HS.out.2.2.2.1).trans ho2; have qa : ∀ o : Obj, (w3.alloc o).cell? ⟨w.heap.size + 2, 1, none⟩ = some u0 := (fun o => (World.cell?_alloc_lt _ _ _ (by have := hS3.2.2.2.1; exact this)).trans q1); have HV3 := Lib.hid (hown3.lower (b' := w.heap.size + 3) (by have := HS.out.2.2.2.1; have := hbr3.size; simp; omega)); have HA3 := Lib.hid (HQ0.out.later hbr3); have HB3 := Lib.hid (HQ1.out.later hbr3); have HBR3 := Lib.hid hbr3; have HS3 := Lib.hid hS3; clear hown3 hb3 hbr3)
            refine hK.out _ _ ?_ (fun hHeld => ?_)
            · assumption
            clear hK K
            try simp only [List.getElem_toArray, List.getElem_cons_succ, List.getElem_cons_zero, Act.put, List.setIfInBounds_toArray, List.set_cons_zero, List.set_cons_succ]
            refine wpAnyH_ready (rs := [8, 22]) (by kernel_rfl) (by simp) ?_
            refine AllReadyH.cons rfl (fun K hK => ?_) (AllReadyH.cons rfl (fun K hK => ?_) (AllReadyH.nil))
            · go_simp
              refine hK.out _ _ ?_ (fun hHeld => ?_)
              · assumption
              clear hK K
              try simp only [List.getElem_toArray, List.getElem_cons_succ, List.getElem_cons_zero, Act.put, List.setIfInBounds_toArray, List.set_cons_zero, List.set_cons_succ]
              refine wpAnyH_ready (rs := [22]) (by kernel_rfl) (by simp) ?_
              refine AllReadyH.cons rfl (fun K hK => ?_) (AllReadyH.nil)
              go_simp
              refine hK.out _ _ ?_ (fun hHeld => ?_)
              · first | assumption | (exact CrS.alloc (by assumption) _)
              clear hK K
              try simp only [List.getElem_toArray, List.getElem_cons_succ, List.getElem_cons_zero, Act.put, List.setIfInBounds_toArray, List.set_cons_zero, List.set_cons_succ]
              refine wpAnyH_ready (rs := [23]) (by kernel_rfl) (by simp) ?_
              refine AllReadyH.cons rfl (fun K hK => ?_) (AllReadyH.nil)
              (refine step_append_one (by assumption : CrS w (.int .u64 r) (.slice (some ⟨g, off, none⟩) n a) (.slice B n b) _) (by rfl) (.tmp 38) (.tmp 52) (by rfl) (w.heap.size + 3) u0 (min k n) ((cutL l0 (moreAt cn f)).take k) (by rfl) (OwnStms.later HA3.out ((Below.refl _ _).alloc (Nat.le_refl _) _)) (Nat.le_refl _) (by have := HBR3.out.size; have := HS.out.2.2.2.1; simp; omega) w3.heap.size 1 (x.cut (f k)) v3 (by rfl) (by rw [World.cell?_alloc_mark]; rfl) (by rw [World.cell?_alloc_mark]; rfl) (HV3.out.later ((Below.refl _ _).alloc (Nat.le_refl _) _)) (by simp only [Stm.cut]; have := HYC.out; have := HXM.out; omega) (by have := HYL.out; have := HYC.out; have := HXM.out; omega) (by have := HN.out; omega) ?_; intro v4 w4 hown4 hS4 hcell4 hkeep4 hsz4; obtain ⟨A4, c4, rfl, _, _, _⟩ := hown4.at_ (by have := HN.out; omega); have HO4 := Lib.hid hown4; have HS4 := Lib.hid hS4; have z0 := (hcell4 0).trans ((World.cell?_alloc_lt _ _ _ (by have := HS3.out.2.2.2.1; exact this)).trans q0); have z1 := (hcell4 1).trans ((World.cell?_alloc_lt _ _ _ (by have := HS3.out.2.2.2.1; exact this)).trans q1); have z2 := (hcell4 2).trans ((World.cell?_alloc_lt _ _ _ (by have := HS3.out.2.2.2.1; exact this)).trans q2); clear hown4 hcell4 hkeep4 hsz4)
              refine hK.out _ _ ?_ (fun hHeld => ?_)
              · assumption
              clear hK K
              try simp only [List.getElem_toArray, List.getElem_cons_succ, List.getElem_cons_zero, Act.put, List.setIfInBounds_toArray, List.set_cons_zero, List.set_cons_succ]
              refine wpAnyH_take (i := 25) (oi := _) (v := ?_) rfl (by kernel_rfl) (by kernel_rfl) (by kernel_rfl) (fun _ _ _ h => h) (Or.inl ⟨by rfl, ?_⟩) (by assumption) ?_
              rotate_left
              · intro w hSw
                (try dsimp only at hSw)
                go_simp
                with_reducible rfl
              try simp only [List.getElem_toArray, List.getElem_cons_succ, List.getElem_cons_zero, Act.put, List.setIfInBounds_toArray, List.set_cons_zero, List.set_cons_succ]
              refine wpAnyH_ready (rs := [26]) (by kernel_rfl) (by simp) ?_
              refine AllReadyH.cons rfl (fun K hK => ?_) (AllReadyH.nil)
              go_simp
              refine hK.out _ _ ?_ (fun hHeld => ?_)
              · first | (with_reducible refine CrS.res ?_ _ _; with_reducible assumption) | assumption
              clear hK K
              try simp only [List.getElem_toArray, List.getElem_cons_succ, List.getElem_cons_zero, Act.put, List.setIfInBounds_toArray, List.set_cons_zero, List.set_cons_succ]
              refine wpAnyH_done (by kernel_rfl) ?_ _
              refine NoPanic.normal ?_
              clear hC0 hC1 hC2 hD0 hD1 hF1 hR1
              go_wp2_with fail
              go_roundw
              case rel => exact ⟨k + 1, by omega, by go_num, CrRel.step0 hkn HY.out HS4.out z0 ⟨_, z1⟩ z2 HO4.out⟩
              case measure => simp [intOf]; omega
            · go_simp
              refine hK.out _ _ ?_ (fun hHeld => ?_)
              · first | assumption | (exact CrS.alloc (by assumption) _)
              clear hK K
              try simp only [List.getElem_toArray, List.getElem_cons_succ, List.getElem_cons_zero, Act.put, List.setIfInBounds_toArray, List.set_cons_zero, List.set_cons_succ]
              refine wpAnyH_ready (rs := [8]) (by kernel_rfl) (by simp) ?_
              refine AllReadyH.cons rfl (fun K hK => ?_) (AllReadyH.nil)
              go_simp
              refine hK.out _ _ ?_ (fun hHeld => ?_)
              · first | assumption | (exact CrS.alloc (by assumption) _)
              clear hK K
              try simp only [List.getElem_toArray, List.getElem_cons_succ, List.getElem_cons_zero, Act.put, List.setIfInBounds_toArray, List.set_cons_zero, List.set_cons_succ]
              refine wpAnyH_ready (rs := [23]) (by kernel_rfl) (by simp) ?_
              refine AllReadyH.cons rfl (fun K hK => ?_) (AllReadyH.nil)
              (refine step_append_one (by assumption : CrS w (.int .u64 r) (.slice (some ⟨g, off, none⟩) n a) (.slice B n b) _) (by rfl) (.tmp 38) (.tmp 52) (by rfl) (w.heap.size + 3) u0 (min k n) ((cutL l0 (moreAt cn f)).take k) (by rfl) (OwnStms.later HA3.out ((Below.refl _ _).alloc (Nat.le_refl _) _)) (Nat.le_refl _) (by have := HBR3.out.size; have := HS.out.2.2.2.1; simp; omega) w3.heap.size 1 (x.cut (f k)) v3 (by rfl) (by rw [World.cell?_alloc_mark]; rfl) (by rw [World.cell?_alloc_mark]; rfl) (HV3.out.later ((Below.refl _ _).alloc (Nat.le_refl _) _)) (by simp only [Stm.cut]; have := HYC.out; have := HXM.out; omega) (by have := HYL.out; have := HYC.out; have := HXM.out; omega) (by have := HN.out; omega) ?_; intro v4 w4 hown4 hS4 hcell4 hkeep4 hsz4; obtain ⟨A4, c4, rfl, _, _, _⟩ := hown4.at_ (by have := HN.out; omega); have HO4 := Lib.hid hown4; have HS4 := Lib.hid hS4; have z0 := (hcell4 0).trans ((World.cell?_alloc_lt _ _ _ (by have := HS3.out.2.2.2.1; exact this)).trans q0); have z1 := (hcell4 1).trans ((World.cell?_alloc_lt _ _ _ (by have := HS3.out.2.2.2.1; exact this)).trans q1); have z2 := (hcell4 2).trans ((World.cell?_alloc_lt _ _ _ (by have := HS3.out.2.2.2.1; exact this)).trans q2); clear hown4 hcell4 hkeep4 hsz4)
              refine hK.out _ _ ?_ (fun hHeld => ?_)
              · assumption
              clear hK K
              try simp only [List.getElem_toArray, List.getElem_cons_succ, List.getElem_cons_zero, Act.put, List.setIfInBounds_toArray, List.set_cons_zero, List.set_cons_succ]
              refine wpAnyH_take (i := 25) (oi := _) (v := ?_) rfl (by kernel_rfl) (by kernel_rfl) (by kernel_rfl) (fun _ _ _ h => h) (Or.inl ⟨by rfl, ?_⟩) (by assumption) ?_
              rotate_left
              · intro w hSw
                (try dsimp only at hSw)
                go_simp
                with_reducible rfl
              try simp only [List.getElem_toArray, List.getElem_cons_succ, List.getElem_cons_zero, Act.put, List.setIfInBounds_toArray, List.set_cons_zero, List.set_cons_succ]
              refine wpAnyH_ready (rs := [26]) (by kernel_rfl) (by simp) ?_
              refine AllReadyH.cons rfl (fun K hK => ?_) (AllReadyH.nil)
              go_simp
              refine hK.out _ _ ?_ (fun hHeld => ?_)
              · first | (with_reducible refine CrS.res ?_ _ _; with_reducible assumption) | assumption
              clear hK K
              try simp only [List.getElem_toArray, List.getElem_cons_succ, List.getElem_cons_zero, Act.put, List.setIfInBounds_toArray, List.set_cons_zero, List.set_cons_succ]
              refine wpAnyH_done (by kernel_rfl) ?_ _
              refine NoPanic.normal ?_
              clear hC0 hC1 hC2 hD0 hD1 hF1 hR1
              go_wp2_with fail
              go_roundw
              case rel => exact ⟨k + 1, by omega, by go_num, CrRel.step0 hkn HY.out HS4.out z0 ⟨_, z1⟩ z2 HO4.out⟩
              case measure => simp [intOf]; omega
        · obtain ⟨x, g, off, A0, cap, hx, rfl, hg, hg0, hg1, hlc, hlm, hat, hsy⟩ := h0.out.at_ k (by omega)
          have HX := Lib.hid hx
          have HXR := Lib.hid (allB_get HR0.out hx)
          have HXM := Lib.hid (hm0 x (List.mem_of_getElem? hx))
          have HAT := Lib.hid hat
          have hD0 : ∀ w', CrS w (.int .u64 r) (.slice (some ⟨g, off, none⟩) n a) (.slice B n b) w' → w'.cell? ⟨g, off + k * 2, none⟩ = some (.slice A0 x.bytes.length cap) := fun w' h => h.cell hg hg0
          have hD1 : ∀ w', CrS w (.int .u64 r) (.slice (some ⟨g, off, none⟩) n a) (.slice B n b) w' → w'.cell? ⟨g, off + k * 2 + 1, none⟩ = some (.int .i64 x.synced) := fun w' h => h.cell hg hg1
          have hC0 : ∀ w', CrS w (.int .u64 r) (.slice (some ⟨g, off, none⟩) n a) (.slice B n b) w' → w'.cell? ⟨w.heap.size, 0, none⟩ = some (.int .u64 r) := fun w' h => h.c0
          have hC1 : ∀ w', CrS w (.int .u64 r) (.slice (some ⟨g, off, none⟩) n a) (.slice B n b) w' → w'.cell? ⟨w.heap.size, 1, none⟩ = some (.slice (some ⟨g, off, none⟩) n a) := fun w' h => h.c1
          have hC2 : ∀ w', CrS w (.int .u64 r) (.slice (some ⟨g, off, none⟩) n a) (.slice B n b) w' → w'.cell? ⟨w.heap.size, 2, none⟩ = some (.slice B n b) := fun w' h => h.c2
          have hF1 : ∀ w', CrS w (.int .u64 r) (.slice (some ⟨g, off, none⟩) n a) (.slice B n b) w' → w'.frozen? ⟨w.heap.size + 2, 1, none⟩ = false := fun w' h => h.f 1 (by omega)
          have hR1 : ∀ w', CrS w (.int .u64 r) (.slice (some ⟨g, off, none⟩) n a) (.slice B n b) w' → ∃ v, w'.cell? ⟨w.heap.size + 2, 1, none⟩ = some v := fun w' h => ⟨_, h.r 1 (by omega)⟩
          have HY := Lib.hid (cutL_get l0 (moreAt cn f) k x hx)
          have HYL := Lib.hid (Stm.cut_length (allB_get HR0.out hx) (moreAt cn f k))
          have HYC := Lib.hid (Stm.cutN_le (allB_get HR0.out hx) (moreAt cn f k))
          have hYM2 : moreAt cn f k = 0 := if_neg hcn
          have hYM : moreAt cn f k = 0 := hYM2
          rw [hYM2] at HYL HYC
          rw [hYM] at HY
          clear hx hg0 hg1 hat hlm hsy hlc hYM hYM2 hg 
          go_wp2_with fail
          have hS0 : CrS w (.int .u64 r) (.slice (some ⟨g, off, none⟩) n a) (.slice B n b) wr := HS.out
          refine wp_region_noPanic ?_
          refine wp_region_held_drew (S := fun w' => CrS w (.int .u64 r) (.slice (some ⟨g, off, none⟩) n a) (.slice B n b) w') (by kernel_rfl) (CrS.drew (by assumption)) (fun hHeld => ?_)
          refine wpAnyH_take (i := 0) (oi := _) (v := ?_) rfl (by kernel_rfl) (by kernel_rfl) (by kernel_rfl) (fun _ _ _ h => h) (Or.inl ⟨by rfl, ?_⟩) (by assumption) ?_
          rotate_left
          · intro w hSw
            (try dsimp only at hSw)
            go_simp
            with_reducible rfl
          try simp only [List.getElem_toArray, List.getElem_cons_zero, Act.put, List.setIfInBounds_toArray, List.set_cons_zero, List.set_cons_succ]
          refine wpAnyH_take (i := 1) (oi := _) (v := ?_) rfl (by kernel_rfl) (by kernel_rfl) (by kernel_rfl) (fun _ _ _ h => h) (Or.inl ⟨by rfl, ?_⟩) (by assumption) ?_
          rotate_left
          · intro w hSw
            (try dsimp only at hSw)
            go_simp
            with_reducible rfl
          try simp only [List.getElem_toArray, List.getElem_cons_succ, List.getElem_cons_zero, Act.put, List.setIfInBounds_toArray, List.set_cons_zero, List.set_cons_succ]
          refine wpAnyH_take (i := 3) (oi := _) (v := ?_) rfl (by kernel_rfl) (by kernel_rfl) (by kernel_rfl) (fun _ _ _ h => h) (Or.inl ⟨by rfl, ?_⟩) (by assumption) ?_
          rotate_left
          · intro w hSw
            (try dsimp only at hSw)
            go_simp
            with_reducible rfl
          try simp only [List.getElem_toArray, List.getElem_cons_succ, List.getElem_cons_zero, Act.put, List.setIfInBounds_toArray, List.set_cons_zero, List.set_cons_succ]
          refine wpAnyH_take (i := 4) (oi := _) (v := ?_) rfl (by kernel_rfl) (by kernel_rfl) (by kernel_rfl) (fun _ _ _ h => h) (Or.inl ⟨by rfl, ?_⟩) (by assumption) ?_
          rotate_left
          · intro w hSw
            (try dsimp only at hSw)
            go_simp
            with_reducible rfl
          try simp only [List.getElem_toArray, List.getElem_cons_succ, List.getElem_cons_zero, Act.put, List.setIfInBounds_toArray, List.set_cons_zero, List.set_cons_succ]
          refine wpAnyH_take (i := 6) (oi := _) (v := ?_) rfl (by kernel_rfl) (by kernel_rfl) (by kernel_rfl) (fun _ _ _ h => h) (Or.inl ⟨by rfl, ?_⟩) (by assumption) ?_
          rotate_left
          · intro w hSw
            (try dsimp only at hSw)
            go_simp
            with_reducible rfl
          try simp only [List.getElem_toArray, List.getElem_cons_succ, List.getElem_cons_zero, Act.put, List.setIfInBounds_toArray, List.set_cons_zero, List.set_cons_succ]
          refine wpAnyH_take (i := 9) (oi := _) (v := ?_) rfl (by kernel_rfl) (by kernel_rfl) (by kernel_rfl) (fun _ _ _ h => h) (Or.inl ⟨by rfl, ?_⟩) (by assumption) ?_
          rotate_left
          · intro w hSw
            (try dsimp only at hSw)
            go_simp
            with_reducible rfl
          try simp only [List.getElem_toArray, List.getElem_cons_succ, List.getElem_cons_zero, Act.put, List.setIfInBounds_toArray, List.set_cons_zero, List.set_cons_succ]
          refine wpAnyH_take (i := 10) (oi := _) (v := ?_) rfl (by kernel_rfl) (by kernel_rfl) (by kernel_rfl) (fun _ _ _ h => h) (Or.inl ⟨by rfl, ?_⟩) (by assumption) ?_
          rotate_left
          · intro w hSw
            (try dsimp only at hSw)
            go_simp
            with_reducible rfl
          try simp only [List.getElem_toArray, List.getElem_cons_succ, List.getElem_cons_zero, Act.put, List.setIfInBounds_toArray, List.set_cons_zero, List.set_cons_succ]
          refine wpAnyH_take (i := 12) (oi := _) (v := ?_) rfl (by kernel_rfl) (by kernel_rfl) (by kernel_rfl) (fun _ _ _ h => h) (Or.inl ⟨by rfl, ?_⟩) (by assumption) ?_
          rotate_left
          · intro w hSw
            (try dsimp only at hSw)
            go_simp
            with_reducible rfl
          try simp only [List.getElem_toArray, List.getElem_cons_succ, List.getElem_cons_zero, Act.put, List.setIfInBounds_toArray, List.set_cons_zero, List.set_cons_succ]
          refine wpAnyH_take (i := 15) (oi := _) (v := ?_) rfl (by kernel_rfl) (by kernel_rfl) (by kernel_rfl) (fun _ _ _ h => h) (Or.inl ⟨by rfl, ?_⟩) (by assumption) ?_
          rotate_left
          · intro w hSw
            (try dsimp only at hSw)
            go_simp
            with_reducible rfl
          try simp only [List.getElem_toArray, List.getElem_cons_succ, List.getElem_cons_zero, Act.put, List.setIfInBounds_toArray, List.set_cons_zero, List.set_cons_succ]
          refine wpAnyH_take (i := 16) (oi := _) (v := ?_) rfl (by kernel_rfl) (by kernel_rfl) (by kernel_rfl) (fun _ _ _ h => h) (Or.inl ⟨by rfl, ?_⟩) (by assumption) ?_
          rotate_left
          · intro w hSw
            (try dsimp only at hSw)
            go_simp
            with_reducible rfl
          try simp only [List.getElem_toArray, List.getElem_cons_succ, List.getElem_cons_zero, Act.put, List.setIfInBounds_toArray, List.set_cons_zero, List.set_cons_succ]
          refine wpAnyH_take (i := 20) (oi := _) (v := ?_) rfl (by kernel_rfl) (by kernel_rfl) (by kernel_rfl) (fun _ _ _ h => h) (Or.inl ⟨by rfl, ?_⟩) (by assumption) ?_
          rotate_left
          · intro w hSw
            (try dsimp only at hSw)
            go_simp
            with_reducible rfl
          try simp only [List.getElem_toArray, List.getElem_cons_succ, List.getElem_cons_zero, Act.put, List.setIfInBounds_toArray, List.set_cons_zero, List.set_cons_succ]
          refine wpAnyH_take (i := 24) (oi := _) (v := ?_) rfl (by kernel_rfl) (by kernel_rfl) (by kernel_rfl) (fun _ _ _ h => h) (Or.inl ⟨by rfl, ?_⟩) (by assumption) ?_
          rotate_left
          · intro w hSw
            (try dsimp only at hSw)
            go_simp
            with_reducible rfl
          try simp only [List.getElem_toArray, List.getElem_cons_succ, List.getElem_cons_zero, Act.put, List.setIfInBounds_toArray, List.set_cons_zero, List.set_cons_succ]
          refine wpAnyH_take (i := 2) (oi := _) (v := ?_) rfl (by kernel_rfl) (by kernel_rfl) (by kernel_rfl) (fun _ _ _ h => h) (Or.inl ⟨by rfl, ?_⟩) (by assumption) ?_
          rotate_left
          · intro w hSw
            (try dsimp only at hSw)
            go_simp
            with_reducible rfl
          try simp only [List.getElem_toArray, List.getElem_cons_succ, List.getElem_cons_zero, Act.put, List.setIfInBounds_toArray, List.set_cons_zero, List.set_cons_succ]
          refine wpAnyH_take (i := 5) (oi := _) (v := ?_) rfl (by kernel_rfl) (by kernel_rfl) (by kernel_rfl) (fun _ _ _ h => h) (Or.inl ⟨by rfl, ?_⟩) (by assumption) ?_
          rotate_left
          · intro w hSw
            (try dsimp only at hSw)
            go_simp
            with_reducible rfl
          try simp only [List.getElem_toArray, List.getElem_cons_succ, List.getElem_cons_zero, Act.put, List.setIfInBounds_toArray, List.set_cons_zero, List.set_cons_succ]
          refine wpAnyH_take (i := 11) (oi := _) (v := ?_) rfl (by kernel_rfl) (by kernel_rfl) (by kernel_rfl) (fun _ _ _ h => h) (Or.inl ⟨by rfl, ?_⟩) (by assumption) ?_
          rotate_left
          · intro w hSw
            (try dsimp only at hSw)
            go_simp
            with_reducible rfl
          try simp only [List.getElem_toArray, List.getElem_cons_succ, List.getElem_cons_zero, Act.put, List.setIfInBounds_toArray, List.set_cons_zero, List.set_cons_succ]
          refine wpAnyH_take (i := 17) (oi := _) (v := ?_) rfl (by kernel_rfl) (by kernel_rfl) (by kernel_rfl) (fun _ _ _ h => h) (Or.inl ⟨by rfl, ?_⟩) (by assumption) ?_
          rotate_left
          · intro w hSw
            (try dsimp only at hSw)
            go_simp
            with_reducible rfl
          try simp only [List.getElem_toArray, List.getElem_cons_succ, List.getElem_cons_zero, Act.put, List.setIfInBounds_toArray, List.set_cons_zero, List.set_cons_succ]
          refine wpAnyH_take (i := 7) (oi := _) (v := ?_) rfl (by kernel_rfl) (by kernel_rfl) (by kernel_rfl) (fun _ _ _ h => h) (Or.inl ⟨by rfl, ?_⟩) (by assumption) ?_
          rotate_left
          · intro w hSw
            (try dsimp only at hSw)
            go_simp
            with_reducible rfl
          try simp only [List.getElem_toArray, List.getElem_cons_succ, List.getElem_cons_zero, Act.put, List.setIfInBounds_toArray, List.set_cons_zero, List.set_cons_succ]
          refine wpAnyH_take (i := 13) (oi := _) (v := ?_) rfl (by kernel_rfl) (by kernel_rfl) (by kernel_rfl) (fun _ _ _ h => h) (Or.inl ⟨by rfl, ?_⟩) (by assumption) ?_
          rotate_left
          · intro w hSw
            (try dsimp only at hSw)
            go_simp
            with_reducible rfl
          try simp only [List.getElem_toArray, List.getElem_cons_succ, List.getElem_cons_zero, Act.put, List.setIfInBounds_toArray, List.set_cons_zero, List.set_cons_succ]
          refine wpAnyH_take (i := 14) (oi := _) (v := ?_) rfl (by kernel_rfl) (by kernel_rfl) (by kernel_rfl) (fun _ _ _ h => h) (Or.inl ⟨by rfl, ?_⟩) (by assumption) ?_
          rotate_left
          · intro w hSw
            (try dsimp only at hSw)
            go_simp
            with_reducible rfl
          try simp only [List.getElem_toArray, List.getElem_cons_succ, List.getElem_cons_zero, Act.put, List.setIfInBounds_toArray, List.set_cons_zero, List.set_cons_succ]
          refine wpAnyH_take (i := 18) (oi := _) (v := ?_) rfl (by kernel_rfl) (by kernel_rfl) (by kernel_rfl) (fun _ _ _ h => h) (Or.inl ⟨by rfl, ?_⟩) (by assumption) ?_
          rotate_left
          · intro w hSw
            (try dsimp only at hSw)
            go_simp
            with_reducible rfl
          try simp only [List.getElem_toArray, List.getElem_cons_succ, List.getElem_cons_zero, Act.put, List.setIfInBounds_toArray, List.set_cons_zero, List.set_cons_succ]
          refine wpAnyH_take (i := 19) (oi := _) (v := ?_) rfl (by kernel_rfl) (by kernel_rfl) (by kernel_rfl) (fun _ _ _ h => h) (Or.inl ⟨by rfl, ?_⟩) (by assumption) ?_
          rotate_left
          · intro w hSw
            (try dsimp only at hSw)
            go_simp
            with_reducible rfl
          try simp only [List.getElem_toArray, List.getElem_cons_succ, List.getElem_cons_zero, Act.put, List.setIfInBounds_toArray, List.set_cons_zero, List.set_cons_succ]
          refine wpAnyH_ready (rs := [8, 21]) (by kernel_rfl) (by simp) ?_
          refine AllReadyH.cons rfl (fun K hK => ?_) (AllReadyH.cons rfl (fun K hK => ?_) (AllReadyH.nil))
          · go_simp
            refine hK.out _ _ ?_ (fun hHeld => ?_)
            · assumption
            clear hK K
            try simp only [List.getElem_toArray, List.getElem_cons_succ, List.getElem_cons_zero, Act.put, List.setIfInBounds_toArray, List.set_cons_zero, List.set_cons_succ]
            refine wpAnyH_ready (rs := [21]) (by kernel_rfl) (by simp) ?_
            refine AllReadyH.cons rfl (fun K hK => ?_) (AllReadyH.nil)
            go_simp
            (go_at_call 36; (with_reducible refine (refCutS_own A0 x cap HXM.out HXR.out 0 (by omega) (by omega) _ (Lib.hid (AtB.below HAT.out (CrS.bel (by assumption)) (Nat.le_refl _)))).mono ?_); rintro e w3 ⟨v3, rfl, hown3, hb3⟩; have hS3 := CrS.later (by assumption : CrS w (.int .u64 r) (.slice (some ⟨g, off, none⟩) n a) (.slice B n b) _) hb3; have hbr3 : Below wr.heap.size wr w3 := below_step hb3 (by first | assumption | (exact Below.drew (Below.refl _ _)) | (exact Below.drew (by assumption))); have q0 := (keptCells hbr3 _ 0 HS.out.2.2.2.1).trans ho0; have q1 := (keptCells hbr3 _ 1 HS.out.2.2.2.1).trans ho1; have q2 := (keptCells hbr3 _ 2 HS.out.2.2.2.1).trans ho2; have qa : ∀ o : Obj, (w3.alloc o).cell? ⟨w.heap.size + 2, 1, none⟩ = some u0 := (fun o => (World.cell?_alloc_lt _ _ _ (by have := hS3.2.2.2.1; exact this)).trans q1); have HV3 := Lib.hid (hown3.lower (b' := w.heap.size + 3) (by have := HS.out.2.2.2.1; have := hbr3.size; simp; omega)); have HA3 := Lib.hid (HQ0.out.later hbr3); have HB3 := Lib.hid (HQ1.out.later hbr3); have HBR3 := Lib.hid hbr3; have HS3 := Lib.hid hS3; clear hown3 hb3 hbr3)
            refine hK.out _ _ ?_ (fun hHeld => ?_)
            · assumption
            clear hK K
            try simp only [List.getElem_toArray, List.getElem_cons_succ, List.getElem_cons_zero, Act.put, List.setIfInBounds_toArray, List.set_cons_zero, List.set_cons_succ]
            refine wpAnyH_ready (rs := [22]) (by kernel_rfl) (by simp) ?_
            refine AllReadyH.cons rfl (fun K hK => ?_) (AllReadyH.nil)
            go_simp
            refine hK.out _ _ ?_ (fun hHeld => ?_)
            · first | assumption | (exact CrS.alloc (by assumption) _)
            clear hK K
            try simp only [List.getElem_toArray, List.getElem_cons_succ, List.getElem_cons_zero, Act.put, List.setIfInBounds_toArray, List.set_cons_zero, List.set_cons_succ]
            refine wpAnyH_ready (rs := [23]) (by kernel_rfl) (by simp) ?_
            refine AllReadyH.cons rfl (fun K hK => ?_) (AllReadyH.nil)
            (refine step_append_one (by assumption : CrS w (.int .u64 r) (.slice (some ⟨g, off, none⟩) n a) (.slice B n b) _) (by rfl) (.tmp 38) (.tmp 52) (by rfl) (w.heap.size + 3) u0 (min k n) ((cutL l0 (moreAt cn f)).take k) (by rfl) (OwnStms.later HA3.out ((Below.refl _ _).alloc (Nat.le_refl _) _)) (Nat.le_refl _) (by have := HBR3.out.size; have := HS.out.2.2.2.1; simp; omega) w3.heap.size 1 (x.cut 0) v3 (by rfl) (by rw [World.cell?_alloc_mark]; rfl) (by rw [World.cell?_alloc_mark]; rfl) (HV3.out.later ((Below.refl _ _).alloc (Nat.le_refl _) _)) (by simp only [Stm.cut]; have := HYC.out; have := HXM.out; omega) (by have := HYL.out; have := HYC.out; have := HXM.out; omega) (by have := HN.out; omega) ?_; intro v4 w4 hown4 hS4 hcell4 hkeep4 hsz4; obtain ⟨A4, c4, rfl, _, _, _⟩ := hown4.at_ (by have := HN.out; omega); have HO4 := Lib.hid hown4; have HS4 := Lib.hid hS4; have z0 := (hcell4 0).trans ((World.cell?_alloc_lt _ _ _ (by have := HS3.out.2.2.2.1; exact this)).trans q0); have z1 := (hcell4 1).trans ((World.cell?_alloc_lt _ _ _ (by have := HS3.out.2.2.2.1; exact this)).trans q1); have z2 := (hcell4 2).trans ((World.cell?_alloc_lt _ _ _ (by have := HS3.out.2.2.2.1; exact this)).trans q2); clear hown4 hcell4 hkeep4 hsz4)
            refine hK.out _ _ ?_ (fun hHeld => ?_)
            · assumption
            clear hK K
            try simp only [List.getElem_toArray, List.getElem_cons_succ, List.getElem_cons_zero, Act.put, List.setIfInBounds_toArray, List.set_cons_zero, List.set_cons_succ]
            refine wpAnyH_take (i := 25) (oi := _) (v := ?_) rfl (by kernel_rfl) (by kernel_rfl) (by kernel_rfl) (fun _ _ _ h => h) (Or.inl ⟨by rfl, ?_⟩) (by assumption) ?_
            rotate_left
            · intro w hSw
              (try dsimp only at hSw)
              go_simp
              with_reducible rfl
            try simp only [List.getElem_toArray, List.getElem_cons_succ, List.getElem_cons_zero, Act.put, List.setIfInBounds_toArray, List.set_cons_zero, List.set_cons_succ]
            refine wpAnyH_ready (rs := [26]) (by kernel_rfl) (by simp) ?_
            refine AllReadyH.cons rfl (fun K hK => ?_) (AllReadyH.nil)
            go_simp
            refine hK.out _ _ ?_ (fun hHeld => ?_)
            · first | (with_reducible refine CrS.res ?_ _ _; with_reducible assumption) | assumption
            clear hK K
            try simp only [List.getElem_toArray, List.getElem_cons_succ, List.getElem_cons_zero, Act.put, List.setIfInBounds_toArray, List.set_cons_zero, List.set_cons_succ]
            refine wpAnyH_done (by kernel_rfl) ?_ _
            refine NoPanic.normal ?_
            clear hC0 hC1 hC2 hD0 hD1 hF1 hR1
            go_wp2_with fail
            go_roundw
            case rel => exact ⟨k + 1, by omega, by go_num, CrRel.step0 hkn HY.out HS4.out z0 ⟨_, z1⟩ z2 HO4.out⟩
            case measure => simp [intOf]; omega
          · go_simp
            (go_at_call 36; (with_reducible refine (refCutS_own A0 x cap HXM.out HXR.out 0 (by omega) (by omega) _ (Lib.hid (AtB.below HAT.out (CrS.bel (by assumption)) (Nat.le_refl _)))).mono ?_); rintro e w3 ⟨v3, rfl, hown3, hb3⟩; have hS3 := CrS.later (by assumption : CrS w (.int .u64 r) (.slice (some ⟨g, off, none⟩) n a) (.slice B n b) _) hb3; have hbr3 : Below wr.heap.size wr w3 := below_step hb3 (by first | assumption | (exact Below.drew (Below.refl _ _)) | (exact Below.drew (by assumption))); have q0 := (keptCells hbr3 _ 0 HS.out.2.2.2.1).trans ho0; have q1 := (keptCells hbr3 _ 1 HS.out.2.2.2.1).trans ho1; have q2 := (keptCells hbr3 _ 2 HS.out.2.2.2.1).trans ho2; have qa : ∀ o : Obj, (w3.alloc o).cell? ⟨w.heap.size + 2, 1, none⟩ = some u0 := (fun o => (World.cell?_alloc_lt _ _ _ (by have := hS3.2.2.2.1; exact this)).trans q1); have HV3 := Lib.hid (hown3.lower (b' := w.heap.size + 3) (by have := HS.out.2.2.2.1; have := hbr3.size; simp; omega)); have HA3 := Lib.hid (HQ0.out.later hbr3); have HB3 := Lib.hid (HQ1.out.later hbr3); have HBR3 := Lib.hid hbr3; have HS3 := Lib.hid hS3; clear hown3 hb3 hbr3)
            refine hK.out _ _ ?_ (fun hHeld => ?_)
            · assumption
            clear hK K
            try simp only [List.getElem_toArray, List.getElem_cons_succ, List.getElem_cons_zero, Act.put, List.setIfInBounds_toArray, List.set_cons_zero, List.set_cons_succ]
            refine wpAnyH_ready (rs := [8, 22]) (by kernel_rfl) (by simp) ?_
            refine AllReadyH.cons rfl (fun K hK => ?_) (AllReadyH.cons rfl (fun K hK => ?_) (AllReadyH.nil))
            · go_simp
              refine hK.out _ _ ?_ (fun hHeld => ?_)
              · assumption
              clear hK K
              try simp only [List.getElem_toArray, List.getElem_cons_succ, List.getElem_cons_zero, Act.put, List.setIfInBounds_toArray, List.set_cons_zero, List.set_cons_succ]
              refine wpAnyH_ready (rs := [22]) (by kernel_rfl) (by simp) ?_
              refine AllReadyH.cons rfl (fun K hK => ?_) (AllReadyH.nil)
              go_simp
              refine hK.out _ _ ?_ (fun hHeld => ?_)
              · first | assumption | (exact CrS.alloc (by assumption) _)
              clear hK K
              try simp only [List.getElem_toArray, List.getElem_cons_succ, List.getElem_cons_zero, Act.put, List.setIfInBounds_toArray, List.set_cons_zero, List.set_cons_succ]
              refine wpAnyH_ready (rs := [23]) (by kernel_rfl) (by simp) ?_
              refine AllReadyH.cons rfl (fun K hK => ?_) (AllReadyH.nil)
              (refine step_append_one (by assumption : CrS w (.int .u64 r) (.slice (some ⟨g, off, none⟩) n a) (.slice B n b) _) (by rfl) (.tmp 38) (.tmp 52) (by rfl) (w.heap.size + 3) u0 (min k n) ((cutL l0 (moreAt cn f)).take k) (by rfl) (OwnStms.later HA3.out ((Below.refl _ _).alloc (Nat.le_refl _) _)) (Nat.le_refl _) (by have := HBR3.out.size; have := HS.out.2.2.2.1; simp; omega) w3.heap.size 1 (x.cut 0) v3 (by rfl) (by rw [World.cell?_alloc_mark]; rfl) (by rw [World.cell?_alloc_mark]; rfl) (HV3.out.later ((Below.refl _ _).alloc (Nat.le_refl _) _)) (by simp only [Stm.cut]; have := HYC.out; have := HXM.out; omega) (by have := HYL.out; have := HYC.out; have := HXM.out; omega) (by have := HN.out; omega) ?_; intro v4 w4 hown4 hS4 hcell4 hkeep4 hsz4; obtain ⟨A4, c4, rfl, _, _, _⟩ := hown4.at_ (by have := HN.out; omega); have HO4 := Lib.hid hown4; have HS4 := Lib.hid hS4; have z0 := (hcell4 0).trans ((World.cell?_alloc_lt _ _ _ (by have := HS3.out.2.2.2.1; exact this)).trans q0); have z1 := (hcell4 1).trans ((World.cell?_alloc_lt _ _ _ (by have := HS3.out.2.2.2.1; exact this)).trans q1); have z2 := (hcell4 2).trans ((World.cell?_alloc_lt _ _ _ (by have := HS3.out.2.2.2.1; exact this)).trans q2); clear hown4 hcell4 hkeep4 hsz4)
              refine hK.out _ _ ?_ (fun hHeld => ?_)
              · assumption
              clear hK K
              try simp only [List.getElem_toArray, List.getElem_cons_succ, List.getElem_cons_zero, Act.put, List.setIfInBounds_toArray, List.set_cons_zero, List.set_cons_succ]
              refine wpAnyH_take (i := 25) (oi := _) (v := ?_) rfl (by kernel_rfl) (by kernel_rfl) (by kernel_rfl) (fun _ _ _ h => h) (Or.inl ⟨by rfl, ?_⟩) (by assumption) ?_
              rotate_left
              · intro w hSw
                (try dsimp only at hSw)
                go_simp
                with_reducible rfl
              try simp only [List.getElem_toArray, List.getElem_cons_succ, List.getElem_cons_zero, Act.put, List.setIfInBounds_toArray, List.set_cons_zero, List.set_cons_succ]
              refine wpAnyH_ready (rs := [26]) (by kernel_rfl) (by simp) ?_
              refine AllReadyH.cons rfl (fun K hK => ?_) (AllReadyH.nil)
              go_simp
              refine hK.out _ _ ?_ (fun hHeld => ?_)
              · first | (with_reducible refine CrS.res ?_ _ _; with_reducible assumption) | assumption
              clear hK K
              try simp only [List.getElem_toArray, List.getElem_cons_succ, List.getElem_cons_zero, Act.put, List.setIfInBounds_toArray, List.set_cons_zero, List.set_cons_succ]
              refine wpAnyH_done (by kernel_rfl) ?_ _
              refine NoPanic.normal ?_
              clear hC0 hC1 hC2 hD0 hD1 hF1 hR1
              go_wp2_with fail
              go_roundw
              case rel => exact ⟨k + 1, by omega, by go_num, CrRel.step0 hkn HY.out HS4.out z0 ⟨_, z1⟩ z2 HO4.out⟩
              case measure => simp [intOf]; omega
            · go_simp
              refine hK.out _ _ ?_ (fun hHeld => ?_)
              · first | assumption | (exact CrS.alloc (by assumption) _)
              clear hK K
              try simp only [List.getElem_toArray, List.getElem_cons_succ, List.getElem_cons_zero, Act.put, List.setIfInBounds_toArray, List.set_cons_zero, List.set_cons_succ]
              refine wpAnyH_ready (rs := [8]) (by kernel_rfl) (by simp) ?_
              refine AllReadyH.cons rfl (fun K hK => ?_) (AllReadyH.nil)
              go_simp
              refine hK.out _ _ ?_ (fun hHeld => ?_)
              · first | assumption | (exact CrS.alloc (by assumption) _)
              clear hK K
              try simp only [List.getElem_toArray, List.getElem_cons_succ, List.getElem_cons_zero, Act.put, List.setIfInBounds_toArray, List.set_cons_zero, List.set_cons_succ]
              refine wpAnyH_ready (rs := [23]) (by kernel_rfl) (by simp) ?_
              refine AllReadyH.cons rfl (fun K hK => ?_) (AllReadyH.nil)
              (refine step_append_one (by assumption : CrS w (.int .u64 r) (.slice (some ⟨g, off, none⟩) n a) (.slice B n b) _) (by rfl) (.tmp 38) (.tmp 52) (by rfl) (w.heap.size + 3) u0 (min k n) ((cutL l0 (moreAt cn f)).take k) (by rfl) (OwnStms.later HA3.out ((Below.refl _ _).alloc (Nat.le_refl _) _)) (Nat.le_refl _) (by have := HBR3.out.size; have := HS.out.2.2.2.1; simp; omega) w3.heap.size 1 (x.cut 0) v3 (by rfl) (by rw [World.cell?_alloc_mark]; rfl) (by rw [World.cell?_alloc_mark]; rfl) (HV3.out.later ((Below.refl _ _).alloc (Nat.le_refl _) _)) (by simp only [Stm.cut]; have := HYC.out; have := HXM.out; omega) (by have := HYL.out; have := HYC.out; have := HXM.out; omega) (by have := HN.out; omega) ?_; intro v4 w4 hown4 hS4 hcell4 hkeep4 hsz4; obtain ⟨A4, c4, rfl, _, _, _⟩ := hown4.at_ (by have := HN.out; omega); have HO4 := Lib.hid hown4; have HS4 := Lib.hid hS4; have z0 := (hcell4 0).trans ((World.cell?_alloc_lt _ _ _ (by have := HS3.out.2.2.2.1; exact this)).trans q0); have z1 := (hcell4 1).trans ((World.cell?_alloc_lt _ _ _ (by have := HS3.out.2.2.2.1; exact this)).trans q1); have z2 := (hcell4 2).trans ((World.cell?_alloc_lt _ _ _ (by have := HS3.out.2.2.2.1; exact this)).trans q2); clear hown4 hcell4 hkeep4 hsz4)
              refine hK.out _ _ ?_ (fun hHeld => ?_)
              · assumption
              clear hK K
              try simp only [List.getElem_toArray, List.getElem_cons_succ, List.getElem_cons_zero, Act.put, List.setIfInBounds_toArray, List.set_cons_zero, List.set_cons_succ]
              refine wpAnyH_take (i := 25) (oi := _) (v := ?_) rfl (by kernel_rfl) (by kernel_rfl) (by kernel_rfl) (fun _ _ _ h => h) (Or.inl ⟨by rfl, ?_⟩) (by assumption) ?_
              rotate_left
              · intro w hSw
                (try dsimp only at hSw)
                go_simp
                with_reducible rfl
              try simp only [List.getElem_toArray, List.getElem_cons_succ, List.getElem_cons_zero, Act.put, List.setIfInBounds_toArray, List.set_cons_zero, List.set_cons_succ]
              refine wpAnyH_ready (rs := [26]) (by kernel_rfl) (by simp) ?_
              refine AllReadyH.cons rfl (fun K hK => ?_) (AllReadyH.nil)
              go_simp
              refine hK.out _ _ ?_ (fun hHeld => ?_)
              · first | (with_reducible refine CrS.res ?_ _ _; with_reducible assumption) | assumption
              clear hK K
              try simp only [List.getElem_toArray, List.getElem_cons_succ, List.getElem_cons_zero, Act.put, List.setIfInBounds_toArray, List.set_cons_zero, List.set_cons_succ]
              refine wpAnyH_done (by kernel_rfl) ?_ _
              refine NoPanic.normal ?_
              clear hC0 hC1 hC2 hD0 hD1 hF1 hR1
              go_wp2_with fail
              go_roundw
              case rel => exact ⟨k + 1, by omega, by go_num, CrRel.step0 hkn HY.out HS4.out z0 ⟨_, z1⟩ z2 HO4.out⟩
              case measure => simp [intOf]; omega
      · obtain ⟨i, hki⟩ : ∃ i, k = n + i := ⟨k - n, by omega⟩
        have hin : i < n := by omega
        clear hu
        have kq : (k : Int) / (n : Int) = 1 := by
          rw [hki]
          rw [show ((n + i : Nat) : Int) = (i : Int) + (n : Int) * 1 by omega, Int.add_mul_ediv_left _ _ (by omega), Int.ediv_eq_zero_of_lt (by omega) (by omega)]
          rfl
        have kqw : IntKind.i64.wrap 1 = 1 := rfl
        have kr : ((k : Int).tmod (n : Int)) = (i : Int) := by
          rw [Int.tmod_eq_emod_of_nonneg (by omega), hki, show ((n + i : Nat) : Int) = (i : Int) + (n : Int) * 1 by omega, Int.add_mul_emod_self_left]
          exact Int.emod_eq_of_lt (by omega) (by omega)
        have HNE : ∀ {wx : World}, OwnStms wx (w.heap.size + 3) s u1 (k - n) ((cutL l1 fun j => moreAt cn f (n + j)).take (k - n)) → (u0.ownBlock = none ∨ ¬ u0.ownBlock = u1.ownBlock) := fun h => by
          rcases e : u0.ownBlock with _ | g
          · exact .inl rfl
          · refine .inr (fun e2 => ?_)
            have h1 := HSS.out.2.2 g e
            obtain ⟨vs, h2, _⟩ := h
            have h3 := (h2.lt g e2.symm).1
            omega
        have HNE := @HNE
        have HKI := Lib.hid hki
        clear hki
        by_cases hcn : k < cn
        · obtain ⟨b2, o2, rfl, hb2, hc2⟩ := hC.out.2.2 (by omega)
          have hq : wr.cell? ⟨b2, o2 + k, none⟩ = some (.int .i64 (f k)) := (HS.out.1.cell (p := ⟨b2, o2 + k, none⟩) hb2).trans (hc2 k hcn)
          have HFK := Lib.hid (hC.out.2.1 k hcn)
          clear hc2
          obtain ⟨x, g, off, A0, cap, hx, rfl, hg, hg0, hg1, hlc, hlm, hat, hsy⟩ := h1.out.at_ i (by omega)
          have HX := Lib.hid hx
          have HXR := Lib.hid (allB_get HR1.out hx)
          have HXM := Lib.hid (hm1 x (List.mem_of_getElem? hx))
          have HAT := Lib.hid hat
          have hD0 : ∀ w', CrS w (.int .u64 r) (.slice A n a) (.slice (some ⟨g, off, none⟩) n b) w' → w'.cell? ⟨g, off + i * 2, none⟩ = some (.slice A0 x.bytes.length cap) := fun w' h => h.cell hg hg0
          have hD1 : ∀ w', CrS w (.int .u64 r) (.slice A n a) (.slice (some ⟨g, off, none⟩) n b) w' → w'.cell? ⟨g, off + i * 2 + 1, none⟩ = some (.int .i64 x.synced) := fun w' h => h.cell hg hg1
          have hC0 : ∀ w', CrS w (.int .u64 r) (.slice A n a) (.slice (some ⟨g, off, none⟩) n b) w' → w'.cell? ⟨w.heap.size, 0, none⟩ = some (.int .u64 r) := fun w' h => h.c0
          have hC1 : ∀ w', CrS w (.int .u64 r) (.slice A n a) (.slice (some ⟨g, off, none⟩) n b) w' → w'.cell? ⟨w.heap.size, 1, none⟩ = some (.slice A n a) := fun w' h => h.c1
          have hC2 : ∀ w', CrS w (.int .u64 r) (.slice A n a) (.slice (some ⟨g, off, none⟩) n b) w' → w'.cell? ⟨w.heap.size, 2, none⟩ = some (.slice (some ⟨g, off, none⟩) n b) := fun w' h => h.c2
          have hF2 : ∀ w', CrS w (.int .u64 r) (.slice A n a) (.slice (some ⟨g, off, none⟩) n b) w' → w'.frozen? ⟨w.heap.size + 2, 2, none⟩ = false := fun w' h => h.f 2 (by omega)
          have hR2 : ∀ w', CrS w (.int .u64 r) (.slice A n a) (.slice (some ⟨g, off, none⟩) n b) w' → ∃ v, w'.cell? ⟨w.heap.size + 2, 2, none⟩ = some v := fun w' h => ⟨_, h.r 2 (by omega)⟩
          have HY := Lib.hid (cutL_get l1 (fun j => moreAt cn f (n + j)) i x hx)
          have HYL := Lib.hid (Stm.cut_length (allB_get HR1.out hx) (moreAt cn f k))
          have HYC := Lib.hid (Stm.cutN_le (allB_get HR1.out hx) (moreAt cn f k))
          have hYM2 : moreAt cn f k = (f k) := if_pos hcn
          have hYM : moreAt cn f (n + i) = (f k) := by rw [← HKI.out]; exact hYM2
          rw [hYM2] at HYL HYC
          simp only [hYM] at HY
          clear hx hg0 hg1 hat hlm hsy hlc hYM hYM2 hg hb2
          go_wp2_with fail
          have hS0 : CrS w (.int .u64 r) (.slice A n a) (.slice (some ⟨g, off, none⟩) n b) wr := HS.out
          refine wp_region_noPanic ?_
          refine wp_region_held_drew (S := fun w' => CrS w (.int .u64 r) (.slice A n a) (.slice (some ⟨g, off, none⟩) n b) w') (by kernel_rfl) (CrS.drew (by assumption)) (fun hHeld => ?_)
          refine wpAnyH_take (i := 0) (oi := _) (v := ?_) rfl (by kernel_rfl) (by kernel_rfl) (by kernel_rfl) (fun _ _ _ h => h) (Or.inl ⟨by rfl, ?_⟩) (by assumption) ?_
          rotate_left
          · intro w hSw
            (try dsimp only at hSw)
            go_simp
            with_reducible rfl
          try simp only [List.getElem_toArray, List.getElem_cons_zero, Act.put, List.setIfInBounds_toArray, List.set_cons_zero, List.set_cons_succ]
          refine wpAnyH_take (i := 1) (oi := _) (v := ?_) rfl (by kernel_rfl) (by kernel_rfl) (by kernel_rfl) (fun _ _ _ h => h) (Or.inl ⟨by rfl, ?_⟩) (by assumption) ?_
          rotate_left
          · intro w hSw
            (try dsimp only at hSw)
            go_simp
            with_reducible rfl
          try simp only [List.getElem_toArray, List.getElem_cons_succ, List.getElem_cons_zero, Act.put, List.setIfInBounds_toArray, List.set_cons_zero, List.set_cons_succ]
          refine wpAnyH_take (i := 3) (oi := _) (v := ?_) rfl (by kernel_rfl) (by kernel_rfl) (by kernel_rfl) (fun _ _ _ h => h) (Or.inl ⟨by rfl, ?_⟩) (by assumption) ?_
          rotate_left
          · intro w hSw
            (try dsimp only at hSw)
            go_simp
            with_reducible rfl
          try simp only [List.getElem_toArray, List.getElem_cons_succ, List.getElem_cons_zero, Act.put, List.setIfInBounds_toArray, List.set_cons_zero, List.set_cons_succ]
          refine wpAnyH_take (i := 4) (oi := _) (v := ?_) rfl (by kernel_rfl) (by kernel_rfl) (by kernel_rfl) (fun _ _ _ h => h) (Or.inl ⟨by rfl, ?_⟩) (by assumption) ?_
          rotate_left
          · intro w hSw
            (try dsimp only at hSw)
            go_simp
            with_reducible rfl
          try simp only [List.getElem_toArray, List.getElem_cons_succ, List.getElem_cons_zero, Act.put, List.setIfInBounds_toArray, List.set_cons_zero, List.set_cons_succ]
          refine wpAnyH_take (i := 6) (oi := _) (v := ?_) rfl (by kernel_rfl) (by kernel_rfl) (by kernel_rfl) (fun _ _ _ h => h) (Or.inl ⟨by rfl, ?_⟩) (by assumption) ?_
          rotate_left
          · intro w hSw
            (try dsimp only at hSw)
            go_simp
            with_reducible rfl
          try simp only [List.getElem_toArray, List.getElem_cons_succ, List.getElem_cons_zero, Act.put, List.setIfInBounds_toArray, List.set_cons_zero, List.set_cons_succ]
          refine wpAnyH_take (i := 9) (oi := _) (v := ?_) rfl (by kernel_rfl) (by kernel_rfl) (by kernel_rfl) (fun _ _ _ h => h) (Or.inl ⟨by rfl, ?_⟩) (by assumption) ?_
          rotate_left
          · intro w hSw
            (try dsimp only at hSw)
            go_simp
            with_reducible rfl
          try simp only [List.getElem_toArray, List.getElem_cons_succ, List.getElem_cons_zero, Act.put, List.setIfInBounds_toArray, List.set_cons_zero, List.set_cons_succ]
          refine wpAnyH_take (i := 10) (oi := _) (v := ?_) rfl (by kernel_rfl) (by kernel_rfl) (by kernel_rfl) (fun _ _ _ h => h) (Or.inl ⟨by rfl, ?_⟩) (by assumption) ?_
          rotate_left
          · intro w hSw
            (try dsimp only at hSw)
            go_simp
            with_reducible rfl
          try simp only [List.getElem_toArray, List.getElem_cons_succ, List.getElem_cons_zero, Act.put, List.setIfInBounds_toArray, List.set_cons_zero, List.set_cons_succ]
          refine wpAnyH_take (i := 12) (oi := _) (v := ?_) rfl (by kernel_rfl) (by kernel_rfl) (by kernel_rfl) (fun _ _ _ h => h) (Or.inl ⟨by rfl, ?_⟩) (by assumption) ?_
          rotate_left
          · intro w hSw
            (try dsimp only at hSw)
            go_simp
            with_reducible rfl
          try simp only [List.getElem_toArray, List.getElem_cons_succ, List.getElem_cons_zero, Act.put, List.setIfInBounds_toArray, List.set_cons_zero, List.set_cons_succ]
          refine wpAnyH_take (i := 15) (oi := _) (v := ?_) rfl (by kernel_rfl) (by kernel_rfl) (by kernel_rfl) (fun _ _ _ h => h) (Or.inl ⟨by rfl, ?_⟩) (by assumption) ?_
          rotate_left
          · intro w hSw
            (try dsimp only at hSw)
            go_simp
            with_reducible rfl
          try simp only [List.getElem_toArray, List.getElem_cons_succ, List.getElem_cons_zero, Act.put, List.setIfInBounds_toArray, List.set_cons_zero, List.set_cons_succ]
          refine wpAnyH_take (i := 16) (oi := _) (v := ?_) rfl (by kernel_rfl) (by kernel_rfl) (by kernel_rfl) (fun _ _ _ h => h) (Or.inl ⟨by rfl, ?_⟩) (by assumption) ?_
          rotate_left
          · intro w hSw
            (try dsimp only at hSw)
            go_simp
            with_reducible rfl
          try simp only [List.getElem_toArray, List.getElem_cons_succ, List.getElem_cons_zero, Act.put, List.setIfInBounds_toArray, List.set_cons_zero, List.set_cons_succ]
          refine wpAnyH_take (i := 20) (oi := _) (v := ?_) rfl (by kernel_rfl) (by kernel_rfl) (by kernel_rfl) (fun _ _ _ h => h) (Or.inl ⟨by rfl, ?_⟩) (by assumption) ?_
          rotate_left
          · intro w hSw
            (try dsimp only at hSw)
            go_simp
            with_reducible rfl
          try simp only [List.getElem_toArray, List.getElem_cons_succ, List.getElem_cons_zero, Act.put, List.setIfInBounds_toArray, List.set_cons_zero, List.set_cons_succ]
          refine wpAnyH_take (i := 24) (oi := _) (v := ?_) rfl (by kernel_rfl) (by kernel_rfl) (by kernel_rfl) (fun _ _ _ h => h) (Or.inl ⟨by rfl, ?_⟩) (by assumption) ?_
          rotate_left
          · intro w hSw
            (try dsimp only at hSw)
            go_simp
            with_reducible rfl
          try simp only [List.getElem_toArray, List.getElem_cons_succ, List.getElem_cons_zero, Act.put, List.setIfInBounds_toArray, List.set_cons_zero, List.set_cons_succ]
          refine wpAnyH_take (i := 2) (oi := _) (v := ?_) rfl (by kernel_rfl) (by kernel_rfl) (by kernel_rfl) (fun _ _ _ h => h) (Or.inl ⟨by rfl, ?_⟩) (by assumption) ?_
          rotate_left
          · intro w hSw
            (try dsimp only at hSw)
            go_simp
            with_reducible rfl
          try simp only [List.getElem_toArray, List.getElem_cons_succ, List.getElem_cons_zero, Act.put, List.setIfInBounds_toArray, List.set_cons_zero, List.set_cons_succ]
          refine wpAnyH_take (i := 5) (oi := _) (v := ?_) rfl (by kernel_rfl) (by kernel_rfl) (by kernel_rfl) (fun _ _ _ h => h) (Or.inl ⟨by rfl, ?_⟩) (by assumption) ?_
          rotate_left
          · intro w hSw
            (try dsimp only at hSw)
            go_simp
            with_reducible rfl
          try simp only [List.getElem_toArray, List.getElem_cons_succ, List.getElem_cons_zero, Act.put, List.setIfInBounds_toArray, List.set_cons_zero, List.set_cons_succ]
          refine wpAnyH_take (i := 11) (oi := _) (v := ?_) rfl (by kernel_rfl) (by kernel_rfl) (by kernel_rfl) (fun _ _ _ h => h) (Or.inl ⟨by rfl, ?_⟩) (by assumption) ?_
          rotate_left
          · intro w hSw
            (try dsimp only at hSw)
            go_simp
            with_reducible rfl
          try simp only [List.getElem_toArray, List.getElem_cons_succ, List.getElem_cons_zero, Act.put, List.setIfInBounds_toArray, List.set_cons_zero, List.set_cons_succ]
          refine wpAnyH_take (i := 17) (oi := _) (v := ?_) rfl (by kernel_rfl) (by kernel_rfl) (by kernel_rfl) (fun _ _ _ h => h) (Or.inl ⟨by rfl, ?_⟩) (by assumption) ?_
          rotate_left
          · intro w hSw
            (try dsimp only at hSw)
            go_simp
            with_reducible rfl
          try simp only [List.getElem_toArray, List.getElem_cons_succ, List.getElem_cons_zero, Act.put, List.setIfInBounds_toArray, List.set_cons_zero, List.set_cons_succ]
          refine wpAnyH_take (i := 7) (oi := _) (v := ?_) rfl (by kernel_rfl) (by kernel_rfl) (by kernel_rfl) (fun _ _ _ h => h) (Or.inl ⟨by rfl, ?_⟩) (by assumption) ?_
          rotate_left
          · intro w hSw
            (try dsimp only at hSw)
            go_simp
            with_reducible rfl
          try simp only [List.getElem_toArray, List.getElem_cons_succ, List.getElem_cons_zero, Act.put, List.setIfInBounds_toArray, List.set_cons_zero, List.set_cons_succ]
          refine wpAnyH_take (i := 13) (oi := _) (v := ?_) rfl (by kernel_rfl) (by kernel_rfl) (by kernel_rfl) (fun _ _ _ h => h) (Or.inl ⟨by rfl, ?_⟩) (by assumption) ?_
          rotate_left
          · intro w hSw
            (try dsimp only at hSw)
            go_simp
            with_reducible rfl
          try simp only [List.getElem_toArray, List.getElem_cons_succ, List.getElem_cons_zero, Act.put, List.setIfInBounds_toArray, List.set_cons_zero, List.set_cons_succ]
          refine wpAnyH_take (i := 14) (oi := _) (v := ?_) rfl (by kernel_rfl) (by kernel_rfl) (by kernel_rfl) (fun _ _ _ h => h) (Or.inl ⟨by rfl, ?_⟩) (by assumption) ?_
          rotate_left
          · intro w hSw
            (try dsimp only at hSw)
            go_simp
            with_reducible rfl
          try simp only [List.getElem_toArray, List.getElem_cons_succ, List.getElem_cons_zero, Act.put, List.setIfInBounds_toArray, List.set_cons_zero, List.set_cons_succ]
          refine wpAnyH_take (i := 18) (oi := _) (v := ?_) rfl (by kernel_rfl) (by kernel_rfl) (by kernel_rfl) (fun _ _ _ h => h) (Or.inl ⟨by rfl, ?_⟩) (by assumption) ?_
          rotate_left
          · intro w hSw
            (try dsimp only at hSw)
            go_simp
            with_reducible rfl
          try simp only [List.getElem_toArray, List.getElem_cons_succ, List.getElem_cons_zero, Act.put, List.setIfInBounds_toArray, List.set_cons_zero, List.set_cons_succ]
          refine wpAnyH_take (i := 19) (oi := _) (v := ?_) rfl (by kernel_rfl) (by kernel_rfl) (by kernel_rfl) (fun _ _ _ h => h) (Or.inl ⟨by rfl, ?_⟩) (by assumption) ?_
          rotate_left
          · intro w hSw
            (try dsimp only at hSw)
            go_simp
            with_reducible rfl
          try simp only [List.getElem_toArray, List.getElem_cons_succ, List.getElem_cons_zero, Act.put, List.setIfInBounds_toArray, List.set_cons_zero, List.set_cons_succ]
          refine wpAnyH_ready (rs := [8, 21]) (by kernel_rfl) (by simp) ?_
          refine AllReadyH.cons rfl (fun K hK => ?_) (AllReadyH.cons rfl (fun K hK => ?_) (AllReadyH.nil))
          · go_simp
            refine hK.out _ _ ?_ (fun hHeld => ?_)
            · assumption
            clear hK K
            try simp only [List.getElem_toArray, List.getElem_cons_succ, List.getElem_cons_zero, Act.put, List.setIfInBounds_toArray, List.set_cons_zero, List.set_cons_succ]
            refine wpAnyH_ready (rs := [21]) (by kernel_rfl) (by simp) ?_
            refine AllReadyH.cons rfl (fun K hK => ?_) (AllReadyH.nil)
            go_simp
            (go_at_call 36; (with_reducible refine (refCutS_own A0 x cap HXM.out HXR.out (f k) HFK.out.1 HFK.out.2 _ (Lib.hid (AtB.below HAT.out (CrS.bel (by assumption)) (Nat.le_refl _)))).mono ?_); rintro e w3 ⟨v3, rfl, hown3, hb3⟩; have hS3 := CrS.later (by assumption : CrS w (.int .u64 r) (.slice A n a) (.slice (some ⟨g, off, none⟩) n b) _) hb3; have hbr3 : Below wr.heap.size wr w3 := below_step hb3 (by first | assumption | (exact Below.drew (Below.refl _ _)) | (exact Below.drew (by assumption))); have q0 := (keptCells hbr3 _ 0 HS.out.2.2.2.1).trans ho0; have q1 := (keptCells hbr3 _ 1 HS.out.2.2.2.1).trans ho1; have q2 := (keptCells hbr3 _ 2 HS.out.2.2.2.1).trans ho2; have qa : ∀ o : Obj, (w3.alloc o).cell? ⟨w.heap.size + 2, 2, none⟩ = some u1 := (fun o => (World.cell?_alloc_lt _ _ _ (by have := hS3.2.2.2.1; exact this)).trans q2); have HV3 := Lib.hid (hown3.lower (b' := w.heap.size + 3) (by have := HS.out.2.2.2.1; have := hbr3.size; simp; omega)); have HA3 := Lib.hid (HQ0.out.later hbr3); have HB3 := Lib.hid (HQ1.out.later hbr3); have HBR3 := Lib.hid hbr3; have HS3 := Lib.hid hS3; clear hown3 hb3 hbr3)
            refine hK.out _ _ ?_ (fun hHeld => ?_)
            · assumption
            clear hK K
            try simp only [List.getElem_toArray, List.getElem_cons_succ, List.getElem_cons_zero, Act.put, List.setIfInBounds_toArray, List.set_cons_zero, List.set_cons_succ]
            refine wpAnyH_ready (rs := [22]) (by kernel_rfl) (by simp) ?_
            refine AllReadyH.cons rfl (fun K hK => ?_) (AllReadyH.nil)
            go_simp
            refine hK.out _ _ ?_ (fun hHeld => ?_)
            · first | assumption | (exact CrS.alloc (by assumption) _)
            clear hK K
            try simp only [List.getElem_toArray, List.getElem_cons_succ, List.getElem_cons_zero, Act.put, List.setIfInBounds_toArray, List.set_cons_zero, List.set_cons_succ]
            refine wpAnyH_ready (rs := [23]) (by kernel_rfl) (by simp) ?_
            refine AllReadyH.cons rfl (fun K hK => ?_) (AllReadyH.nil)
            (refine step_append_one (by assumption : CrS w (.int .u64 r) (.slice A n a) (.slice (some ⟨g, off, none⟩) n b) _) (by rfl) (.tmp 38) (.tmp 52) (by rfl) s u1 (k - n) ((cutL l1 fun j => moreAt cn f (n + j)).take (k - n)) (by rfl) (OwnStms.later HB3.out ((Below.refl _ _).alloc (Nat.le_refl _) _)) HSS.out.1 (by have := HBR3.out.size; have := HSS.out.2.1; simp; omega) w3.heap.size 1 (x.cut (f k)) v3 (by rfl) (by rw [World.cell?_alloc_mark]; rfl) (by rw [World.cell?_alloc_mark]; rfl) (HV3.out.later ((Below.refl _ _).alloc (Nat.le_refl _) _)) (by simp only [Stm.cut]; have := HYC.out; have := HXM.out; omega) (by have := HYL.out; have := HYC.out; have := HXM.out; omega) (by have := HN.out; omega) ?_; intro v4 w4 hown4 hS4 hcell4 hkeep4 hsz4; obtain ⟨A4, c4, rfl, _, _, _⟩ := hown4.at_ (by have := HN.out; omega); have HO4 := Lib.hid hown4; have HS4 := Lib.hid hS4; have z0 := (hcell4 0).trans ((World.cell?_alloc_lt _ _ _ (by have := HS3.out.2.2.2.1; exact this)).trans q0); have z1 := (hcell4 1).trans ((World.cell?_alloc_lt _ _ _ (by have := HS3.out.2.2.2.1; exact this)).trans q1); have z2 := (hcell4 2).trans ((World.cell?_alloc_lt _ _ _ (by have := HS3.out.2.2.2.1; exact this)).trans q2); have HU4 := Lib.hid (hkeep4 _ _ _ _ (OwnStms.later HA3.out ((Below.refl _ _).alloc (Nat.le_refl _) _)) (HNE HB3.out)); have HSZ4 := Lib.hid hsz4; clear hown4 hcell4 hkeep4 hsz4)
            refine hK.out _ _ ?_ (fun hHeld => ?_)
            · assumption
            clear hK K
            try simp only [List.getElem_toArray, List.getElem_cons_succ, List.getElem_cons_zero, Act.put, List.setIfInBounds_toArray, List.set_cons_zero, List.set_cons_succ]
            refine wpAnyH_take (i := 25) (oi := _) (v := ?_) rfl (by kernel_rfl) (by kernel_rfl) (by kernel_rfl) (fun _ _ _ h => h) (Or.inl ⟨by rfl, ?_⟩) (by assumption) ?_
            rotate_left
            · intro w hSw
              (try dsimp only at hSw)
              go_simp
              with_reducible rfl
            try simp only [List.getElem_toArray, List.getElem_cons_succ, List.getElem_cons_zero, Act.put, List.setIfInBounds_toArray, List.set_cons_zero, List.set_cons_succ]
            refine wpAnyH_ready (rs := [26]) (by kernel_rfl) (by simp) ?_
            refine AllReadyH.cons rfl (fun K hK => ?_) (AllReadyH.nil)
            go_simp
            refine hK.out _ _ ?_ (fun hHeld => ?_)
            · first | (with_reducible refine CrS.res ?_ _ _; with_reducible assumption) | assumption
            clear hK K
            try simp only [List.getElem_toArray, List.getElem_cons_succ, List.getElem_cons_zero, Act.put, List.setIfInBounds_toArray, List.set_cons_zero, List.set_cons_succ]
            refine wpAnyH_done (by kernel_rfl) ?_ _
            refine NoPanic.normal ?_
            clear hC0 hC1 hC2 hD0 hD1 hF2 hR2
            go_wp2_with fail
            go_roundw
            case rel => exact ⟨k + 1, by omega, by go_num, CrRel.step1 HKI.out HL0.out HY.out HS4.out z0 z1 ⟨_, z2⟩ HSS.out.1 (by have := HSS.out.2.1; have := HBR3.out.size; have := HSZ4.out; simp at this; omega) HSS.out.2.2 HU4.out HO4.out⟩
            case measure => simp [intOf]; omega
          · go_simp
            (go_at_call 36; (with_reducible refine (refCutS_own A0 x cap HXM.out HXR.out (f k) HFK.out.1 HFK.out.2 _ (Lib.hid (AtB.below HAT.out (CrS.bel (by assumption)) (Nat.le_refl _)))).mono ?_); rintro e w3 ⟨v3, rfl, hown3, hb3⟩; have hS3 := CrS.later (by assumption : CrS w (.int .u64 r) (.slice A n a) (.slice (some ⟨g, off, none⟩) n b) _) hb3; have hbr3 : Below wr.heap.size wr w3 := below_step hb3 (by first | assumption | (exact Below.drew (Below.refl _ _)) | (exact Below.drew (by assumption))); have q0 := (keptCells hbr3 _ 0 HS.out.2.2.2.1).trans ho0; have q1 := (keptCells hbr3 _ 1 HS.out.2.2.2.1).trans ho1; have q2 := (keptCells hbr3 _ 2 HS.out.2.2.2.1).trans ho2; have qa : ∀ o : Obj, (w3.alloc o).cell? ⟨w.heap.size + 2, 2, none⟩ = some u1 := (fun o => (World.cell?_alloc_lt _ _ _ (by have := hS3.2.2.2.1; exact this)).trans q2); have HV3 := Lib.hid (hown3.lower (b' := w.heap.size + 3) (by have := HS.out.2.2.2.1; have := hbr3.size; simp; omega)); have HA3 := Lib.hid (HQ0.out.later hbr3); have HB3 := Lib.hid (HQ1.out.later hbr3); have HBR3 := Lib.hid hbr3; have HS3 := Lib.hid hS3; clear hown3 hb3 hbr3)
            refine hK.out _ _ ?_ (fun hHeld => ?_)
            · assumption
            clear hK K
            try simp only [List.getElem_toArray, List.getElem_cons_succ, List.getElem_cons_zero, Act.put, List.setIfInBounds_toArray, List.set_cons_zero, List.set_cons_succ]
            refine wpAnyH_ready (rs := [8, 22]) (by kernel_rfl) (by simp) ?_
            refine AllReadyH.cons rfl (fun K hK => ?_) (AllReadyH.cons rfl (fun K hK => ?_) (AllReadyH.nil))
            · go_simp
              refine hK.out _ _ ?_ (fun hHeld => ?_)
              · assumption
              clear hK K
              try simp only [List.getElem_toArray, List.getElem_cons_succ, List.getElem_cons_zero, Act.put, List.setIfInBounds_toArray, List.set_cons_zero, List.set_cons_succ]
              refine wpAnyH_ready (rs := [22]) (by kernel_rfl) (by simp) ?_
              refine AllReadyH.cons rfl (fun K hK => ?_) (AllReadyH.nil)
              go_simp
              refine hK.out _ _ ?_ (fun hHeld => ?_)
              · first | assumption | (exact CrS.alloc (by assumption) _)
              clear hK K
              try simp only [List.getElem_toArray, List.getElem_cons_succ, List.getElem_cons_zero, Act.put, List.setIfInBounds_toArray, List.set_cons_zero, List.set_cons_succ]
              refine wpAnyH_ready (rs := [23]) (by kernel_rfl) (by simp) ?_
              refine AllReadyH.cons rfl (fun K hK => ?_) (AllReadyH.nil)
              (refine step_append_one (by assumption : CrS w (.int .u64 r) (.slice A n a) (.slice (some ⟨g, off, none⟩) n b) _) (by rfl) (.tmp 38) (.tmp 52) (by rfl) s u1 (k - n) ((cutL l1 fun j => moreAt cn f (n + j)).take (k - n)) (by rfl) (OwnStms.later HB3.out ((Below.refl _ _).alloc (Nat.le_refl _) _)) HSS.out.1 (by have := HBR3.out.size; have := HSS.out.2.1; simp; omega) w3.heap.size 1 (x.cut (f k)) v3 (by rfl) (by rw [World.cell?_alloc_mark]; rfl) (by rw [World.cell?_alloc_mark]; rfl) (HV3.out.later ((Below.refl _ _).alloc (Nat.le_refl _) _)) (by simp only [Stm.cut]; have := HYC.out; have := HXM.out; omega) (by have := HYL.out; have := HYC.out; have := HXM.out; omega) (by have := HN.out; omega) ?_; intro v4 w4 hown4 hS4 hcell4 hkeep4 hsz4; obtain ⟨A4, c4, rfl, _, _, _⟩ := hown4.at_ (by have := HN.out; omega); have HO4 := Lib.hid hown4; have HS4 := Lib.hid hS4; have z0 := (hcell4 0).trans ((World.cell?_alloc_lt _ _ _ (by have := HS3.out.2.2.2.1; exact this)).trans q0); have z1 := (hcell4 1).trans ((World.cell?_alloc_lt _ _ _ (by have := HS3.out.2.2.2.1; exact this)).trans q1); have z2 := (hcell4 2).trans ((World.cell?_alloc_lt _ _ _ (by have := HS3.out.2.2.2.1; exact this)).trans q2); have HU4 := Lib.hid (hkeep4 _ _ _ _ (OwnStms.later HA3.out ((Below.refl _ _).alloc (Nat.le_refl _) _)) (HNE HB3.out)); have HSZ4 := Lib.hid hsz4; clear hown4 hcell4 hkeep4 hsz4)
              refine hK.out _ _ ?_ (fun hHeld => ?_)
              · assumption
              clear hK K
              try simp only [List.getElem_toArray, List.getElem_cons_succ, List.getElem_cons_zero, Act.put, List.setIfInBounds_toArray, List.set_cons_zero, List.set_cons_succ]
              refine wpAnyH_take (i := 25) (oi := _) (v := ?_) rfl (by kernel_rfl) (by kernel_rfl) (by kernel_rfl) (fun _ _ _ h => h) (Or.inl ⟨by rfl, ?_⟩) (by assumption) ?_
              rotate_left
              · intro w hSw
                (try dsimp only at hSw)
                go_simp
                with_reducible rfl
              try simp only [List.getElem_toArray, List.getElem_cons_succ, List.getElem_cons_zero, Act.put, List.setIfInBounds_toArray, List.set_cons_zero, List.set_cons_succ]
              refine wpAnyH_ready (rs := [26]) (by kernel_rfl) (by simp) ?_
              refine AllReadyH.cons rfl (fun K hK => ?_) (AllReadyH.nil)
              go_simp
              refine hK.out _ _ ?_ (fun hHeld => ?_)
              · first | (with_reducible refine CrS.res ?_ _ _; with_reducible assumption) | assumption
              clear hK K
              try simp only [List.getElem_toArray, List.getElem_cons_succ, List.getElem_cons_zero, Act.put, List.setIfInBounds_toArray, List.set_cons_zero, List.set_cons_succ]
              refine wpAnyH_done (by kernel_rfl) ?_ _
              refine NoPanic.normal ?_
              clear hC0 hC1 hC2 hD0 hD1 hF2 hR2
              go_wp2_with fail
              go_roundw
              case rel => exact ⟨k + 1, by omega, by go_num, CrRel.step1 HKI.out HL0.out HY.out HS4.out z0 z1 ⟨_, z2⟩ HSS.out.1 (by have := HSS.out.2.1; have := HBR3.out.size; have := HSZ4.out; simp at this; omega) HSS.out.2.2 HU4.out HO4.out⟩
              case measure => simp [intOf]; omega
            · go_simp
              refine hK.out _ _ ?_ (fun hHeld => ?_)
              · first | assumption | (exact CrS.alloc (by assumption) _)
              clear hK K
              try simp only [List.getElem_toArray, List.getElem_cons_succ, List.getElem_cons_zero, Act.put, List.setIfInBounds_toArray, List.set_cons_zero, List.set_cons_succ]
              refine wpAnyH_ready (rs := [8]) (by kernel_rfl) (by simp) ?_
              refine AllReadyH.cons rfl (fun K hK => ?_) (AllReadyH.nil)
              go_simp
              refine hK.out _ _ ?_ (fun hHeld => ?_)
              · first | assumption | (exact CrS.alloc (by assumption) _)
              clear hK K
              try simp only [List.getElem_toArray, List.getElem_cons_succ, List.getElem_cons_zero, Act.put, List.setIfInBounds_toArray, List.set_cons_zero, List.set_cons_succ]
              refine wpAnyH_ready (rs := [23]) (by kernel_rfl) (by simp) ?_
              refine AllReadyH.cons rfl (fun K hK => ?_) (AllReadyH.nil)
              (refine step_append_one (by assumption : CrS w (.int .u64 r) (.slice A n a) (.slice (some ⟨g, off, none⟩) n b) _) (by rfl) (.tmp 38) (.tmp 52) (by rfl) s u1 (k - n) ((cutL l1 fun j => moreAt cn f (n + j)).take (k - n)) (by rfl) (OwnStms.later HB3.out ((Below.refl _ _).alloc (Nat.le_refl _) _)) HSS.out.1 (by have := HBR3.out.size; have := HSS.out.2.1; simp; omega) w3.heap.size 1 (x.cut (f k)) v3 (by rfl) (by rw [World.cell?_alloc_mark]; rfl) (by rw [World.cell?_alloc_mark]; rfl) (HV3.out.later ((Below.refl _ _).alloc (Nat.le_refl _) _)) (by simp only [Stm.cut]; have := HYC.out; have := HXM.out; omega) (by have := HYL.out; have := HYC.out; have := HXM.out; omega) (by have := HN.out; omega) ?_; intro v4 w4 hown4 hS4 hcell4 hkeep4 hsz4; obtain ⟨A4, c4, rfl, _, _, _⟩ := hown4.at_ (by have := HN.out; omega); have HO4 := Lib.hid hown4; have HS4 := Lib.hid hS4; have z0 := (hcell4 0).trans ((World.cell?_alloc_lt _ _ _ (by have := HS3.out.2.2.2.1; exact this)).trans q0); have z1 := (hcell4 1).trans ((World.cell?_alloc_lt _ _ _ (by have := HS3.out.2.2.2.1; exact this)).trans q1); have z2 := (hcell4 2).trans ((World.cell?_alloc_lt _ _ _ (by have := HS3.out.2.2.2.1; exact this)).trans q2); have HU4 := Lib.hid (hkeep4 _ _ _ _ (OwnStms.later HA3.out ((Below.refl _ _).alloc (Nat.le_refl _) _)) (HNE HB3.out)); have HSZ4 := Lib.hid hsz4; clear hown4 hcell4 hkeep4 hsz4)
              refine hK.out _ _ ?_ (fun hHeld => ?_)
              · assumption
              clear hK K
              try simp only [List.getElem_toArray, List.getElem_cons_succ, List.getElem_cons_zero, Act.put, List.setIfInBounds_toArray, List.set_cons_zero, List.set_cons_succ]
              refine wpAnyH_take (i := 25) (oi := _) (v := ?_) rfl (by kernel_rfl) (by kernel_rfl) (by kernel_rfl) (fun _ _ _ h => h) (Or.inl ⟨by rfl, ?_⟩) (by assumption) ?_
              rotate_left
              · intro w hSw
                (try dsimp only at hSw)
                go_simp
                with_reducible rfl
              try simp only [List.getElem_toArray, List.getElem_cons_succ, List.getElem_cons_zero, Act.put, List.setIfInBounds_toArray, List.set_cons_zero, List.set_cons_succ]
              refine wpAnyH_ready (rs := [26]) (by kernel_rfl) (by simp) ?_
              refine AllReadyH.cons rfl (fun K hK => ?_) (AllReadyH.nil)
              go_simp
              refine hK.out _ _ ?_ (fun hHeld => ?_)
              · first | (with_reducible refine CrS.res ?_ _ _; with_reducible assumption) | assumption
              clear hK K
              try simp only [List.getElem_toArray, List.getElem_cons_succ, List.getElem_cons_zero, Act.put, List.setIfInBounds_toArray, List.set_cons_zero, List.set_cons_succ]
              refine wpAnyH_done (by kernel_rfl) ?_ _
              refine NoPanic.normal ?_
              clear hC0 hC1 hC2 hD0 hD1 hF2 hR2
              go_wp2_with fail
              go_roundw
              case rel => exact ⟨k + 1, by omega, by go_num, CrRel.step1 HKI.out HL0.out HY.out HS4.out z0 z1 ⟨_, z2⟩ HSS.out.1 (by have := HSS.out.2.1; have := HBR3.out.size; have := HSZ4.out; simp at this; omega) HSS.out.2.2 HU4.out HO4.out⟩
              case measure => simp [intOf]; omega
        · obtain ⟨x, g, off, A0, cap, hx, rfl, hg, hg0, hg1, hlc, hlm, hat, hsy⟩ := h1.out.at_ i (by omega)
          have HX := Lib.hid hx
          have HXR := Lib.hid (allB_get HR1.out hx)
          have HXM := Lib.hid (hm1 x (List.mem_of_getElem? hx))
          have HAT := Lib.hid hat
          have hD0 : ∀ w', CrS w (.int .u64 r) (.slice A n a) (.slice (some ⟨g, off, none⟩) n b) w' → w'.cell? ⟨g, off + i * 2, none⟩ = some (.slice A0 x.bytes.length cap) := fun w' h => h.cell hg hg0
          have hD1 : ∀ w', CrS w (.int .u64 r) (.slice A n a) (.slice (some ⟨g, off, none⟩) n b) w' → w'.cell? ⟨g, off + i * 2 + 1, none⟩ = some (.int .i64 x.synced) := fun w' h => h.cell hg hg1
          have hC0 : ∀ w', CrS w (.int .u64 r) (.slice A n a) (.slice (some ⟨g, off, none⟩) n b) w' → w'.cell? ⟨w.heap.size, 0, none⟩ = some (.int .u64 r) := fun w' h => h.c0
          have hC1 : ∀ w', CrS w (.int .u64 r) (.slice A n a) (.slice (some ⟨g, off, none⟩) n b) w' → w'.cell? ⟨w.heap.size, 1, none⟩ = some (.slice A n a) := fun w' h => h.c1
          have hC2 : ∀ w', CrS w (.int .u64 r) (.slice A n a) (.slice (some ⟨g, off, none⟩) n b) w' → w'.cell? ⟨w.heap.size, 2, none⟩ = some (.slice (some ⟨g, off, none⟩) n b) := fun w' h => h.c2
          have hF2 : ∀ w', CrS w (.int .u64 r) (.slice A n a) (.slice (some ⟨g, off, none⟩) n b) w' → w'.frozen? ⟨w.heap.size + 2, 2, none⟩ = false := fun w' h => h.f 2 (by omega)
          have hR2 : ∀ w', CrS w (.int .u64 r) (.slice A n a) (.slice (some ⟨g, off, none⟩) n b) w' → ∃ v, w'.cell? ⟨w.heap.size + 2, 2, none⟩ = some v := fun w' h => ⟨_, h.r 2 (by omega)⟩
          have HY := Lib.hid (cutL_get l1 (fun j => moreAt cn f (n + j)) i x hx)
          have HYL := Lib.hid (Stm.cut_length (allB_get HR1.out hx) (moreAt cn f k))
          have HYC := Lib.hid (Stm.cutN_le (allB_get HR1.out hx) (moreAt cn f k))
          have hYM2 : moreAt cn f k = 0 := if_neg hcn
          have hYM : moreAt cn f (n + i) = 0 := by rw [← HKI.out]; exact hYM2
          rw [hYM2] at HYL HYC
          simp only [hYM] at HY
          clear hx hg0 hg1 hat hlm hsy hlc hYM hYM2 hg 
          go_wp2_with fail
          have hS0 : CrS w (.int .u64 r) (.slice A n a) (.slice (some ⟨g, off, none⟩) n b) wr := HS.out
          refine wp_region_noPanic ?_
          refine wp_region_held_drew (S := fun w' => CrS w (.int .u64 r) (.slice A n a) (.slice (some ⟨g, off, none⟩) n b) w') (by kernel_rfl) (CrS.drew (by assumption)) (fun hHeld => ?_)
          refine wpAnyH_take (i := 0) (oi := _) (v := ?_) rfl (by kernel_rfl) (by kernel_rfl) (by kernel_rfl) (fun _ _ _ h => h) (Or.inl ⟨by rfl, ?_⟩) (by assumption) ?_
          rotate_left
          · intro w hSw
            (try dsimp only at hSw)
            go_simp
            with_reducible rfl
          try simp only [List.getElem_toArray, List.getElem_cons_zero, Act.put, List.setIfInBounds_toArray, List.set_cons_zero, List.set_cons_succ]
          refine wpAnyH_take (i := 1) (oi := _) (v := ?_) rfl (by kernel_rfl) (by kernel_rfl) (by kernel_rfl) (fun _ _ _ h => h) (Or.inl ⟨by rfl, ?_⟩) (by assumption) ?_
          rotate_left
          · intro w hSw
            (try dsimp only at hSw)
            go_simp
            with_reducible rfl
          try simp only [List.getElem_toArray, List.getElem_cons_succ, List.getElem_cons_zero, Act.put, List.setIfInBounds_toArray, List.set_cons_zero, List.set_cons_succ]
          refine wpAnyH_take (i := 3) (oi := _) (v := ?_) rfl (by kernel_rfl) (by kernel_rfl) (by kernel_rfl) (fun _ _ _ h => h) (Or.inl ⟨by rfl, ?_⟩) (by assumption) ?_
          rotate_left
          · intro w hSw
            (try dsimp only at hSw)
            go_simp
            with_reducible rfl
          try simp only [List.getElem_toArray, List.getElem_cons_succ, List.getElem_cons_zero, Act.put, List.setIfInBounds_toArray, List.set_cons_zero, List.set_cons_succ]
          refine wpAnyH_take (i := 4) (oi := _) (v := ?_) rfl (by kernel_rfl) (by kernel_rfl) (by kernel_rfl) (fun _ _ _ h => h) (Or.inl ⟨by rfl, ?_⟩) (by assumption) ?_
          rotate_left
          · intro w hSw
            (try dsimp only at hSw)
            go_simp
            with_reducible rfl
          try simp only [List.getElem_toArray, List.getElem_cons_succ, List.getElem_cons_zero, Act.put, List.setIfInBounds_toArray, List.set_cons_zero, List.set_cons_succ]
          refine wpAnyH_take (i := 6) (oi := _) (v := ?_) rfl (by kernel_rfl) (by kernel_rfl) (by kernel_rfl) (fun _ _ _ h => h) (Or.inl ⟨by rfl, ?_⟩) (by assumption) ?_
          rotate_left
          · intro w hSw
            (try dsimp only at hSw)
            go_simp
            with_reducible rfl
          try simp only [List.getElem_toArray, List.getElem_cons_succ, List.getElem_cons_zero, Act.put, List.setIfInBounds_toArray, List.set_cons_zero, List.set_cons_succ]
          refine wpAnyH_take (i := 9) (oi := _) (v := ?_) rfl (by kernel_rfl) (by kernel_rfl) (by kernel_rfl) (fun _ _ _ h => h) (Or.inl ⟨by rfl, ?_⟩) (by assumption) ?_
          rotate_left
          · intro w hSw
            (try dsimp only at hSw)
            go_simp
            with_reducible rfl
          try simp only [List.getElem_toArray, List.getElem_cons_succ, List.getElem_cons_zero, Act.put, List.setIfInBounds_toArray, List.set_cons_zero, List.set_cons_succ]
          refine wpAnyH_take (i := 10) (oi := _) (v := ?_) rfl (by kernel_rfl) (by kernel_rfl) (by kernel_rfl) (fun _ _ _ h => h) (Or.inl ⟨by rfl, ?_⟩) (by assumption) ?_
          rotate_left
          · intro w hSw
            (try dsimp only at hSw)
            go_simp
            with_reducible rfl
          try simp only [List.getElem_toArray, List.getElem_cons_succ, List.getElem_cons_zero, Act.put, List.setIfInBounds_toArray, List.set_cons_zero, List.set_cons_succ]
          refine wpAnyH_take (i := 12) (oi := _) (v := ?_) rfl (by kernel_rfl) (by kernel_rfl) (by kernel_rfl) (fun _ _ _ h => h) (Or.inl ⟨by rfl, ?_⟩) (by assumption) ?_
          rotate_left
          · intro w hSw
            (try dsimp only at hSw)
            go_simp
            with_reducible rfl
          try simp only [List.getElem_toArray, List.getElem_cons_succ, List.getElem_cons_zero, Act.put, List.setIfInBounds_toArray, List.set_cons_zero, List.set_cons_succ]
          refine wpAnyH_take (i := 15) (oi := _) (v := ?_) rfl (by kernel_rfl) (by kernel_rfl) (by kernel_rfl) (fun _ _ _ h => h) (Or.inl ⟨by rfl, ?_⟩) (by assumption) ?_
          rotate_left
          · intro w hSw
            (try dsimp only at hSw)
            go_simp
            with_reducible rfl
          try simp only [List.getElem_toArray, List.getElem_cons_succ, List.getElem_cons_zero, Act.put, List.setIfInBounds_toArray, List.set_cons_zero, List.set_cons_succ]
          refine wpAnyH_take (i := 16) (oi := _) (v := ?_) rfl (by kernel_rfl) (by kernel_rfl) (by kernel_rfl) (fun _ _ _ h => h) (Or.inl ⟨by rfl, ?_⟩) (by assumption) ?_
          rotate_left
          · intro w hSw
            (try dsimp only at hSw)
            go_simp
            with_reducible rfl
          try simp only [List.getElem_toArray, List.getElem_cons_succ, List.getElem_cons_zero, Act.put, List.setIfInBounds_toArray, List.set_cons_zero, List.set_cons_succ]
          refine wpAnyH_take (i := 20) (oi := _) (v := ?_) rfl (by kernel_rfl) (by kernel_rfl) (by kernel_rfl) (fun _ _ _ h => h) (Or.inl ⟨by rfl, ?_⟩) (by assumption) ?_
          rotate_left
          · intro w hSw
            (try dsimp only at hSw)
            go_simp
            with_reducible rfl
          try simp only [List.getElem_toArray, List.getElem_cons_succ, List.getElem_cons_zero, Act.put, List.setIfInBounds_toArray, List.set_cons_zero, List.set_cons_succ]
          refine wpAnyH_take (i := 24) (oi := _) (v := ?_) rfl (by kernel_rfl) (by kernel_rfl) (by kernel_rfl) (fun _ _ _ h => h) (Or.inl ⟨by rfl, ?_⟩) (by assumption) ?_
          rotate_left
          · intro w hSw
            (try dsimp only at hSw)
            go_simp
            with_reducible rfl
          try simp only [List.getElem_toArray, List.getElem_cons_succ, List.getElem_cons_zero, Act.put, List.setIfInBounds_toArray, List.set_cons_zero, List.set_cons_succ]
          refine wpAnyH_take (i := 2) (oi := _) (v := ?_) rfl (by kernel_rfl) (by kernel_rfl) (by kernel_rfl) (fun _ _ _ h => h) (Or.inl ⟨by rfl, ?_⟩) (by assumption) ?_
          rotate_left
          · intro w hSw
            (try dsimp only at hSw)
            go_simp
            with_reducible rfl
          try simp only [List.getElem_toArray, List.getElem_cons_succ, List.getElem_cons_zero, Act.put, List.setIfInBounds_toArray, List.set_cons_zero, List.set_cons_succ]
          refine wpAnyH_take (i := 5) (oi := _) (v := ?_) rfl (by kernel_rfl) (by kernel_rfl) (by kernel_rfl) (fun _ _ _ h => h) (Or.inl ⟨by rfl, ?_⟩) (by assumption) ?_
          rotate_left
          · intro w hSw
            (try dsimp only at hSw)
            go_simp
            with_reducible rfl
          try simp only [List.getElem_toArray, List.getElem_cons_succ, List.getElem_cons_zero, Act.put, List.setIfInBounds_toArray, List.set_cons_zero, List.set_cons_succ]
          refine wpAnyH_take (i := 11) (oi := _) (v := ?_) rfl (by kernel_rfl) (by kernel_rfl) (by kernel_rfl) (fun _ _ _ h => h) (Or.inl ⟨by rfl, ?_⟩) (by assumption) ?_
          rotate_left
          · intro w hSw
            (try dsimp only at hSw)
            go_simp
            with_reducible rfl
          try simp only [List.getElem_toArray, List.getElem_cons_succ, List.getElem_cons_zero, Act.put, List.setIfInBounds_toArray, List.set_cons_zero, List.set_cons_succ]
          refine wpAnyH_take (i := 17) (oi := _) (v := ?_) rfl (by kernel_rfl) (by kernel_rfl) (by kernel_rfl) (fun _ _ _ h => h) (Or.inl ⟨by rfl, ?_⟩) (by assumption) ?_
          rotate_left
          · intro w hSw
            (try dsimp only at hSw)
            go_simp
            with_reducible rfl
          try simp only [List.getElem_toArray, List.getElem_cons_succ, List.getElem_cons_zero, Act.put, List.setIfInBounds_toArray, List.set_cons_zero, List.set_cons_succ]
          refine wpAnyH_take (i := 7) (oi := _) (v := ?_) rfl (by kernel_rfl) (by kernel_rfl) (by kernel_rfl) (fun _ _ _ h => h) (Or.inl ⟨by rfl, ?_⟩) (by assumption) ?_
          rotate_left
          · intro w hSw
            (try dsimp only at hSw)
            go_simp
            with_reducible rfl
          try simp only [List.getElem_toArray, List.getElem_cons_succ, List.getElem_cons_zero, Act.put, List.setIfInBounds_toArray, List.set_cons_zero, List.set_cons_succ]
          refine wpAnyH_take (i := 13) (oi := _) (v := ?_) rfl (by kernel_rfl) (by kernel_rfl) (by kernel_rfl) (fun _ _ _ h => h) (Or.inl ⟨by rfl, ?_⟩) (by assumption) ?_
          rotate_left
          · intro w hSw
            (try dsimp only at hSw)
            go_simp
            with_reducible rfl
          try simp only [List.getElem_toArray, List.getElem_cons_succ, List.getElem_cons_zero, Act.put, List.setIfInBounds_toArray, List.set_cons_zero, List.set_cons_succ]
          refine wpAnyH_take (i := 14) (oi := _) (v := ?_) rfl (by kernel_rfl) (by kernel_rfl) (by kernel_rfl) (fun _ _ _ h => h) (Or.inl ⟨by rfl, ?_⟩) (by assumption) ?_
          rotate_left
          · intro w hSw
            (try dsimp only at hSw)
            go_simp
            with_reducible rfl
          try simp only [List.getElem_toArray, List.getElem_cons_succ, List.getElem_cons_zero, Act.put, List.setIfInBounds_toArray, List.set_cons_zero, List.set_cons_succ]
          refine wpAnyH_take (i := 18) (oi := _) (v := ?_) rfl (by kernel_rfl) (by kernel_rfl) (by kernel_rfl) (fun _ _ _ h => h) (Or.inl ⟨by rfl, ?_⟩) (by assumption) ?_
          rotate_left
          · intro w hSw
            (try dsimp only at hSw)
            go_simp
            with_reducible rfl
          try simp only [List.getElem_toArray, List.getElem_cons_succ, List.getElem_cons_zero, Act.put, List.setIfInBounds_toArray, List.set_cons_zero, List.set_cons_succ]
          refine wpAnyH_take (i := 19) (oi := _) (v := ?_) rfl (by kernel_rfl) (by kernel_rfl) (by kernel_rfl) (fun _ _ _ h => h) (Or.inl ⟨by rfl, ?_⟩) (by assumption) ?_
          rotate_left
          · intro w hSw
            (try dsimp only at hSw)
            go_simp
            with_reducible rfl
          try simp only [List.getElem_toArray, List.getElem_cons_succ, List.getElem_cons_zero, Act.put, List.setIfInBounds_toArray, List.set_cons_zero, List.set_cons_succ]
          refine wpAnyH_ready (rs := [8, 21]) (by kernel_rfl) (by simp) ?_
          refine AllReadyH.cons rfl (fun K hK => ?_) (AllReadyH.cons rfl (fun K hK => ?_) (AllReadyH.nil))
          · go_simp
            refine hK.out _ _ ?_ (fun hHeld => ?_)
            · assumption
            clear hK K
            try simp only [List.getElem_toArray, List.getElem_cons_succ, List.getElem_cons_zero, Act.put, List.setIfInBounds_toArray, List.set_cons_zero, List.set_cons_succ]
            refine wpAnyH_ready (rs := [21]) (by kernel_rfl) (by simp) ?_
            refine AllReadyH.cons rfl (fun K hK => ?_) (AllReadyH.nil)
            go_simp
            (go_at_call 36; (with_reducible refine (refCutS_own A0 x cap HXM.out HXR.out 0 (by omega) (by omega) _ (Lib.hid (AtB.below HAT.out (CrS.bel (by assumption)) (Nat.le_refl _)))).mono ?_); rintro e w3 ⟨v3, rfl, hown3, hb3⟩; have hS3 := CrS.later (by assumption : CrS w (.int .u64 r) (.slice A n a) (.slice (some ⟨g, off, none⟩) n b) _) hb3; have hbr3 : Below wr.heap.size wr w3 := below_step hb3 (by first | assumption | (exact Below.drew (Below.refl _ _)) | (exact Below.drew (by assumption))); have q0 := (keptCells hbr3 _ 0 HS.out.2.2.2.1).trans ho0; have q1 := (keptCells hbr3 _ 1 HS.out.2.2.2.1).trans ho1; have q2 := (keptCells hbr3 _ 2 HS.out.2.2.2.1).trans ho2; have qa : ∀ o : Obj, (w3.alloc o).cell? ⟨w.heap.size + 2, 2, none⟩ = some u1 := (fun o => (World.cell?_alloc_lt _ _ _ (by have := hS3.2.2.2.1; exact this)).trans q2); have HV3 := Lib.hid (hown3.lower (b' := w.heap.size + 3) (by have := HS.out.2.2.2.1; have := hbr3.size; simp; omega)); have HA3 := Lib.hid (HQ0.out.later hbr3); have HB3 := Lib.hid (HQ1.out.later hbr3); have HBR3 := Lib.hid hbr3; have HS3 := Lib.hid hS3; clear hown3 hb3 hbr3)
            refine hK.out _ _ ?_ (fun hHeld => ?_)
            · assumption
            clear hK K
            try simp only [List.getElem_toArray, List.getElem_cons_succ, List.getElem_cons_zero, Act.put, List.setIfInBounds_toArray, List.set_cons_zero, List.set_cons_succ]
            refine wpAnyH_ready (rs := [22]) (by kernel_rfl) (by simp) ?_
            refine AllReadyH.cons rfl (fun K hK => ?_) (AllReadyH.nil)
            go_simp
            refine hK.out _ _ ?_ (fun hHeld => ?_)
            · first | assumption | (exact CrS.alloc (by assumption) _)
            clear hK K
            try simp only [List.getElem_toArray, List.getElem_cons_succ, List.getElem_cons_zero, Act.put, List.setIfInBounds_toArray, List.set_cons_zero, List.set_cons_succ]
            refine wpAnyH_ready (rs := [23]) (by kernel_rfl) (by simp) ?_
            refine AllReadyH.cons rfl (fun K hK => ?_) (AllReadyH.nil)
            (refine step_append_one (by assumption : CrS w (.int .u64 r) (.slice A n a) (.slice (some ⟨g, off, none⟩) n b) _) (by rfl) (.tmp 38) (.tmp 52) (by rfl) s u1 (k - n) ((cutL l1 fun j => moreAt cn f (n + j)).take (k - n)) (by rfl) (OwnStms.later HB3.out ((Below.refl _ _).alloc (Nat.le_refl _) _)) HSS.out.1 (by have := HBR3.out.size; have := HSS.out.2.1; simp; omega) w3.heap.size 1 (x.cut 0) v3 (by rfl) (by rw [World.cell?_alloc_mark]; rfl) (by rw [World.cell?_alloc_mark]; rfl) (HV3.out.later ((Below.refl _ _).alloc (Nat.le_refl _) _)) (by simp only [Stm.cut]; have := HYC.out; have := HXM.out; omega) (by have := HYL.out; have := HYC.out; have := HXM.out; omega) (by have := HN.out; omega) ?_; intro v4 w4 hown4 hS4 hcell4 hkeep4 hsz4; obtain ⟨A4, c4, rfl, _, _, _⟩ := hown4.at_ (by have := HN.out; omega); have HO4 := Lib.hid hown4; have HS4 := Lib.hid hS4; have z0 := (hcell4 0).trans ((World.cell?_alloc_lt _ _ _ (by have := HS3.out.2.2.2.1; exact this)).trans q0); have z1 := (hcell4 1).trans ((World.cell?_alloc_lt _ _ _ (by have := HS3.out.2.2.2.1; exact this)).trans q1); have z2 := (hcell4 2).trans ((World.cell?_alloc_lt _ _ _ (by have := HS3.out.2.2.2.1; exact this)).trans q2); have HU4 := Lib.hid (hkeep4 _ _ _ _ (OwnStms.later HA3.out ((Below.refl _ _).alloc (Nat.le_refl _) _)) (HNE HB3.out)); have HSZ4 := Lib.hid hsz4; clear hown4 hcell4 hkeep4 hsz4)
            refine hK.out _ _ ?_ (fun hHeld => ?_)
            · assumption
            clear hK K
            try simp only [List.getElem_toArray, List.getElem_cons_succ, List.getElem_cons_zero, Act.put, List.setIfInBounds_toArray, List.set_cons_zero, List.set_cons_succ]
            refine wpAnyH_take (i := 25) (oi := _) (v := ?_) rfl (by kernel_rfl) (by kernel_rfl) (by kernel_rfl) (fun _ _ _ h => h) (Or.inl ⟨by rfl, ?_⟩) (by assumption) ?_
            rotate_left
            · intro w hSw
              (try dsimp only at hSw)
              go_simp
              with_reducible rfl
            try simp only [List.getElem_toArray, List.getElem_cons_succ, List.getElem_cons_zero, Act.put, List.setIfInBounds_toArray, List.set_cons_zero, List.set_cons_succ]
            refine wpAnyH_ready (rs := [26]) (by kernel_rfl) (by simp) ?_
            refine AllReadyH.cons rfl (fun K hK => ?_) (AllReadyH.nil)
            go_simp
            refine hK.out _ _ ?_ (fun hHeld => ?_)
            · first | (with_reducible refine CrS.res ?_ _ _; with_reducible assumption) | assumption
            clear hK K
            try simp only [List.getElem_toArray, List.getElem_cons_succ, List.getElem_cons_zero, Act.put, List.setIfInBounds_toArray, List.set_cons_zero, List.set_cons_succ]
            refine wpAnyH_done (by kernel_rfl) ?_ _
            refine NoPanic.normal ?_
            clear hC0 hC1 hC2 hD0 hD1 hF2 hR2
            go_wp2_with fail
            go_roundw
            case rel => exact ⟨k + 1, by omega, by go_num, CrRel.step1 HKI.out HL0.out HY.out HS4.out z0 z1 ⟨_, z2⟩ HSS.out.1 (by have := HSS.out.2.1; have := HBR3.out.size; have := HSZ4.out; simp at this; omega) HSS.out.2.2 HU4.out HO4.out⟩
            case measure => simp [intOf]; omega
          · go_simp
            (go_at_call 36; (with_reducible refine (refCutS_own A0 x cap HXM.out HXR.out 0 (by omega) (by omega) _ (Lib.hid (AtB.below HAT.out (CrS.bel (by assumption)) (Nat.le_refl _)))).mono ?_); rintro e w3 ⟨v3, rfl, hown3, hb3⟩; have hS3 := CrS.later (by assumption : CrS w (.int .u64 r) (.slice A n a) (.slice (some ⟨g, off, none⟩) n b) _) hb3; have hbr3 : Below wr.heap.size wr w3 := below_step hb3 (by first | assumption | (exact Below.drew (Below.refl _ _)) | (exact Below.drew (by assumption))); have q0 := (keptCells hbr3 _ 0 HS.out.2.2.2.1).trans ho0; have q1 := (keptCells hbr3 _ 1 HS.out.2.2.2.1).trans ho1; have q2 := (keptCells hbr3 _ 2 HS.out.2.2.2.1).trans ho2; have qa : ∀ o : Obj, (w3.alloc o).cell? ⟨w.heap.size + 2, 2, none⟩ = some u1 := (fun o => (World.cell?_alloc_lt _ _ _ (by have := hS3.2.2.2.1; exact this)).trans q2); have HV3 := Lib.hid (hown3.lower (b' := w.heap.size + 3) (by have := HS.out.2.2.2.1; have := hbr3.size; simp; omega)); have HA3 := Lib.hid (HQ0.out.later hbr3); have HB3 := Lib.hid (HQ1.out.later hbr3); have HBR3 := Lib.hid hbr3; have HS3 := Lib.hid hS3; clear hown3 hb3 hbr3)
            refine hK.out _ _ ?_ (fun hHeld => ?_)
            · assumption
            clear hK K
            try simp only [List.getElem_toArray, List.getElem_cons_succ, List.getElem_cons_zero, Act.put, List.setIfInBounds_toArray, List.set_cons_zero, List.set_cons_succ]
            refine wpAnyH_ready (rs := [8, 22]) (by kernel_rfl) (by simp) ?_
            refine AllReadyH.cons rfl (fun K hK => ?_) (AllReadyH.cons rfl (fun K hK => ?_) (AllReadyH.nil))
            · go_simp
              refine hK.out _ _ ?_ (fun hHeld => ?_)
              · assumption
              clear hK K
              try simp only [List.getElem_toArray, List.getElem_cons_succ, List.getElem_cons_zero, Act.put, List.setIfInBounds_toArray, List.set_cons_zero, List.set_cons_succ]
              refine wpAnyH_ready (rs := [22]) (by kernel_rfl) (by simp) ?_
              refine AllReadyH.cons rfl (fun K hK => ?_) (AllReadyH.nil)
              go_simp
              refine hK.out _ _ ?_ (fun hHeld => ?_)
              · first | assumption | (exact CrS.alloc (by assumption) _)
              clear hK K
              try simp only [List.getElem_toArray, List.getElem_cons_succ, List.getElem_cons_zero, Act.put, List.setIfInBounds_toArray, List.set_cons_zero, List.set_cons_succ]
              refine wpAnyH_ready (rs := [23]) (by kernel_rfl) (by simp) ?_
              refine AllReadyH.cons rfl (fun K hK => ?_) (AllReadyH.nil)
              (refine step_append_one (by assumption : CrS w (.int .u64 r) (.slice A n a) (.slice (some ⟨g, off, none⟩) n b) _) (by rfl) (.tmp 38) (.tmp 52) (by rfl) s u1 (k - n) ((cutL l1 fun j => moreAt cn f (n + j)).take (k - n)) (by rfl) (OwnStms.later HB3.out ((Below.refl _ _).alloc (Nat.le_refl _) _)) HSS.out.1 (by have := HBR3.out.size; have := HSS.out.2.1; simp; omega) w3.heap.size 1 (x.cut 0) v3 (by rfl) (by rw [World.cell?_alloc_mark]; rfl) (by rw [World.cell?_alloc_mark]; rfl) (HV3.out.later ((Below.refl _ _).alloc (Nat.le_refl _) _)) (by simp only [Stm.cut]; have := HYC.out; have := HXM.out; omega) (by have := HYL.out; have := HYC.out; have := HXM.out; omega) (by have := HN.out; omega) ?_; intro v4 w4 hown4 hS4 hcell4 hkeep4 hsz4; obtain ⟨A4, c4, rfl, _, _, _⟩ := hown4.at_ (by have := HN.out; omega); have HO4 := Lib.hid hown4; have HS4 := Lib.hid hS4; have z0 := (hcell4 0).trans ((World.cell?_alloc_lt _ _ _ (by have := HS3.out.2.2.2.1; exact this)).trans q0); have z1 := (hcell4 1).trans ((World.cell?_alloc_lt _ _ _ (by have := HS3.out.2.2.2.1; exact this)).trans q1); have z2 := (hcell4 2).trans ((World.cell?_alloc_lt _ _ _ (by have := HS3.out.2.2.2.1; exact this)).trans q2); have HU4 := Lib.hid (hkeep4 _ _ _ _ (OwnStms.later HA3.out ((Below.refl _ _).alloc (Nat.le_refl _) _)) (HNE HB3.out)); have HSZ4 := Lib.hid hsz4; clear hown4 hcell4 hkeep4 hsz4)
              refine hK.out _ _ ?_ (fun hHeld => ?_)
              · assumption
              clear hK K
              try simp only [List.getElem_toArray, List.getElem_cons_succ, List.getElem_cons_zero, Act.put, List.setIfInBounds_toArray, List.set_cons_zero, List.set_cons_succ]
              refine wpAnyH_take (i := 25) (oi := _) (v := ?_) rfl (by kernel_rfl) (by kernel_rfl) (by kernel_rfl) (fun _ _ _ h => h) (Or.inl ⟨by rfl, ?_⟩) (by assumption) ?_
              rotate_left
              · intro w hSw
                (try dsimp only at hSw)
                go_simp
                with_reducible rfl
              try simp only [List.getElem_toArray, List.getElem_cons_succ, List.getElem_cons_zero, Act.put, List.setIfInBounds_toArray, List.set_cons_zero, List.set_cons_succ]
              refine wpAnyH_ready (rs := [26]) (by kernel_rfl) (by simp) ?_
              refine AllReadyH.cons rfl (fun K hK => ?_) (AllReadyH.nil)
              go_simp
              refine hK.out _ _ ?_ (fun hHeld => ?_)
              · first | (with_reducible refine CrS.res ?_ _ _; with_reducible assumption) | assumption
              clear hK K
              try simp only [List.getElem_toArray, List.getElem_cons_succ, List.getElem_cons_zero, Act.put, List.setIfInBounds_toArray, List.set_cons_zero, List.set_cons_succ]
              refine wpAnyH_done (by kernel_rfl) ?_ _
              refine NoPanic.normal ?_
              clear hC0 hC1 hC2 hD0 hD1 hF2 hR2
              go_wp2_with fail
              go_roundw
              case rel => exact ⟨k + 1, by omega, by go_num, CrRel.step1 HKI.out HL0.out HY.out HS4.out z0 z1 ⟨_, z2⟩ HSS.out.1 (by have := HSS.out.2.1; have := HBR3.out.size; have := HSZ4.out; simp at this; omega) HSS.out.2.2 HU4.out HO4.out⟩
              case measure => simp [intOf]; omega
            · go_simp
              refine hK.out _ _ ?_ (fun hHeld => ?_)
              · first | assumption | (exact CrS.alloc (by assumption) _)
              clear hK K
              try simp only [List.getElem_toArray, List.getElem_cons_succ, List.getElem_cons_zero, Act.put, List.setIfInBounds_toArray, List.set_cons_zero, List.set_cons_succ]
              refine wpAnyH_ready (rs := [8]) (by kernel_rfl) (by simp) ?_
              refine AllReadyH.cons rfl (fun K hK => ?_) (AllReadyH.nil)
              go_simp
              refine hK.out _ _ ?_ (fun hHeld => ?_)
              · first | assumption | (exact CrS.alloc (by assumption) _)
              clear hK K
              try simp only [List.getElem_toArray, List.getElem_cons_succ, List.getElem_cons_zero, Act.put, List.setIfInBounds_toArray, List.set_cons_zero, List.set_cons_succ]
              refine wpAnyH_ready (rs := [23]) (by kernel_rfl) (by simp) ?_
              refine AllReadyH.cons rfl (fun K hK => ?_) (AllReadyH.nil)
              (refine step_append_one (by assumption : CrS w (.int .u64 r) (.slice A n a) (.slice (some ⟨g, off, none⟩) n b) _) (by rfl) (.tmp 38) (.tmp 52) (by rfl) s u1 (k - n) ((cutL l1 fun j => moreAt cn f (n + j)).take (k - n)) (by rfl) (OwnStms.later HB3.out ((Below.refl _ _).alloc (Nat.le_refl _) _)) HSS.out.1 (by have := HBR3.out.size; have := HSS.out.2.1; simp; omega) w3.heap.size 1 (x.cut 0) v3 (by rfl) (by rw [World.cell?_alloc_mark]; rfl) (by rw [World.cell?_alloc_mark]; rfl) (HV3.out.later ((Below.refl _ _).alloc (Nat.le_refl _) _)) (by simp only [Stm.cut]; have := HYC.out; have := HXM.out; omega) (by have := HYL.out; have := HYC.out; have := HXM.out; omega) (by have := HN.out; omega) ?_; intro v4 w4 hown4 hS4 hcell4 hkeep4 hsz4; obtain ⟨A4, c4, rfl, _, _, _⟩ := hown4.at_ (by have := HN.out; omega); have HO4 := Lib.hid hown4; have HS4 := Lib.hid hS4; have z0 := (hcell4 0).trans ((World.cell?_alloc_lt _ _ _ (by have := HS3.out.2.2.2.1; exact this)).trans q0); have z1 := (hcell4 1).trans ((World.cell?_alloc_lt _ _ _ (by have := HS3.out.2.2.2.1; exact this)).trans q1); have z2 := (hcell4 2).trans ((World.cell?_alloc_lt _ _ _ (by have := HS3.out.2.2.2.1; exact this)).trans q2); have HU4 := Lib.hid (hkeep4 _ _ _ _ (OwnStms.later HA3.out ((Below.refl _ _).alloc (Nat.le_refl _) _)) (HNE HB3.out)); have HSZ4 := Lib.hid hsz4; clear hown4 hcell4 hkeep4 hsz4)
              refine hK.out _ _ ?_ (fun hHeld => ?_)
              · assumption
              clear hK K
              try simp only [List.getElem_toArray, List.getElem_cons_succ, List.getElem_cons_zero, Act.put, List.setIfInBounds_toArray, List.set_cons_zero, List.set_cons_succ]
              refine wpAnyH_take (i := 25) (oi := _) (v := ?_) rfl (by kernel_rfl) (by kernel_rfl) (by kernel_rfl) (fun _ _ _ h => h) (Or.inl ⟨by rfl, ?_⟩) (by assumption) ?_
              rotate_left
              · intro w hSw
                (try dsimp only at hSw)
                go_simp
                with_reducible rfl
              try simp only [List.getElem_toArray, List.getElem_cons_succ, List.getElem_cons_zero, Act.put, List.setIfInBounds_toArray, List.set_cons_zero, List.set_cons_succ]
              refine wpAnyH_ready (rs := [26]) (by kernel_rfl) (by simp) ?_
              refine AllReadyH.cons rfl (fun K hK => ?_) (AllReadyH.nil)
              go_simp
              refine hK.out _ _ ?_ (fun hHeld => ?_)
              · first | (with_reducible refine CrS.res ?_ _ _; with_reducible assumption) | assumption
              clear hK K
              try simp only [List.getElem_toArray, List.getElem_cons_succ, List.getElem_cons_zero, Act.put, List.setIfInBounds_toArray, List.set_cons_zero, List.set_cons_succ]
              refine wpAnyH_done (by kernel_rfl) ?_ _
              refine NoPanic.normal ?_
              clear hC0 hC1 hC2 hD0 hD1 hF2 hR2
              go_wp2_with fail
              go_roundw
              case rel => exact ⟨k + 1, by omega, by go_num, CrRel.step1 HKI.out HL0.out HY.out HS4.out z0 z1 ⟨_, z2⟩ HSS.out.1 (by have := HSS.out.2.1; have := HBR3.out.size; have := HSZ4.out; simp at this; omega) HSS.out.2.2 HU4.out HO4.out⟩
              case measure => simp [intOf]; omega
    · obtain rfl : k = 2 * n := by omega
      obtain ⟨A', a', B', b', hS, hv1, hv2, s0, s1, ho⟩ := HREL.out.done HL0.out HL1.out (by omega)
      have hne : ∀ A n, (∀ P : Nat → Prop, (∀ b, w.heap.size + 3 ≤ b → P b) → OffS P wr A n) → OffS (fun k => k ≠ w.heap.size + 1) wr A n := fun A n h => h _ (fun b hb => by omega)
      obtain ⟨t0, o0⟩ := s0.set3 (w.heap.size + 1) (.int .u64 r) (.slice A' n a') (.slice B' n b') (hne _ _ fun P hP => (ho P hP).1)
      obtain ⟨t1, o1⟩ := s1.set3 (w.heap.size + 1) (.int .u64 r) (.slice A' n a') (.slice B' n b') (hne _ _ fun P hP => (ho P hP).2)
      have HBE := Lib.hid (below_setCells (b := w.heap.size + 1) (by omega) [.int .u64 r, .slice A' n a', .slice B' n b'] 0 _ hS.1)
      have T0 := Lib.hid t0
      have T1 := Lib.hid t1
      have HOF := Lib.hid (fun (P : Nat → Prop) (hP : ∀ b, w.heap.size + 3 ≤ b → P b) => And.intro (o0 P (ho P hP).1) (o1 P (ho P hP).2))
      obtain ⟨_, c0, c1, c2, f0, f1, f2⟩ := hv2.three
      obtain ⟨_, r0, r1, r2, g0, g1, g2⟩ := hv1.three
      clear hrel hS hv1 hv2 s0 s1 ho hne t0 o0 t1 o1
      go_wp2_with fail
      exact bodyPost_ret (v := .agg #[.int .u64 r, .slice A' n a', .slice B' n b']) (by simp [results, Try.results11, go_sem, r0, r1, r2]) rfl ⟨A', a', B', b', rfl, T0.out, T1.out, HBE.out, fun P hF _ _ => HOF.out P (fun b hb => hF b (by omega))⟩

end Go.Proofs.Ytjbhichgojjakaa
