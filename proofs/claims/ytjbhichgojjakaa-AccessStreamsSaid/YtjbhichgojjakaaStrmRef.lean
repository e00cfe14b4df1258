/-
  The contracts of the document's own answer for package stream: Append, Cut.
-/
import Derived.Test.YtjbhichgojjakaaStrmCalls
namespace Go.Proofs.Ytjbhichgojjakaa
open Go.ChangeShapes Go.WideShapes Go.ChangeAt Go.RowKit
set_option linter.unusedVariables false
set_option maxRecDepth 100000

/-- What a world keeps while a stream's variable is read and the result's may be written. -/
def cellV (w : World) (b o : Nat) : Value := (w.cell? ⟨b, o, none⟩).getD undef
def StmS (w : World) (v0 v1 : Value) (w' : World) : Prop :=
  Below w.heap.size w w' ∧ VarAt w' w.heap.size [v0, v1] ∧ w.heap.size + 1 < w'.heap.size ∧ ∀ j, j < 2 → (∃ v, w'.cell? ⟨w.heap.size + 1, j, none⟩ = some v) ∧ w'.frozen? ⟨w.heap.size + 1, j, none⟩ = false
section
variable {w w' w2 : World} {v0 v1 : Value}
theorem StmS.made (w : World) (a b c d : Value) (t : TypeId) : StmS w a b ((w.alloc (.cells #[a, b] t)).alloc (.cells #[c, d] t)) := by
  have h := (VarAt.pair1 w c d (.cells #[a, b] t) t).two
  refine ⟨below_pair w _ _, VarAt.pair0 w a b _ t, h.1, fun j hj => ?_⟩
  obtain rfl | rfl : j = 0 ∨ j = 1 := by omega
  · exact ⟨⟨c, h.2.1⟩, h.2.2.2.1⟩
  · exact ⟨⟨d, h.2.2.1⟩, h.2.2.2.2⟩
theorem StmS.later (h : StmS w v0 v1 w') (hb : Below w'.heap.size w' w2) : StmS w v0 v1 w2 := by
  obtain ⟨h1, h2, h3, h4⟩ := h
  refine ⟨h1.trans (hb.mono h1.size), h2.below hb, Nat.lt_of_lt_of_le h3 hb.size, fun j hj => ?_⟩
  obtain ⟨⟨v, hv⟩, hf⟩ := h4 j hj
  exact ⟨⟨v, (keptCells hb _ _ h3).trans hv⟩, (keptFrozen hb _ _ h3).trans hf⟩
theorem StmS.alloc (h : StmS w v0 v1 w') (o : Obj) : StmS w v0 v1 (w'.alloc o) := h.later ((Below.refl _ _).alloc (Nat.le_refl _) o)
theorem StmS.drew (h : StmS w v0 v1 w') : StmS w v0 v1 w'.drew := h.later (Below.drew (Below.refl _ _))
theorem StmS.res (h : StmS w v0 v1 w') (j : Nat) (v : Value) : StmS w v0 v1 (w'.setCell ⟨w.heap.size + 1, j, none⟩ v) := by
  obtain ⟨h1, h2, h3, h4⟩ := h
  refine ⟨below_set1 (by omega) v h1, h2.apart j v (by omega), by simpa using h3, fun i hi => ?_⟩
  obtain ⟨⟨u, hu⟩, hf⟩ := h4 i hi
  refine ⟨?_, by rw [World.frozen?_setCell]; exact hf⟩
  by_cases hij : i = j
  · subst hij; exact ⟨v, World.cell?_setCell_same w' _ v hu⟩
  · exact ⟨u, by rw [World.cell?_setCell_other _ _ _ _ (by simp <;> omega)]; exact hu⟩
theorem StmS.grown {v : Value} {n : Nat} {xs : List Nat} (h : StmS w v0 v1 w') (hown : Own w' (w.heap.size + 2) v n xs) (hg : w'.grownBy w2 v.ownBlock) : StmS w v0 v1 w2 := by
  obtain ⟨h1, h2, h3, h4⟩ := h
  have hk : Below (w.heap.size + 2) w' w2 := (Below.refl _ w').grown hg (by omega) (fun k hk => (hown.2.lt k hk).1)
  have hc : ∀ b o, b < w.heap.size + 2 → w2.cell? ⟨b, o, none⟩ = w'.cell? ⟨b, o, none⟩ := fun b o hb => hk.cell (p := ⟨b, o, none⟩) hb
  have hfz : ∀ b o, b < w.heap.size + 2 → w2.frozen? ⟨b, o, none⟩ = w'.frozen? ⟨b, o, none⟩ := fun b o hb => hk.frozen (p := ⟨b, o, none⟩) hb
  refine ⟨h1.trans (hk.mono (by omega)), ⟨Nat.lt_of_lt_of_le h2.1 hk.size, fun j u hu => (hc _ _ (by omega)).trans (h2.2.1 j u hu), fun j hj => (hfz _ _ (by omega)).trans (h2.2.2 j hj)⟩, Nat.lt_of_lt_of_le h3 hk.size, fun j hj => ?_⟩
  obtain ⟨⟨v, hv⟩, hf⟩ := h4 j hj
  exact ⟨⟨v, (hc _ _ (by omega)).trans hv⟩, (hfz _ _ (by omega)).trans hf⟩
theorem StmS.c0 (h : StmS w v0 v1 w') : w'.cell? ⟨w.heap.size, 0, none⟩ = some v0 := h.2.1.two.2.1
theorem StmS.c1 (h : StmS w v0 v1 w') : w'.cell? ⟨w.heap.size, 1, none⟩ = some v1 := h.2.1.two.2.2.1
theorem StmS.r (h : StmS w v0 v1 w') (j : Nat) (hj : j < 2) : w'.cell? ⟨w.heap.size + 1, j, none⟩ = some (cellV w' (w.heap.size + 1) j) := by
  obtain ⟨⟨v, hv⟩, _⟩ := h.2.2.2 j hj
  unfold cellV
  rw [hv]; rfl
theorem StmS.f (h : StmS w v0 v1 w') (j : Nat) (hj : j < 2) : w'.frozen? ⟨w.heap.size + 1, j, none⟩ = false := (h.2.2.2 j hj).2
end
theorem step_append_stm {ops : Array Oper} {o : Oper} {a : Act} {w0 w : World} {v0 v1 : Value} {K : Act → World → Prop} {Q : Exit → Act → World → Prop} {E : Prop} (hS : StmS w0 v0 v1 w) (hg : o.guard = none) (s x : Operand)
    (ho : o.op = .call { callee := .builtin .append, args := #[s, x], argTypes := #[24, 24] }) (v : Value) (n : Nat) (xs : List Nat) (hs : a.eval s = v) (hown : Own w (w0.heap.size + 2) v n xs)
    (A : Option Addr) (m c : Nat) (ys : List Nat) (hx : a.eval x = .slice A m c) (hA : AtB w A m ys) (hb : n + m ≤ 140737488355328)
    (h : ∀ v' w', Own w' (w0.heap.size + 2) v' (n + m) (xs ++ ys) → StmS w0 v0 v1 w' → K (a.put o.dst v') w') : if Region.wanted o (yielded ops a.tmps) = true then Oper.wp Try.prog o a w K Q else E :=
  step_append_bytes hg s x ho (w0.heap.size + 2) v n xs hs hown A m c ys hx hA hb hS.2.2.1 (fun v' w' h1 h2 => h v' w' h1 (hS.grown hown h2))

set_option maxHeartbeats 2000000 in
theorem refAppend_atN (A : Option Addr) (len cap : Nat) (xs : List Nat) (s : Int) (B : Option Addr) (m c : Nat) (ys : List Nat) (hb : len + m ≤ 140737488355328) (w : World) (hA : Hid (AtB w A len xs)) (hB : Hid (AtB w B m ys)) :
    Calls Try.prog 68 #[.agg #[.slice A len cap, .int .i64 s], .slice B m c] w (StmPostN w A len (len + m) (xs ++ ys) s) := by
  have HN := Lib.hid hb
  clear hb
  have hC0 : ∀ w', StmS w (.slice A len cap) (.int .i64 s) w' → w'.cell? ⟨w.heap.size, 0, none⟩ = some (.slice A len cap) := fun w' h => h.c0
  have hC1 : ∀ w', StmS w (.slice A len cap) (.int .i64 s) w' → w'.cell? ⟨w.heap.size, 1, none⟩ = some (.int .i64 s) := fun w' h => h.c1
  have hR0 : ∀ w', StmS w (.slice A len cap) (.int .i64 s) w' → w'.cell? ⟨w.heap.size + 1, 0, none⟩ = some (cellV w' (w.heap.size + 1) 0) := fun w' h => h.r 0 (by omega)
  have hR1 : ∀ w', StmS w (.slice A len cap) (.int .i64 s) w' → w'.cell? ⟨w.heap.size + 1, 1, none⟩ = some (cellV w' (w.heap.size + 1) 1) := fun w' h => h.r 1 (by omega)
  have hF0 : ∀ w', StmS w (.slice A len cap) (.int .i64 s) w' → w'.frozen? ⟨w.heap.size + 1, 0, none⟩ = false := fun w' h => h.f 0 (by omega)
  have hF1 : ∀ w', StmS w (.slice A len cap) (.int .i64 s) w' → w'.frozen? ⟨w.heap.size + 1, 1, none⟩ = false := fun w' h => h.f 1 (by omega)
  go_enter Try.func68, Try.ntmps68
  go_wp2_with fail
  have hS0 := StmS.made w (.slice A len cap) (.int .i64 s) (.slice none 0 0) (.int .i64 0) 76
  have hz : w.heap.size + 2 = ((w.alloc (.cells #[.slice A len cap, .int .i64 s] 76)).alloc (.cells #[.slice none 0 0, .int .i64 0] 76)).heap.size := by simp
  have HZ := Lib.hid hz
  generalize hw1 : (w.alloc (.cells #[.slice A len cap, .int .i64 s] 76)).alloc (.cells #[.slice none 0 0, .int .i64 0] 76) = w1 at *
  clear hw1 hz
  go_region_held3 (fun w' => StmS w (.slice A len cap) (.int .i64 s) w') (first | assumption | (with_reducible refine StmS.res ?_ _ _; with_reducible refine StmS.res ?_ _ _; with_reducible assumption) | (exact StmS.drew (by assumption)) | (exact StmS.alloc (by assumption) _))
    (first
      | (refine step_append_stm (by assumption) (by rfl) (.tmp 5) (.tmp 7) (by rfl) _ 0 [] (by rfl) (show Own ((w1.alloc (.cells #[] 5)).drew) (w.heap.size + 2) _ 0 [] from (Own.made w1).lower (Nat.le_of_eq HZ.out)) A len cap xs (by rfl) (AtB.below hA.out (by assumption : StmS _ _ _ _).1 (Nat.le_refl _)) (by have := HN.out; omega) ?_; intro v2 w2 hown2 hS2; have HO2 := Lib.hid hown2; clear hown2)
      | (refine step_append_stm (by assumption) (by rfl) (.tmp 8) (.tmp 9) (by rfl) v2 (0 + len) ([] ++ xs) (by rfl) HO2.out B m c ys (by rfl) (AtB.below hB.out (by assumption : StmS _ _ _ _).1 (Nat.le_refl _)) (by have := HN.out; omega) ?_; intro v3 w3 hown3 hS3; obtain ⟨A3, k3, rfl, hk3, hat3⟩ := hown3.at_ (by have := HN.out; omega); have HO3 := Lib.hid hown3; have HK3 := Lib.hid hk3; have HAT3 := Lib.hid hat3; clear hown3 hk3 hat3))
  have hS9 : StmS w (.slice A len cap) (.int .i64 s) ((w3.setCell ⟨w.heap.size + 1, 0, none⟩ (.slice A3 (len + m) k3)).setCell ⟨w.heap.size + 1, 1, none⟩ (.int .i64 s)) := by assumption
  have hat : AtB w3 A3 (len + m) (xs ++ ys) := by have := HAT3.out; rwa [Nat.zero_add, List.nil_append] at this
  have hap : ∀ b off, A3 = some ⟨b, off, none⟩ → 0 < len + m → b ≠ w.heap.size + 1 := fun b off e _ => by
    have := (HO3.out.2.lt b (by rw [e]; rfl)).1
    omega
  have HE := Lib.hid ((hat.set (w.heap.size + 1) 0 (.slice A3 (len + m) k3) hap).set (w.heap.size + 1) 1 (.int .i64 s) hap)
  have HFR : Hid (∀ b off, A3 = some ⟨b, off, none⟩ → w.heap.size ≤ b) := Lib.hid (fun b off e => by
    have := (HO3.out.2.lt b (by rw [e]; rfl)).1
    omega)
  have HK : Hid (len + m ≤ k3) := Lib.hid (by have := HK3.out; omega)
  have HSE := Lib.hid hS9.1
  have r0 := hR0 w3 hS3
  have r1 := hR1 w3 hS3
  clear hS9 hat hap hC0 hC1 hR0 hR1 hF0 hF1 HAT3 HK3 HO3 HO2 hS2 hS0 HN
  clear hS3
  go_wp2_with fail
  exact bodyPost_ret (v := .agg #[.slice A3 (len + m) k3, .int .i64 s]) (by simp [results, Try.results68, go_sem, r0, r1]) rfl ⟨A3, k3, rfl, HK.out, HE.out, HSE.out, fun _ b off e => .inr (HFR.out b off e)⟩
theorem refAppend_at (A : Option Addr) (len cap : Nat) (xs : List Nat) (s : Int) (B : Option Addr) (m c : Nat) (ys : List Nat) (hb : len + m ≤ 140737488355328) (w : World) (hA : Hid (AtB w A len xs)) (hB : Hid (AtB w B m ys)) :
    Calls Try.prog 68 #[.agg #[.slice A len cap, .int .i64 s], .slice B m c] w (StmPost w (len + m) (xs ++ ys) s) :=
  (refAppend_atN A len cap xs s B m c ys hb w hA hB).mono fun e w' ⟨A', c', h1, h2, h3, h4, _⟩ => ⟨A', c', h1, h2, h3, h4⟩

theorem Own.none (w : World) (base : Nat) : Own w base (.slice none 0 0) 0 [] := ⟨fun z hz => by simp at hz, World.ownsRow_nil w _ _ _⟩
theorem take_more (xs : List Nat) (k : Nat) (h : k < xs.length) : xs.take k ++ [xs.getD k 0] = xs.take (k + 1) := by
  rw [List.take_add_one, List.getElem?_eq_getElem h, List.getD_eq_getElem?_getD, List.getElem?_eq_getElem h]; rfl
/-- What is kept of the first k bytes. -/
def CutRel (w : World) (v0 v1 : Value) (xs : List Nat) (c : Nat) (wr : World) (u : Value) (k : Nat) : Prop := Own wr (w.heap.size + 2) u (min k c) (xs.take (min k c)) ∧ StmS w v0 v1 wr
theorem CutRel.more {w wr w' : World} {v0 v1 u u' : Value} {xs : List Nat} {c k : Nat} {o : Obj} (h : CutRel w v0 v1 xs c wr u k) (hk : k < c) (hown : Own w' (w.heap.size + 2) u' (k + 1) (xs.take (k + 1))) (hg : (wr.alloc o).grownBy w' u.ownBlock) : CutRel w v0 v1 xs c w' u' (k + 1) :=
  ⟨by rw [Nat.min_eq_left (by omega)]; exact hown, (h.2.alloc o).grown (h.1.alloc o) hg⟩
theorem CutRel.less {w wr : World} {v0 v1 u : Value} {xs : List Nat} {c k : Nat} (h : CutRel w v0 v1 xs c wr u k) (hk : c ≤ k) : CutRel w v0 v1 xs c wr u (k + 1) :=
  ⟨by have := h.1; rw [Nat.min_eq_right hk] at this; rw [Nat.min_eq_right (by omega)]; exact this, h.2⟩
/-- A stream whose bytes lie in a row of the call's own. -/
def StmOwn (w : World) (n : Nat) (xs : List Nat) (s : Int) (e : Ending) (w' : World) : Prop := ∃ v, e = .returned (.agg #[v, .int .i64 s]) ∧ Own w' (w.heap.size + 2) v n xs ∧ Below w.heap.size w w'
theorem Own.aside {w : World} {base : Nat} {v : Value} {n : Nat} {xs : List Nat} (h : Own w base v n xs) (b j : Nat) (u : Value) (hb : b < base) : Own (w.setCell ⟨b, j, Option.none⟩ u) base v n xs :=
  ⟨h.1, h.2.kept ⟨by simp [World.setCell], by simp [World.setCell], by simp [World.setCell], by simp, fun k _ hk => Below.heap_setCell w ⟨b, j, Option.none⟩ u k (fun e => hk (by rw [e]))⟩ (row := some b) (.inr (fun e => by have := (h.2.lt b e).1; omega))⟩
set_option maxHeartbeats 2000000 in
theorem refCut_own (A : Option Addr) (len cap : Nat) (xs : List Nat) (hm : len ≤ 1000000) (s : Nat) (hs : s ≤ len) (more : Int) (hi : -9223372036854775808 ≤ more) (ha : more < 9223372036854775808) (w : World) (hA : Hid (AtB w A len xs)) :
    Calls Try.prog 36 #[.agg #[.slice A len cap, .int .i64 (s : Int)], .int .i64 more] w (StmOwn w (cutN s len more) (xs.take (cutN s len more)) ((cutN s len more : Nat) : Int)) := by
  have hk := cutN_le hs more
  have hdef : cutN s len more = s + min more.toNat (len - s) := rfl
  generalize cutN s len more = c at *
  have HD := Lib.hid hdef
  clear hdef
  go_enter Try.func36, Try.ntmps36
  go_wp2_with fail
  go_loopw [5, 6] (fun u i wr => ∃ k : Nat, k ≤ len ∧ i = .int .i64 k ∧ CutRel w (.slice A len cap) (.int .i64 (s : Int)) xs c wr u k) (fun _ i _ => len - (intOf i).toNat)
  case atStart => exact ⟨0, Nat.zero_le _, rfl, by rw [Nat.zero_min, List.take_zero]; exact Own.none _ _, StmS.made w _ _ _ _ _⟩
  case round =>
    obtain ⟨k, hkl, rfl, hrel⟩ := hrel
    have HR := Lib.hid hrel
    have hc0 := hrel.2.c0
    have hc1 := hrel.2.c1
    have hz := hrel.2.2.2.1
    have hlim : Hid (-9223372036854775808 ≤ more ∧ more < 9223372036854775808) := Lib.hid ⟨hi, ha⟩
    clear hrel hi ha
    by_cases hlt : k < len
    · obtain ⟨b, off, rfl, hbl, hcs⟩ := hA.out.2.2.2 (by omega)
      have hcell : wr.cell? ⟨b, off + k, none⟩ = some (.int .u8 ((xs.getD k 0 : Nat) : Int)) := (HR.out.2.1.cell (p := ⟨b, off + k, none⟩) hbl).trans (hcs k hlt)
      have hq := hA.out.2.1.getD k
      have HT := Lib.hid (take_more xs k (by rw [hA.out.1]; exact hlt))
      generalize xs.getD k 0 = q at *
      clear hcs hbl
      by_cases hkc : k < c
      · have HO : Hid (Own wr (w.heap.size + 2) u5 k (xs.take k)) := Lib.hid (by have := HR.out.1; rwa [Nat.min_eq_left (by omega)] at this)
        by_cases hks : k < s
        · go_wp2_with (at_builtin; (refine wpList_append_bytes (by rfl) (.tmp 26) (.tmp 32) (by rfl) (w.heap.size + 2) u5 k (xs.take k) (by rfl) (Own.alloc HO.out _) (some ⟨wr.heap.size, 0, none⟩) 1 1 [q] (by rfl) (AtB.one (by omega) (by simp)) (by omega) (by simp; omega) ?_); (intro v' w' hown' hgrow'; have S := Lib.hid (HR.out.more hkc (by rw [← HT.out]; exact hown') hgrow'); clear hown' hgrow'))
          go_roundw
          case rel => exact ⟨k + 1, by omega, by go_num, S.out⟩
          case measure => simp [intOf]; omega
        · have hmore : (k : Int) - (s : Int) < more := by have := HD.out; omega
          go_wp2_with (at_builtin; (refine wpList_append_bytes (by rfl) (.tmp 26) (.tmp 32) (by rfl) (w.heap.size + 2) u5 k (xs.take k) (by rfl) (Own.alloc HO.out _) (some ⟨wr.heap.size, 0, none⟩) 1 1 [q] (by rfl) (AtB.one (by omega) (by simp)) (by omega) (by simp; omega) ?_); (intro v' w' hown' hgrow'; have S := Lib.hid (HR.out.more hkc (by rw [← HT.out]; exact hown') hgrow'); clear hown' hgrow'))
          go_roundw
          case rel => exact ⟨k + 1, by omega, by go_num, S.out⟩
          case measure => simp [intOf]; omega
      · have hks : s ≤ k := by have := HD.out; omega
        have hmore : more ≤ (k : Int) - (s : Int) := by have := HD.out; omega
        have S := Lib.hid (HR.out.less (by omega))
        clear HD HT
        go_wp2_with fail
        go_roundw
        case rel => exact ⟨k + 1, by omega, by go_num, S.out⟩
        case measure => simp [intOf]; omega
    · obtain rfl : k = len := by omega
      have hO := HR.out.1
      rw [Nat.min_eq_right hk] at hO
      have HOX := Lib.hid hO
      obtain ⟨A3, k3, rfl, hk3, hat3⟩ := hO.at_ (by omega)
      have HOE := Lib.hid ((HOX.out.aside (w.heap.size + 1) 0 (.slice A3 c k3) (by omega)).aside (w.heap.size + 1) 1 (.int .i64 (c : Int)) (by omega))
      clear HOX
      have HAT3 := Lib.hid hat3
      have hap : ∀ b off, A3 = some ⟨b, off, none⟩ → 0 < c → b ≠ w.heap.size + 1 := fun b off e _ => by
        have := (hO.2.lt b (by rw [e]; rfl)).1
        omega
      have HE := Lib.hid ((hat3.set (w.heap.size + 1) 0 (.slice A3 c k3) hap).set (w.heap.size + 1) 1 (.int .i64 (c : Int)) hap)
      have HSE := Lib.hid (((HR.out.2).res 0 (.slice A3 c k3)).res 1 (.int .i64 (c : Int))).1
      have r0 := HR.out.2.r 0 (by omega)
      have r1 := HR.out.2.r 1 (by omega)
      have f0 := HR.out.2.f 0 (by omega)
      have f1 := HR.out.2.f 1 (by omega)
      clear hap hO hat3 HD
      go_wp2_with fail
      exact bodyPost_ret (v := .agg #[.slice A3 c k3, .int .i64 (c : Int)]) (by simp [results, Try.results36, go_sem, r0, r1]) rfl ⟨_, rfl, HOE.out, HSE.out⟩
theorem refCut_at (A : Option Addr) (len cap : Nat) (xs : List Nat) (hm : len ≤ 1000000) (s : Nat) (hs : s ≤ len) (more : Int) (hi : -9223372036854775808 ≤ more) (ha : more < 9223372036854775808) (w : World) (hA : Hid (AtB w A len xs)) :
    Calls Try.prog 36 #[.agg #[.slice A len cap, .int .i64 (s : Int)], .int .i64 more] w (StmPost w (cutN s len more) (xs.take (cutN s len more)) ((cutN s len more : Nat) : Int)) :=
  (refCut_own A len cap xs hm s hs more hi ha w hA).mono fun e w' ⟨v, h1, h2, h3⟩ => by
    obtain ⟨A', c, rfl, hc, hat⟩ := h2.at_ (by have := cutN_le hs more; omega)
    exact ⟨A', c, h1, hc, hat, h3⟩
end Go.Proofs.Ytjbhichgojjakaa
