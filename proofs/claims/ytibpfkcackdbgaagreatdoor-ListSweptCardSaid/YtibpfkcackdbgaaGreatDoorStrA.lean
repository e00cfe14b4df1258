/- StrA -/
import Derived.Test.YtibpfkcackdbgaaGreatDoorBase
import Derived.ArgAppend
import Derived.Deep.Upon
import Derived.Deep.RegionHeld3
namespace Go.Proofs.YtibpfkcackdbgaaGreatDoor
open Go.ChangeShapes Go.WideShapes Go.ChangeAt Go.RowKit
set_option linter.unusedVariables false
set_option maxRecDepth 100000
def rightB (s : Int) (len : Nat) : Bool := decide (0 ≤ s) && decide (s ≤ (len : Int))
theorem ret_bool' {a b : Bool} (h : a = b) : Ending.returned (.bool a) = .returned (.bool b) := by rw [h]
theorem map_add0 (a : Option Addr) : a.map (·.add (0 * 1)) = a := by
 cases a with
 | none => rfl
 | some x => simp [Addr.add]
theorem run_cut_hm (A : Option Addr) (len cap n : Nat) (h : n ≤ cap) (W : World) :
  (Instr.slice 22 (.slice A len cap) none (some (.int .i64 (n : Int))) (some (.int .i64 (n : Int)))).run Tryz.prog W = .ok (.slice A n n) W := by
 rw [run_slice_hm W 22 _ _ _ elem23 .i64 .i64 _ _ (by omega) (by omega) (by omega), elem23', size5]
 simp only [Result.andThen, sliced, Int.toNat_natCast, map_add0, ite_self, Nat.sub_zero]
theorem upTo_at (A : Option Addr) (len cap n : Nat) (h : n ≤ cap) (w : World) :
  Calls Tryz.prog 193 #[.slice A len cap, .int .i64 (n : Int)] w fun e w' => e = .returned (.slice A n n) ∧ w = w' := by
 have R := fun W => run_cut_hm A len cap n h W
 clear h
 go_enter Tryz.func193, Tryz.ntmps193
 go_wp2_with fail
 go_ret
 exact ⟨rfl, rfl⟩
theorem upTo_sum (A : Option Addr) (len cap n m : Nat) (h : n + m ≤ cap) (w : World) :
  Calls Tryz.prog 193 #[.slice A len cap, .int .i64 ((n : Int) + (m : Int))] w fun e w' => e = .returned (.slice A (n + m) (n + m)) ∧ w = w' := by
 have := upTo_at A len cap (n + m) h w
 rwa [Int.natCast_add] at this
def Nigh (w : World) (A : Option Addr) (n : Nat) (A' : Option Addr) : Prop := ∀ b off, A' = some ⟨b, off, none⟩ → (0 < n ∧ ∃ off', A = some ⟨b, off', none⟩) ∨ w.heap.size ≤ b
theorem AtB.set {w : World} {A : Option Addr} {n : Nat} {xs : List Nat} (h : AtB w A n xs) (b j : Nat) (v : Value) (hb : ∀ b' off, A = some ⟨b', off, none⟩ → 0 < n → b' ≠ b) : AtB (w.setCell ⟨b, j, none⟩ v) A n xs := by
 obtain ⟨h1, h2, h3, h4⟩ := h
 refine ⟨h1, h2, h3, fun hp => ?_⟩
 obtain ⟨b', off, e, hlt, hc⟩ := h4 hp
 refine ⟨b', off, e, by simpa using hlt, fun i hi => ?_⟩
 rw [World.cell?_setCell_other _ _ _ _ (by have := hb b' off e hp; simp)]
 exact hc i hi
theorem AtB.on {w0 w w' : World} {A : Option Addr} {n : Nat} {xs : List Nat} (h : Hid (AtB w0 A n xs)) (hd : w0.heap = w.heap) (hb : Below w.heap.size w w') : Hid (AtB w' A n xs) := by
 have h' : AtB w A n xs := by
  obtain ⟨h1, h2, h3, h4⟩ := h.out
  refine ⟨h1, h2, h3, fun hp => ?_⟩
  obtain ⟨b, off, e, hlt, hc⟩ := h4 hp
  exact ⟨b, off, e, by rw [← hd]; exact hlt, fun j hj => by have := hc j hj; unfold World.cell? at this ⊢; rw [← hd]; exact this⟩
 exact Lib.hid (AtB.later (Lib.hid h') hb)
theorem AtB.hidD {w0 w : World} {A : Option Addr} {n : Nat} {xs : List Nat} (h : Hid (AtB w0 A n xs)) (hd : w0.heap = w.heap) : Hid (AtB w A n xs) := AtB.on h hd (Below.refl _ _)
theorem run_append_full {w : World} {A B : Option Addr} {n m c : Nat} {xs ys : List Nat} (hA : AtB w A n xs) (hB : AtB w B m ys) (hb : n + m ≤ 140737488355328) (ty : TypeId) :
  ∃ A' c' w', (Builtin.append_ #[22, 22] ty #[.slice A n n, .slice B m c]).run Tryz.prog w = .ok (.slice A' (n + m) c') w' ∧ n + m ≤ c' ∧ AtB w' A' (n + m) (xs ++ ys) ∧ Below w.heap.size w w' ∧ (0 < n + m → Nigh w A n A') := by
 obtain ⟨i, hi, hz0, hz1, hz2⟩ := info_parts info5
 by_cases hm : m = 0
 ·subst hm
  obtain rfl : ys = [] := List.eq_nil_of_length_eq_zero hB.1
  refine ⟨A, n, w, ?_, Nat.le_refl _, by rw [List.append_nil]; exact hA, Below.refl _ _, fun h0 b off e => .inl ⟨h0, off, e⟩⟩
  rcases A with _ | a
  ·simp [Builtin.append_, run_underlying Tryz.underlying22, sizeOf, typeInfo, hi, Builtin.lenOf, Builtin.firstCells]
   cases B <;> simp [loadCells, loadCellsFrom]
  ·rcases B with _ | b <;> simp [Builtin.append_, run_underlying Tryz.underlying22, sizeOf, typeInfo, hi, Builtin.lenOf, Builtin.firstCells, storeCells, loadCells, loadCellsFrom]
 ·obtain ⟨b2, o2, rfl, hlt2, hc2⟩ := hB.2.2.2 (by omega)
  have hn2 := hB.news ⟨b2, o2, none⟩ rfl
  have fin : ∀ (v' : Value) (w' : World), w'.ownsRow w.heap.size 5 1 v' (n + m) (vals xs ++ vals ys) → w.grownBy w' none →
    ∃ A' c', v' = .slice A' (n + m) c' ∧ n + m ≤ c' ∧ AtB w' A' (n + m) (xs ++ ys) ∧ Below w.heap.size w w' ∧ (0 < n + m → Nigh w A n A') := by
   intro v' w' hown hg
   have hO : Own w' w.heap.size v' (n + m) (xs ++ ys) := ⟨fun z hz => (List.mem_append.1 hz).elim (hA.2.1 z) (hB.2.1 z), by rw [vals_append]; exact hown⟩
   obtain ⟨A', c', rfl, hc, hat⟩ := hO.at_ (by omega)
   exact ⟨A', c', rfl, hc, hat, (Below.refl _ _).grown hg (Nat.le_refl _) (fun k hk => by cases hk), fun _ b off e => .inr (hO.2.lt b (by rw [e]; rfl)).1⟩
  rcases A with _ | a
  ·obtain rfl : n = 0 := by
    rcases Nat.eq_zero_or_pos n with h0 | h0
    ·exact h0
    ·obtain ⟨b, off, e, _⟩ := hA.2.2.2 h0
     cases e
   obtain rfl : xs = [] := List.eq_nil_of_length_eq_zero hA.1
   obtain ⟨v', w', hr, r1, r2, _⟩ := run_append_own (P := Tryz.prog) w w.heap.size 22 ty 5 i (.int .u8 0) 1 1 Tryz.underlying22 hi hz0 hz1 hz2 rfl (by decide) (.slice none 0 0) 0 [] (World.ownsRow_nil w _ _ _) ⟨b2, o2, none⟩ m c (vals ys)
    (by rw [vals_length, hB.1]; omega) hn2 (vals_one ys) (by unfold maxLen; omega) (by omega) (Nat.le_refl _)
   obtain ⟨A', c', rfl, h1, h2, h3⟩ := fin v' w' r1 r2
   exact ⟨A', c', w', hr, h1, h2, h3⟩
  ·have ho : ∀ j u, (vals xs)[j]? = some u → w.cell? (a.add j) = some u := hA.news a rfl
   obtain ⟨v', w', hr, r1, r2⟩ := run_append_arg_grows (P := Tryz.prog) w 22 ty 5 i (.int .u8 0) 1 1 Tryz.underlying22 hi hz0 hz1 hz2 rfl (by decide) a n n (vals xs) (by rw [vals_length, hA.1]; omega) ho ⟨b2, o2, none⟩ m c (vals ys)
    (by rw [vals_length, hB.1]; omega) hn2 (by omega) (by unfold maxLen; omega) (by omega)
   obtain ⟨A', c', rfl, h1, h2, h3⟩ := fin v' w' r1 r2
   exact ⟨A', c', w', hr, h1, h2, h3⟩
theorem wpList_append_full {ops : Array Oper} {rest : List Oper} {o : Oper} {a : Act} {w : World} {Q : Exit → Act → World → Prop} (hw : Region.wanted o (yielded ops a.tmps) = true) (s x : Operand)
  (ho : o.op = .call { callee := .builtin .append, args := #[s, x], argTypes := #[22, 22] }) (A B : Option Addr) (n m c : Nat) (xs ys : List Nat) (hs : a.eval s = .slice A n n) (hx : a.eval x = .slice B m c)
  (hA : AtB w A n xs) (hB : AtB w B m ys) (hb : n + m ≤ 140737488355328)
  (h : ∀ A' c' w', n + m ≤ c' → AtB w' A' (n + m) (xs ++ ys) → Below w.heap.size w w' → (0 < n + m → Nigh w A n A') → wpList Tryz.prog ops Q rest (a.put o.dst (.slice A' (n + m) c')) w') : wpList Tryz.prog ops Q (o :: rest) a w := by
 obtain ⟨A', c', w', hr, h1, h2, h3, h4⟩ := run_append_full (c := c) hA hB hb o.type
 refine BigFrame.wpList_want hw fun K hK => ?_
 unfold Oper.wp execOp
 simp only [ho, resolve, invoke, builtin, Sem.run_bind, Sem.run_pure, Result.andThen_ok, List.map_toArray, List.map_cons, List.map_nil, hs, hx, hr]
 exact hK _ _ (h A' c' w' h1 h2 h3 h4)
theorem VarAt.pair0 (w : World) (a b : Value) (o : Obj) (t : TypeId) : VarAt ((w.alloc (.cells #[a, b] t)).alloc o) w.heap.size [a, b] := (VarAt.made w #[a, b] t).below ((Below.refl _ _).alloc (Nat.le_refl _) _)
theorem VarAt.pair1 (w : World) (a b : Value) (o : Obj) (t : TypeId) : VarAt ((w.alloc o).alloc (.cells #[a, b] t)) (w.heap.size + 1) [a, b] := VarAt.made1 w o #[a, b] t
theorem below_set2 {w0 w : World} {b : Nat} (hb : w0.heap.size ≤ b) (v0 v1 : Value) (h : Below w0.heap.size w0 w) :
  Below w0.heap.size w0 ((w.setCell ⟨b, 0, none⟩ v0).setCell ⟨b, 1, none⟩ v1) := below_setCells hb [v0, v1] 0 w h
def StmPostN (w : World) (A0 : Option Addr) (l0 n : Nat) (xs : List Nat) (s : Int) (e : Ending) (w' : World) : Prop :=
 ∃ A c, e = .returned (.agg #[.slice A n c, .int .i64 s]) ∧ n ≤ c ∧ AtB w' A n xs ∧ Below w.heap.size w w' ∧ (0 < n → Nigh w A0 l0 A)
theorem append_atN (A : Option Addr) (len cap : Nat) (xs : List Nat) (hl : len ≤ cap) (s : Int) (B : Option Addr) (m c : Nat) (ys : List Nat) (hb : len + m ≤ 140737488355328) (w : World) (hA : Hid (AtB w A len xs)) (hB : Hid (AtB w B m ys)) :
  Calls Tryz.prog 167 #[.agg #[.slice A len cap, .int .i64 s], .slice B m c] w (StmPostN w A len (len + m) (xs ++ ys) s) := by
 have HU := fun w => upTo_at A len cap len hl w
 have HL := Lib.hid hl
 have HN := Lib.hid hb
 clear hl hb
 go_enter Tryz.func167, Tryz.ntmps167
 go_wp2_with (first
  | (go_at_call 193; (with_reducible refine (HU _).mono ?_); rintro e w' ⟨rfl, rfl⟩)
  | (at_builtin; (refine wpList_append_full (by rfl) (.tmp 11) (.tmp 12) (by rfl) A B len m c xs ys (by rfl) (by rfl) (AtB.later hA (below_pair w _ _)) (AtB.later hB (below_pair w _ _)) HN.out ?_); (intro A' c' w' hc' hat' hbe' hni'; have HNI := Lib.hid hni'; clear hni'; have V0 := ((VarAt.pair0 w _ _ _ _).below hbe').two; have V1 := ((VarAt.pair1 w _ _ _ _).below hbe').two; have BE := Lib.hid ((below_pair w _ _).trans (hbe'.mono (below_pair w _ _).size)); have HAT := Lib.hid hat'; clear hat' hbe'; have HC := Lib.hid hc'; have HU2 := fun w => upTo_sum A' (len + m) c' len m hc' w; clear hc'; obtain ⟨hz0, hc0, hc1, hf0, hf1⟩ := V0; obtain ⟨hz1, hr0, hr1, hg0, hg1⟩ := V1))
  | (go_at_call 193; (with_reducible refine (HU2 _).mono ?_); rintro e w' ⟨rfl, rfl⟩))
 have HAP : ∀ b off, A' = some ⟨b, off, none⟩ → 0 < len + m → b ≠ w.heap.size ∧ b ≠ w.heap.size + 1 := by
  intro b off e h0
  rcases HNI.out h0 b off e with ⟨h1, off', e'⟩ | h1
  ·obtain ⟨b2, o2, e2, hlt, _⟩ := hA.out.2.2.2 h1
   rw [e2] at e'
   simp only [Option.some.injEq, Addr.mk.injEq] at e'
   omega
  ·simp at h1
   omega
 refine bodyPost_ret (v := .agg #[.slice A' (len + m) (len + m), .int .i64 s]) (by simp [results, Tryz.results167, go_sem, hr0, hr1]) rfl ⟨A', len + m, rfl, Nat.le_refl _, ?_, below_set2 (by omega) _ _ (below_set1 (Nat.le_refl _) _ BE.out), fun h0 b off e => (HNI.out h0 b off e).imp id (fun h => by simp at h; omega)⟩
 exact ((HAT.out.set _ _ _ (fun b off e h0 => (HAP b off e h0).1)).set _ _ _ (fun b off e h0 => (HAP b off e h0).2)).set _ _ _ (fun b off e h0 => (HAP b off e h0).2)
theorem sync_at (A : Option Addr) (len cap : Nat) (hl : len ≤ cap) (s : Int) (w : World) :
  Calls Tryz.prog 168 #[.agg #[.slice A len cap, .int .i64 s]] w (Kept w (.agg #[.slice A len len, .int .i64 (len : Int)])) := by
 have HU := fun w => upTo_at A len cap len hl w
 have HL := Lib.hid hl
 clear hl
 go_enter Tryz.func168, Tryz.ntmps168
 go_wp2_with (go_at_call 193; (with_reducible refine (HU _).mono ?_); rintro e w' ⟨rfl, rfl⟩)
 exact bodyPost_ret (v := .agg #[.slice A len len, .int .i64 (len : Int)]) (by simp [results, Tryz.results168, go_sem]) rfl ⟨rfl, below_pair w _ _⟩
def cutN (s len : Nat) (more : Int) : Nat := s + min more.toNat (len - s)
end Go.Proofs.YtibpfkcackdbgaaGreatDoor
namespace Go.Proofs.YtibpfkcackdbgaaGreatDoor
open Go.ChangeShapes Go.WideShapes Go.ChangeAt Go.RowKit
set_option linter.unusedVariables false
set_option maxRecDepth 100000
def cellV (w : World) (b o : Nat) : Value := (w.cell? ⟨b, o, none⟩).getD undef
def StmS (w : World) (v0 v1 : Value) (w' : World) : Prop :=
 Below w.heap.size w w' ∧ VarAt w' w.heap.size [v0, v1] ∧ w.heap.size + 1 < w'.heap.size ∧ ∀ j, j < 2 → (∃ v, w'.cell? ⟨w.heap.size + 1, j, none⟩ = some v) ∧ w'.frozen? ⟨w.heap.size + 1, j, none⟩ = false
section
variable {w w' w2 : World} {v0 v1 : Value}
theorem StmS.made (w : World) (a b c d : Value) (t : TypeId) : StmS w a b ((w.alloc (.cells #[a, b] t)).alloc (.cells #[c, d] t)) := by
 have h := (VarAt.pair1 w c d (.cells #[a, b] t) t).two
 refine ⟨below_pair w _ _, VarAt.pair0 w a b _ t, h.1, fun j hj => ?_⟩
 obtain rfl | rfl : j = 0 ∨ j = 1 := by omega
 ·exact ⟨⟨c, h.2.1⟩, h.2.2.2.1⟩
 ·exact ⟨⟨d, h.2.2.1⟩, h.2.2.2.2⟩
theorem StmS.later (h : StmS w v0 v1 w') (hb : Below w'.heap.size w' w2) : StmS w v0 v1 w2 := by
 obtain ⟨h1, h2, h3, h4⟩ := h
 refine ⟨h1.trans (hb.mono h1.size), h2.below hb, Nat.lt_of_lt_of_le h3 hb.size, fun j hj => ?_⟩
 obtain ⟨⟨v, hv⟩, hf⟩ := h4 j hj
 exact ⟨⟨v, (keptCells hb _ _ h3).trans hv⟩, (keptFrozen hb _ _ h3).trans hf⟩
theorem StmS.alloc (h : StmS w v0 v1 w') (o : Obj) : StmS w v0 v1 (w'.alloc o) := h.later ((Below.refl _ _).alloc (Nat.le_refl _) o)
theorem StmS.drew (h : StmS w v0 v1 w') : StmS w v0 v1 w'.drew := h.later (Below.drew (Below.refl _ _))
theorem StmS.res (h : StmS w v0 v1 w') (j : Nat) (v : Value) : StmS w v0 v1 (w'.setCell ⟨w.heap.size + 1, j, none⟩ v) := by
 obtain ⟨h1, h2, h3, h4⟩ := h
 refine ⟨below_set1 (by omega) v h1, h2.apart j v (by omega), by simpa using h3, fun i hi => ?_⟩
 obtain ⟨⟨u, hu⟩, hf⟩ := h4 i hi
 refine ⟨?_, by rw [World.frozen?_setCell]; exact hf⟩
 by_cases hij : i = j
 ·subst hij; exact ⟨v, World.cell?_setCell_same w' _ v hu⟩
 ·exact ⟨u, by rw [World.cell?_setCell_other _ _ _ _ (by simp <;> omega)]; exact hu⟩
theorem StmS.grown {v : Value} {n : Nat} {xs : List Nat} (h : StmS w v0 v1 w') (hown : Own w' (w.heap.size + 2) v n xs) (hg : w'.grownBy w2 v.ownBlock) : StmS w v0 v1 w2 := by
 obtain ⟨h1, h2, h3, h4⟩ := h
 have hk : Below (w.heap.size + 2) w' w2 := (Below.refl _ w').grown hg (by omega) (fun k hk => (hown.2.lt k hk).1)
 have hc : ∀ b o, b < w.heap.size + 2 → w2.cell? ⟨b, o, none⟩ = w'.cell? ⟨b, o, none⟩ := fun b o hb => hk.cell (p := ⟨b, o, none⟩) hb
 have hfz : ∀ b o, b < w.heap.size + 2 → w2.frozen? ⟨b, o, none⟩ = w'.frozen? ⟨b, o, none⟩ := fun b o hb => hk.frozen (p := ⟨b, o, none⟩) hb
 refine ⟨h1.trans (hk.mono (by omega)), ⟨Nat.lt_of_lt_of_le h2.1 hk.size, fun j u hu => (hc _ _ (by omega)).trans (h2.2.1 j u hu), fun j hj => (hfz _ _ (by omega)).trans (h2.2.2 j hj)⟩, Nat.lt_of_lt_of_le h3 hk.size, fun j hj => ?_⟩
 obtain ⟨⟨v, hv⟩, hf⟩ := h4 j hj
 exact ⟨⟨v, (hc _ _ (by omega)).trans hv⟩, (hfz _ _ (by omega)).trans hf⟩
theorem StmS.c0 (h : StmS w v0 v1 w') : w'.cell? ⟨w.heap.size, 0, none⟩ = some v0 := h.2.1.two.2.1
theorem StmS.c1 (h : StmS w v0 v1 w') : w'.cell? ⟨w.heap.size, 1, none⟩ = some v1 := h.2.1.two.2.2.1
theorem StmS.r (h : StmS w v0 v1 w') (j : Nat) (hj : j < 2) : w'.cell? ⟨w.heap.size + 1, j, none⟩ = some (cellV w' (w.heap.size + 1) j) := by
 obtain ⟨⟨v, hv⟩, _⟩ := h.2.2.2 j hj
 unfold cellV
 rw [hv]; rfl
theorem StmS.f (h : StmS w v0 v1 w') (j : Nat) (hj : j < 2) : w'.frozen? ⟨w.heap.size + 1, j, none⟩ = false := (h.2.2.2 j hj).2
end
theorem Own.none (w : World) (base : Nat) : Own w base (.slice none 0 0) 0 [] := ⟨fun z hz => by simp at hz, World.ownsRow_nil w _ _ _⟩
def CutRel (w : World) (v0 v1 : Value) (xs : List Nat) (c : Nat) (wr : World) (u : Value) (k : Nat) : Prop := Own wr (w.heap.size + 2) u (min k c) (xs.take (min k c)) ∧ StmS w v0 v1 wr
theorem CutRel.more {w wr w' : World} {v0 v1 u u' : Value} {xs : List Nat} {c k : Nat} {o : Obj} (h : CutRel w v0 v1 xs c wr u k) (hk : k < c) (hown : Own w' (w.heap.size + 2) u' (k + 1) (xs.take (k + 1))) (hg : (wr.alloc o).grownBy w' u.ownBlock) : CutRel w v0 v1 xs c w' u' (k + 1) :=
 ⟨by rw [Nat.min_eq_left (by omega)]; exact hown, (h.2.alloc o).grown (h.1.alloc o) hg⟩
end Go.Proofs.YtibpfkcackdbgaaGreatDoor
