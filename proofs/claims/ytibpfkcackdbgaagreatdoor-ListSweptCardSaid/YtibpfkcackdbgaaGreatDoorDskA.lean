/- DskA -/
import Derived.Test.YtibpfkcackdbgaaGreatDoorDisks
import Derived.Test.YtibpfkcackdbgaaGreatDoorStrA
import Derived.Deep.RegionHeld3
namespace Go.Proofs.YtibpfkcackdbgaaGreatDoor
open Go.ChangeShapes Go.WideShapes Go.ChangeAt Go.RowKit
set_option linter.unusedVariables false
set_option maxRecDepth 100000
def Stm.app (x : Stm) (ys : List Nat) : Stm := ⟨x.bytes ++ ys, x.synced⟩
def Stm.syn (x : Stm) : Stm := ⟨x.bytes, (x.bytes.length : Int)⟩
def Stm.cutN (x : Stm) (more : Int) : Nat := YtibpfkcackdbgaaGreatDoor.cutN x.synced.toNat x.bytes.length more
def Stm.cut (x : Stm) (more : Int) : Stm := ⟨x.bytes.take (x.cutN more), (x.cutN more : Int)⟩
def StmPostS (w : World) (A0 : Option Addr) (l0 : Nat) (y : Stm) (e : Ending) (w' : World) : Prop :=
 ∃ A c, e = .returned (.agg #[.slice A y.bytes.length c, .int .i64 y.synced]) ∧ y.bytes.length ≤ c ∧ AtB w' A y.bytes.length y.bytes ∧ Below w.heap.size w w' ∧ (0 < y.bytes.length → Nigh w A0 l0 A)
theorem appendS_at (A : Option Addr) (x : Stm) (cap : Nat) (hl : x.bytes.length ≤ cap) (B : Option Addr) (m c : Nat) (ys : List Nat) (hb : x.bytes.length + m ≤ 140737488355328) (w : World) (hA : Hid (AtB w A x.bytes.length x.bytes)) (hB : Hid (AtB w B m ys)) :
  Calls Tryz.prog 167 #[.agg #[.slice A x.bytes.length cap, .int .i64 x.synced], .slice B m c] w (StmPostS w A x.bytes.length (x.app ys)) := by
 have hy := hB.out.1
 refine (append_atN A x.bytes.length cap x.bytes hl x.synced B m c ys hb w hA hB).mono ?_
 rintro e w' ⟨A', c', rfl, h2, h3, h4, h5⟩
 have hz : (x.app ys).bytes.length = x.bytes.length + m := by simp [Stm.app, hy]
 exact ⟨A', c', by rw [hz]; rfl, by rw [hz]; exact h2, by rw [hz]; exact h3, h4, by rw [hz]; exact h5⟩
theorem nigh_self (w : World) (A : Option Addr) (n : Nat) : 0 < n → Nigh w A n A := fun h b off e => .inl ⟨h, off, e⟩
theorem syncS_at (A : Option Addr) (x : Stm) (cap : Nat) (hl : x.bytes.length ≤ cap) (w : World) (hA : Hid (AtB w A x.bytes.length x.bytes)) :
  Calls Tryz.prog 168 #[.agg #[.slice A x.bytes.length cap, .int .i64 x.synced]] w (StmPostS w A x.bytes.length x.syn) := by
 refine (sync_at A x.bytes.length cap hl x.synced w).mono ?_
 rintro e w' ⟨rfl, hb⟩
 exact ⟨A, x.bytes.length, rfl, Nat.le_refl _, AtB.later hA hb, hb, nigh_self w A _⟩
def DskPostC (w : World) (r : Int) (A B : Option Addr) (n m : Nat) (l0 l1 : List Stm) (code : Int) (e : Ending) (w' : World) : Prop :=
 ∃ A' a' B' b', e = .returned (.tuple #[.agg #[.int .u64 r, .slice A' n a', .slice B' m b'], .int .i64 code]) ∧ StmsAt w' A' n l0 ∧ StmsAt w' B' m l1 ∧ Below w.heap.size w w' ∧
  ∀ P : Nat → Prop, (∀ b, w.heap.size ≤ b → P b) → OffS P w A n → OffS P w B m → OffS P w' A' n ∧ OffS P w' B' m
theorem StmsAt.set3 {w : World} {a : Option Addr} {n : Nat} {l : List Stm} (hS : StmsAt w a n l) (b : Nat) (v0 v1 v2 : Value) (h : OffS (fun k => k ≠ b) w a n) :
  StmsAt (((w.setCell ⟨b, 0, none⟩ v0).setCell ⟨b, 1, none⟩ v1).setCell ⟨b, 2, none⟩ v2) a n l ∧ ∀ P : Nat → Prop, OffS P w a n → OffS P (((w.setCell ⟨b, 0, none⟩ v0).setCell ⟨b, 1, none⟩ v1).setCell ⟨b, 2, none⟩ v2) a n := by
 have o1 := h.apart b 0 v0 h
 have o2 := o1.apart b 1 v1 o1
 exact ⟨((hS.apart b 0 v0 h).apart b 1 v1 o1).apart b 2 v2 o2, fun P hP => ((hP.apart b 0 v0 h).apart b 1 v1 o1).apart b 2 v2 o2⟩
theorem StmsAt.fresh {w : World} {a : Option Addr} {n : Nat} {l : List Stm} (hS : StmsAt w a n l) (b : Nat) (hb : w.heap.size ≤ b) : OffS (fun k => k ≠ b) w a n := hS.old.mono (fun k hk => by omega)
theorem nigh_off {P : Nat → Prop} {w w2 : World} {a : Option Addr} {n : Nat} {l : List Stm} (hS : StmsAt w a n l) (hP : OffS P w a n) (hF : ∀ b, w2.heap.size ≤ b → P b) {b off j : Nat} {A0 C : Option Addr} {x : Stm} {cap k : Nat} {w3 : World} {ys : List Nat}
  (ea : a = some ⟨b, off, none⟩) (hj : j < n) (hc : w.cell? ⟨b, off + j * 2, none⟩ = some (.slice A0 x.bytes.length cap)) (hC : AtB w3 C k ys) (hN : 0 < k → Nigh w2 A0 x.bytes.length C) : ∀ ad, C = some ad → 0 < k → P ad.block := by
 intro ad e hk
 obtain ⟨b', o', e', _⟩ := hC.2.2.2 hk
 rw [e] at e'
 cases e'
 rcases hN hk b' o' e with ⟨h1, o2, h2⟩ | h1
 ·subst h2
  exact (hP b off ea (by omega)).2 j hj ⟨b', o2, none⟩ _ _ hc h1
 ·exact hF _ h1
theorem DskPost.done {w w2 w3 w4 : World} {r : Int} {A B C : Option Addr} {n m k : Nat} {q0 q1 l0 l1 : List Stm} {e : Ending} (h0 : StmsAt w A n q0) (h1 : StmsAt w B m q1) (hb2 : Below w.heap.size w w2) (hb3 : Below w2.heap.size w2 w3)
  (hC : ∀ P : Nat → Prop, (∀ b, w2.heap.size ≤ b → P b) → OffS P w A n → OffS P w B m → ∀ ad, C = some ad → 0 < k → P ad.block) (rb : Nat) (hrb : w.heap.size ≤ rb) (hrb2 : rb < w2.heap.size) (code : Int) (h : DskPost w3 r A B n m C k l0 l1 e w4) :
  ∃ A' a' B' b', e = .returned (.agg #[.int .u64 r, .slice A' n a', .slice B' m b']) ∧ Below w3.heap.size w3 w4 ∧ ∀ w5, w5.heap = (((w4.setCell ⟨rb, 0, none⟩ (.int .u64 r)).setCell ⟨rb, 1, none⟩ (.slice A' n a')).setCell ⟨rb, 2, none⟩ (.slice B' m b')).heap → Below w.heap.size w w5 →
   DskPostC w r A B n m l0 l1 code (.returned (.tuple #[.agg #[.int .u64 r, .slice A' n a', .slice B' m b'], .int .i64 code])) w5 := by
 obtain ⟨A', a', B', b', rfl, s0, s1, hb4, hP⟩ := h
 have hb3' : Below w.heap.size w w3 := hb2.trans (hb3.mono hb2.size)
 refine ⟨A', a', B', b', rfl, hb4, fun w5 hw5 hb5 => ?_⟩
 have hne := hP (fun b => b ≠ rb) (fun b hb => by have := hb3.size; omega) ((h0.fresh rb hrb).later h0 hb3') ((h1.fresh rb hrb).later h1 hb3') (hC _ (fun b hb => by omega) (h0.fresh rb hrb) (h1.fresh rb hrb))
 obtain ⟨t0, u0⟩ := s0.set3 rb (.int .u64 r) (.slice A' n a') (.slice B' m b') hne.1
 obtain ⟨t1, u1⟩ := s1.set3 rb (.int .u64 r) (.slice A' n a') (.slice B' m b') hne.2
 have hc : ∀ p, w5.cell? p = (((w4.setCell ⟨rb, 0, none⟩ (.int .u64 r)).setCell ⟨rb, 1, none⟩ (.slice A' n a')).setCell ⟨rb, 2, none⟩ (.slice B' m b')).cell? p := fun p => by unfold World.cell?; rw [hw5]
 refine ⟨A', a', B', b', rfl, t0.same hw5.symm, t1.same hw5.symm, hb5, fun P hF hA hB => ?_⟩
 have hPP := hP P (fun b hb => hF b (by have := hb3'.size; omega)) (hA.later h0 hb3') (hB.later h1 hb3') (hC P (fun b hb => hF b (by have := hb2.size; omega)) hA hB)
 have e1 := u0 P hPP.1
 have e2 := u1 P hPP.2
 exact ⟨fun b off e hn => by
  obtain ⟨k1, k2⟩ := e1 b off e hn
  exact ⟨k1, fun j hj ad len c hcc hl => k2 j hj ad len c (by rw [← hc]; exact hcc) hl⟩, fun b off e hn => by
  obtain ⟨k1, k2⟩ := e2 b off e hn
  exact ⟨k1, fun j hj ad len c hcc hl => k2 j hj ad len c (by rw [← hc]; exact hcc) hl⟩⟩
def DskS (w : World) (v0 v1 v2 : Value) (w' : World) : Prop :=
 Below w.heap.size w w' ∧ VarAt w' w.heap.size [v0, v1, v2] ∧ w.heap.size + 1 < w'.heap.size ∧ ∀ j, j < 3 → (∃ v, w'.cell? ⟨w.heap.size + 1, j, none⟩ = some v) ∧ w'.frozen? ⟨w.heap.size + 1, j, none⟩ = false
section
variable {w w' w2 : World} {v0 v1 v2 : Value}
theorem DskS.made (w : World) (a b c d e f : Value) (t : TypeId) : DskS w a b c ((w.alloc (.cells #[a, b, c] t)).alloc (.cells #[d, e, f] t)) := by
 have h := (VarAt.three1 w d e f (.cells #[a, b, c] t) t).three
 refine ⟨below_pair w _ _, VarAt.three0 w a b c _ t, h.1, fun j hj => ?_⟩
 obtain rfl | rfl | rfl : j = 0 ∨ j = 1 ∨ j = 2 := by omega
 ·exact ⟨⟨d, h.2.1⟩, h.2.2.2.2.1⟩
 ·exact ⟨⟨e, h.2.2.1⟩, h.2.2.2.2.2.1⟩
 ·exact ⟨⟨f, h.2.2.2.1⟩, h.2.2.2.2.2.2⟩
theorem DskS.later (h : DskS w v0 v1 v2 w') (hb : Below w'.heap.size w' w2) : DskS w v0 v1 v2 w2 := by
 obtain ⟨h1, h2, h3, h4⟩ := h
 refine ⟨h1.trans (hb.mono h1.size), h2.below hb, Nat.lt_of_lt_of_le h3 hb.size, fun j hj => ?_⟩
 obtain ⟨⟨v, hv⟩, hf⟩ := h4 j hj
 exact ⟨⟨v, (keptCells hb _ _ h3).trans hv⟩, (keptFrozen hb _ _ h3).trans hf⟩
theorem DskS.alloc (h : DskS w v0 v1 v2 w') (o : Obj) : DskS w v0 v1 v2 (w'.alloc o) := h.later ((Below.refl _ _).alloc (Nat.le_refl _) o)
theorem DskS.drew (h : DskS w v0 v1 v2 w') : DskS w v0 v1 v2 w'.drew := h.later (Below.drew (Below.refl _ _))
theorem DskS.res (h : DskS w v0 v1 v2 w') (j : Nat) (v : Value) : DskS w v0 v1 v2 (w'.setCell ⟨w.heap.size + 1, j, none⟩ v) := by
 obtain ⟨h1, h2, h3, h4⟩ := h
 refine ⟨below_set1 (by omega) v h1, h2.apart j v (by omega), by simpa using h3, fun i hi => ?_⟩
 obtain ⟨⟨u, hu⟩, hf⟩ := h4 i hi
 refine ⟨?_, by rw [World.frozen?_setCell]; exact hf⟩
 by_cases hij : i = j
 ·subst hij; exact ⟨v, World.cell?_setCell_same w' _ v hu⟩
 ·exact ⟨u, by rw [World.cell?_setCell_other _ _ _ _ (by simp <;> omega)]; exact hu⟩
theorem DskS.c0 (h : DskS w v0 v1 v2 w') : w'.cell? ⟨w.heap.size, 0, none⟩ = some v0 := h.2.1.three.2.1
theorem DskS.c1 (h : DskS w v0 v1 v2 w') : w'.cell? ⟨w.heap.size, 1, none⟩ = some v1 := h.2.1.three.2.2.1
theorem DskS.c2 (h : DskS w v0 v1 v2 w') : w'.cell? ⟨w.heap.size, 2, none⟩ = some v2 := h.2.1.three.2.2.2.1
theorem DskS.r (h : DskS w v0 v1 v2 w') (j : Nat) (hj : j < 3) : w'.cell? ⟨w.heap.size + 1, j, none⟩ = some (cellV w' (w.heap.size + 1) j) := by
 obtain ⟨⟨v, hv⟩, _⟩ := h.2.2.2 j hj
 unfold cellV
 rw [hv]; rfl
theorem DskS.f (h : DskS w v0 v1 v2 w') (j : Nat) (hj : j < 3) : w'.frozen? ⟨w.heap.size + 1, j, none⟩ = false := (h.2.2.2 j hj).2
theorem DskS.bel (h : DskS w v0 v1 v2 w') : Below w.heap.size w w' := h.1
theorem DskS.room (h : DskS w v0 v1 v2 w') : w.heap.size + 1 < w'.heap.size := h.2.2.1
theorem DskS.stms (h : DskS w v0 v1 v2 w') {a : Option Addr} {n : Nat} {l : List Stm} (hS : StmsAt w a n l) : StmsAt w' a n l := hS.later h.1
theorem DskS.cell (h : DskS w v0 v1 v2 w') {b o : Nat} {v : Value} (hb : b < w.heap.size) (hc : w.cell? ⟨b, o, none⟩ = some v) : w'.cell? ⟨b, o, none⟩ = some v := (h.1.cell (p := ⟨b, o, none⟩) hb).trans hc
end
end Go.Proofs.YtibpfkcackdbgaaGreatDoor
namespace Go.Proofs.YtibpfkcackdbgaaGreatDoor
open Go.ChangeShapes Go.WideShapes Go.ChangeAt Go.RowKit
set_option linter.unusedVariables false
set_option maxRecDepth 100000
set_option maxHeartbeats 2000000 in
theorem dskAppend0_at (r : Int) (A : Option Addr) (n a : Nat) (B : Option Addr) (m b : Nat) (l0 l1 : List Stm) (k : Nat) (hk : k < n) (hn : n ≤ 1000000) (x : Stm) (hx : l0[k]? = some x) (C : Option Addr) (c j : Nat) (ys : List Nat) (hxy : x.bytes.length + j ≤ 140737488355328) (w : World) (h0 : Hid (StmsAt w A n l0)) (h1 : Hid (StmsAt w B m l1)) (hC : Hid (AtB w C j ys)) :
  Calls Tryz.prog 122 #[.agg #[.int .u64 r, .slice A n a, .slice B m b], .int .i64 0, .int .i64 (k : Int), .slice C j c] w (DskPostC w r A B n m (l0.set k (x.app ys)) l1 0) := by
 have HXY := Lib.hid hxy
 have HYS := Lib.hid hC.out.1
 clear hxy
 have HN := Lib.hid hn
 obtain ⟨x', g, off, A0, cap, hx', e0, hg, hg0, hg1, hlc, hlm, hat, hsy⟩ := h0.out.at_ k hk
 obtain rfl : x' = x := Option.some.inj (hx'.symm.trans hx)
 subst e0
 have HAT := Lib.hid hat
 have HLM := Lib.hid hlm
 have HSY := Lib.hid hsy
 have HG0 := Lib.hid hg0
 have HH := fun w => hasStream_any r (some ⟨g, off, none⟩) n a B m b 0 (k : Int) w
 rw [show hasB 0 (k : Int) n m = true by unfold hasB; rw [if_pos rfl, isB_nat hk]; rfl] at HH
 have hC0 : ∀ w', DskS w (.int .u64 r) (.slice (some ⟨g, off, none⟩) n a) (.slice B m b) w' → w'.cell? ⟨w.heap.size, 0, none⟩ = some (.int .u64 r) := fun w' h => h.c0
 have hC1 : ∀ w', DskS w (.int .u64 r) (.slice (some ⟨g, off, none⟩) n a) (.slice B m b) w' → w'.cell? ⟨w.heap.size, 1, none⟩ = some (.slice (some ⟨g, off, none⟩) n a) := fun w' h => h.c1
 have hC2 : ∀ w', DskS w (.int .u64 r) (.slice (some ⟨g, off, none⟩) n a) (.slice B m b) w' → w'.cell? ⟨w.heap.size, 2, none⟩ = some (.slice B m b) := fun w' h => h.c2
 have hD0 : ∀ w', DskS w (.int .u64 r) (.slice (some ⟨g, off, none⟩) n a) (.slice B m b) w' → w'.cell? ⟨g, off + k * 2, none⟩ = some (.slice A0 x'.bytes.length cap) := fun w' h => h.cell hg hg0
 have hD1 : ∀ w', DskS w (.int .u64 r) (.slice (some ⟨g, off, none⟩) n a) (.slice B m b) w' → w'.cell? ⟨g, off + k * 2 + 1, none⟩ = some (.int .i64 x'.synced) := fun w' h => h.cell hg hg1
 have hR0 : ∀ w', DskS w (.int .u64 r) (.slice (some ⟨g, off, none⟩) n a) (.slice B m b) w' → w'.cell? ⟨w.heap.size + 1, 0, none⟩ = some (cellV w' (w.heap.size + 1) 0) := fun w' h => h.r 0 (by omega)
 have hF0 : ∀ w', DskS w (.int .u64 r) (.slice (some ⟨g, off, none⟩) n a) (.slice B m b) w' → w'.frozen? ⟨w.heap.size + 1, 0, none⟩ = false := fun w' h => h.f 0 (by omega)
 have hR1 : ∀ w', DskS w (.int .u64 r) (.slice (some ⟨g, off, none⟩) n a) (.slice B m b) w' → w'.cell? ⟨w.heap.size + 1, 1, none⟩ = some (cellV w' (w.heap.size + 1) 1) := fun w' h => h.r 1 (by omega)
 have hF1 : ∀ w', DskS w (.int .u64 r) (.slice (some ⟨g, off, none⟩) n a) (.slice B m b) w' → w'.frozen? ⟨w.heap.size + 1, 1, none⟩ = false := fun w' h => h.f 1 (by omega)
 have hR2 : ∀ w', DskS w (.int .u64 r) (.slice (some ⟨g, off, none⟩) n a) (.slice B m b) w' → w'.cell? ⟨w.heap.size + 1, 2, none⟩ = some (cellV w' (w.heap.size + 1) 2) := fun w' h => h.r 2 (by omega)
 have hF2 : ∀ w', DskS w (.int .u64 r) (.slice (some ⟨g, off, none⟩) n a) (.slice B m b) w' → w'.frozen? ⟨w.heap.size + 1, 2, none⟩ = false := fun w' h => h.f 2 (by omega)
 clear hg0 hg1 hat hlm hsy hx hx' hn hg
 go_enter Tryz.func122, Tryz.ntmps122
 go_wp2_with fail
 (with_reducible refine (HH _).mono ?_)
 rintro e w2 ⟨rfl, hb⟩
 have hS0 := (DskS.made w (.int .u64 r) (.slice (some ⟨g, off, none⟩) n a) (.slice B m b) (.int .u64 0) (.slice none 0 0) (.slice none 0 0) 31).later hb
 clear hb HH
 go_wp2_with fail
 first | (go_region_held3 (fun w' => DskS w (.int .u64 r) (.slice (some ⟨g, off, none⟩) n a) (.slice B m b) w') (first | assumption | (with_reducible refine DskS.res ?_ _ _; with_reducible refine DskS.res ?_ _ _; with_reducible refine DskS.res ?_ _ _; with_reducible assumption) | (exact DskS.drew (by assumption)))
  (first
   | (go_at_call 167; (with_reducible refine (appendS_at A0 x' cap hlc C j c ys HXY.out _ (Lib.hid (AtB.below HAT.out (DskS.bel (by assumption)) (Nat.le_refl _))) (Lib.hid (AtB.below hC.out (DskS.bel (by assumption)) (Nat.le_refl _)))).mono ?_); rintro e w3 ⟨C3, c3, rfl, hc3, hat3, hb3, hni3⟩; have hS3 := DskS.later (by assumption : DskS w (.int .u64 r) (.slice (some ⟨g, off, none⟩) n a) (.slice B m b) _) hb3; have HC3 := Lib.hid hc3; have HAT3 := Lib.hid hat3; have HB3 := Lib.hid hb3; have HF := Lib.hid (fun w3' e w4 hb3' h => DskPost.done (w3 := w3') (e := e) (w4 := w4) (r := r) (l0 := (l0.set k (x'.app ys))) (l1 := l1) h0.out h1.out (DskS.bel (by assumption : DskS w (.int .u64 r) (.slice (some ⟨g, off, none⟩) n a) (.slice B m b) _)) hb3' (fun P hF hA hB => nigh_off h0.out hA hF rfl hk HG0.out hat3 hni3) (w.heap.size + 1) (by omega) (DskS.room (by assumption : DskS w (.int .u64 r) (.slice (some ⟨g, off, none⟩) n a) (.slice B m b) _)) 0 h); clear hc3 hat3 hb3 hni3)
   | (go_at_call 166; (with_reducible refine (with0_at r (some ⟨g, off, none⟩) n a B m b l0 l1 k hk HN.out C3 c3 (x'.app ys) HC3.out (by have := HXY.out; have := HYS.out; simp [Stm.app]; omega) (by have := HSY.out; simp only [Stm.app]; exact this) _ (Lib.hid (DskS.stms (by assumption : DskS w (.int .u64 r) (.slice (some ⟨g, off, none⟩) n a) (.slice B m b) _) h0.out)) (Lib.hid (DskS.stms (by assumption : DskS w (.int .u64 r) (.slice (some ⟨g, off, none⟩) n a) (.slice B m b) _) h1.out)) (Lib.hid (AtB.below HAT3.out (by first | exact Below.refl _ _ | exact Below.drew (Below.refl _ _)) (Nat.le_refl _)))).mono ?_); rintro e w4 h; obtain ⟨A', a', B', b', rfl, hb4, hfin⟩ := HF.out _ _ _ (by first | exact HB3.out | exact Below.drew HB3.out) h; have hS4 := DskS.later (by assumption : DskS w (.int .u64 r) (.slice (some ⟨g, off, none⟩) n a) (.slice B m b) _) hb4; have HFIN := Lib.hid hfin; clear hfin hb4 h))) | fail
 have hS9 := (by assumption : DskS w (.int .u64 r) (.slice (some ⟨g, off, none⟩) n a) (.slice B m b) (((w4.setCell ⟨w.heap.size + 1, 0, none⟩ (.int .u64 r)).setCell ⟨w.heap.size + 1, 1, none⟩ (.slice A' n a')).setCell ⟨w.heap.size + 1, 2, none⟩ (.slice B' m b')))
 have HP := Lib.hid (HFIN.out _ rfl hS9.1)
 have r0 := hR0 w4 hS4
 have r1 := hR1 w4 hS4
 have r2 := hR2 w4 hS4
 clear hS9 HFIN HF hC0 hC1 hC2 hD0 hD1 hR0 hR1 hR2 hF0 hF1 hF2
 go_wp2_with fail
 exact bodyPost_ret (v := .tuple #[.agg #[.int .u64 r, .slice A' n a', .slice B' m b'], .int .i64 0]) (by simp [results, Tryz.results122, go_sem, r0, r1, r2]) rfl HP.out
set_option maxHeartbeats 2000000 in
theorem dskSync0_at (r : Int) (A : Option Addr) (n a : Nat) (B : Option Addr) (m b : Nat) (l0 l1 : List Stm) (k : Nat) (hk : k < n) (hn : n ≤ 1000000) (x : Stm) (hx : l0[k]? = some x) (w : World) (h0 : Hid (StmsAt w A n l0)) (h1 : Hid (StmsAt w B m l1)) :
  Calls Tryz.prog 123 #[.agg #[.int .u64 r, .slice A n a, .slice B m b], .int .i64 0, .int .i64 (k : Int)] w (DskPostC w r A B n m (l0.set k x.syn) l1 0) := by
 have HN := Lib.hid hn
 obtain ⟨x', g, off, A0, cap, hx', e0, hg, hg0, hg1, hlc, hlm, hat, hsy⟩ := h0.out.at_ k hk
 obtain rfl : x' = x := Option.some.inj (hx'.symm.trans hx)
 subst e0
 have HAT := Lib.hid hat
 have HLM := Lib.hid hlm
 have HSY := Lib.hid hsy
 have HG0 := Lib.hid hg0
 have HH := fun w => hasStream_any r (some ⟨g, off, none⟩) n a B m b 0 (k : Int) w
 rw [show hasB 0 (k : Int) n m = true by unfold hasB; rw [if_pos rfl, isB_nat hk]; rfl] at HH
 have hC0 : ∀ w', DskS w (.int .u64 r) (.slice (some ⟨g, off, none⟩) n a) (.slice B m b) w' → w'.cell? ⟨w.heap.size, 0, none⟩ = some (.int .u64 r) := fun w' h => h.c0
 have hC1 : ∀ w', DskS w (.int .u64 r) (.slice (some ⟨g, off, none⟩) n a) (.slice B m b) w' → w'.cell? ⟨w.heap.size, 1, none⟩ = some (.slice (some ⟨g, off, none⟩) n a) := fun w' h => h.c1
 have hC2 : ∀ w', DskS w (.int .u64 r) (.slice (some ⟨g, off, none⟩) n a) (.slice B m b) w' → w'.cell? ⟨w.heap.size, 2, none⟩ = some (.slice B m b) := fun w' h => h.c2
 have hD0 : ∀ w', DskS w (.int .u64 r) (.slice (some ⟨g, off, none⟩) n a) (.slice B m b) w' → w'.cell? ⟨g, off + k * 2, none⟩ = some (.slice A0 x'.bytes.length cap) := fun w' h => h.cell hg hg0
 have hD1 : ∀ w', DskS w (.int .u64 r) (.slice (some ⟨g, off, none⟩) n a) (.slice B m b) w' → w'.cell? ⟨g, off + k * 2 + 1, none⟩ = some (.int .i64 x'.synced) := fun w' h => h.cell hg hg1
 have hR0 : ∀ w', DskS w (.int .u64 r) (.slice (some ⟨g, off, none⟩) n a) (.slice B m b) w' → w'.cell? ⟨w.heap.size + 1, 0, none⟩ = some (cellV w' (w.heap.size + 1) 0) := fun w' h => h.r 0 (by omega)
 have hF0 : ∀ w', DskS w (.int .u64 r) (.slice (some ⟨g, off, none⟩) n a) (.slice B m b) w' → w'.frozen? ⟨w.heap.size + 1, 0, none⟩ = false := fun w' h => h.f 0 (by omega)
 have hR1 : ∀ w', DskS w (.int .u64 r) (.slice (some ⟨g, off, none⟩) n a) (.slice B m b) w' → w'.cell? ⟨w.heap.size + 1, 1, none⟩ = some (cellV w' (w.heap.size + 1) 1) := fun w' h => h.r 1 (by omega)
 have hF1 : ∀ w', DskS w (.int .u64 r) (.slice (some ⟨g, off, none⟩) n a) (.slice B m b) w' → w'.frozen? ⟨w.heap.size + 1, 1, none⟩ = false := fun w' h => h.f 1 (by omega)
 have hR2 : ∀ w', DskS w (.int .u64 r) (.slice (some ⟨g, off, none⟩) n a) (.slice B m b) w' → w'.cell? ⟨w.heap.size + 1, 2, none⟩ = some (cellV w' (w.heap.size + 1) 2) := fun w' h => h.r 2 (by omega)
 have hF2 : ∀ w', DskS w (.int .u64 r) (.slice (some ⟨g, off, none⟩) n a) (.slice B m b) w' → w'.frozen? ⟨w.heap.size + 1, 2, none⟩ = false := fun w' h => h.f 2 (by omega)
 clear hg0 hg1 hat hlm hsy hx hx' hn hg
 go_enter Tryz.func123, Tryz.ntmps123
 go_wp2_with fail
 (with_reducible refine (HH _).mono ?_)
 rintro e w2 ⟨rfl, hb⟩
 have hS0 := (DskS.made w (.int .u64 r) (.slice (some ⟨g, off, none⟩) n a) (.slice B m b) (.int .u64 0) (.slice none 0 0) (.slice none 0 0) 31).later hb
 clear hb HH
 go_wp2_with fail
 first | (go_region_held3 (fun w' => DskS w (.int .u64 r) (.slice (some ⟨g, off, none⟩) n a) (.slice B m b) w') (first | assumption | (with_reducible refine DskS.res ?_ _ _; with_reducible refine DskS.res ?_ _ _; with_reducible refine DskS.res ?_ _ _; with_reducible assumption) | (exact DskS.drew (by assumption)))
  (first
   | (go_at_call 168; (with_reducible refine (syncS_at A0 x' cap hlc _ (Lib.hid (AtB.below HAT.out (DskS.bel (by assumption)) (Nat.le_refl _)))).mono ?_); rintro e w3 ⟨C3, c3, rfl, hc3, hat3, hb3, hni3⟩; have hS3 := DskS.later (by assumption : DskS w (.int .u64 r) (.slice (some ⟨g, off, none⟩) n a) (.slice B m b) _) hb3; have HC3 := Lib.hid hc3; have HAT3 := Lib.hid hat3; have HB3 := Lib.hid hb3; have HF := Lib.hid (fun w3' e w4 hb3' h => DskPost.done (w3 := w3') (e := e) (w4 := w4) (r := r) (l0 := (l0.set k x'.syn)) (l1 := l1) h0.out h1.out (DskS.bel (by assumption : DskS w (.int .u64 r) (.slice (some ⟨g, off, none⟩) n a) (.slice B m b) _)) hb3' (fun P hF hA hB => nigh_off h0.out hA hF rfl hk HG0.out hat3 hni3) (w.heap.size + 1) (by omega) (DskS.room (by assumption : DskS w (.int .u64 r) (.slice (some ⟨g, off, none⟩) n a) (.slice B m b) _)) 0 h); clear hc3 hat3 hb3 hni3)
   | (go_at_call 166; (with_reducible refine (with0_at r (some ⟨g, off, none⟩) n a B m b l0 l1 k hk HN.out C3 c3 x'.syn HC3.out (by have := HLM.out; simp only [Stm.syn]; omega) (by have := HLM.out; simp only [Stm.syn]; omega) _ (Lib.hid (DskS.stms (by assumption : DskS w (.int .u64 r) (.slice (some ⟨g, off, none⟩) n a) (.slice B m b) _) h0.out)) (Lib.hid (DskS.stms (by assumption : DskS w (.int .u64 r) (.slice (some ⟨g, off, none⟩) n a) (.slice B m b) _) h1.out)) (Lib.hid (AtB.below HAT3.out (by first | exact Below.refl _ _ | exact Below.drew (Below.refl _ _)) (Nat.le_refl _)))).mono ?_); rintro e w4 h; obtain ⟨A', a', B', b', rfl, hb4, hfin⟩ := HF.out _ _ _ (by first | exact HB3.out | exact Below.drew HB3.out) h; have hS4 := DskS.later (by assumption : DskS w (.int .u64 r) (.slice (some ⟨g, off, none⟩) n a) (.slice B m b) _) hb4; have HFIN := Lib.hid hfin; clear hfin hb4 h))) | fail
 have hS9 := (by assumption : DskS w (.int .u64 r) (.slice (some ⟨g, off, none⟩) n a) (.slice B m b) (((w4.setCell ⟨w.heap.size + 1, 0, none⟩ (.int .u64 r)).setCell ⟨w.heap.size + 1, 1, none⟩ (.slice A' n a')).setCell ⟨w.heap.size + 1, 2, none⟩ (.slice B' m b')))
 have HP := Lib.hid (HFIN.out _ rfl hS9.1)
 have r0 := hR0 w4 hS4
 have r1 := hR1 w4 hS4
 have r2 := hR2 w4 hS4
 clear hS9 HFIN HF hC0 hC1 hC2 hD0 hD1 hR0 hR1 hR2 hF0 hF1 hF2
 go_wp2_with fail
 exact bodyPost_ret (v := .tuple #[.agg #[.int .u64 r, .slice A' n a', .slice B' m b'], .int .i64 0]) (by simp [results, Tryz.results123, go_sem, r0, r1, r2]) rfl HP.out
end Go.Proofs.YtibpfkcackdbgaaGreatDoor
namespace Go.Proofs.YtibpfkcackdbgaaGreatDoor
open Go.ChangeShapes Go.WideShapes Go.ChangeAt Go.RowKit
set_option linter.unusedVariables false
set_option maxRecDepth 100000
theorem make_stms (n : Nat) (hn : n ≤ 1000000) (W : World) : (Instr.makeSlice 28 (.int .i64 (n : Int)) (.int .i64 (n : Int))).run Tryz.prog W = .ok (.slice (some ⟨W.heap.size, 0, none⟩) n n) (W.alloc (.cells (madeCells #[.slice none 0 0, .int .i64 0] (n * 2)) 93)) := by
 obtain ⟨i, hi, hz0, hz1, hz2⟩ := info_parts infoM
 have h := run_make (P := Tryz.prog) W 28 93 i _ Tryz.underlying28 hi hz0 .i64 .i64 (n : Int) (n : Int) (by omega) (Int.le_refl _) (by rw [hz2]; omega) (by omega)
 rw [hz1] at h
 exact h
def zerosS (n : Nat) : List Stm := List.replicate n Stm.zero
def ZRow (w : World) (g n : Nat) : Prop := StmsAt w (some ⟨g, 0, none⟩) n (zerosS n) ∧ ∀ P : Nat → Prop, P g → OffS P w (some ⟨g, 0, none⟩) n
theorem ZRow.made (w : World) (n : Nat) (hn : n ≤ 1000000) : ZRow (w.alloc (.cells (madeCells #[.slice none 0 0, .int .i64 0] (n * 2)) 93)) w.heap.size n := by
 have hown := World.ownsRow_lit (e := 93) (size := 2) (base := w.heap.size) w (madeCells #[.slice none 0 0, .int .i64 0] (n * 2)) n (Nat.le_refl _) (by unfold maxLen; omega) (by simp [madeCells])
 obtain ⟨a, cap, e, _, hS⟩ := (RawS.zeros w n).at_ hown ((Below.refl _ _).alloc (Nat.le_refl _) _) (by omega)
 have ea : a = some ⟨w.heap.size, 0, none⟩ := by simp at e; exact e.1.symm
 subst ea
 refine ⟨hS, fun P hP b off e2 hn2 => ?_⟩
 simp only [Option.some.injEq, Addr.mk.injEq, and_true] at e2
 obtain ⟨rfl, rfl⟩ := e2
 refine ⟨hP, fun j hj ad len c hc hl => ?_⟩
 have h1 := hown.cellAt (j * 2) (by omega)
 rw [Nat.zero_add, h1, madeM, List.getElem?_map, List.getElem?_range (by omega)] at hc
 simp at hc
theorem ZRow.later {w w' : World} {g n : Nat} (h : ZRow w g n) (hb : Below w.heap.size w w') : ZRow w' g n := ⟨h.1.later hb, fun P hP => (h.2 P hP).later h.1 hb⟩
theorem ZRow.apart {w : World} {g n : Nat} (h : ZRow w g n) (b j : Nat) (v : Value) (hne : g ≠ b) : ZRow (w.setCell ⟨b, j, none⟩ v) g n := ⟨h.1.apart b j v (h.2 _ hne), fun P hP => (h.2 P hP).apart b j v (h.2 _ hne)⟩
theorem DskPostC.zeros {w w' : World} {g0 g1 n : Nat} (h0 : w.heap.size ≤ g0) (h1 : w.heap.size ≤ g1) (z0 : ZRow w' g0 n) (z1 : ZRow w' g1 n) (hb : Below w.heap.size w w') :
  DskPostC w 0 none none n n (zerosS n) (zerosS n) 0 (.returned (.tuple #[.agg #[.int .u64 0, .slice (some ⟨g0, 0, none⟩) n n, .slice (some ⟨g1, 0, none⟩) n n], .int .i64 0])) w' :=
 ⟨_, n, _, n, rfl, z0.1, z1.1, hb, fun P hF _ _ => ⟨z0.2 P (hF _ h0), z1.2 P (hF _ h1)⟩⟩
theorem DskPostC.none {w w' : World} (hb : Below w.heap.size w w') : DskPostC w 0 none none 0 0 [] [] 1 (.returned (.tuple #[.agg #[.int .u64 0, .slice Option.none 0 0, .slice Option.none 0 0], .int .i64 1])) w' :=
 ⟨Option.none, 0, Option.none, 0, rfl, StmsAt.nil _ _, StmsAt.nil _ _, hb, fun P _ _ _ => ⟨OffS.nil _ _ _, OffS.nil _ _ _⟩⟩
theorem ZRow.set3 {w : World} {g n : Nat} (h : ZRow w g n) (b : Nat) (v0 v1 v2 : Value) (hne : g ≠ b) : ZRow (((w.setCell ⟨b, 0, Option.none⟩ v0).setCell ⟨b, 1, Option.none⟩ v1).setCell ⟨b, 2, Option.none⟩ v2) g n :=
 ((h.apart b 0 v0 hne).apart b 1 v1 hne).apart b 2 v2 hne
set_option maxHeartbeats 1000000 in
theorem refNewD_yes (n : Nat) (h1 : 1 ≤ n) (h64 : n ≤ 64) (w : World) : Calls Tryz.prog 42 #[.int .i64 (n : Int)] w (DskPostC w 0 none none n n (zerosS n) (zerosS n) 0) := by
 have HMK := make_stms n (by omega)
 have d1 : decide ((n : Int) < 1) = false := decide_eq_false (by omega)
 have d2 : decide ((64 : Int) < (n : Int)) = false := decide_eq_false (by omega)
 have HN : Hid (n ≤ 1000000) := Lib.hid (by omega)
 clear h1 h64
 have HS := Lib.hid (DskS.made w (.int .u64 0) (.slice none 0 0) (.slice none 0 0) (.int .u64 0) (.slice none 0 0) (.slice none 0 0) 31)
 go_enter Tryz.func42, Tryz.ntmps42
 obtain ⟨wa, hwa⟩ : ∃ wa, ((w.alloc (.cells #[.int .u64 0, .slice none 0 0, .slice none 0 0] 31)).alloc (.cells #[.int .u64 0, .slice none 0 0, .slice none 0 0] 31)) = wa := ⟨_, rfl⟩
 rw [hwa] at HS
 have V0 : VarAt wa w.heap.size [.int .u64 0, .slice none 0 0, .slice none 0 0] := HS.out.2.1
 have V1 : VarAt wa (w.heap.size + 1) [.int .u64 0, .slice none 0 0, .slice none 0 0] := by rw [← hwa]; exact VarAt.three1 w _ _ _ _ _
 obtain ⟨g0, hg0⟩ : ∃ g0, g0 = wa.heap.size := ⟨_, rfl⟩
 obtain ⟨wb, hwb⟩ : ∃ wb, wa.alloc (.cells (madeCells #[.slice none 0 0, .int .i64 0] (n * 2)) 93) = wb := ⟨_, rfl⟩
 have M0 := HMK wa
 have Z0 := ZRow.made wa n HN.out
 have B0 : Below wa.heap.size wa wb := by rw [← hwb]; exact (Below.refl _ _).alloc (Nat.le_refl _) _
 rw [hwb] at M0 Z0
 rw [← hg0] at M0 Z0
 have V0b := V0.below B0
 have V1b := V1.below B0
 obtain ⟨wc, hwc⟩ : ∃ wc, wb.setCell ⟨w.heap.size + 1, 1, none⟩ (.slice (some ⟨g0, 0, none⟩) n n) = wc := ⟨_, rfl⟩
 have hG0 : w.heap.size + 2 ≤ g0 := by have := HS.out.2.2.1; omega
 have Z0c := Z0.apart (w.heap.size + 1) 1 (.slice (some ⟨g0, 0, none⟩) n n) (by omega)
 have V0c := V0b.apart (b' := w.heap.size + 1) 1 (.slice (some ⟨g0, 0, none⟩) n n) (by omega)
 have V1c := V1b.setAt 1 (.slice (some ⟨g0, 0, none⟩) n n) (by simp)
 have B0c := below_set1 (b := w.heap.size + 1) (j := 1) (by omega) (.slice (some ⟨g0, 0, none⟩) n n) (HS.out.1.trans (B0.mono HS.out.1.size))
 have s0c : (wb.setCell ⟨w.heap.size + 1, 1, none⟩ (.slice (some ⟨g0, 0, none⟩) n n)).heap.size = wb.heap.size := by simp
 rw [hwc] at Z0c V0c V1c B0c s0c
 obtain ⟨g1, hg1⟩ : ∃ g1, g1 = wc.heap.size := ⟨_, rfl⟩
 obtain ⟨wd, hwd⟩ : ∃ wd, wc.alloc (.cells (madeCells #[.slice none 0 0, .int .i64 0] (n * 2)) 93) = wd := ⟨_, rfl⟩
 have M1 := HMK wc
 have Z1 := ZRow.made wc n HN.out
 have B1 : Below wc.heap.size wc wd := by rw [← hwd]; exact (Below.refl _ _).alloc (Nat.le_refl _) _
 rw [hwd] at M1 Z1
 rw [← hg1] at M1 Z1
 have Z0d := Z0c.later B1
 have V0d := V0c.below B1
 have V1d := V1c.below B1
 have hG1 : w.heap.size + 2 ≤ g1 := by have := B0.size; omega
 obtain ⟨we, hwe⟩ : ∃ we, wd.setCell ⟨w.heap.size + 1, 2, none⟩ (.slice (some ⟨g1, 0, none⟩) n n) = we := ⟨_, rfl⟩
 have Z0e := Z0d.apart (w.heap.size + 1) 2 (.slice (some ⟨g1, 0, none⟩) n n) (by omega)
 have Z1e := Z1.apart (w.heap.size + 1) 2 (.slice (some ⟨g1, 0, none⟩) n n) (by omega)
 have V0e := V0d.apart (b' := w.heap.size + 1) 2 (.slice (some ⟨g1, 0, none⟩) n n) (by omega)
 have V1e := V1d.setAt 2 (.slice (some ⟨g1, 0, none⟩) n n) (by simp)
 have BE := below_set1 (b := w.heap.size + 1) (j := 2) (by omega) (.slice (some ⟨g1, 0, none⟩) n n) (B0c.trans (B1.mono B0c.size))
 rw [hwe] at Z0e Z1e V0e V1e BE
 have HZ0 := Lib.hid (Z0e.set3 w.heap.size (.int .u64 0) (.slice (some ⟨g0, 0, none⟩) n n) (.slice (some ⟨g1, 0, none⟩) n n) (by omega))
 have HZ1 := Lib.hid (Z1e.set3 w.heap.size (.int .u64 0) (.slice (some ⟨g0, 0, none⟩) n n) (.slice (some ⟨g1, 0, none⟩) n n) (by omega))
 have HBE := Lib.hid (below_setCells (b := w.heap.size) (Nat.le_refl _) [.int .u64 0, .slice (some ⟨g0, 0, none⟩) n n, .slice (some ⟨g1, 0, none⟩) n n] 0 _ BE)
 have HG0 := Lib.hid hG0
 have HG1 := Lib.hid hG1
 obtain ⟨b0, b1, b2, b3, b4, b5, b6⟩ := V1b.three
 obtain ⟨d0, d1', d2', d3, d4, d5, d6⟩ := V1d.three
 obtain ⟨e0, e1, e2, e3, e4, e5, e6⟩ := V1e.three
 obtain ⟨r, r0, r1, r2, f0, f1, f2⟩ := V0e.three
 clear HMK Z0 Z1 B0 V0 V1 V0b V1b Z0c V0c V1c B0c s0c B1 Z0d V0d V1d Z0e Z1e V0e V1e BE hG0 hG1 hg0 hg1
 go_wp2_with fail
 exact bodyPost_ret (v := .tuple #[.agg #[.int .u64 0, .slice (some ⟨g0, 0, none⟩) n n, .slice (some ⟨g1, 0, none⟩) n n], .int .i64 0]) (by simp [results, Tryz.results42, go_sem, r0, r1, r2]) rfl (DskPostC.zeros (by have := HG0.out; omega) (by have := HG1.out; omega) HZ0.out HZ1.out HBE.out)
def ZIf (c : Prop) (w wr : World) (n : Nat) (u : Value) : Prop := c → ∃ g, u = .slice (some ⟨g, 0, none⟩) n n ∧ w.heap.size + 2 ≤ g ∧ ZRow wr g n
def NewRelD (w : World) (n k : Nat) (wr : World) : Prop := ∃ u0 u1, VarAt wr w.heap.size [.int .u64 0, .slice none 0 0, .slice none 0 0] ∧ VarAt wr (w.heap.size + 1) [u0, u1] ∧ Below w.heap.size w wr ∧ ZIf (1 ≤ k) w wr n u0 ∧ ZIf (2 ≤ k) w wr n u1
theorem ZIf.next {c : Prop} {w wr : World} {n : Nat} {u : Value} (h : ZIf c w wr n u) (o : Obj) (j : Nat) (v : Value) : ZIf c w ((wr.alloc o).setCell ⟨w.heap.size + 1, j, none⟩ v) n u := fun hc => by
 obtain ⟨g, h1, h2, h3⟩ := h hc
 exact ⟨g, h1, h2, (h3.later ((Below.refl _ _).alloc (Nat.le_refl _) o)).apart _ j v (by omega)⟩
theorem ZIf.new (c : Prop) (w wr : World) (n j : Nat) (hn : n ≤ 1000000) (hw : w.heap.size + 2 ≤ wr.heap.size) (v : Value) : ZIf c w ((wr.alloc (.cells (madeCells #[.slice none 0 0, .int .i64 0] (n * 2)) 93)).setCell ⟨w.heap.size + 1, j, none⟩ v) n (.slice (some ⟨wr.heap.size, 0, none⟩) n n) := fun _ =>
 ⟨_, rfl, hw, (ZRow.made wr n hn).apart _ j v (by omega)⟩
theorem NewRelD.next {w wr : World} {n k : Nat} (h : NewRelD w n k wr) (hn : n ≤ 1000000) (hk : k < 2) : NewRelD w n (k + 1) ((wr.alloc (.cells (madeCells #[.slice none 0 0, .int .i64 0] (n * 2)) 93)).setCell ⟨w.heap.size + 1, k, none⟩ (.slice (some ⟨wr.heap.size, 0, none⟩) n n)) := by
 obtain ⟨u0, u1, h0, h1, hb, z0, z1⟩ := h
 have hal : Below wr.heap.size wr (wr.alloc (.cells (madeCells #[.slice none 0 0, .int .i64 0] (n * 2)) 93)) := (Below.refl _ _).alloc (Nat.le_refl _) _
 have hv := h1.1
 have a0 := (h0.below hal).apart (b' := w.heap.size + 1) k (.slice (some ⟨wr.heap.size, 0, none⟩) n n) (by omega)
 have a1 := (h1.below hal).setAt k (.slice (some ⟨wr.heap.size, 0, none⟩) n n) (by simpa using hk)
 have ab := below_set1 (b := w.heap.size + 1) (j := k) (by omega) (.slice (some ⟨wr.heap.size, 0, none⟩) n n) (hb.trans (hal.mono hb.size))
 obtain rfl | rfl : k = 0 ∨ k = 1 := by omega
 ·exact ⟨_, u1, a0, a1, ab, ZIf.new _ w wr n 0 hn (by omega) _, fun h => by omega⟩
 ·exact ⟨u0, _, a0, a1, ab, fun _ => (z0.next _ 1 _) (Nat.le_refl _), ZIf.new _ w wr n 1 hn (by omega) _⟩
end Go.Proofs.YtibpfkcackdbgaaGreatDoor
