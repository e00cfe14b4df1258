/-
  Streams that are appended to, synced, cut, as they read; what a call of package disk answers, and where its memory may lie.
-/
import Derived.Test.YtdbomlclkhkinaaDoorDisks
import Derived.Test.YtdbomlclkhkinaaDoorStrmRef
namespace Go.Proofs.YtdbomlclkhkinaaDoor
open Go.ChangeShapes Go.WideShapes Go.ChangeAt Go.RowKit
set_option linter.unusedVariables false
set_option maxRecDepth 100000

def Stm.app (x : Stm) (ys : List Nat) : Stm := ⟨x.bytes ++ ys, x.synced⟩
def Stm.syn (x : Stm) : Stm := ⟨x.bytes, (x.bytes.length : Int)⟩
def Stm.cutN (x : Stm) (more : Int) : Nat := YtdbomlclkhkinaaDoor.cutN x.synced.toNat x.bytes.length more
def Stm.cut (x : Stm) (more : Int) : Stm := ⟨x.bytes.take (x.cutN more), (x.cutN more : Int)⟩
theorem Stm.cutN_le {x : Stm} (h : x.right = true) (more : Int) : x.cutN more ≤ x.bytes.length := by
  obtain ⟨q, hq, hl⟩ := rightB_iff h
  unfold Stm.cutN
  exact YtdbomlclkhkinaaDoor.cutN_le (by omega) more
theorem Stm.cut_length {x : Stm} (h : x.right = true) (more : Int) : (x.cut more).bytes.length = x.cutN more := by
  unfold Stm.cut
  rw [List.length_take]
  have := Stm.cutN_le h more
  omega

/-- A stream that reads so; its bytes lie where a stream's lay, or in new memory. -/
def StmPostS (w : World) (A0 : Option Addr) (l0 : Nat) (y : Stm) (e : Ending) (w' : World) : Prop :=
  ∃ A c, e = .returned (.agg #[.slice A y.bytes.length c, .int .i64 y.synced]) ∧ y.bytes.length ≤ c ∧ AtB w' A y.bytes.length y.bytes ∧ Below w.heap.size w w' ∧ (0 < y.bytes.length → Nigh w A0 l0 A)
theorem appendS_at (A : Option Addr) (x : Stm) (cap : Nat) (hl : x.bytes.length ≤ cap) (B : Option Addr) (m c : Nat) (ys : List Nat) (hb : x.bytes.length + m ≤ 140737488355328) (w : World) (hA : Hid (AtB w A x.bytes.length x.bytes)) (hB : Hid (AtB w B m ys)) :
    Calls Tryd.prog 89 #[.agg #[.slice A x.bytes.length cap, .int .i64 x.synced], .slice B m c] w (StmPostS w A x.bytes.length (x.app ys)) := by
  have hy := hB.out.1
  refine (append_atN A x.bytes.length cap x.bytes hl x.synced B m c ys hb w hA hB).mono ?_
  rintro e w' ⟨A', c', rfl, h2, h3, h4, h5⟩
  have hz : (x.app ys).bytes.length = x.bytes.length + m := by simp [Stm.app, hy]
  exact ⟨A', c', by rw [hz]; rfl, by rw [hz]; exact h2, by rw [hz]; exact h3, h4, by rw [hz]; exact h5⟩
theorem nigh_self (w : World) (A : Option Addr) (n : Nat) : 0 < n → Nigh w A n A := fun h b off e => .inl ⟨h, off, e⟩
theorem syncS_at (A : Option Addr) (x : Stm) (cap : Nat) (hl : x.bytes.length ≤ cap) (w : World) (hA : Hid (AtB w A x.bytes.length x.bytes)) :
    Calls Tryd.prog 90 #[.agg #[.slice A x.bytes.length cap, .int .i64 x.synced]] w (StmPostS w A x.bytes.length x.syn) := by
  refine (sync_at A x.bytes.length cap hl x.synced w).mono ?_
  rintro e w' ⟨rfl, hb⟩
  exact ⟨A, x.bytes.length, rfl, Nat.le_refl _, AtB.later hA hb, hb, nigh_self w A _⟩
/-- What a call of package disk answers: a disk whose rows read so, and a code; what lay has stayed; and where the rows' memory may lie. -/
def DskPostC (w : World) (r : Int) (A B : Option Addr) (n m : Nat) (l0 l1 : List Stm) (code : Int) (e : Ending) (w' : World) : Prop :=
  ∃ A' a' B' b', e = .returned (.tuple #[.agg #[.int .u64 r, .slice A' n a', .slice B' m b'], .int .i64 code]) ∧ StmsAt w' A' n l0 ∧ StmsAt w' B' m l1 ∧ Below w.heap.size w w' ∧
    ∀ P : Nat → Prop, (∀ b, w.heap.size ≤ b → P b) → OffS P w A n → OffS P w B m → OffS P w' A' n ∧ OffS P w' B' m

theorem StmsAt.set3 {w : World} {a : Option Addr} {n : Nat} {l : List Stm} (hS : StmsAt w a n l) (b : Nat) (v0 v1 v2 : Value) (h : OffS (fun k => k ≠ b) w a n) :
    StmsAt (((w.setCell ⟨b, 0, none⟩ v0).setCell ⟨b, 1, none⟩ v1).setCell ⟨b, 2, none⟩ v2) a n l ∧ ∀ P : Nat → Prop, OffS P w a n → OffS P (((w.setCell ⟨b, 0, none⟩ v0).setCell ⟨b, 1, none⟩ v1).setCell ⟨b, 2, none⟩ v2) a n := by
  have o1 := h.apart b 0 v0 h
  have o2 := o1.apart b 1 v1 o1
  exact ⟨((hS.apart b 0 v0 h).apart b 1 v1 o1).apart b 2 v2 o2, fun P hP => ((hP.apart b 0 v0 h).apart b 1 v1 o1).apart b 2 v2 o2⟩
theorem StmsAt.fresh {w : World} {a : Option Addr} {n : Nat} {l : List Stm} (hS : StmsAt w a n l) (b : Nat) (hb : w.heap.size ≤ b) : OffS (fun k => k ≠ b) w a n := hS.old.mono (fun k hk => by omega)
/-- Where a stream's bytes may lie that come of one in a row. -/
theorem nigh_off {P : Nat → Prop} {w w2 : World} {a : Option Addr} {n : Nat} {l : List Stm} (hS : StmsAt w a n l) (hP : OffS P w a n) (hF : ∀ b, w2.heap.size ≤ b → P b) {b off j : Nat} {A0 C : Option Addr} {x : Stm} {cap k : Nat} {w3 : World} {ys : List Nat}
    (ea : a = some ⟨b, off, none⟩) (hj : j < n) (hc : w.cell? ⟨b, off + j * 2, none⟩ = some (.slice A0 x.bytes.length cap)) (hC : AtB w3 C k ys) (hN : 0 < k → Nigh w2 A0 x.bytes.length C) : ∀ ad, C = some ad → 0 < k → P ad.block := by
  intro ad e hk
  obtain ⟨b', o', e', _⟩ := hC.2.2.2 hk
  rw [e] at e'
  cases e'
  rcases hN hk b' o' e with ⟨h1, o2, h2⟩ | h1
  · subst h2
    exact (hP b off ea (by omega)).2 j hj ⟨b', o2, none⟩ _ _ hc h1
  · exact hF _ h1
/-- The end of a call: what 'with' answers goes into the result's box. -/
theorem DskPost.done {w w2 w3 w4 : World} {r : Int} {A B C : Option Addr} {n m k : Nat} {q0 q1 l0 l1 : List Stm} {e : Ending} (h0 : StmsAt w A n q0) (h1 : StmsAt w B m q1) (hb2 : Below w.heap.size w w2) (hb3 : Below w2.heap.size w2 w3)
    (hC : ∀ P : Nat → Prop, (∀ b, w2.heap.size ≤ b → P b) → OffS P w A n → OffS P w B m → ∀ ad, C = some ad → 0 < k → P ad.block) (rb : Nat) (hrb : w.heap.size ≤ rb) (hrb2 : rb < w2.heap.size) (code : Int) (h : DskPost w3 r A B n m C k l0 l1 e w4) :
    ∃ A' a' B' b', e = .returned (.agg #[.int .u64 r, .slice A' n a', .slice B' m b']) ∧ Below w3.heap.size w3 w4 ∧ ∀ w5, w5.heap = (((w4.setCell ⟨rb, 0, none⟩ (.int .u64 r)).setCell ⟨rb, 1, none⟩ (.slice A' n a')).setCell ⟨rb, 2, none⟩ (.slice B' m b')).heap → Below w.heap.size w w5 →
      DskPostC w r A B n m l0 l1 code (.returned (.tuple #[.agg #[.int .u64 r, .slice A' n a', .slice B' m b'], .int .i64 code])) w5 := by
  obtain ⟨A', a', B', b', rfl, s0, s1, hb4, hP⟩ := h
  have hb3' : Below w.heap.size w w3 := hb2.trans (hb3.mono hb2.size)
  refine ⟨A', a', B', b', rfl, hb4, fun w5 hw5 hb5 => ?_⟩
  have hne := hP (fun b => b ≠ rb) (fun b hb => by have := hb3.size; omega) ((h0.fresh rb hrb).later h0 hb3') ((h1.fresh rb hrb).later h1 hb3') (hC _ (fun b hb => by omega) (h0.fresh rb hrb) (h1.fresh rb hrb))
  obtain ⟨t0, u0⟩ := s0.set3 rb (.int .u64 r) (.slice A' n a') (.slice B' m b') hne.1
  obtain ⟨t1, u1⟩ := s1.set3 rb (.int .u64 r) (.slice A' n a') (.slice B' m b') hne.2
  have hc : ∀ p, w5.cell? p = (((w4.setCell ⟨rb, 0, none⟩ (.int .u64 r)).setCell ⟨rb, 1, none⟩ (.slice A' n a')).setCell ⟨rb, 2, none⟩ (.slice B' m b')).cell? p := fun p => by unfold World.cell?; rw [hw5]
  refine ⟨A', a', B', b', rfl, t0.same hw5.symm, t1.same hw5.symm, hb5, fun P hF hA hB => ?_⟩
  have hPP := hP P (fun b hb => hF b (by have := hb3'.size; omega)) (hA.later h0 hb3') (hB.later h1 hb3') (hC P (fun b hb => hF b (by have := hb2.size; omega)) hA hB)
  have e1 := u0 P hPP.1
  have e2 := u1 P hPP.2
  exact ⟨fun b off e hn => by
    obtain ⟨k1, k2⟩ := e1 b off e hn
    exact ⟨k1, fun j hj ad len c hcc hl => k2 j hj ad len c (by rw [← hc]; exact hcc) hl⟩, fun b off e hn => by
    obtain ⟨k1, k2⟩ := e2 b off e hn
    exact ⟨k1, fun j hj ad len c hcc hl => k2 j hj ad len c (by rw [← hc]; exact hcc) hl⟩⟩
/-- Nothing is done: the disk, and a code. -/
theorem DskPostC.self {w w' : World} {r : Int} {A B : Option Addr} {n a m b : Nat} {l0 l1 : List Stm} (h0 : StmsAt w A n l0) (h1 : StmsAt w B m l1) (hb : Below w.heap.size w w') (code : Int) :
    DskPostC w r A B n m l0 l1 code (.returned (.tuple #[.agg #[.int .u64 r, .slice A n a, .slice B m b], .int .i64 code])) w' :=
  ⟨A, a, B, b, rfl, h0.later hb, h1.later hb, hb, fun P _ hA hB => ⟨hA.later h0 hb, hB.later h1 hb⟩⟩

/-- What a world keeps while a disk's variable is read and the result's may be written. -/
def DskS (w : World) (v0 v1 v2 : Value) (w' : World) : Prop :=
  Below w.heap.size w w' ∧ VarAt w' w.heap.size [v0, v1, v2] ∧ w.heap.size + 1 < w'.heap.size ∧ ∀ j, j < 3 → (∃ v, w'.cell? ⟨w.heap.size + 1, j, none⟩ = some v) ∧ w'.frozen? ⟨w.heap.size + 1, j, none⟩ = false
section
variable {w w' w2 : World} {v0 v1 v2 : Value}
theorem DskS.made (w : World) (a b c d e f : Value) (t : TypeId) : DskS w a b c ((w.alloc (.cells #[a, b, c] t)).alloc (.cells #[d, e, f] t)) := by
  have h := (VarAt.three1 w d e f (.cells #[a, b, c] t) t).three
  refine ⟨below_pair w _ _, VarAt.three0 w a b c _ t, h.1, fun j hj => ?_⟩
  obtain rfl | rfl | rfl : j = 0 ∨ j = 1 ∨ j = 2 := by omega
  · exact ⟨⟨d, h.2.1⟩, h.2.2.2.2.1⟩
  · exact ⟨⟨e, h.2.2.1⟩, h.2.2.2.2.2.1⟩
  · exact ⟨⟨f, h.2.2.2.1⟩, h.2.2.2.2.2.2⟩
theorem DskS.later (h : DskS w v0 v1 v2 w') (hb : Below w'.heap.size w' w2) : DskS w v0 v1 v2 w2 := by
  obtain ⟨h1, h2, h3, h4⟩ := h
  refine ⟨h1.trans (hb.mono h1.size), h2.below hb, Nat.lt_of_lt_of_le h3 hb.size, fun j hj => ?_⟩
  obtain ⟨⟨v, hv⟩, hf⟩ := h4 j hj
  exact ⟨⟨v, (keptCells hb _ _ h3).trans hv⟩, (keptFrozen hb _ _ h3).trans hf⟩
theorem DskS.alloc (h : DskS w v0 v1 v2 w') (o : Obj) : DskS w v0 v1 v2 (w'.alloc o) := h.later ((Below.refl _ _).alloc (Nat.le_refl _) o)
theorem DskS.drew (h : DskS w v0 v1 v2 w') : DskS w v0 v1 v2 w'.drew := h.later (Below.drew (Below.refl _ _))
theorem DskS.res (h : DskS w v0 v1 v2 w') (j : Nat) (v : Value) : DskS w v0 v1 v2 (w'.setCell ⟨w.heap.size + 1, j, none⟩ v) := by
  obtain ⟨h1, h2, h3, h4⟩ := h
  refine ⟨below_set1 (by omega) v h1, h2.apart j v (by omega), by simpa using h3, fun i hi => ?_⟩
  obtain ⟨⟨u, hu⟩, hf⟩ := h4 i hi
  refine ⟨?_, by rw [World.frozen?_setCell]; exact hf⟩
  by_cases hij : i = j
  · subst hij; exact ⟨v, World.cell?_setCell_same w' _ v hu⟩
  · exact ⟨u, by rw [World.cell?_setCell_other _ _ _ _ (by simp <;> omega)]; exact hu⟩
theorem DskS.c0 (h : DskS w v0 v1 v2 w') : w'.cell? ⟨w.heap.size, 0, none⟩ = some v0 := h.2.1.three.2.1
theorem DskS.c1 (h : DskS w v0 v1 v2 w') : w'.cell? ⟨w.heap.size, 1, none⟩ = some v1 := h.2.1.three.2.2.1
theorem DskS.c2 (h : DskS w v0 v1 v2 w') : w'.cell? ⟨w.heap.size, 2, none⟩ = some v2 := h.2.1.three.2.2.2.1
theorem DskS.r (h : DskS w v0 v1 v2 w') (j : Nat) (hj : j < 3) : w'.cell? ⟨w.heap.size + 1, j, none⟩ = some (cellV w' (w.heap.size + 1) j) := by
  obtain ⟨⟨v, hv⟩, _⟩ := h.2.2.2 j hj
  unfold cellV
  rw [hv]; rfl
theorem DskS.f (h : DskS w v0 v1 v2 w') (j : Nat) (hj : j < 3) : w'.frozen? ⟨w.heap.size + 1, j, none⟩ = false := (h.2.2.2 j hj).2
theorem DskS.bel (h : DskS w v0 v1 v2 w') : Below w.heap.size w w' := h.1
theorem DskS.room (h : DskS w v0 v1 v2 w') : w.heap.size + 1 < w'.heap.size := h.2.2.1
/-- What lay when the call began, still lies. -/
theorem DskS.stms (h : DskS w v0 v1 v2 w') {a : Option Addr} {n : Nat} {l : List Stm} (hS : StmsAt w a n l) : StmsAt w' a n l := hS.later h.1
theorem DskS.cell (h : DskS w v0 v1 v2 w') {b o : Nat} {v : Value} (hb : b < w.heap.size) (hc : w.cell? ⟨b, o, none⟩ = some v) : w'.cell? ⟨b, o, none⟩ = some v := (h.1.cell (p := ⟨b, o, none⟩) hb).trans hc
end
end Go.Proofs.YtdbomlclkhkinaaDoor
