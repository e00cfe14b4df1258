/-
  What the laws of chapter 13 use in a region that draws: behind alone, the next world and the answer in variables; and EpochHeld's states, plain.
-/
import Derived.Test.YthcifknnppohfaaEpcLaw
import Derived.Test.YthcifknnppohfaaAccKeep
namespace Go.Proofs.Ythcifknnppohfaa
open Go.ChangeShapes Go.WideShapes Go.ChangeAt Go.RowKit Go.BigFrame Go.Deep
set_option linter.unusedVariables false
set_option maxRecDepth 100000

/-- Behind the call: the new world's variable, the answer's, and that it ended; the old world's variable is as it was. -/
def AlCut (Q : Nat → Prop) (t c : Int) (n r m : Nat) (G : Nat → Nat) (er : Int) (oi : Bool) (N : Int) (wr : World) (g : Nat) (OLD : List Value) (v1 v2 v3 : Value) (y : World) : Prop :=
  ∃ b1 b2, v1 = .pointer (some ⟨b1, 0, none⟩) ∧ v2 = .pointer (some ⟨b2, 0, none⟩) ∧ v3 = .bool true ∧ wr.heap.size ≤ b1 ∧ wr.heap.size ≤ b2 ∧ (∃ A ka R ra S sa, WdAt y b1 t c A n ka r R m ra S sa G (zerosS m) (zerosS m) ∧ OffW Q A n ∧ OffS Q y R m ∧ OffS Q y S m) ∧ VarAt y b2 [.int .i64 er, .bool oi, .int .i64 N, .int .u64 0, .slice none 0 0] ∧ VarAt y g OLD ∧ Below wr.heap.size wr y
/-- Off a place, and either there already or behind the call. -/
def Qc (Q : Nat → Prop) (N1 N2 b : Nat) : Prop := Q b ∧ (b < N1 ∨ N2 ≤ b)
theorem AlCut.of {Q : Nat → Prop} {t c er N : Int} {oi : Bool} {wr w4 y : World} {g n r m N2 b1 b2 ka ra sa : Nat} {OLD : List Value} {G : Nat → Nat} {A R S : Option Addr} (hk : Keep (Qc Q wr.heap.size N2) w4 y) (n1 : wr.heap.size ≤ b1) (n2 : wr.heap.size ≤ b2) (v1 : VarAt y b1 [.int .i64 t, .int .i64 c, .slice A n ka, .int .u64 (r : Int), .slice R m ra, .slice S m sa]) (v2 : VarAt y b2 [.int .i64 er, .bool oi, .int .i64 N, .int .u64 0, .slice none 0 0]) (vg : VarAt y g OLD)
    (hA : AtW w4 A n G) (h0 : StmsAt w4 R m (zerosS m)) (h1 : StmsAt w4 S m (zerosS m)) (o0 : OffW (Qc Q wr.heap.size N2) A n) (o1 : OffS (Qc Q wr.heap.size N2) w4 R m) (o2 : OffS (Qc Q wr.heap.size N2) w4 S m) (hb : Below wr.heap.size wr y) :
    AlCut Q t c n r m G er oi N wr g OLD (.pointer (some ⟨b1, 0, none⟩)) (.pointer (some ⟨b2, 0, none⟩)) (.bool true) y :=
  ⟨b1, b2, rfl, rfl, rfl, n1, n2, ⟨A, ka, R, ra, S, sa, ⟨v1, hA.keep hk o0, h0.keep hk o1, h1.keep hk o2⟩, o0.mono fun b hb => hb.1, (o1.keep h0 hk o1).mono fun b hb => hb.1, (o2.keep h1 hk o2).mono fun b hb => hb.1⟩, v2, vg, hb⟩
theorem alone_arm {Q : Nat → Prop} {wr wa w4 : World} {n m : Nat} {A3 A4 R3 R4 S3 S4 : Option Addr} {G3 : Nat → Nat} {l0 l1 : List Stm} (hwr : Below wr.heap.size wr wa) (hb : Below wa.heap.size wa w4)
    (hP : ∀ P : Nat → Prop, From wa wa.heap.size A3 n R3 S3 m P → OffW P A4 n ∧ OffS P w4 R4 m ∧ OffS P w4 S4 m)
    (hA : AtW wr A3 n G3) (h0 : StmsAt wr R3 m l0) (h1 : StmsAt wr S3 m l1) (o0 : OffW Q A3 n) (o1 : OffS Q wr R3 m) (o2 : OffS Q wr S3 m) (hQ : ∀ b, wr.heap.size ≤ b → Q b) :
    ∃ N2, N2 = wa.heap.size ∧ wr.heap.size ≤ N2 ∧ N2 ≤ w4.heap.size ∧ OffW (Qc Q wr.heap.size N2) A4 n ∧ OffS (Qc Q wr.heap.size N2) w4 R4 m ∧ OffS (Qc Q wr.heap.size N2) w4 S4 m := by
  have hz := hwr.size
  obtain ⟨p0, p1, p2⟩ := hP (Qc Q wr.heap.size wa.heap.size) ⟨fun b hb => ⟨hQ b (by omega), .inr hb⟩,
    fun hp b off e => ⟨o0 hp b off e, .inl (hA.old hp b off e)⟩,
    ((o1.both h0.old).mono fun b hb => (⟨hb.1, .inl hb.2⟩ : Qc Q wr.heap.size wa.heap.size b)).later h0 hwr,
    ((o2.both h1.old).mono fun b hb => (⟨hb.1, .inl hb.2⟩ : Qc Q wr.heap.size wa.heap.size b)).later h1 hwr⟩
  exact ⟨_, rfl, hz, hb.size, p0, p1, p2⟩

theorem wrapI {z : Int} (h1 : -9223372036854775808 ≤ z) (h2 : z < 9223372036854775808) : IntKind.i64.wrap z = z := by
  simp [IntKind.wrap, IntKind.bits, IntKind.signed]
  omega

/-! ### EpochHeld, plain -/
def H1 (i : Nat) (G : Nat → Nat) : Prop := ∃ free lim, EpcM 3 2 G free lim [] ∧ pins0 3 G ∧ G 3 = i
def H2 (e on : Nat) (G : Nat → Nat) : Prop := ∃ free lim, EpcM 3 2 G free lim [] ∧ G (pinN 0) = e + 1 ∧ G (pinN 1) = 0 ∧ G (pinN 2) = 0 ∧ G 3 = e + on
theorem H1.start : H1 0 (newF 3 2) := ⟨_, _, EpcM.new (by decide), pins0.new 3 2, newF_low (by decide) (by decide)⟩
theorem H1.step {i : Nat} {G : Nat → Nat} (h : H1 i G) (hi : i < 5) : ∃ G', Ops 3 1 19 0 (sizeN 3 2) G 1 G' 99 ∧ H1 (i + 1) G' := by
  obtain ⟨free, lim, hM, hp, h3⟩ := h
  obtain ⟨G', o, hM', hp', h3'⟩ := hM.adv0 (me := 1) (u := 0) (by decide) hp (by omega)
  exact ⟨G', o.mono (by decide), _, _, hM', hp', by omega⟩
theorem H1.pin {e : Nat} {G : Nat → Nat} (h : H1 e G) (hi : e < 5) : ∃ G', Ops 3 0 3 0 (sizeN 3 2) G 0 G' 9 ∧ H2 e 0 G' := by
  obtain ⟨free, lim, hM, hp, h3⟩ := h
  refine ⟨_, (ops_pin (t := 3) (c := 2) (me := 0) (u := 0) (by decide) hM.lt).mono (by decide), free, lim, hM.pin (by decide) (upN_lt _ _), ?_, ?_, ?_, ?_⟩
  · rw [setW_at, h3]; unfold upN; omega
  · rw [setW_off _ _ (by decide)]; exact hp 1 (by decide)
  · rw [setW_off _ _ (by decide)]; exact hp 2 (by decide)
  · rw [setW_off _ _ (by decide)]; omega
theorem H2.go {e me : Nat} {G : Nat → Nat} (h : H2 e 0 G) (hi : e < 5) : ∃ G', Ops 3 me 19 0 (sizeN 3 2) G 1 G' 99 ∧ H2 e 1 G' := by
  obtain ⟨free, lim, hM, p0, p1, p2, h3⟩ := h
  have e2 : upN (G 3) 2 % 3 = (G 3 + 2) % 3 := by unfold upN; omega
  have e1 : upN (G 3) 1 = G 3 + 1 := by unfold upN; omega
  have hpp : ∀ j, j < 3 → G (pinN j) = 0 ∨ G (pinN j) = upN (G 3) 1 := fun j hj => by
    rcases (show j = 0 ∨ j = 1 ∨ j = 2 by omega) with rfl | rfl | rfl
    · right; rw [p0, e1]; omega
    · exact .inl p1
    · exact .inl p2
  have h1 := hM.ops_go (me := me) (u := 0) (by decide) hpp
  have h2 := (hM.advance (by decide : 2 < 1048576) (m := 0) (f := 3) (by decide) hpp).2
  have hle : ∀ a ∈ lim (upN (G 3) 2 % 3), 1 ≤ a := fun a ha => (hM.le a (hM.in_ (Nat.mod_lt _ (by decide)) ha)).1
  have hoff : ∀ j, j < 3 → advG 3 (lim (upN (G 3) 2 % 3)) G (pinN j) = G (pinN j) := fun j hj => advG_off (by unfold pinN; omega) (by unfold pinN; omega) (by unfold pinN limboN; omega) (fun a ha => by have := hle a ha; unfold pinN fieldN; omega)
  exact ⟨_, h1.mono (by decide), _, _, h2, by rw [hoff 0 (by decide)]; exact p0, by rw [hoff 1 (by decide)]; exact p1, by rw [hoff 2 (by decide)]; exact p2, by rw [advG_epoch, e1]; omega⟩
theorem H2.held {e me : Nat} {G : Nat → Nat} (h : H2 e 1 G) (hi : e < 5) : Ops 3 me 19 0 (sizeN 3 2) G 0 G 99 := by
  obtain ⟨free, lim, hM, p0, p1, p2, h3⟩ := h
  exact (hM.ops_held (me := me) (u := 0) (j := 0) (by decide) (by decide) ⟨by omega, by rw [p0, h3]; unfold upN; omega⟩).mono (by decide)
theorem H2.end_ {e on : Nat} {G : Nat → Nat} (h : H2 e on G) (hi : e < 5) (ho : on ≤ 1) : ∃ G', Ops 3 0 4 0 (sizeN 3 2) G 0 G' 9 ∧ ∃ G2, Ops 3 1 19 0 (sizeN 3 2) G' 1 G2 99 := by
  obtain ⟨free, lim, hM, p0, p1, p2, h3⟩ := h
  have hM' := hM.pin (me := 0) (v := 0) (by decide) (by decide)
  have hp' : pins0 3 (setW G (pinN 0) 0) := fun j hj => by
    rcases (show j = 0 ∨ j = 1 ∨ j = 2 by omega) with rfl | rfl | rfl
    · rw [setW_at]
    · rw [setW_off _ _ (by decide)]; exact p1
    · rw [setW_off _ _ (by decide)]; exact p2
  obtain ⟨G2, o, _⟩ := hM'.adv0 (me := 1) (u := 0) (by decide) hp' (by rw [setW_off _ _ (by decide)]; omega)
  exact ⟨_, (ops_unpin (t := 3) (c := 2) (me := 0) (u := 0) (by decide)).mono (by decide), G2, o.mono (by decide)⟩
end Go.Proofs.Ythcifknnppohfaa
