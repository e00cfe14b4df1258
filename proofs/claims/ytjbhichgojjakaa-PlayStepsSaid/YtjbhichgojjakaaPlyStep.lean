/-
  What PlaySteps keeps from round to round: two worlds in variables, a log; and rows of truth values that come in.
-/
import Derived.Test.YtjbhichgojjakaaPlyApp2
import Derived.Test.YtjbhichgojjakaaAccBothU
import Derived.Test.YtjbhichgojjakaaFields
import Derived.Deep.Matrix
import Derived.Deep.Grids
namespace Go.Proofs.Ytjbhichgojjakaa
open Go.ChangeShapes Go.WideShapes Go.ChangeAt Go.RowKit Go.Deep
set_option linter.unusedVariables false
set_option maxRecDepth 100000

/-- A slice that reads as a row of truth values. -/
def AtBl (w : World) (a : Option Addr) (n : Nat) (f : Nat → Bool) : Prop := n ≤ 140737488355328 ∧ (0 < n → ∃ b off, a = some ⟨b, off, none⟩ ∧ b < w.heap.size ∧ ∀ j, j < n → w.cell? ⟨b, off + j, none⟩ = some (.bool (f j)))
theorem AtBl.later {w w' : World} {a : Option Addr} {n : Nat} {f : Nat → Bool} (h : AtBl w a n f) (hb : Below w.heap.size w w') : AtBl w' a n f := by
  refine ⟨h.1, fun hp => ?_⟩
  obtain ⟨b, off, e, hlt, hc⟩ := h.2 hp
  exact ⟨b, off, e, Nat.lt_of_lt_of_le hlt hb.size, fun j hj => (hb.cell (p := ⟨b, off + j, none⟩) hlt).trans (hc j hj)⟩
theorem cellsBl : Try.prog.cellsOf 4 = 1 := by kernel_rfl
theorem leaf_bls {H : Type} {enc : TypeId × Value → H} {w : World} {fuel : Nat} {cs : List Value} {x : DataW H × List MemPlace} (hf : DataW.trod enc Try.prog w 0 (fun _ => true) true fuel 23 cs = some x) (hs : Sized Try.prog 23 x.1) (hlt : ∀ z ∈ x.2, z.block < w.heap.size) :
    ∃ (a : Option Addr) (len cap : Nat) (f : Nat → Bool), cs = [.slice a len cap] ∧ (len ≤ cap ∧ AtBl w a len f) := by
  rcases Deep.open_bools Try.underlying23 Try.underlying4 cellsBl hf with ⟨hcs, hx⟩ | ⟨a, len, cap, B, hcs, _, hl, hm, hx, hr⟩
  · exact ⟨none, 0, 0, fun _ => false, hcs, Nat.le_refl _, by omega, fun h => by omega⟩
  · subst hcs
    have hrch := slice_reach Try.underlying23 hf hs (by rw [show Try.prog.bytesOf 4 = 1 by kernel_rfl]; decide)
    refine ⟨some a, len, cap, B, rfl, hl, hrch, fun hp => ?_⟩
    obtain ⟨b, off, spot⟩ := a
    have hspot : spot = none := by simpa [Addr.add] using World.cell?_spot (hr 0 (by omega))
    subst hspot
    refine ⟨b, off, rfl, hlt (.cell b (off + 0)) (by rw [hx]; exact MemPlace.mem_row.2 ⟨0, by omega, rfl⟩), fun j hj => ?_⟩
    have := hr j (by omega)
    rwa [Go.WideShapes.add_plain] at this

/-- A world in a variable, whose memory lies in such blocks. -/
def WdOff (Q : Nat → Prop) (x : World) (g : Nat) (t c : Int) (n r m : Nat) (G : Nat → Nat) (P0 P1 : List Stm) : Prop :=
  ∃ A ka R ra S sa, WdAt x g t c A n ka r R m ra S sa G P0 P1 ∧ OffW Q A n ∧ OffS Q x R m ∧ OffS Q x S m
section
variable {Q Q' : Nat → Prop} {x y : World} {g : Nat} {t c : Int} {n r m : Nat} {G : Nat → Nat} {P0 P1 : List Stm}
theorem WdOff.later (h : WdOff Q x g t c n r m G P0 P1) (hb : Below x.heap.size x y) : WdOff Q y g t c n r m G P0 P1 := by
  obtain ⟨A, ka, R, ra, S, sa, hw, o0, o1, o2⟩ := h
  exact ⟨A, ka, R, ra, S, sa, hw.later hb, o0, o1.later hw.2.2.1 hb, o2.later hw.2.2.2 hb⟩
theorem WdOff.keep (h : WdOff Q x g t c n r m G P0 P1) (hK : Keep Q x y) (hv : ∀ vs, VarAt x g vs → VarAt y g vs) : WdOff Q y g t c n r m G P0 P1 := by
  obtain ⟨A, ka, R, ra, S, sa, ⟨hw, hA, h0, h1⟩, o0, o1, o2⟩ := h
  exact ⟨A, ka, R, ra, S, sa, ⟨hv _ hw, hA.keep hK o0, h0.keep hK o1, h1.keep hK o2⟩, o0, o1.keep h0 hK o1, o2.keep h1 hK o2⟩
theorem WdOff.sub (h : WdOff Q x g t c n r m G P0 P1) (hQ : ∀ b, b < x.heap.size → Q b → Q' b) : WdOff Q' x g t c n r m G P0 P1 := by
  obtain ⟨A, ka, R, ra, S, sa, hw, o0, o1, o2⟩ := h
  refine ⟨A, ka, R, ra, S, sa, hw, fun hp b off e => hQ b (hw.2.1.old hp b off e) (o0 hp b off e), ((o1.both hw.2.2.1.old).mono fun b h => hQ b h.2 h.1), ((o2.both hw.2.2.2.old).mono fun b h => hQ b h.2 h.1)⟩
theorem WdOff.lt (h : WdOff Q x g t c n r m G P0 P1) : g < x.heap.size := by obtain ⟨A, ka, R, ra, S, sa, hw, _⟩ := h; exact hw.1.1
end
/-- What is known of both worlds. -/
structure WdGood (m j r : Nat) (P0 P1 : List Stm) : Prop where
  root : r < 18446744073709551616
  good : GoodD m P0 P1
  l0 : ∀ x ∈ P0, x.bytes.length ≤ 4000 + 100 * j
  l1 : ∀ x ∈ P1, x.bytes.length ≤ 4000 + 100 * j
/-- Behind j rounds. -/
structure RunS (y0 : World) (gx gy B0 : Nat) (t c : Int) (n m : Nat) (v : Value) (j s : Nat) (x : World) : Prop where
  below : Below y0.heap.size y0 x
  size : B0 ≤ x.heap.size
  lt : y0.heap.size ≤ gx ∧ gx < B0 ∧ y0.heap.size ≤ gy ∧ gy < B0 ∧ gx ≠ gy
  run : ∃ r G P0 P1, WdGood m j r P0 P1 ∧ WdOff (Nt gx gy v) x gx t c n r m G P0 P1 ∧ WdOff (Nt gx gy v) x gy t c n r m G P0 P1
  log : ∃ rl vs, rl.length = j ∧ sumR rl j = s ∧ x.ownsRow B0 39 3 v j vs ∧ LogRaw (Nt gx gy v) x vs rl
/-- The same ahead of the append: the log as it was, and a result in memory. -/
structure RunZ (y0 : World) (gx gy B0 : Nat) (t c : Int) (n m : Nat) (v : Value) (j : Nat) (rl : List Res) (vs : List Value) (X : Option Addr) (kx N : Nat) (xs : List Nat) (fl : Bool) (x : World) : Prop where
  below : Below y0.heap.size y0 x
  size : B0 ≤ x.heap.size
  lt : y0.heap.size ≤ gx ∧ gx < B0 ∧ y0.heap.size ≤ gy ∧ gy < B0 ∧ gx ≠ gy
  run : ∃ r G P0 P1, WdGood m (j + 1) r P0 P1 ∧ WdOff (Nt gx gy v) x gx t c n r m G P0 P1 ∧ WdOff (Nt gx gy v) x gy t c n r m G P0 P1
  len : rl.length = j
  own : x.ownsRow B0 39 3 v j vs
  raw : LogRaw (Nt gx gy v) x vs rl
  res : ResP x ⟨N, xs, fl⟩ X kx
  off : OffW (Nt gx gy v) X xs.length
theorem RunZ.later {y0 : World} {gx gy B0 : Nat} {t c : Int} {n m : Nat} {v : Value} {j : Nat} {rl : List Res} {vs : List Value} {X : Option Addr} {kx N : Nat} {xs : List Nat} {fl : Bool} {x x' : World} (h : RunZ y0 gx gy B0 t c n m v j rl vs X kx N xs fl x) (hb : Below x.heap.size x x') : RunZ y0 gx gy B0 t c n m v j rl vs X kx N xs fl x' := by
  obtain ⟨r, G, P0, P1, hg, hx, hy⟩ := h.run
  exact ⟨h.below.trans (hb.mono h.below.size), Nat.le_trans h.size hb.size, h.lt, ⟨r, G, P0, P1, hg, hx.later hb, hy.later hb⟩, h.len, ownsRow_laterR h.own hb, h.raw.later hb, h.res.later hb, h.off⟩
theorem RunZ.next {y0 : World} {gx gy B0 : Nat} {t c : Int} {n m : Nat} {v v' : Value} {j : Nat} {rl : List Res} {vs : List Value} {X : Option Addr} {kx N s s' : Nat} {xs : List Nat} {fl : Bool} {x w' : World} (h : RunZ y0 gx gy B0 t c n m v j rl vs X kx N xs fl x)
    (hs : sumR rl j = s) (hs' : (s + N) % 18446744073709551616 = s') (hown : w'.ownsRow B0 39 3 v' (j + 1) (vs ++ resA ⟨N, xs, fl⟩ X kx)) (hg : x.grownBy w' v.ownBlock) (hv : v'.ownBlock = v.ownBlock ∨ v'.ownBlock = some x.heap.size) :
    RunS y0 gx gy B0 t c n m v' (j + 1) s' w' := by
  obtain ⟨r, G, P0, P1, hgd, hx, hy⟩ := h.run
  have hrow : ∀ k, v.ownBlock = some k → B0 ≤ k := fun k hk => (h.own.lt k hk).1
  have hK : Keep (fun b => Nt gx gy v b ∧ Nt gx gy v' b) x w' := Keep.grown hg (fun b hb k hk => hb.1.2.2 k hk)
  have sub : ∀ b, b < x.heap.size → Nt gx gy v b → Nt gx gy v b ∧ Nt gx gy v' b := fun b hb hn => ⟨hn, hn.both hv hb⟩
  have hlt := h.lt
  have hvx : ∀ us, VarAt x gx us → VarAt w' gx us := fun us hu => hu.grown hg (fun k hk e => by have := hrow k hk; omega)
  have hvy : ∀ us, VarAt x gy us → VarAt w' gy us := fun us hu => hu.grown hg (fun k hk e => by have := hrow k hk; omega)
  have hb : Below y0.heap.size y0 w' := h.below.grown hg h.below.size (fun k hk => by have := hrow k hk; omega)
  have k1 := (hx.sub sub).keep hK hvx
  have k2 := (hy.sub sub).keep hK hvy
  have k3 := ((h.raw.sub sub).keep hK)
  have hres : ResP w' ⟨N, xs, fl⟩ X kx := ⟨h.res.n, h.res.bl, h.res.b.keep hK (fun hp b off e => sub b (h.res.b.old hp b off e) (h.off hp b off e))⟩
  have hoff : OffW (fun b => Nt gx gy v b ∧ Nt gx gy v' b) X xs.length := fun hp b off e => sub b (h.res.b.old hp b off e) (h.off hp b off e)
  refine ⟨hb, Nat.le_trans h.size hg.size, hlt, ⟨r, G, P0, P1, hgd, k1.sub fun b _ h => h.2, k2.sub fun b _ h => h.2⟩, rl ++ [⟨N, xs, fl⟩], _, by rw [List.length_append, h.len]; rfl, ?_, hown, (k3.add hres hoff).sub fun b _ h => h.2⟩
  rw [sumR_last rl ⟨N, xs, fl⟩ h.len, hs, ← hs']

/-! ### The second access of a round -/
def Qs (gx gy : Nat) (v : Value) (N1 N2 b : Nat) : Prop := Nt gx gy v b ∧ (b < N1 ∨ N2 ≤ b)
def StepEnd (wr : World) (gx gy : Nat) (v : Value) (t c : Int) (n r m : Nat) (G : Nat → Nat) (P0 P1 : List Stm) (N : Nat) (xs : List Nat) (fl : Bool) (v9 v10 : Value) (y : World) : Prop :=
  ∃ b9 b10 A ka R ra S sa X kx, v9 = .pointer (some ⟨b9, 0, none⟩) ∧ v10 = .pointer (some ⟨b10, 0, none⟩) ∧ wr.heap.size ≤ b9 ∧ wr.heap.size ≤ b10 ∧ VarAt y b9 [.int .i64 t, .int .i64 c, .slice A n ka, .int .u64 (r : Int), .slice R m ra, .slice S m sa] ∧ VarAt y b10 [.int .u64 (N : Int), .slice X xs.length kx, .bool fl] ∧
    AtW y A n G ∧ StmsAt y R m P0 ∧ StmsAt y S m P1 ∧ OffW (Nt gx gy v) A n ∧ OffS (Nt gx gy v) y R m ∧ OffS (Nt gx gy v) y S m ∧ Below wr.heap.size wr y
theorem StepEnd.of {wr w4 y : World} {gx gy : Nat} {v : Value} {t c : Int} {n r m : Nat} {G : Nat → Nat} {P0 P1 : List Stm} {N : Nat} {xs : List Nat} {fl : Bool} {N2 b9 b10 ka ra sa kx : Nat} {A R S X : Option Addr} (hk : Keep (Qs gx gy v wr.heap.size N2) w4 y) (n1 : wr.heap.size ≤ b9) (n2 : wr.heap.size ≤ b10)
    (v9 : VarAt y b9 [.int .i64 t, .int .i64 c, .slice A n ka, .int .u64 (r : Int), .slice R m ra, .slice S m sa]) (v10 : VarAt y b10 [.int .u64 (N : Int), .slice X xs.length kx, .bool fl])
    (hA : AtW w4 A n G) (h0 : StmsAt w4 R m P0) (h1 : StmsAt w4 S m P1) (o0 : OffW (Qs gx gy v wr.heap.size N2) A n) (o1 : OffS (Qs gx gy v wr.heap.size N2) w4 R m) (o2 : OffS (Qs gx gy v wr.heap.size N2) w4 S m) (hb : Below wr.heap.size wr y) :
    StepEnd wr gx gy v t c n r m G P0 P1 N xs fl (.pointer (some ⟨b9, 0, none⟩)) (.pointer (some ⟨b10, 0, none⟩)) y :=
  ⟨b9, b10, A, ka, R, ra, S, sa, X, kx, rfl, rfl, n1, n2, v9, v10, hA.keep hk o0, h0.keep hk o1, h1.keep hk o2, o0.mono fun b h => h.1, (o1.keep h0 hk o1).mono fun b h => h.1, (o2.keep h1 hk o2).mono fun b h => h.1, hb⟩
theorem step_fact {wr wa w4 : World} {gx gy : Nat} {v : Value} {n m kx : Nat} {A3 A4 R3 R4 S3 S4 X : Option Addr} {G3 : Nat → Nat} {l0 l1 : List Stm} (hwr : Below wr.heap.size wr wa) (hb : Below wa.heap.size wa w4)
    (hP : ∀ P : Nat → Prop, (∀ b, wa.heap.size ≤ b → P b) → OffW P A3 n → OffS P wa R3 m → OffS P wa S3 m → OffW P A4 n ∧ OffS P w4 R4 m ∧ OffS P w4 S4 m ∧ OffW P X kx)
    (hA : AtW wr A3 n G3) (h0 : StmsAt wr R3 m l0) (h1 : StmsAt wr S3 m l1) (o0 : OffW (Nt gx gy v) A3 n) (o1 : OffS (Nt gx gy v) wr R3 m) (o2 : OffS (Nt gx gy v) wr S3 m) (hgx : gx < wr.heap.size) (hgy : gy < wr.heap.size) (hv : ∀ k, v.ownBlock = some k → k < wr.heap.size) :
    ∃ N2, N2 = wa.heap.size ∧ wr.heap.size ≤ N2 ∧ N2 ≤ w4.heap.size ∧ OffW (Qs gx gy v wr.heap.size N2) A4 n ∧ OffS (Qs gx gy v wr.heap.size N2) w4 R4 m ∧ OffS (Qs gx gy v wr.heap.size N2) w4 S4 m ∧ OffW (Qs gx gy v wr.heap.size N2) X kx := by
  have hz := hwr.size
  obtain ⟨p0, p1, p2, p3⟩ := hP (Qs gx gy v wr.heap.size wa.heap.size) (fun b hb => ⟨⟨by omega, by omega, fun k hk => by have := hv k hk; omega⟩, .inr hb⟩)
    (fun hp b off e => ⟨o0 hp b off e, .inl (hA.old hp b off e)⟩)
    ((((o1.both h0.old).mono fun b hb => (⟨hb.1, .inl hb.2⟩ : Qs gx gy v wr.heap.size wa.heap.size b))).later h0 hwr)
    ((((o2.both h1.old).mono fun b hb => (⟨hb.1, .inl hb.2⟩ : Qs gx gy v wr.heap.size wa.heap.size b))).later h1 hwr)
  exact ⟨_, rfl, hz, hb.size, p0, p1, p2, p3⟩
end Go.Proofs.Ytjbhichgojjakaa
