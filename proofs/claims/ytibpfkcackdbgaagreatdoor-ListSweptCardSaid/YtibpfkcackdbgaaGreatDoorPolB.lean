/- PolB -/
import Derived.Test.YtibpfkcackdbgaaGreatDoorPolA
import Derived.Test.YtibpfkcackdbgaaGreatDoorPlyRef
import Derived.Test.YtibpfkcackdbgaaGreatDoorWrdRef
import Derived.Test.YtibpfkcackdbgaaGreatDoorPlyApp2
import Derived.Test.YtibpfkcackdbgaaGreatDoorAccC
import Derived.Test.YtibpfkcackdbgaaGreatDoorCllA
namespace Go.Proofs.YtibpfkcackdbgaaGreatDoor
open Go.ChangeShapes Go.WideShapes Go.ChangeAt Go.RowKit Go.BigFrame
set_option linter.unusedVariables false
set_option maxRecDepth 100000
def ProgE (g : Nat) (er : Int) (is : Bool) (N S : Int) (o : Bool) (z0 z1 z2 z3 z4 z5 : Value) (w1 : World) (e : Ending) (w2 : World) : Prop :=
 e = .returned (.agg #[.int .i64 er, .bool is, .int .i64 N, .int .u64 S, .slice none 0 0]) ∧ (∃ A n cap, VarAt w2 g (tapeV A n cap true o z0 z1 z2 z3 z4 z5)) ∧ But g w1 w2
def PlayE (g : Nat) (er : Int) (is : Bool) (N S : Int) (o : Bool) (z0 z1 z2 z3 z4 z5 : Value) (w1 : World) (e : Ending) (w2 : World) : Prop :=
 e = .returned (.tuple #[.agg #[.int .i64 er, .bool is, .int .i64 N, .int .u64 S, .slice none 0 0], .bool true]) ∧ (∃ A n cap, VarAt w2 g (tapeV A n cap false o z0 z1 z2 z3 z4 z5)) ∧ But g w1 w2
def RunE (er : Int) (is : Bool) (N S : Int) (w : World) (e : Ending) (w' : World) : Prop := e = .returned (.tuple #[.agg #[.int .i64 0, .int .i64 0, .int .u64 0, .int .u64 0, .slice none 0 0, .slice none 0 0], .agg #[.int .i64 er, .bool is, .int .i64 N, .int .u64 S, .slice none 0 0], .bool true]) ∧ Below w.heap.size w w'
theorem VarAt.mk4 {w : World} {b : Nat} {v0 v1 v2 v3 : Value} (hz : b < w.heap.size) (c0 : w.cell? ⟨b, 0, none⟩ = some v0 := by go_simp) (c1 : w.cell? ⟨b, 1, none⟩ = some v1 := by go_simp) (c2 : w.cell? ⟨b, 2, none⟩ = some v2 := by go_simp) (c3 : w.cell? ⟨b, 3, none⟩ = some v3 := by go_simp) (f0 : w.frozen? ⟨b, 0, none⟩ = false := by go_simp) (f1 : w.frozen? ⟨b, 1, none⟩ = false := by go_simp) (f2 : w.frozen? ⟨b, 2, none⟩ = false := by go_simp) (f3 : w.frozen? ⟨b, 3, none⟩ = false := by go_simp) : VarAt w b [v0, v1, v2, v3] := by
 refine ⟨hz, fun j v hv => ?_, fun j hj => ?_⟩
 ·obtain rfl | rfl | rfl | rfl : j = 0 ∨ j = 1 ∨ j = 2 ∨ j = 3 := by have := (List.getElem?_eq_some_iff.1 hv).1; simp at this; omega
  all_goals (cases hv; assumption)
 ·obtain rfl | rfl | rfl | rfl : j = 0 ∨ j = 1 ∨ j = 2 ∨ j = 3 := by simp at hj; omega
  all_goals assumption
end Go.Proofs.YtibpfkcackdbgaaGreatDoor
namespace Go.Proofs.YtibpfkcackdbgaaGreatDoor
open Go.ChangeShapes Go.WideShapes Go.ChangeAt Go.RowKit Go.BigFrame
set_option linter.unusedVariables false
set_option maxRecDepth 100000
set_option linter.unusedSectionVars false
def CurS (g : Nat) (A : Option Addr) (n cap : Nat) (log s : List Res) (x : World) : Prop := ∃ j : Nat, j ≤ n ∧ log.drop j = s ∧ VarAt x g (curV A n cap (j : Int) false (.int .i64 0) (.int .i64 0) (.int .u64 0) (.int .u64 0) (.slice none 0 0) (.slice none 0 0))
def CurX (g : Nat) (A : Option Addr) (n cap : Nat) (k i : Int) (a b : Nat) (x : World) : Prop := VarAt x g (curV A n cap (n : Int) true (.int .i64 k) (.int .i64 i) (.int .u64 (a : Int)) (.int .u64 (b : Int)) (.slice none 0 0) (.slice none 0 0))
section
variable (g : Nat) (A : Option Addr) (n cap : Nat) (log : List Res) (w0 : World)
theorem CurS.below {s : List Res} {x y : World} (h : CurS g A n cap log s x) (hb : Below x.heap.size x y) : CurS g A n cap log s y := by
 obtain ⟨j, h1, h2, h3⟩ := h
 exact ⟨j, h1, h2, h3.below hb⟩
theorem CurX.below {k i : Int} {a b : Nat} {x y : World} (h : CurX g A n cap k i a b x) (hb : Below x.heap.size x y) : CurX g A n cap k i a b y := VarAt.below h hb
theorem CurS.lt {s : List Res} {x : World} (h : CurS g A n cap log s x) : g < x.heap.size := by
 obtain ⟨j, h1, h2, h3⟩ := h
 exact h3.1
end
inductive CS where
 | at (s : List Res)
 | stop (k i : Int) (a b : Nat)
def CS.tell : CS → Int → Int → Nat → Nat → Nat × CS
 | .at (r :: rest), _, _, _, _ => (r.n % 18446744073709551616, .at rest)
 | .at [], k, i, a, b => (0, .stop k i a b)
 | .stop k i a b, _, _, _, _ => (0, .stop k i a b)
def CS.stops : CS → Bool
 | .at _ => false
 | .stop _ _ _ _ => true
theorem CS.small (c : CS) (k i : Int) (a b : Nat) : (c.tell k i a b).1 < 18446744073709551616 := by
 rcases c with (_ | ⟨r, s⟩) | ⟨_, _, _, _⟩
 ·exact (by decide : 0 < 18446744073709551616)
 ·exact Nat.mod_lt _ (by decide)
 ·exact (by decide : 0 < 18446744073709551616)
structure CurI (g : Nat) (A : Option Addr) (n cap : Nat) (log : List Res) (w0 wb : World) (c : CS) (w : World) : Prop where
 cur : match c with | .at s => CurS g A n cap log s w | .stop k i a b => CurX g A n cap k i a b w
 but : But g wb w
section
variable {g : Nat} {A : Option Addr} {n cap : Nat} {log : List Res} {w0 wb : World}
theorem CurI.lt {c : CS} {w : World} (h : CurI g A n cap log w0 wb c w) : g < w.heap.size := by
 cases c with
 | «at» s => exact CurS.lt g A n cap log h.cur
 | stop k i a b => exact And.left h.cur
theorem CurI.below {c : CS} {x y : World} (h : CurI g A n cap log w0 wb c x) (hb : Below x.heap.size x y) : CurI g A n cap log w0 wb c y := by
 refine ⟨?_, h.but.later hb h.lt⟩
 cases c with
 | «at» s => exact CurS.below g A n cap log h.cur hb
 | stop k i a b => exact CurX.below g A n cap h.cur hb
theorem CurI.two {c : CS} {w : World} (h : CurI g A n cap log w0 wb c w) : w.cell? ⟨g, 2, none⟩ = some (.bool c.stops) := by
 cases c with
 | «at» s => obtain ⟨j, h1, h2, h3⟩ := h.cur; exact h3.2.1 2 _ rfl
 | stop k i a b => exact And.left (And.right h.cur) 2 _ rfl
end
noncomputable def cnt (J : Nat → World → Prop) (w : World) : Nat := by
 classical
 exact if h : ∃ n, J n w then Classical.choose (least_of h) else 0
theorem cnt_spec {J : Nat → World → Prop} {w : World} (h : ∃ n, J n w) : J (cnt J w) w := by
 unfold cnt
 rw [dif_pos h]
 exact (Classical.choose_spec (least_of h)).1
theorem cnt_lt {J : Nat → World → Prop} {w : World} {m n : Nat} (h : J m w) (hm : m < n) : cnt J w < n := by
 have hx : ∃ n, J n w := ⟨m, h⟩
 unfold cnt
 rw [dif_pos hx]
 exact Nat.lt_of_le_of_lt ((Classical.choose_spec (least_of hx)).2 m h) hm
def csEnd : Ran (List Res) → Nat × CS
 | .done r s => (r, .at s)
 | .left k i a b => (0, .stop k i a b)
 | .bad => (0, .at [])
def CurV (g : Nat) (A : Option Addr) (n cap : Nat) (log : List Res) (c : CS) (w : World) : Prop := match c with | .at s => CurS g A n cap log s w | .stop k i a b => CurX g A n cap k i a b w
theorem CurV.below {g : Nat} {A : Option Addr} {n cap : Nat} {log : List Res} {c : CS} {x y : World} (h : CurV g A n cap log c x) (hb : Below x.heap.size x y) : CurV g A n cap log c y := by
 cases c with
 | «at» s => exact CurS.below g A n cap log h hb
 | stop k i a b => exact CurX.below g A n cap h hb
theorem CurV.apart {g : Nat} {A : Option Addr} {n cap : Nat} {log : List Res} {c : CS} {x : World} (h : CurV g A n cap log c x) {b' : Nat} (j : Nat) (v : Value) (hne : b' ≠ g) : CurV g A n cap log c (x.setCell ⟨b', j, none⟩ v) := by
 cases c with
 | «at» s => obtain ⟨i, h1, h2, h3⟩ := h; exact ⟨i, h1, h2, h3.apart j v hne⟩
 | stop k i a b => exact VarAt.apart h j v hne
structure ToldV where
 k : Int
 i : Int
 a : Nat
 b : Nat
 er : Int
 n : Int
 is : Bool
def ToldV.val (v : ToldV) : Value := .tuple #[.agg #[.int .i64 v.k, .int .i64 v.i, .int .u64 (v.a : Int), .int .u64 (v.b : Int), .slice none 0 0, .slice none 0 0], .agg #[.int .i64 v.er, .bool false, .int .i64 v.n, .int .u64 0, .slice none 0 0], .bool v.is]
end Go.Proofs.YtibpfkcackdbgaaGreatDoor
namespace Go.Proofs.YtibpfkcackdbgaaGreatDoor
open Go.ChangeShapes Go.WideShapes Go.ChangeAt Go.RowKit Go.BigFrame Go.Deep
set_option linter.unusedVariables false
set_option maxRecDepth 100000
theorem toldN_lt {K a b x : Nat} (h : x < 18446744073709551616) : toldN K a b x < 18446744073709551616 := by
 unfold toldN
 split
 ·decide
 ·split
  ·split <;> decide
  ·exact h
def Vars (L : List (Nat × List Value)) (x : World) : Prop := ∀ p ∈ L, VarAt x p.1 p.2
theorem Vars.below {L : List (Nat × List Value)} {x y : World} (h : Vars L x) (hb : Below x.heap.size x y) : Vars L y := fun p hp => (h p hp).below hb
theorem Vars.apart {L : List (Nat × List Value)} {x : World} (h : Vars L x) {b : Nat} (j : Nat) (v : Value) (hne : ∀ p ∈ L, b ≠ p.1) : Vars L (x.setCell ⟨b, j, none⟩ v) := fun p hp => (h p hp).apart j v (hne p hp)
def From (y0 : World) (B : Nat) (A0 : Option Addr) (n : Nat) (R0 S0 : Option Addr) (m : Nat) (P : Nat → Prop) : Prop := (∀ b, B ≤ b → P b) ∧ OffW P A0 n ∧ OffS P y0 R0 m ∧ OffS P y0 S0 m
def WdFrom (Q : Nat → Prop) (F : (Nat → Prop) → Prop) (x : World) (gx : Nat) (t c : Int) (n r m : Nat) (G : Nat → Nat) (l0 l1 : List Stm) : Prop :=
 ∃ A ka R ra S sa, WdAt x gx t c A n ka r R m ra S sa G l0 l1 ∧ OffW Q A n ∧ OffS Q x R m ∧ OffS Q x S m ∧ ∀ P, F P → OffW P A n ∧ OffS P x R m ∧ OffS P x S m
section
variable {Q Q' : Nat → Prop} {F : (Nat → Prop) → Prop} {x y : World} {gx : Nat} {t c : Int} {n r m : Nat} {G : Nat → Nat} {l0 l1 : List Stm}
theorem WdFrom.later (h : WdFrom Q F x gx t c n r m G l0 l1) (hb : Below x.heap.size x y) : WdFrom Q F y gx t c n r m G l0 l1 := by
 obtain ⟨A, ka, R, ra, S, sa, hw, o0, o1, o2, hP⟩ := h
 exact ⟨A, ka, R, ra, S, sa, hw.later hb, o0, o1.later hw.2.2.1 hb, o2.later hw.2.2.2 hb, fun P hF => ⟨(hP P hF).1, (hP P hF).2.1.later hw.2.2.1 hb, (hP P hF).2.2.later hw.2.2.2 hb⟩⟩
theorem WdFrom.keep (h : WdFrom Q F x gx t c n r m G l0 l1) (hK : Keep Q x y) (hv : ∀ vs, VarAt x gx vs → VarAt y gx vs) : WdFrom Q F y gx t c n r m G l0 l1 := by
 obtain ⟨A, ka, R, ra, S, sa, ⟨hw, hA, h0, h1⟩, o0, o1, o2, hP⟩ := h
 exact ⟨A, ka, R, ra, S, sa, ⟨hv _ hw, hA.keep hK o0, h0.keep hK o1, h1.keep hK o2⟩, o0, o1.keep h0 hK o1, o2.keep h1 hK o2, fun P hF => ⟨(hP P hF).1, (hP P hF).2.1.keep h0 hK o1, (hP P hF).2.2.keep h1 hK o2⟩⟩
theorem WdFrom.sub (h : WdFrom Q F x gx t c n r m G l0 l1) (hQ : ∀ b, b < x.heap.size → Q b → Q' b) : WdFrom Q' F x gx t c n r m G l0 l1 := by
 obtain ⟨A, ka, R, ra, S, sa, hw, o0, o1, o2, hP⟩ := h
 exact ⟨A, ka, R, ra, S, sa, hw, fun hp b off e => hQ b (hw.2.1.old hp b off e) (o0 hp b off e), ((o1.both hw.2.2.1.old).mono fun b h => hQ b h.2 h.1), ((o2.both hw.2.2.2.old).mono fun b h => hQ b h.2 h.1), hP⟩
theorem WdFrom.lt (h : WdFrom Q F x gx t c n r m G l0 l1) : gx < x.heap.size := by obtain ⟨A, ka, R, ra, S, sa, hw, _⟩ := h; exact hw.1.1
end
structure RunA (y0 : World) (gx B0 : Nat) (F : (Nat → Prop) → Prop) (L : List (Nat × List Value)) (t c : Int) (n r m : Nat) (l0 l1 : List Stm) (v : Value) (log : List Res) (G : Nat → Nat) (x : World) : Prop where
 below : Below y0.heap.size y0 x
 size : B0 ≤ x.heap.size
 lt : y0.heap.size ≤ gx ∧ gx < B0
 vars : Vars L x
 vlt : ∀ p ∈ L, y0.heap.size ≤ p.1 ∧ p.1 < B0 ∧ p.1 ≠ gx
 run : WdFrom (Nt gx gx v) F x gx t c n r m G l0 l1
 log : ∃ vs, x.ownsRow B0 81 3 v log.length vs ∧ LogRaw (Nt gx gx v) x vs log
structure RunZA (y0 : World) (gx B0 : Nat) (F : (Nat → Prop) → Prop) (L : List (Nat × List Value)) (t c : Int) (n r m : Nat) (l0 l1 : List Stm) (v : Value) (log : List Res) (vs : List Value) (X : Option Addr) (kx N : Nat) (G : Nat → Nat) (x : World) : Prop where
 below : Below y0.heap.size y0 x
 size : B0 ≤ x.heap.size
 lt : y0.heap.size ≤ gx ∧ gx < B0
 vars : Vars L x
 vlt : ∀ p ∈ L, y0.heap.size ≤ p.1 ∧ p.1 < B0 ∧ p.1 ≠ gx
 run : WdFrom (Nt gx gx v) F x gx t c n r m G l0 l1
 own : x.ownsRow B0 81 3 v log.length vs
 raw : LogRaw (Nt gx gx v) x vs log
 num : N < 18446744073709551616
section
variable {y0 : World} {gx B0 : Nat} {F : (Nat → Prop) → Prop} {L : List (Nat × List Value)} {t c : Int} {n r m : Nat} {l0 l1 : List Stm} {v : Value} {log : List Res} {vs : List Value} {X : Option Addr} {kx N : Nat} {G : Nat → Nat} {x x' : World}
theorem RunZA.later (h : RunZA y0 gx B0 F L t c n r m l0 l1 v log vs X kx N G x) (hb : Below x.heap.size x x') : RunZA y0 gx B0 F L t c n r m l0 l1 v log vs X kx N G x' :=
 ⟨h.below.trans (hb.mono h.below.size), Nat.le_trans h.size hb.size, h.lt, h.vars.below hb, h.vlt, h.run.later hb, ownsRow_laterR h.own hb, h.raw.later hb, h.num⟩
theorem RunZA.next {v' : Value} {w' : World} (h : RunZA y0 gx B0 F L t c n r m l0 l1 v log vs X kx N G x)
  (hown : w'.ownsRow B0 81 3 v' (log.length + 1) (vs ++ resA ⟨N, [], false⟩ X kx)) (hg : x.grownBy w' v.ownBlock) (hv : v'.ownBlock = v.ownBlock ∨ v'.ownBlock = some x.heap.size) :
  RunA y0 gx B0 F L t c n r m l0 l1 v' (log ++ [⟨N, [], false⟩]) G w' := by
 have hrow : ∀ k, v.ownBlock = some k → B0 ≤ k := fun k hk => (h.own.lt k hk).1
 have hK : Keep (fun b => Nt gx gx v b ∧ Nt gx gx v' b) x w' := Keep.grown hg (fun b hb k hk => hb.1.2.2 k hk)
 have sub : ∀ b, b < x.heap.size → Nt gx gx v b → Nt gx gx v b ∧ Nt gx gx v' b := fun b hb hn => ⟨hn, hn.both hv hb⟩
 have hlt := h.lt
 have hvx : ∀ us, VarAt x gx us → VarAt w' gx us := fun us hu => hu.grown hg (fun k hk e => by have := hrow k hk; omega)
 have hb : Below y0.heap.size y0 w' := h.below.grown hg h.below.size (fun k hk => by have := hrow k hk; omega)
 have k1 := (h.run.sub sub).keep hK hvx
 have k3 := ((h.raw.sub sub).keep hK)
 have hres : ResP w' ⟨N, [], false⟩ X kx := ⟨h.num, ⟨Nat.zero_le _, Nat.zero_le _⟩, AtB.nil _ _⟩
 refine ⟨hb, Nat.le_trans h.size hg.size, hlt, fun p hp => (h.vars p hp).grown hg (fun k hk e => by have := hrow k hk; have := (h.vlt p hp).2.1; omega), h.vlt, k1.sub fun b _ h => h.2, _, ?_, (k3.add hres (OffW.nil _ _)).sub fun b _ h => h.2⟩
 rw [List.length_append]
 exact hown
end
end Go.Proofs.YtibpfkcackdbgaaGreatDoor
namespace Go.Proofs.YtibpfkcackdbgaaGreatDoor
set_option linter.unusedVariables false
set_option maxRecDepth 100000
theorem setW_same (G : Nat → Nat) (i : Nat) : setW G i (G i) = G := by
 funext j
 unfold setW
 split
 ·subst_vars; rfl
 ·rfl
theorem field_ge {t r : Nat} : 15 ≤ fieldN t r 7 := by unfold fieldN; omega
theorem field_inj {t r s : Nat} (hr : 1 ≤ r) (hs : 1 ≤ s) (h : fieldN t r 7 = fieldN t s 7) : r = s := by unfold fieldN at h; omega
theorem field_size {t c r : Nat} (h1 : 1 ≤ r) (hr : r ≤ c) : fieldN t r 7 < sizeN t c := by unfold fieldN sizeN; omega
theorem size_pos {t c : Nat} : 1 < sizeN t c := by unfold sizeN; omega
theorem mod64 {x : Nat} (h : x < 18446744073709551616) : x % 18446744073709551616 = x := Nat.mod_eq_of_lt h
section
variable {t n : Nat} {u : Int} {G : Nat → Nat} (hG : ∀ j, G j < 18446744073709551616) (hn : 1 < n)
include hG hn
end
def Chain (t : Nat) (G : Nat → Nat) : List Nat → Nat → Prop
 | [], r => r = 0
 | a :: l, r => r = a ∧ 1 ≤ a ∧ Chain t G l (firstN (G (fieldN t a 7)))
def FreeIs (t : Nat) (G : Nat → Nat) (l : List Nat) : Prop := Chain t G l (firstN (G 1))
theorem Chain.other {t : Nat} {G H : Nat → Nat} : ∀ {l : List Nat} {r : Nat}, (∀ a ∈ l, 1 ≤ a → H (fieldN t a 7) = G (fieldN t a 7)) → Chain t G l r → Chain t H l r
 | [], r, _, h => h
 | a :: l, r, hq, h => ⟨h.1, h.2.1, by rw [hq a (List.mem_cons_self ..) h.2.1]; exact Chain.other (fun b hb => hq b (List.mem_cons_of_mem _ hb)) h.2.2⟩
theorem Chain.pos {t : Nat} {G : Nat → Nat} : ∀ {l : List Nat} {r : Nat}, Chain t G l r → ∀ a ∈ l, 1 ≤ a
 | [], r, _, a, ha => by cases ha
 | b :: l, r, h, a, ha => by
  rcases List.mem_cons.1 ha with rfl | ha
  ·exact h.2.1
  ·exact Chain.pos h.2.2 a ha
theorem FreeIs.none {t : Nat} {G : Nat → Nat} (h : FreeIs t G []) : firstN (G 1) = 0 := h
theorem FreeIs.top {t : Nat} {G : Nat → Nat} {a : Nat} {l : List Nat} (h : FreeIs t G (a :: l)) : firstN (G 1) = a ∧ 1 ≤ a := ⟨h.1, h.2.1⟩
def popG (t : Nat) (G : Nat → Nat) : Nat → Nat := setW G 1 (topN (firstN (G (fieldN t (firstN (G 1)) 7))) (tagN (G 1) + 1))
def pushG (t r : Nat) (G : Nat → Nat) : Nat → Nat := setW (setW G (fieldN t r 7) (firstN (G 1))) 1 (topN r (tagN (G 1) + 1))
theorem first_topN {r : Nat} (t : Nat) (h : r < 1048576) : firstN (topN r t) = r := by unfold firstN topN; omega
theorem popG_one (t : Nat) (G : Nat → Nat) : popG t G 1 = topN (firstN (G (fieldN t (firstN (G 1)) 7))) (tagN (G 1) + 1) := by unfold popG setW; rw [if_pos rfl]
theorem pushG_one (t r : Nat) (G : Nat → Nat) : pushG t r G 1 = topN r (tagN (G 1) + 1) := by unfold pushG setW; rw [if_pos rfl]
theorem FreeIs.pop {t : Nat} {G : Nat → Nat} {a : Nat} {l : List Nat} (h : FreeIs t G (a :: l)) : FreeIs t (popG t G) l := by
 unfold FreeIs
 rw [popG_one, first_topN _ (first_lt _), h.1]
 refine Chain.other (fun b hb h1 => ?_) h.2.2
 unfold popG setW
 rw [if_neg (by have := @field_ge t b; omega)]
theorem FreeIs.push {t : Nat} {G : Nat → Nat} {r : Nat} {l : List Nat} (h : FreeIs t G l) (h1 : 1 ≤ r) (hr : r < 1048576) (hn : r ∉ l) : FreeIs t (pushG t r G) (r :: l) := by
 unfold FreeIs
 rw [pushG_one, first_topN _ hr]
 refine ⟨rfl, h1, ?_⟩
 have e : pushG t r G (fieldN t r 7) = firstN (G 1) := by
  unfold pushG setW
  rw [if_neg (by have := @field_ge t r; omega), if_pos rfl]
 rw [e, show firstN (firstN (G 1)) = firstN (G 1) by unfold firstN; omega]
 refine Chain.other (fun b hb hb1 => ?_) h
 unfold pushG setW
 rw [if_neg (by have := @field_ge t b; omega), if_neg (fun he => hn (field_inj hb1 h1 he ▸ hb))]
theorem popG_lt {t : Nat} {G : Nat → Nat} (h : ∀ j, G j < 18446744073709551616) (j : Nat) : popG t G j < 18446744073709551616 := by
 unfold popG setW
 split
 ·exact topN_lt (first_lt _) _
 ·exact h j
theorem pushG_lt {t r : Nat} {G : Nat → Nat} (hr : r < 1048576) (h : ∀ j, G j < 18446744073709551616) (j : Nat) : pushG t r G j < 18446744073709551616 := by
 unfold pushG setW
 split
 ·exact topN_lt hr _
 ·split
  ·have := first_lt (G 1); omega
  ·exact h j
section
variable {t c : Nat} {u : Int} {G : Nat → Nat} (hG : ∀ j, G j < 18446744073709551616)
include hG
end
theorem new_link {t c r : Nat} (h1 : 1 ≤ r) : newF t c (fieldN t r 7) = if r < c then r + 1 else 0 := by
 unfold newF
 have h : fieldN t r 7 = 15 + t + 8 * (r - 1) := by unfold fieldN; omega
 rw [h, if_neg (by omega), if_neg (by omega)]
 have e1 : (15 + t + 8 * (r - 1) - (8 + t)) % 8 = 7 := by omega
 have e2 : (15 + t + 8 * (r - 1) - (8 + t)) / 8 = r - 1 := by omega
 rw [e1, e2]
 by_cases hr : r < c
 ·rw [if_pos ⟨rfl, by omega⟩, if_pos hr]; omega
 ·rw [if_neg (by omega), if_neg hr]
theorem new_chain {t c : Nat} (hc : c < 1048576) : ∀ (m k : Nat), k + m = c + 1 → 1 ≤ k → Chain t (newF t c) (List.range' k m) (if m = 0 then 0 else k)
 | 0, k, h, h1 => rfl
 | m + 1, k, h, h1 => by
  rw [if_neg (by omega)]
  refine ⟨rfl, h1, ?_⟩
  have e : firstN (newF t c (fieldN t k 7)) = if m = 0 then 0 else k + 1 := by
   rw [new_link h1]
   by_cases hm : m = 0
   ·rw [if_neg (by omega), if_pos hm]; rfl
   ·rw [if_pos (by omega), if_neg hm]; unfold firstN; omega
  rw [e]
  exact new_chain hc m (k + 1) (by omega) (by omega)
theorem new_free {t c : Nat} (hc : c < 1048576) : FreeIs t (newF t c) (List.range' 1 c) := by
 have h := new_chain (t := t) hc c 1 (by omega) (by omega)
 unfold FreeIs
 have e : firstN (newF t c 1) = if c = 0 then 0 else 1 := by
  unfold newF
  rw [if_pos rfl]
  split <;> rfl
 rw [e]
 exact h
end Go.Proofs.YtibpfkcackdbgaaGreatDoor
namespace Go.Proofs.YtibpfkcackdbgaaGreatDoor
open Go.ChangeShapes Go.WideShapes Go.ChangeAt Go.RowKit Go.BigFrame
set_option linter.unusedVariables false
set_option maxRecDepth 100000
structure DirC (Q : Nat → Prop) (c : Int) (r g p0 p1 n : Nat) (G : Nat → Nat) (x : World) : Prop where
 run : ∃ A ka R ra S sa, WdAt x g 1 c A n ka r R 1 ra S sa G (zerosS 1) (zerosS 1) ∧ OffW (Out g 1) A n ∧ OffS (Out g 1) x R 1 ∧ OffS (Out g 1) x S 1 ∧ OffW Q A n ∧ OffS Q x R 1 ∧ OffS Q x S 1
 v0 : VarAt x p0 [.pointer (some ⟨g, 0, none⟩)]
 v1 : VarAt x p1 [.int .i64 0]
theorem DirC.below {Q : Nat → Prop} {c : Int} {r g p0 p1 n : Nat} {G : Nat → Nat} {x y : World} (h : DirC Q c r g p0 p1 n G x) (hb : Below x.heap.size x y) : DirC Q c r g p0 p1 n G y := by
 obtain ⟨⟨A, ka, R, ra, S, sa, hw, o0, o1, o2, u0, u1, u2⟩, v0, v1⟩ := h
 exact ⟨⟨A, ka, R, ra, S, sa, hw.later hb, o0, o1.later hw.2.2.1 hb, o2.later hw.2.2.2 hb, u0, u1.later hw.2.2.1 hb, u2.later hw.2.2.2 hb⟩, v0.below hb, v1.below hb⟩
def DirCE (Q : Nat → Prop) (c : Int) (r : Nat) (wr : World) (Nr g0 n : Nat) (OLD : List Value) (G : Nat → Nat) (s0 : Nat) (v9 v10 : Value) (y : World) : Prop :=
 ∃ b9 b10 A ka R ra S sa X kx, v9 = .pointer (some ⟨b9, 0, none⟩) ∧ v10 = .pointer (some ⟨b10, 0, none⟩) ∧ wr.heap.size ≤ b9 ∧ wr.heap.size ≤ b10 ∧ VarAt y b9 [.int .i64 1, .int .i64 c, .slice A n ka, .int .u64 (r : Int), .slice R 1 ra, .slice S 1 sa] ∧ VarAt y b10 [.int .u64 (s0 : Int), .slice X 0 kx, .bool false] ∧ VarAt y g0 OLD ∧
  AtW y A n G ∧ StmsAt y R 1 (zerosS 1) ∧ StmsAt y S 1 (zerosS 1) ∧ OffW (Out g0 1) A n ∧ OffS (Out g0 1) y R 1 ∧ OffS (Out g0 1) y S 1 ∧ (OffW (fun b => b ≠ Nr) A n ∧ OffS (fun b => b ≠ Nr) y R 1 ∧ OffS (fun b => b ≠ Nr) y S 1) ∧ (OffW Q A n ∧ OffS Q y R 1 ∧ OffS Q y S 1) ∧ Below wr.heap.size wr y
theorem DirCE.of {Q : Nat → Prop} {c : Int} {r : Nat} {wr w4 y : World} {Nr g0 n N2 s0 b9 b10 ka ra sa kx : Nat} {OLD : List Value} {G : Nat → Nat} {A R S X : Option Addr} (hk : Keep (Qn g0 wr.heap.size N2) w4 y) (n1 : wr.heap.size ≤ b9) (n2 : wr.heap.size ≤ b10) (v9 : VarAt y b9 [.int .i64 1, .int .i64 c, .slice A n ka, .int .u64 (r : Int), .slice R 1 ra, .slice S 1 sa]) (v10 : VarAt y b10 [.int .u64 (s0 : Int), .slice X 0 kx, .bool false]) (vg : VarAt y g0 OLD)
  (hA : AtW w4 A n G) (h0 : StmsAt w4 R 1 (zerosS 1)) (h1 : StmsAt w4 S 1 (zerosS 1)) (o0 : OffW (Qn g0 wr.heap.size N2) A n) (o1 : OffS (Qn g0 wr.heap.size N2) w4 R 1) (o2 : OffS (Qn g0 wr.heap.size N2) w4 S 1) (p0 : OffW (fun b => b ≠ Nr) A n) (p1 : OffS (fun b => b ≠ Nr) w4 R 1) (p2 : OffS (fun b => b ≠ Nr) w4 S 1) (u0 : OffW Q A n) (u1 : OffS Q w4 R 1) (u2 : OffS Q w4 S 1) (hb : Below wr.heap.size wr y) :
  DirCE Q c r wr Nr g0 n OLD G s0 (.pointer (some ⟨b9, 0, none⟩)) (.pointer (some ⟨b10, 0, none⟩)) y :=
 ⟨b9, b10, A, ka, R, ra, S, sa, X, kx, rfl, rfl, n1, n2, v9, v10, vg, hA.keep hk o0, h0.keep hk o1, h1.keep hk o2, o0.mono fun b hb => by unfold Qn at hb; unfold Out; omega,
  (o1.keep h0 hk o1).mono fun b hb => by unfold Qn at hb; unfold Out; omega, (o2.keep h1 hk o2).mono fun b hb => by unfold Qn at hb; unfold Out; omega, ⟨p0, p1.keep h0 hk o1, p2.keep h1 hk o2⟩, ⟨u0, u1.keep h0 hk o1, u2.keep h1 hk o2⟩, hb⟩
def memTell (n : Nat) (G : Nat → Nat) (k i : Int) (a b : Nat) : Tell (Nat → Nat) :=
 if 0 ≤ k ∧ k < 5 ∧ 0 ≤ i ∧ i < n then .told (toldN k.toNat a b (G i.toNat) % 18446744073709551616) (setW G i.toNat (isN k.toNat a b (G i.toNat))) else .bad
theorem mem_none {t n : Nat} {G : Nat → Nat} (hG : ∀ j, G j < 18446744073709551616) (hn : 1 < n) (f : Nat) (h : firstN (G 1) = 0) : popRun (memTell n) t (f + 1) G = .done 0 G := by
 have h1 := mod64 (hG 1)
 have hi : ((1 : Int)).toNat = 1 := rfl
 have h0 : ((0 : Int)).toNat = 0 := rfl
 have hn1 : (1 : Int) < (n : Int) := by omega
 simp [popRun, memTell, toldN, isN, hi, h0, h1, h, hn1, setW_same]
theorem mem_pop {t c : Nat} {G : Nat → Nat} (hG : ∀ j, G j < 18446744073709551616) (f : Nat) {a : Nat} {l : List Nat} (hF : FreeIs t G (a :: l)) (ha : a ≤ c) : popRun (memTell (sizeN t c)) t (f + 1) G = .done a (popG t G) := by
 have h : firstN (G 1) ≠ 0 := by rw [hF.top.1]; have := hF.top.2; omega
 have hL : fieldN t (firstN (G 1)) 7 < sizeN t c := by rw [hF.top.1]; exact field_size hF.top.2 ha
 have e1 := hF.top.1
 have h1 := mod64 (hG 1)
 have h2 := mod64 (hG (fieldN t (firstN (G 1)) 7))
 have hi : ((1 : Int)).toNat = 1 := rfl
 have h0 : ((0 : Int)).toNat = 0 := rfl
 have h02 : ((2 : Int)).toNat = 2 := rfl
 have hn1 : (1 : Int) < (sizeN t c : Int) := by have := @size_pos t c; omega
 have hp : popG t G = setW G 1 (topN (firstN (G (fieldN t (firstN (G 1)) 7))) (tagN (G 1) + 1)) := rfl
 simp [popRun, memTell, toldN, isN, hi, h0, h02, h1, h2, h, hn1, hL, setW_same]
 rw [hp]
 exact ⟨e1, rfl⟩
theorem mem_push {t c : Nat} {G : Nat → Nat} (hG : ∀ j, G j < 18446744073709551616) (f r : Nat) (h1 : 1 ≤ r) (hr : r ≤ c) : pushRun (memTell (sizeN t c)) t r (f + 1) G = .done 0 (pushG t r G) := by
 have hL : fieldN t r 7 < sizeN t c := field_size h1 hr
 have hm := mod64 (hG 1)
 have hne : ¬ (1 = fieldN t r 7) := by have := @field_ge t r; omega
 have hi : ((1 : Int)).toNat = 1 := rfl
 have h0 : ((0 : Int)).toNat = 0 := rfl
 have h02 : ((2 : Int)).toNat = 2 := rfl
 have h3 : ∀ v, setW G (fieldN t r 7) v 1 = G 1 := fun v => by unfold setW; rw [if_neg hne]
 have hn1 : (1 : Int) < (sizeN t c : Int) := by have := @size_pos t c; omega
 simp [pushRun, memTell, toldN, isN, hi, h0, h02, hm, h3, hn1, hL, setW_same, pushG]
end Go.Proofs.YtibpfkcackdbgaaGreatDoor
