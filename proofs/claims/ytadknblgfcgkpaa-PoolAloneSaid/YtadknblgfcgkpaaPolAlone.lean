/-
  wealdlaw12.alone: an operation that steps alone, from a memory on: what it answers, and the memory behind it, by a plain run.
-/
import Derived.Test.YtadknblgfcgkpaaPolNext
import Derived.Test.YtadknblgfcgkpaaPlyApp2
import Derived.Test.YtadknblgfcgkpaaAccBoth
namespace Go.Proofs.Ytadknblgfcgkpaa
open Go.ChangeShapes Go.WideShapes Go.ChangeAt Go.RowKit Go.BigFrame Go.Deep
set_option linter.unusedVariables false
set_option maxRecDepth 100000

/-! ### The run, plain -/
/-- An operation's run on a memory of n words, so many steps at most: what is answered, and the words then. -/
def aloneRun (t : Nat) (k u : Int) (n : Nat) : Nat → List Res → (Nat → Nat) → Option (Nat × (Nat → Nat))
  | 0, _, _ => none
  | f + 1, log, G =>
    match nextR t k u log with
    | .bad => none
    | .done r _ => some (r, G)
    | .left K i a b => if 0 ≤ K ∧ K < 5 ∧ 0 ≤ i ∧ i < n then aloneRun t k u n f (log ++ [⟨toldN K.toNat a b (G i.toNat), [], false⟩]) (setW G i.toNat (isN K.toNat a b (G i.toNat))) else none
theorem toldN_lt {K a b x : Nat} (h : x < 18446744073709551616) : toldN K a b x < 18446744073709551616 := by
  unfold toldN
  split
  · decide
  · split
    · split <;> decide
    · exact h
/-- What Next tells, where it asks. -/
def NextK (K i : Int) (a b : Nat) (w : World) (e : Ending) (w' : World) : Prop :=
  ∃ D dc E ec, e = .returned (.tuple #[.agg #[.int .i64 K, .int .i64 i, .int .u64 (a : Int), .int .u64 (b : Int), .slice D 0 dc, .slice E 0 ec], .agg #[.int .i64 0, .bool false, .int .i64 0, .int .u64 0, .slice none 0 0], .bool false]) ∧ a < 18446744073709551616 ∧ b < 18446744073709551616 ∧ Below w.heap.size w w'
/-- What an access of a word tells. -/
def DoK (w : World) (t c : Int) (A : Option Addr) (n r : Nat) (R S : Option Addr) (m : Nat) (G : Nat → Nat) (l0 l1 : List Stm) (N : Nat) (e : Ending) (w' : World) : Prop :=
  ∃ A' ka R' ra S' sa X kx, e = .returned (.tuple #[.agg #[.int .i64 t, .int .i64 c, .slice A' n ka, .int .u64 (r : Int), .slice R' m ra, .slice S' m sa], .agg #[.int .u64 (N : Int), .slice X 0 kx, .bool false]]) ∧ AtW w' A' n G ∧ StmsAt w' R' m l0 ∧ StmsAt w' S' m l1 ∧ Below w.heap.size w w' ∧
    ∀ P : Nat → Prop, (∀ b, w.heap.size ≤ b → P b) → OffW P A n → OffS P w R m → OffS P w S m → OffW P A' n ∧ OffS P w' R' m ∧ OffS P w' S' m

/-! ### What stands in a round -/
def Vars (L : List (Nat × List Value)) (x : World) : Prop := ∀ p ∈ L, VarAt x p.1 p.2
theorem Vars.below {L : List (Nat × List Value)} {x y : World} (h : Vars L x) (hb : Below x.heap.size x y) : Vars L y := fun p hp => (h p hp).below hb
theorem Vars.apart {L : List (Nat × List Value)} {x : World} (h : Vars L x) {b : Nat} (j : Nat) (v : Value) (hne : ∀ p ∈ L, b ≠ p.1) : Vars L (x.setCell ⟨b, j, none⟩ v) := fun p hp => (h p hp).apart j v (hne p hp)
/-- Whose blocks a world's memory may lie in, as it came. -/
def From (y0 : World) (B : Nat) (A0 : Option Addr) (n : Nat) (R0 S0 : Option Addr) (m : Nat) (P : Nat → Prop) : Prop := (∀ b, B ≤ b → P b) ∧ OffW P A0 n ∧ OffS P y0 R0 m ∧ OffS P y0 S0 m
def WdFrom (Q : Nat → Prop) (F : (Nat → Prop) → Prop) (x : World) (gx : Nat) (t c : Int) (n r m : Nat) (G : Nat → Nat) (l0 l1 : List Stm) : Prop :=
  ∃ A ka R ra S sa, WdAt x gx t c A n ka r R m ra S sa G l0 l1 ∧ OffW Q A n ∧ OffS Q x R m ∧ OffS Q x S m ∧ ∀ P, F P → OffW P A n ∧ OffS P x R m ∧ OffS P x S m
section
variable {Q Q' : Nat → Prop} {F : (Nat → Prop) → Prop} {x y : World} {gx : Nat} {t c : Int} {n r m : Nat} {G : Nat → Nat} {l0 l1 : List Stm}
theorem WdFrom.later (h : WdFrom Q F x gx t c n r m G l0 l1) (hb : Below x.heap.size x y) : WdFrom Q F y gx t c n r m G l0 l1 := by
  obtain ⟨A, ka, R, ra, S, sa, hw, o0, o1, o2, hP⟩ := h
  exact ⟨A, ka, R, ra, S, sa, hw.later hb, o0, o1.later hw.2.2.1 hb, o2.later hw.2.2.2 hb, fun P hF => ⟨(hP P hF).1, (hP P hF).2.1.later hw.2.2.1 hb, (hP P hF).2.2.later hw.2.2.2 hb⟩⟩
theorem WdFrom.keep (h : WdFrom Q F x gx t c n r m G l0 l1) (hK : Keep Q x y) (hv : ∀ vs, VarAt x gx vs → VarAt y gx vs) : WdFrom Q F y gx t c n r m G l0 l1 := by
  obtain ⟨A, ka, R, ra, S, sa, ⟨hw, hA, h0, h1⟩, o0, o1, o2, hP⟩ := h
  exact ⟨A, ka, R, ra, S, sa, ⟨hv _ hw, hA.keep hK o0, h0.keep hK o1, h1.keep hK o2⟩, o0, o1.keep h0 hK o1, o2.keep h1 hK o2, fun P hF => ⟨(hP P hF).1, (hP P hF).2.1.keep h0 hK o1, (hP P hF).2.2.keep h1 hK o2⟩⟩
theorem WdFrom.sub (h : WdFrom Q F x gx t c n r m G l0 l1) (hQ : ∀ b, b < x.heap.size → Q b → Q' b) : WdFrom Q' F x gx t c n r m G l0 l1 := by
  obtain ⟨A, ka, R, ra, S, sa, hw, o0, o1, o2, hP⟩ := h
  exact ⟨A, ka, R, ra, S, sa, hw, fun hp b off e => hQ b (hw.2.1.old hp b off e) (o0 hp b off e), ((o1.both hw.2.2.1.old).mono fun b h => hQ b h.2 h.1), ((o2.both hw.2.2.2.old).mono fun b h => hQ b h.2 h.1), hP⟩
theorem WdFrom.lt (h : WdFrom Q F x gx t c n r m G l0 l1) : gx < x.heap.size := by obtain ⟨A, ka, R, ra, S, sa, hw, _⟩ := h; exact hw.1.1
end
/-- Behind rounds: the world in its variable, the log in a row of the call's own, and other variables. -/
structure RunA (y0 : World) (gx B0 : Nat) (F : (Nat → Prop) → Prop) (L : List (Nat × List Value)) (t c : Int) (n r m : Nat) (l0 l1 : List Stm) (v : Value) (log : List Res) (G : Nat → Nat) (x : World) : Prop where
  below : Below y0.heap.size y0 x
  size : B0 ≤ x.heap.size
  lt : y0.heap.size ≤ gx ∧ gx < B0
  vars : Vars L x
  vlt : ∀ p ∈ L, y0.heap.size ≤ p.1 ∧ p.1 < B0 ∧ p.1 ≠ gx
  run : WdFrom (Nt gx gx v) F x gx t c n r m G l0 l1
  log : ∃ vs, x.ownsRow B0 80 3 v log.length vs ∧ LogRaw (Nt gx gx v) x vs log
/-- The same ahead of the append: the log as it was, and a result. -/
structure RunZA (y0 : World) (gx B0 : Nat) (F : (Nat → Prop) → Prop) (L : List (Nat × List Value)) (t c : Int) (n r m : Nat) (l0 l1 : List Stm) (v : Value) (log : List Res) (vs : List Value) (X : Option Addr) (kx N : Nat) (G : Nat → Nat) (x : World) : Prop where
  below : Below y0.heap.size y0 x
  size : B0 ≤ x.heap.size
  lt : y0.heap.size ≤ gx ∧ gx < B0
  vars : Vars L x
  vlt : ∀ p ∈ L, y0.heap.size ≤ p.1 ∧ p.1 < B0 ∧ p.1 ≠ gx
  run : WdFrom (Nt gx gx v) F x gx t c n r m G l0 l1
  own : x.ownsRow B0 80 3 v log.length vs
  raw : LogRaw (Nt gx gx v) x vs log
  num : N < 18446744073709551616
section
variable {y0 : World} {gx B0 : Nat} {F : (Nat → Prop) → Prop} {L : List (Nat × List Value)} {t c : Int} {n r m : Nat} {l0 l1 : List Stm} {v : Value} {log : List Res} {vs : List Value} {X : Option Addr} {kx N : Nat} {G : Nat → Nat} {x x' : World}
theorem RunZA.later (h : RunZA y0 gx B0 F L t c n r m l0 l1 v log vs X kx N G x) (hb : Below x.heap.size x x') : RunZA y0 gx B0 F L t c n r m l0 l1 v log vs X kx N G x' :=
  ⟨h.below.trans (hb.mono h.below.size), Nat.le_trans h.size hb.size, h.lt, h.vars.below hb, h.vlt, h.run.later hb, ownsRow_laterR h.own hb, h.raw.later hb, h.num⟩
theorem RunZA.next {v' : Value} {w' : World} (h : RunZA y0 gx B0 F L t c n r m l0 l1 v log vs X kx N G x)
    (hown : w'.ownsRow B0 80 3 v' (log.length + 1) (vs ++ resA ⟨N, [], false⟩ X kx)) (hg : x.grownBy w' v.ownBlock) (hv : v'.ownBlock = v.ownBlock ∨ v'.ownBlock = some x.heap.size) :
    RunA y0 gx B0 F L t c n r m l0 l1 v' (log ++ [⟨N, [], false⟩]) G w' := by
  have hrow : ∀ k, v.ownBlock = some k → B0 ≤ k := fun k hk => (h.own.lt k hk).1
  have hK : Keep (fun b => Nt gx gx v b ∧ Nt gx gx v' b) x w' := Keep.grown hg (fun b hb k hk => hb.1.2.2 k hk)
  have sub : ∀ b, b < x.heap.size → Nt gx gx v b → Nt gx gx v b ∧ Nt gx gx v' b := fun b hb hn => ⟨hn, hn.both hv hb⟩
  have hlt := h.lt
  have hvx : ∀ us, VarAt x gx us → VarAt w' gx us := fun us hu => hu.grown hg (fun k hk e => by have := hrow k hk; omega)
  have hb : Below y0.heap.size y0 w' := h.below.grown hg h.below.size (fun k hk => by have := hrow k hk; omega)
  have k1 := (h.run.sub sub).keep hK hvx
  have k3 := ((h.raw.sub sub).keep hK)
  have hres : ResP w' ⟨N, [], false⟩ X kx := ⟨h.num, ⟨Nat.zero_le _, Nat.zero_le _⟩, AtB.nil _ _⟩
  refine ⟨hb, Nat.le_trans h.size hg.size, hlt, fun p hp => (h.vars p hp).grown hg (fun k hk e => by have := hrow k hk; have := (h.vlt p hp).2.1; omega), h.vlt, k1.sub fun b _ h => h.2, _, ?_, (k3.add hres (OffW.nil _ _)).sub fun b _ h => h.2⟩
  rw [List.length_append]
  exact hown
end

/-- What alone tells, done. -/
def AloneEnd (w : World) (t c : Int) (A : Option Addr) (n r : Nat) (R S : Option Addr) (m : Nat) (G : Nat → Nat) (l0 l1 : List Stm) (er : Int) (N : Nat) (e : Ending) (w' : World) : Prop :=
  ∃ A' ka R' ra S' sa, e = .returned (.tuple #[.agg #[.int .i64 t, .int .i64 c, .slice A' n ka, .int .u64 (r : Int), .slice R' m ra, .slice S' m sa], .agg #[.int .i64 er, .bool false, .int .i64 (N : Int), .int .u64 0, .slice none 0 0], .bool true]) ∧ AtW w' A' n G ∧ StmsAt w' R' m l0 ∧ StmsAt w' S' m l1 ∧ Below w.heap.size w w' ∧
    ∀ P, From w w.heap.size A n R S m P → OffW P A' n ∧ OffS P w' R' m ∧ OffS P w' S' m
set_option maxHeartbeats 16000000 in
set_option maxRecDepth 100000 in
theorem alone_at (t : Nat) (ht : t ≤ 64) (c me k u v : Int) (q : Nat) (hu : k = 2 → 1 ≤ u ∧ u < 1048576) (most : Nat) (hm : most ≤ 1000) (A : Option Addr) (n ka r : Nat) (R : Option Addr) (m ra : Nat) (S : Option Addr) (sa : Nat) (hn : n ≤ 1000000) (G : Nat → Nat) (l0 l1 : List Stm) (N : Nat) (GF : Nat → Nat)
    (hrun : aloneRun t k u n (most + 1) [] G = some (N, GF)) (w : World) (HA : Hid (AtW w A n G)) (H0 : Hid (StmsAt w R m l0)) (H1 : Hid (StmsAt w S m l1)) :
    Calls Try.prog 15 #[.agg #[.int .i64 (t : Int), .int .i64 c, .slice A n ka, .int .u64 (r : Int), .slice R m ra, .slice S m sa], .int .i64 me, .agg #[.int .i64 k, .int .i64 u, .int .i64 v, .int .u64 (q : Int)], .int .i64 (most : Int)] w (AloneEnd w t c A n r R S m GF l0 l1 (ansE k) N) := by
  have HL : ∀ (la : Option Addr) (j cap : Nat) (log : List Res) (x : World), j ≤ cap → Hid (LogAt x la j log) → ∀ K i a b, nextR t k u log = .left K i a b → Calls Try.prog 10 #[.int .i64 (t : Int), .int .i64 c, .int .i64 me, .agg #[.int .i64 k, .int .i64 u, .int .i64 v, .int .u64 (q : Int)], .slice la j cap] x (NextK K i a b x) := by
    intro la j cap log x hc hl K i a b hN
    refine (next_left t ht c me k u v q hu la j cap log hc x hl K i a b hN).mono ?_
    rintro e w' ⟨D, dc, E, ec, rfl, hX, hb, _, _⟩
    exact ⟨D, dc, E, ec, rfl, hX.a, hX.b, hb⟩
  have HD : ∀ (la : Option Addr) (j cap : Nat) (log : List Res) (x : World), j ≤ cap → Hid (LogAt x la j log) → ∀ r' s, nextR t k u log = .done r' s → Calls Try.prog 10 #[.int .i64 (t : Int), .int .i64 c, .int .i64 me, .agg #[.int .i64 k, .int .i64 u, .int .i64 v, .int .u64 (q : Int)], .slice la j cap] x (RunE (ansE k) false (r' : Int) 0 x) :=
    fun la j cap log x hc hl r' s hN => next_done t ht c me k u v q hu la j cap log hc x hl r' s hN
  have HDO : ∀ (A : Option Addr) (ka : Nat) (G : Nat → Nat) (R : Option Addr) (ra : Nat) (S : Option Addr) (sa K i a b : Nat) (D : Option Addr) (dc : Nat) (E : Option Addr) (ec : Nat) (x : World), K < 5 → i < n → a < 18446744073709551616 → b < 18446744073709551616 → Hid (AtW x A n G) → Hid (StmsAt x R m l0) → Hid (StmsAt x S m l1) →
      Calls Try.prog 30 #[.agg #[.int .i64 (t : Int), .int .i64 c, .slice A n ka, .int .u64 (r : Int), .slice R m ra, .slice S m sa], .int .i64 me, .agg #[.int .i64 (K : Int), .int .i64 (i : Int), .int .u64 (a : Int), .int .u64 (b : Int), .slice D 0 dc, .slice E 0 ec], .bool false] x (DoK x t c A n r R S m (setW G i (isN K a b (G i))) l0 l1 (toldN K a b (G i))) := by
    intro A ka G R ra S sa K i a b D dc E ec x hK hi ha hb h0 h1 h2
    refine (doWord (t : Int) c A n ka G r R S m ra sa l0 l1 me a b D 0 dc E 0 ec K i hK hi hn h0.out.1 ha hb false x h0 h1 h2).mono ?_
    rintro e w' ⟨A', ka', R', ra', S', sa', X, kx, rfl, h1, h2, h3, h4, h5, h6, h7⟩
    exact ⟨A', ka', R', ra', S', sa', X, kx, rfl, h1, h2, h3, h6, fun P p0 p1 p2 p3 => ⟨(h7 P p0 p1 p2 p3).1, (h7 P p0 p1 p2 p3).2.1, (h7 P p0 p1 p2 p3).2.2.1⟩⟩
  have HM := Lib.hid hm
  have HRUN := Lib.hid hrun
  clear hrun hu ht hm
  go_enter Try.func15, Try.ntmps15
  go_upto_region 2 with fail
  refine gen_w (P := fun W => Code.wp _ _ _ _ W) (fun y => RunA w w.heap.size (w.heap.size + 1 + 1 + 1 + 1) (From w (w.heap.size + 1 + 1 + 1 + 1) A n R S m) [(w.heap.size + 1, [.int .i64 k, .int .i64 u, .int .i64 v, .int .u64 (q : Int)]), (w.heap.size + 1 + 1, [.int .i64 0, .int .i64 0, .slice none 0 0, .int .u64 0, .slice none 0 0, .slice none 0 0]), (w.heap.size + 1 + 1 + 1, [.int .i64 0, .bool false, .int .i64 0, .int .u64 0, .slice none 0 0])] t c n r m l0 l1 (.slice none 0 0) [] G y) ⟨(by repeat (first | with_reducible assumption | with_reducible exact Below.refl _ _ | with_reducible refine Below.drew ?_ | with_reducible refine below_al ?_ | (with_reducible refine below_set1 (by omega) _ ?_))), by simp, by omega, ?vars, ?vlt, ?run, ⟨[], World.ownsRow_nil _ _ _ _, LogRaw.nil _ _⟩⟩ ?_
  case vars =>
    intro p hp
    simp only [List.mem_cons, List.not_mem_nil, or_false] at hp
    rcases hp with rfl | rfl | rfl
    · exact VarAt.mk4 (by simp <;> omega) (by go_simp) (by go_simp) (by go_simp) (by go_simp) (by go_simp) (by go_simp) (by go_simp) (by go_simp)
    · exact VarAt.of6 (by simp <;> omega) (by go_simp) (by go_simp) (by go_simp) (by go_simp) (by go_simp) (by go_simp) (by go_simp) (by go_simp) (by go_simp) (by go_simp) (by go_simp) (by go_simp)
    · exact VarAt.mk5 (by simp <;> omega) (by go_simp) (by go_simp) (by go_simp) (by go_simp) (by go_simp) (by go_simp) (by go_simp) (by go_simp) (by go_simp) (by go_simp)
  case vlt =>
    intro p hp
    simp only [List.mem_cons, List.not_mem_nil, or_false] at hp
    rcases hp with rfl | rfl | rfl <;> simp only [] <;> omega
  case run =>
    have hb : Below w.heap.size w ((((w.alloc (.cells #[.int .i64 (t : Int), .int .i64 c, .slice A n ka, .int .u64 (r : Int), .slice R m ra, .slice S m sa] 51)).alloc (.cells #[.int .i64 k, .int .i64 u, .int .i64 v, .int .u64 (q : Int)] 24)).alloc (.cells #[.int .i64 0, .int .i64 0, .slice none 0 0, .int .u64 0, .slice none 0 0, .slice none 0 0] 51)).alloc (.cells #[.int .i64 0, .bool false, .int .i64 0, .int .u64 0, .slice none 0 0] 37)) := (by repeat (first | with_reducible assumption | with_reducible exact Below.refl _ _ | with_reducible refine Below.drew ?_ | with_reducible refine below_al ?_ | (with_reducible refine below_set1 (by omega) _ ?_)))
    have nt : ∀ b, b < w.heap.size → Nt w.heap.size w.heap.size (.slice none 0 0) b := fun b hb => ⟨by omega, by omega, fun k hk => by cases hk⟩
    exact ⟨A, ka, R, ra, S, sa, ⟨VarAt.of6 (by simp <;> omega) (by go_simp) (by go_simp) (by go_simp) (by go_simp) (by go_simp) (by go_simp) (by go_simp) (by go_simp) (by go_simp) (by go_simp) (by go_simp) (by go_simp), HA.out.later hb, H0.out.later hb, H1.out.later hb⟩, HA.out.old.mono nt, (H0.out.old.mono nt).later H0.out hb, (H1.out.old.mono nt).later H1.out hb, fun P hF => ⟨hF.2.1, hF.2.2.1.later H0.out hb, hF.2.2.2.later H1.out hb⟩⟩
  rintro y hy
  have HZ := Lib.hid hy
  clear hy
  obtain ⟨Nw, hNw⟩ : ∃ N, w.heap.size = N := ⟨_, rfl⟩
  rw [hNw] at HZ ⊢
  have HNW := Lib.hid hNw
  clear hNw
  go_wp2_with fail
  go_loopw [11, 12] (fun u11 u12 wr => ∃ (j : Nat) (log : List Res) (G : Nat → Nat), u12 = .int .i64 (j : Int) ∧ log.length = j ∧ aloneRun t k u n (most + 1 - j) log G = some (N, GF) ∧ RunA w Nw (Nw + 1 + 1 + 1 + 1) (From w (Nw + 1 + 1 + 1 + 1) A n R S m) [(Nw + 1, [.int .i64 k, .int .i64 u, .int .i64 v, .int .u64 (q : Int)]), (Nw + 1 + 1, [.int .i64 0, .int .i64 0, .slice none 0 0, .int .u64 0, .slice none 0 0, .slice none 0 0]), (Nw + 1 + 1 + 1, [.int .i64 0, .bool false, .int .i64 0, .int .u64 0, .slice none 0 0])] t c n r m l0 l1 u11 log G wr) (fun _ i _ => most + 1 - (intOf i).toNat)
  case atStart => exact ⟨0, [], G, rfl, rfl, HRUN.out, HZ.out⟩
  case round =>
    clear HZ HRUN
    clear y
    obtain ⟨j, log, G, rfl, hlen, hR, hrun⟩ := hrel
    have HR := Lib.hid hrun
    clear hrun
    have hjm : j ≤ most := by
      rcases Nat.lt_or_ge most j with h | h
      · rw [show most + 1 - j = 0 by omega] at hR; cases hR
      · exact h
    obtain ⟨f, hf⟩ : ∃ f, most + 1 - j = f + 1 := ⟨most - j, by omega⟩
    rw [hf] at hR
    have d1 : decide ((j : Int) ≤ (most : Int)) = true := by rw [decide_eq_true_iff]; omega
    have d1' : decide (j ≤ most) = true := by rw [decide_eq_true_iff]; omega
    obtain ⟨vs, hown, hraw⟩ := HR.out.log
    rw [hlen] at hown
    obtain ⟨la, cap, rfl, hcap, hlog, _⟩ := hraw.raw.at_ hown (by have := HM.out; omega)
    have HOWN := Lib.hid hown
    have HRAW := Lib.hid hraw
    have HLEN := Lib.hid hlen
    have HLOG := Lib.hid hlog
    have HF := Lib.hid hf
    have HV := Lib.hid HR.out.vars
    obtain ⟨A1, ka1, R1, ra1, S1, sa1, hW, o0, o1, o2, hP⟩ := HR.out.run
    have W1 := Lib.hid hW
    have O1 := Lib.hid (And.intro o0 (And.intro o1 (And.intro o2 hP)))
    have HBW := Lib.hid HR.out.below
    have HSZ := Lib.hid HR.out.size
    clear hlog hown hraw hW o0 o1 o2 hP hf HR
    obtain ⟨c0, c1, c2, c3, c4, c5⟩ := W1.out.cells
    have v1 := HV.out (Nw + 1, [.int .i64 k, .int .i64 u, .int .i64 v, .int .u64 (q : Int)]) (by simp)
    obtain ⟨b0, b1, b2, b3⟩ : wr.cell? ⟨Nw + 1, 0, none⟩ = some (.int .i64 k) ∧ wr.cell? ⟨Nw + 1, 1, none⟩ = some (.int .i64 u) ∧ wr.cell? ⟨Nw + 1, 2, none⟩ = some (.int .i64 v) ∧ wr.cell? ⟨Nw + 1, 3, none⟩ = some (.int .u64 (q : Int)) := ⟨v1.2.1 0 _ rfl, v1.2.1 1 _ rfl, v1.2.1 2 _ rfl, v1.2.1 3 _ rfl⟩
    clear v1
    unfold aloneRun at hR
    cases hN : nextR t k u log with
    | bad => rw [hN] at hR; cases hR
    | done r' s =>
      rw [hN] at hR
      cases hR
      have HDj := HD la j cap log wr hcap HLOG _ _ hN
      clear hN HD HL HDO hlen hcap
      go_wp2_with fail
      (with_reducible refine HDj.mono ?_)
      clear HDj
      rintro e w3 ⟨rfl, hb3⟩
      go_upto_region 7 with fail
      have hbx3 : Below w3.heap.size w3 ((w3.alloc (.cells #[.int .i64 0, .int .i64 0, .int .u64 0, .int .u64 0, .slice none 0 0, .slice none 0 0] 33)).alloc (.cells #[.int .i64 (ansE k), .bool false, .int .i64 (N : Int), .int .u64 0, .slice none 0 0] 37)) := below_pair _ _ _
      have V3 := VarAt.made1 w3 (.cells #[.int .i64 0, .int .i64 0, .int .u64 0, .int .u64 0, .slice none 0 0, .slice none 0 0] 33) #[.int .i64 (ansE k), .bool false, .int .i64 (N : Int), .int .u64 0, .slice none 0 0] 37
      have BX := hb3.trans (hbx3.mono hb3.size)
      generalize (w3.alloc (.cells #[.int .i64 0, .int .i64 0, .int .u64 0, .int .u64 0, .slice none 0 0, .slice none 0 0] 33)).alloc (.cells #[.int .i64 (ansE k), .bool false, .int .i64 (N : Int), .int .u64 0, .slice none 0 0] 37) = x3 at hbx3 V3 BX ⊢
      have W3 := Lib.hid (W1.out.later BX)
      have hV3 := HV.out.below BX
      have HBW3 := Lib.hid (HBW.out.trans (BX.mono HBW.out.size))
      have OP3 : Hid (∀ P, From w (Nw + 1 + 1 + 1 + 1) A n R S m P → OffW P A1 n ∧ OffS P x3 R1 m ∧ OffS P x3 S1 m) := Lib.hid (fun P hF => ⟨(O1.out.2.2.2 P hF).1, (O1.out.2.2.2 P hF).2.1.later W1.out.2.2.1 BX, (O1.out.2.2.2 P hF).2.2.later W1.out.2.2.2 BX⟩)
      have hs3 : Nw + 1 + 1 + 1 + 1 ≤ w3.heap.size := Nat.le_trans HSZ.out hb3.size
      have HS3 := Lib.hid hs3
      obtain ⟨_, ⟨e1, e2, e3, e4, e5⟩, _⟩ := V3.five
      obtain ⟨m8, ⟨p0, p1, p2, p3, p4, p5⟩, q0, q1, q2, q3, q4, q5⟩ := (hV3 (Nw + 1 + 1, [.int .i64 0, .int .i64 0, .slice none 0 0, .int .u64 0, .slice none 0 0, .slice none 0 0]) (by simp)).six
      obtain ⟨m9, ⟨s1, s2, s3, s4, s5⟩, z1, z2, z3, z4, z5⟩ := (hV3 (Nw + 1 + 1 + 1, [.int .i64 0, .bool false, .int .i64 0, .int .u64 0, .slice none 0 0]) (by simp)).five
      clear hb3 hbx3 V3 BX hV3 c0 c1 c2 c3 c4 c5 b0 b1 b2 b3
      obtain ⟨c0, c1, c2, c3, c4, c5⟩ := W3.out.cells
      generalize w3.heap.size = b14 at e1 e2 e3 e4 e5 hs3 HS3 ⊢
      have n1 : ¬ (b14 + 1 = Nw + 1 + 1) := by omega
      have n2 : ¬ (Nw + 1 + 1 = b14 + 1) := by omega
      have n3 : ¬ (b14 + 1 = Nw + 1 + 1 + 1) := by omega
      have n4 : ¬ (Nw + 1 + 1 + 1 = b14 + 1) := by omega
      go_region
      all_goals
        go_wp2_with fail
        have hnw := HNW.out
        have hbw := HBW3.out
        have hPP := OP3.out (fun b => b < Nw ∨ Nw + 1 + 1 + 1 + 1 ≤ b) ⟨fun b hb => .inr hb, HA.out.old.mono fun b hb => .inl (by omega), H0.out.old.mono fun b hb => .inl (by omega), H1.out.old.mono fun b hb => .inl (by omega)⟩
        exact bodyPost_ret (v := .tuple #[.agg #[.int .i64 (t : Int), .int .i64 c, .slice A1 n ka1, .int .u64 (r : Int), .slice R1 m ra1, .slice S1 m sa1], .agg #[.int .i64 (ansE k), .bool false, .int .i64 (N : Int), .int .u64 0, .slice none 0 0], .bool true]) (by simp [results, Try.results15, go_sem, p0, p1, p2, p3, p4, p5, s1, s2, s3, s4, s5]) rfl
          ⟨A1, ka1, R1, ra1, S1, sa1, rfl, W3.out.2.1.keep (Q := fun b => b < Nw ∨ Nw + 1 + 1 + 1 + 1 ≤ b) (by repeat (first | with_reducible exact Keep.refl _ _ | with_reducible refine Keep.drew ?_ | with_reducible refine Keep.alloc ?_ _ | (with_reducible refine Keep.set ?_ _ _ _ (by omega)))) hPP.1, W3.out.2.2.1.keep (Q := fun b => b < Nw ∨ Nw + 1 + 1 + 1 + 1 ≤ b) (by repeat (first | with_reducible exact Keep.refl _ _ | with_reducible refine Keep.drew ?_ | with_reducible refine Keep.alloc ?_ _ | (with_reducible refine Keep.set ?_ _ _ _ (by omega)))) hPP.2.1, W3.out.2.2.2.keep (Q := fun b => b < Nw ∨ Nw + 1 + 1 + 1 + 1 ≤ b) (by repeat (first | with_reducible exact Keep.refl _ _ | with_reducible refine Keep.drew ?_ | with_reducible refine Keep.alloc ?_ _ | (with_reducible refine Keep.set ?_ _ _ _ (by omega)))) hPP.2.2, (by repeat (first | with_reducible assumption | with_reducible refine Below.drew ?_ | with_reducible refine below_al ?_ | (with_reducible refine below_set1 (by omega) _ ?_))), fun P hF => ⟨(OP3.out P ⟨fun b hb => hF.1 b (by omega), hF.2⟩).1, (OP3.out P ⟨fun b hb => hF.1 b (by omega), hF.2⟩).2.1.keep W3.out.2.2.1 (Q := fun b => b < Nw ∨ Nw + 1 + 1 + 1 + 1 ≤ b) (by repeat (first | with_reducible exact Keep.refl _ _ | with_reducible refine Keep.drew ?_ | with_reducible refine Keep.alloc ?_ _ | (with_reducible refine Keep.set ?_ _ _ _ (by omega)))) hPP.2.1, (OP3.out P ⟨fun b hb => hF.1 b (by omega), hF.2⟩).2.2.keep W3.out.2.2.2 (Q := fun b => b < Nw ∨ Nw + 1 + 1 + 1 + 1 ≤ b) (by repeat (first | with_reducible exact Keep.refl _ _ | with_reducible refine Keep.drew ?_ | with_reducible refine Keep.alloc ?_ _ | (with_reducible refine Keep.set ?_ _ _ _ (by omega)))) hPP.2.2⟩⟩
    | left K i a b =>
      rw [hN] at hR
      dsimp only at hR
      by_cases hcd : 0 ≤ K ∧ K < 5 ∧ 0 ≤ i ∧ i < n
      case neg => rw [if_neg hcd] at hR; cases hR
      rw [if_pos hcd] at hR
      obtain ⟨hk0, hk5, hi0, hin⟩ := hcd
      obtain ⟨Kn, rfl⟩ : ∃ Kn : Nat, K = (Kn : Int) := ⟨K.toNat, by omega⟩
      obtain ⟨ix, rfl⟩ : ∃ ix : Nat, i = (ix : Int) := ⟨i.toNat, by omega⟩
      rw [Int.toNat_natCast, Int.toNat_natCast] at hR
      have hj1 : j < most := by
        cases f with
        | zero => cases hR
        | succ f => have := HF.out; omega
      have HJ1 := Lib.hid hj1
      have HLj := HL la j cap log wr hcap HLOG _ _ _ _ hN
      have HDj := fun D dc E ec x ha hb h0 h1 h2 => HDO A1 ka1 G R1 ra1 S1 sa1 Kn ix a b D dc E ec x (by omega) (by omega) ha hb h0 h1 h2
      have hN5 : toldN Kn a b (G ix) < 18446744073709551616 := toldN_lt (W1.out.2.1.1 ix)
      have HN5 := Lib.hid hN5
      have HRN := Lib.hid hR
      generalize toldN Kn a b (G ix) = N5 at *
      generalize setW G ix (isN Kn a b (G ix)) = G5 at *
      clear hN HD HL HDO hlen hcap hk0 hk5 hi0 hin hN5 hR
      go_wp2_with fail
      (with_reducible refine HLj.mono ?_)
      clear HLj
      rintro e w3 ⟨D3, dc3, E3, ec3, rfl, ha3, hb3', hb3⟩
      go_upto_region 8 with fail
      have hbx3 : Below w3.heap.size w3 ((w3.alloc (.cells #[.int .i64 (Kn : Int), .int .i64 (ix : Int), .int .u64 (a : Int), .int .u64 (b : Int), .slice D3 0 dc3, .slice E3 0 ec3] 33)).alloc (.cells #[.int .i64 0, .bool false, .int .i64 0, .int .u64 0, .slice none 0 0] 37)) := below_pair _ _ _
      have V3 := (VarAt.made w3 #[.int .i64 (Kn : Int), .int .i64 (ix : Int), .int .u64 (a : Int), .int .u64 (b : Int), .slice D3 0 dc3, .slice E3 0 ec3] 33).below (al_below _ (.cells #[.int .i64 0, .bool false, .int .i64 0, .int .u64 0, .slice none 0 0] 37))
      have BX := hb3.trans (hbx3.mono hb3.size)
      generalize (w3.alloc (.cells #[.int .i64 (Kn : Int), .int .i64 (ix : Int), .int .u64 (a : Int), .int .u64 (b : Int), .slice D3 0 dc3, .slice E3 0 ec3] 33)).alloc (.cells #[.int .i64 0, .bool false, .int .i64 0, .int .u64 0, .slice none 0 0] 37) = x3 at hbx3 V3 BX ⊢
      generalize w3.heap.size = b14 at V3 ⊢
      have W3 := Lib.hid (W1.out.later BX)
      have HV3 := Lib.hid (HV.out.below BX)
      have HBW3 := Lib.hid (HBW.out.trans (BX.mono HBW.out.size))
      have O3 := Lib.hid (And.intro O1.out.1 (And.intro (O1.out.2.1.later W1.out.2.2.1 BX) (O1.out.2.2.1.later W1.out.2.2.2 BX)))
      have OP3 : Hid (∀ P, From w (Nw + 1 + 1 + 1 + 1) A n R S m P → OffW P A1 n ∧ OffS P x3 R1 m ∧ OffS P x3 S1 m) := Lib.hid (fun P hF => ⟨(O1.out.2.2.2 P hF).1, (O1.out.2.2.2 P hF).2.1.later W1.out.2.2.1 BX, (O1.out.2.2.2 P hF).2.2.later W1.out.2.2.2 BX⟩)
      have HOWN3 := Lib.hid (ownsRow_laterR HOWN.out BX)
      have HRAW3 := Lib.hid (HRAW.out.later BX)
      have HSZ3 := Lib.hid (Nat.le_trans HSZ.out BX.size)
      obtain ⟨_, ⟨a0, a1, a2, a3, a4, a5⟩, _⟩ := V3.six
      clear hb3 hbx3 V3 BX c0 c1 c2 c3 c4 c5 b0 b1 b2 b3 W1 HV HBW O1 HOWN HRAW HSZ HLOG
      obtain ⟨c0, c1, c2, c3, c4, c5⟩ := W3.out.cells
      go_wp2_with fail
      clear c0 c1 c2 c3 c4 c5 a0 a1 a2 a3 a4 a5
      (with_reducible refine (HDj _ _ _ _ _ ha3 hb3' W3.out.gA W3.out.g0 W3.out.g1).mono ?_)
      clear HDj
      rintro e w5 ⟨A5, k5, R5, ra5, S5, sa5, X5, kx5, rfl, ha, hs0, hs1, hb, hP⟩
      go_upto_region 9 with fail
      have hbx5 : Below w5.heap.size w5 ((w5.alloc (.cells #[.int .i64 (t : Int), .int .i64 c, .slice A5 n k5, .int .u64 (r : Int), .slice R5 m ra5, .slice S5 m sa5] 51)).alloc (.cells #[.int .u64 (N5 : Int), .slice X5 0 kx5, .bool false] 80)) := below_pair _ _ _
      have W5 := Lib.hid (WdAt.made (t := (t : Int)) (c := c) (k := k5) (r := r) (ra := ra5) (sa := sa5) w5 (.cells #[.int .u64 (N5 : Int), .slice X5 0 kx5, .bool false] 80) 51 ha hs0 hs1)
      have V5 := Lib.hid (VarAt.made1 w5 (.cells #[.int .i64 (t : Int), .int .i64 c, .slice A5 n k5, .int .u64 (r : Int), .slice R5 m ra5, .slice S5 m sa5] 51) #[.int .u64 (N5 : Int), .slice X5 0 kx5, .bool false] 80)
      have hbn5 := hb.trans (hbx5.mono hb.size)
      have OS5 := Lib.hid hs0
      have OT5 := Lib.hid hs1
      generalize (w5.alloc (.cells #[.int .i64 (t : Int), .int .i64 c, .slice A5 n k5, .int .u64 (r : Int), .slice R5 m ra5, .slice S5 m sa5] 51)).alloc (.cells #[.int .u64 (N5 : Int), .slice X5 0 kx5, .bool false] 80) = x5 at hbx5 W5 V5 hbn5 ⊢
      have hgx : Nw < x3.heap.size := W3.out.1.1
      have hvb : ∀ k, (Value.slice la j cap).ownBlock = some k → k < x3.heap.size := fun k hk => (HOWN3.out.lt k hk).2
      have O5 : Hid (OffW (Nt Nw Nw (.slice la j cap)) A5 n ∧ OffS (Nt Nw Nw (.slice la j cap)) x5 R5 m ∧ OffS (Nt Nw Nw (.slice la j cap)) x5 S5 m) := Lib.hid (by
        obtain ⟨q0, q1, q2⟩ := hP (Nt Nw Nw (.slice la j cap)) (fun b hb => ⟨by omega, by omega, fun k hk => by have := hvb k hk; omega⟩) O3.out.1 O3.out.2.1 O3.out.2.2
        exact ⟨q0, q1.later hs0 hbx5, q2.later hs1 hbx5⟩)
      have OP5 : Hid (∀ P, From w (Nw + 1 + 1 + 1 + 1) A n R S m P → OffW P A5 n ∧ OffS P x5 R5 m ∧ OffS P x5 S5 m) := Lib.hid (fun P hF => by
        obtain ⟨q0, q1, q2⟩ := OP3.out P hF
        obtain ⟨q3, q4, q5⟩ := hP P (fun b hb => hF.1 b (Nat.le_trans HSZ3.out hb)) q0 q1 q2
        exact ⟨q3, q4.later hs0 hbx5, q5.later hs1 hbx5⟩)
      have h5s : x3.heap.size ≤ w5.heap.size := hb.size
      have h5x : w5.heap.size + 1 < x5.heap.size := V5.out.1
      clear ha hs0 hs1 hb hP hbx5 OS5 OT5 hgx hvb OP3
      generalize w5.heap.size = b17 at W5 V5 h5s h5x ⊢
      have WX := Lib.hid (W3.out.1.below hbn5)
      have HOWNn := Lib.hid (ownsRow_laterR HOWN3.out hbn5); clear HOWN3; have HOWN := HOWNn; clear HOWNn
      have HRAWn := Lib.hid (HRAW3.out.later hbn5); clear HRAW3; have HRAW := HRAWn; clear HRAWn
      have HV5 := Lib.hid (HV3.out.below hbn5)
      have HBW5 := Lib.hid (HBW3.out.trans (hbn5.mono HBW3.out.size))
      have HSZ5 := Lib.hid (Nat.le_trans HSZ3.out hbn5.size)
      have hgx3 : Nw < x3.heap.size := W3.out.1.1
      clear hbn5 W3 HV3 HBW3 O3
      have n5 : ¬ (b17 = Nw) := by omega
      have n7 : ¬ (b17 + 1 = Nw) := by omega
      have n15 : ¬ (Nw = b17) := by omega
      have hs35 := HSZ3.out
      obtain ⟨_, ⟨c0, c1, c2, c3, c4, c5⟩, _⟩ := W5.out.1.six
      obtain ⟨_, g0, g1, g2, _⟩ := V5.out.three
      obtain ⟨zx, ⟨x0, x1, x2, x3', x4', x5'⟩, y0, y1, y2, y3, y4, y5⟩ := WX.out.six
      go_upto_region 10 with fail
      have hrow : ∀ k, (Value.slice la j cap).ownBlock = some k → Nw + 1 + 1 + 1 + 1 ≤ k := fun k hk => (HOWN.out.lt k hk).1
      have hbw5 := HBW5.out
      have hsz5 := HSZ5.out
      have hnw := HNW.out
      have hlen := HLEN.out
      refine gen_w (P := fun W => Code.wp _ _ _ _ W) (fun z => RunZA w Nw (Nw + 1 + 1 + 1 + 1) (From w (Nw + 1 + 1 + 1 + 1) A n R S m) [(Nw + 1, [.int .i64 k, .int .i64 u, .int .i64 v, .int .u64 (q : Int)]), (Nw + 1 + 1, [.int .i64 0, .int .i64 0, .slice none 0 0, .int .u64 0, .slice none 0 0, .slice none 0 0]), (Nw + 1 + 1 + 1, [.int .i64 0, .bool false, .int .i64 0, .int .u64 0, .slice none 0 0])] t c n r m l0 l1 (.slice la j cap) log vs X5 kx5 N5 G5 z ∧ VarAt z (b17 + 1) [.int .u64 (N5 : Int), .slice X5 0 kx5, .bool false]) ⟨⟨(by repeat (first | with_reducible exact hbw5 | with_reducible refine Below.drew ?_ | with_reducible refine below_al ?_ | (with_reducible refine below_set1 (by omega) _ ?_))), by simp; omega, by omega, (by have hv := HV5.out; repeat (first | with_reducible exact hv | (with_reducible refine Vars.apart ?_ _ _ (by intro p hp; simp only [List.mem_cons, List.not_mem_nil, or_false] at hp; rcases hp with rfl | rfl | rfl <;> simp only [] <;> omega)))), (by intro p hp; simp only [List.mem_cons, List.not_mem_nil, or_false] at hp; rcases hp with rfl | rfl | rfl <;> simp only [] <;> omega), ⟨A5, k5, R5, ra5, S5, sa5, ⟨VarAt.of6 (by simp; omega) (by go_simp) (by go_simp) (by go_simp) (by go_simp) (by go_simp) (by go_simp) (by go_simp) (by go_simp) (by go_simp) (by go_simp) (by go_simp) (by go_simp), W5.out.2.1.keep (by repeat (first | with_reducible exact Keep.refl _ _ | with_reducible refine Keep.drew ?_ | with_reducible refine Keep.alloc ?_ _ | (with_reducible refine Keep.set ?_ _ _ _ (by unfold Nt; omega)))) O5.out.1, W5.out.2.2.1.keep (by repeat (first | with_reducible exact Keep.refl _ _ | with_reducible refine Keep.drew ?_ | with_reducible refine Keep.alloc ?_ _ | (with_reducible refine Keep.set ?_ _ _ _ (by unfold Nt; omega)))) O5.out.2.1, W5.out.2.2.2.keep (by repeat (first | with_reducible exact Keep.refl _ _ | with_reducible refine Keep.drew ?_ | with_reducible refine Keep.alloc ?_ _ | (with_reducible refine Keep.set ?_ _ _ _ (by unfold Nt; omega)))) O5.out.2.2⟩, O5.out.1, O5.out.2.1.keep W5.out.2.2.1 (by repeat (first | with_reducible exact Keep.refl _ _ | with_reducible refine Keep.drew ?_ | with_reducible refine Keep.alloc ?_ _ | (with_reducible refine Keep.set ?_ _ _ _ (by unfold Nt; omega)))) O5.out.2.1, O5.out.2.2.keep W5.out.2.2.2 (by repeat (first | with_reducible exact Keep.refl _ _ | with_reducible refine Keep.drew ?_ | with_reducible refine Keep.alloc ?_ _ | (with_reducible refine Keep.set ?_ _ _ _ (by unfold Nt; omega)))) O5.out.2.2, fun P hF => ⟨(OP5.out P hF).1, (OP5.out P hF).2.1.keep W5.out.2.2.1 (by repeat (first | with_reducible exact Keep.refl _ _ | with_reducible refine Keep.drew ?_ | with_reducible refine Keep.alloc ?_ _ | (with_reducible refine Keep.set ?_ _ _ _ (by unfold Nt; omega)))) O5.out.2.1, (OP5.out P hF).2.2.keep W5.out.2.2.2 (by repeat (first | with_reducible exact Keep.refl _ _ | with_reducible refine Keep.drew ?_ | with_reducible refine Keep.alloc ?_ _ | (with_reducible refine Keep.set ?_ _ _ _ (by unfold Nt; omega)))) O5.out.2.2⟩⟩, by rw [hlen]; exact (by repeat (first | with_reducible exact HOWN.out | (with_reducible refine ownsRow_apart ?_ _ _ _ (by omega)))), HRAW.out.keep (by repeat (first | with_reducible exact Keep.refl _ _ | with_reducible refine Keep.drew ?_ | with_reducible refine Keep.alloc ?_ _ | (with_reducible refine Keep.set ?_ _ _ _ (by unfold Nt; omega)))), HN5.out⟩, (by repeat (first | with_reducible exact V5.out | (with_reducible refine VarAt.apart ?_ _ _ (by omega))))⟩ ?_
      rintro z ⟨k0, k1⟩
      obtain ⟨zz, g0, g1, g2, _⟩ := k1.three
      have KZ := Lib.hid k0
      have HOZ : Hid (∀ o, (z.alloc o).ownsRow (Nw + 1 + 1 + 1 + 1) 80 3 (.slice la j cap) j vs) := Lib.hid (fun o => by have h := (k0.later (al_below z o)).own; rw [hlen] at h; exact h)
      have hjk : j ≤ 1000 := by have := HM.out; omega
      have HJ : Hid (j ≤ 900000) := Lib.hid (by have := HM.out; omega)
      have HLQ : Hid (log.length = j) := HLEN
      clear k0 k1 c0 c1 c2 c3 c4 c5 zx x0 x1 x2 x3' x4' x5' y0 y1 y2 y3 y4 y5 hrow hbw5 hsz5 hnw h5s h5x hgx3 hs35
      clear WX W5 V5 HOWN HRAW HV5 HBW5 O5 OP5
      go_wp2_with (at_builtin; (refine wpList_appendR1 (by rfl) (.tmp 48) (.tmp 50) (by rfl) (Nw + 1 + 1 + 1 + 1) (.slice la j cap) j vs (by rfl) (HOZ.out _) z.heap.size 1 ⟨N5, [], false⟩ X5 kx5 (by rfl) (by go_simp) (by go_simp) (by go_simp) HJ.out (by have := KZ.out.size; simp; omega) ?_); (intro v9 w9 hown9 hg9 hv9; have HNX : Hid (RunA w Nw (Nw + 1 + 1 + 1 + 1) (From w (Nw + 1 + 1 + 1 + 1) A n R S m) [(Nw + 1, [.int .i64 k, .int .i64 u, .int .i64 v, .int .u64 (q : Int)]), (Nw + 1 + 1, [.int .i64 0, .int .i64 0, .slice none 0 0, .int .u64 0, .slice none 0 0, .slice none 0 0]), (Nw + 1 + 1 + 1, [.int .i64 0, .bool false, .int .i64 0, .int .u64 0, .slice none 0 0])] t c n r m l0 l1 v9 (log ++ [⟨N5, [], false⟩]) G5 w9) := Lib.hid ((KZ.out.later (al_below z _)).next (by rw [HLQ.out]; exact hown9) hg9 hv9); clear hown9 hg9 hv9))
      go_roundw
      case rel =>
        refine ⟨j + 1, log ++ [⟨N5, [], false⟩], G5, by go_num, by rw [List.length_append, HLQ.out]; rfl, ?_, HNX.out⟩
        rw [show most + 1 - (j + 1) = f by have := HF.out; omega]
        exact HRN.out
      case measure => have := HJ1.out; simp [intOf]; omega
end Go.Proofs.Ytadknblgfcgkpaa
