/-
  What PoolDirect's loop keeps: a world whose accesses are made at once, another one whose operations step alone, and a row of records that are had.
-/
import Derived.Test.YtadknblgfcgkpaaPolDir
import Derived.Test.YtadknblgfcgkpaaPolLoop
namespace Go.Proofs.Ytadknblgfcgkpaa
open Go.ChangeShapes Go.WideShapes Go.ChangeAt Go.RowKit Go.BigFrame
set_option linter.unusedVariables false
set_option maxRecDepth 100000

theorem But.grownBy {g : Nat} {w w' : World} (h : But g w w') : w.grownBy w' (some g) := ⟨h.below.os, h.below.tape, h.below.output, h.below.size, fun k hk hne => h.block k hk (fun e => hne (by rw [e]))⟩
section
variable {Q Q' : Nat → Prop} {c : Int} {r g p0 p1 n : Nat} {G : Nat → Nat} {x y : World}
theorem DirC.keep (h : DirC Q c r g p0 p1 n G x) (hK : Keep Q x y) (hv : ∀ b vs, b = g ∨ b = p0 ∨ b = p1 → VarAt x b vs → VarAt y b vs) : DirC Q c r g p0 p1 n G y := by
  obtain ⟨⟨A, ka, R, ra, S, sa, ⟨hw, hA, h0, h1⟩, o0, o1, o2, u0, u1, u2⟩, v0, v1⟩ := h
  exact ⟨⟨A, ka, R, ra, S, sa, ⟨hv _ _ (.inl rfl) hw, hA.keep hK u0, h0.keep hK u1, h1.keep hK u2⟩, o0, o1.keep h0 hK u1, o2.keep h1 hK u2, u0, u1.keep h0 hK u1, u2.keep h1 hK u2⟩, hv _ _ (.inr (.inl rfl)) v0, hv _ _ (.inr (.inr rfl)) v1⟩
theorem DirC.sub (h : DirC Q c r g p0 p1 n G x) (hQ : ∀ b, b < x.heap.size → Q b → Q' b) : DirC Q' c r g p0 p1 n G x := by
  obtain ⟨⟨A, ka, R, ra, S, sa, hw, o0, o1, o2, u0, u1, u2⟩, v0, v1⟩ := h
  exact ⟨⟨A, ka, R, ra, S, sa, hw, o0, o1, o2, fun hp b off e => hQ b (hw.2.1.old hp b off e) (u0 hp b off e), ((u1.both hw.2.2.1.old).mono fun b h => hQ b h.2 h.1), ((u2.both hw.2.2.2.old).mono fun b h => hQ b h.2 h.1)⟩, v0, v1⟩
end
/-- A loop's state: the world at b0 is made accesses of at once, by what lies at p0 and p1; that at b1 not. -/
structure RunD (y0 : World) (b0 b1 p0 p1 B0 c n r : Nat) (v : Value) (hs : List Nat) (Gd Gv : Nat → Nat) (x : World) : Prop where
  below : Below y0.heap.size y0 x
  size : B0 ≤ x.heap.size
  lt : (y0.heap.size ≤ b0 ∧ b0 < B0) ∧ (y0.heap.size ≤ b1 ∧ b1 < B0) ∧ (y0.heap.size ≤ p0 ∧ p0 < B0) ∧ (y0.heap.size ≤ p1 ∧ p1 < B0) ∧ b0 ≠ b1 ∧ p0 ≠ b0 ∧ p0 ≠ b1 ∧ p1 ≠ b0 ∧ p1 ≠ b1
  dir : DirC (Nt b0 b1 v) (c : Int) r b0 p0 p1 n Gd x
  run : WdFrom (Nt b0 b1 v) (fun _ => False) x b1 1 (c : Int) n r 1 Gv (zerosS 1) (zerosS 1)
  own : OwnI x B0 v hs
section
variable {y0 : World} {b0 b1 p0 p1 B0 c n r : Nat} {v : Value} {hs : List Nat} {Gd Gv Gd' Gv' : Nat → Nat} {x x' : World}
theorem RunD.later (h : RunD y0 b0 b1 p0 p1 B0 c n r v hs Gd Gv x) (hb : Below x.heap.size x x') : RunD y0 b0 b1 p0 p1 B0 c n r v hs Gd Gv x' :=
  ⟨h.below.trans (hb.mono h.below.size), Nat.le_trans h.size hb.size, h.lt, h.dir.below hb, h.run.later hb, h.own.later hb⟩
theorem RunD.old (h : RunD y0 b0 b1 p0 p1 B0 c n r v hs Gd Gv x) : ∀ b, x.heap.size ≤ b → Nt b0 b1 v b := fun b hb => ⟨by have := h.lt; have := h.size; omega, by have := h.lt; have := h.size; omega, fun k hk => by have := (h.own.lt k hk).2; omega⟩
theorem RunD.next {v' : Value} {hs' : List Nat} {w' : World} (h : RunD y0 b0 b1 p0 p1 B0 c n r v hs Gd Gv x) (hown : OwnI w' B0 v' hs') (hg : x.grownBy w' v.ownBlock) (hv : v'.ownBlock = v.ownBlock ∨ v'.ownBlock = some x.heap.size) : RunD y0 b0 b1 p0 p1 B0 c n r v' hs' Gd Gv w' := by
  have hrow : ∀ k, v.ownBlock = some k → B0 ≤ k := fun k hk => (h.own.lt k hk).1
  have hK : Keep (fun b => Nt b0 b1 v b ∧ Nt b0 b1 v' b) x w' := Keep.grown hg (fun b hb k hk => hb.1.2.2 k hk)
  have sub : ∀ b, b < x.heap.size → Nt b0 b1 v b → Nt b0 b1 v b ∧ Nt b0 b1 v' b := fun b hb hn => ⟨hn, hn.both hv hb⟩
  have hlt := h.lt
  have hvx : ∀ b us, b < B0 → VarAt x b us → VarAt w' b us := fun b us hb hu => hu.grown hg (fun k hk e => by have := hrow k hk; omega)
  have hb : Below y0.heap.size y0 w' := h.below.grown hg h.below.size (fun k hk => by have := hrow k hk; omega)
  exact ⟨hb, Nat.le_trans h.size hg.size, hlt, ((h.dir.sub sub).keep hK (fun b us hbb hu => hvx b us (by rcases hbb with rfl | rfl | rfl <;> omega) hu)).sub fun b _ h => h.2, ((h.run.sub sub).keep hK (fun us hu => hvx _ us hlt.2.1.2 hu)).sub fun b _ h => h.2, hown⟩
theorem RunD.cut {a : Option Addr} {k cap m : Nat} (h : RunD y0 b0 b1 p0 p1 B0 c n r (.slice a k cap) hs Gd Gv x) (hm : m ≤ hs.length) (hz : a ≠ none) : RunD y0 b0 b1 p0 p1 B0 c n r (.slice a m cap) (hs.take m) Gd Gv x := by
  have hn : ∀ b, b < x.heap.size → Nt b0 b1 (.slice a k cap) b → Nt b0 b1 (.slice a m cap) b := fun b _ hn => ⟨hn.1, hn.2.1, fun k hk => hn.2.2 k (by cases a <;> exact hk)⟩
  exact ⟨h.below, h.size, h.lt, h.dir.sub hn, h.run.sub hn, h.own.cut hm hz⟩
/-- Behind accesses that are made at once. -/
theorem RunD.made (h : RunD y0 b0 b1 p0 p1 B0 c n r v hs Gd Gv x) (hd : DirC (Nt b0 b1 v) (c : Int) r b0 p0 p1 n Gd' x') (hB : But b0 x x') : RunD y0 b0 b1 p0 p1 B0 c n r v hs Gd' Gv x' := by
  have hlt := h.lt
  have hg := hB.grownBy
  have hK : Keep (Nt b0 b1 v) x x' := ⟨hB.size, fun b o hb hq => hB.cell hb hq.1⟩
  refine ⟨h.below.trans (hB.below.mono (by omega)), Nat.le_trans h.size hB.size, hlt, hd, h.run.keep hK (fun us hu => hu.but hB (by omega)), h.own.kept hg ?_⟩
  cases hv : v.ownBlock with
  | none => exact .inl rfl
  | some k => exact .inr (fun e => by cases e; have := (h.own.lt b0 hv).1; omega)
/-- Behind a store into the other world's variable. -/
theorem RunD.put (h : RunD y0 b0 b1 p0 p1 B0 c n r v hs Gd Gv x) (hK : Keep (Nt b0 b1 v) x x') (hv : ∀ b vs, b ≠ b1 → VarAt x b vs → VarAt x' b vs) (hb : Below y0.heap.size y0 x') (hown : OwnI x' B0 v hs) (hrun : WdFrom (Nt b0 b1 v) (fun _ => False) x' b1 1 (c : Int) n r 1 Gv' (zerosS 1) (zerosS 1)) : RunD y0 b0 b1 p0 p1 B0 c n r v hs Gd Gv' x' := by
  have hlt := h.lt
  exact ⟨hb, Nat.le_trans h.size hK.1, hlt, h.dir.keep hK (fun b us hbb hu => hv b us (by rcases hbb with rfl | rfl | rfl <;> omega) hu), hrun, hown⟩
end

/-! ### Pop and Push at once -/
section
variable {y0 : World} {b0 b1 p0 p1 B0 c r : Nat} {v : Value} {hs : List Nat} {G Gv : Nat → Nat} {x : World} (hc : c ≤ 65536) (h : RunD y0 b0 b1 p0 p1 B0 c (sizeN 1 c) r v hs G Gv x)
include h in
theorem runD_G : ∀ j, G j < 18446744073709551616 := by obtain ⟨_, _, _, _, _, _, hW, _⟩ := h.dir.run; exact hW.2.1.1
include hc h
theorem popD {a : Nat} {l : List Nat} (hF : FreeIs 1 G (a :: l)) (ha : a ≤ c) :
    Calls Try.prog 20 #[dirV p0 p1, .int .i64 1] x (fun e w' => e = .returned (.int .i64 (a : Int)) ∧ RunD y0 b0 b1 p0 p1 B0 c (sizeN 1 c) r v hs (popG 1 G) Gv w') := by
  have hlt := h.lt
  have h1 := pop_at (dirSrv (Nt b0 b1 v) x.heap.size (c : Int) r b0 p0 p1 (sizeN 1 c) (by unfold sizeN; omega) h.old (by omega) (by omega)) 1 (by decide) 1 G _ (mem_pop (runD_G h) 0 hF ha) (by simp) x ⟨h.dir, Nat.le_refl _⟩
  refine h1.mono ?_
  rintro e w' ⟨rfl, hd, hB⟩
  exact ⟨rfl, h.made hd.1 hB⟩
theorem noneD (hF : FreeIs 1 G []) :
    Calls Try.prog 20 #[dirV p0 p1, .int .i64 1] x (fun e w' => e = .returned (.int .i64 0) ∧ RunD y0 b0 b1 p0 p1 B0 c (sizeN 1 c) r v hs G Gv w') := by
  have hlt := h.lt
  have h1 := pop_at (dirSrv (Nt b0 b1 v) x.heap.size (c : Int) r b0 p0 p1 (sizeN 1 c) (by unfold sizeN; omega) h.old (by omega) (by omega)) 1 (by decide) 1 G _ (mem_none (runD_G h) size_pos 0 hF) (by simp) x ⟨h.dir, Nat.le_refl _⟩
  refine h1.mono ?_
  rintro e w' ⟨rfl, hd, hB⟩
  exact ⟨rfl, h.made hd.1 hB⟩
theorem pushD (q : Nat) (hq1 : 1 ≤ q) (hq : q ≤ c) :
    Calls Try.prog 19 #[dirV p0 p1, .int .i64 1, .int .i64 (q : Int)] x (fun e w' => e = .returned (.tuple #[]) ∧ RunD y0 b0 b1 p0 p1 B0 c (sizeN 1 c) r v hs (pushG 1 q G) Gv w') := by
  have hlt := h.lt
  have h1 := push_at (dirSrv (Nt b0 b1 v) x.heap.size (c : Int) r b0 p0 p1 (sizeN 1 c) (by unfold sizeN; omega) h.old (by omega) (by omega)) 1 (by decide) q hq1 (by omega) 1 G _ (mem_push (runD_G h) 0 q hq1 hq) (by simp) x ⟨h.dir, Nat.le_refl _⟩
  refine h1.mono ?_
  rintro e w' ⟨rfl, hd, hB⟩
  exact ⟨rfl, h.made hd.1 hB⟩
end
theorem direct_at (b0 : Nat) (w : World) : Calls Try.prog 18 #[.pointer (some ⟨b0, 0, none⟩), .int .i64 0] w (fun e w' => ∃ p0 p1, e = .returned (dirV p0 p1) ∧ VarAt w' p0 [.pointer (some ⟨b0, 0, none⟩)] ∧ VarAt w' p1 [.int .i64 0] ∧ w.heap.size ≤ p0 ∧ w.heap.size ≤ p1 ∧ Below w.heap.size w w') := by
  have hmf : ∀ (fn : Fn) (first cap : Array Value) (w : World), (Instr.makeFunc fn first cap).run Try.prog w = .ok (.func fn first cap) w := fun _ _ _ _ => rfl
  go_enter Try.func18, Try.ntmps18
  go_wp2_with fail
  go_ret
  exact ⟨w.heap.size, w.heap.size + 1, rfl, VarAt.mk1 (by simp <;> omega) (by go_simp) (by go_simp), VarAt.mk1 (by simp <;> omega) (by go_simp) (by go_simp), Nat.le_refl _, by omega, below_pair _ _ _⟩
end Go.Proofs.Ytadknblgfcgkpaa
