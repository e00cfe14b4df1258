/-
  The contracts of slices.Clone (words, however many; numbers, none), and of play's (*tape).do: what it tells of a log, and how it leaves at the log's end.
-/
import Derived.Test.YtdbomlclkhkinaaDoorPlyRows
import Derived.Test.YtdbomlclkhkinaaDoorAccRead
import Derived.Test.YtdbomlclkhkinaaDoorAccA
import Derived.Deep.RegionHeld3
import Derived.Deep.RegionWith
import Derived.Deep.Cut
import Derived.Deep.CutRange
import Derived.Defers
import Derived.Recover
namespace Go.Proofs.YtdbomlclkhkinaaDoor
open Go.ChangeShapes Go.WideShapes Go.ChangeAt Go.RowKit Go.BigFrame
set_option linter.unusedVariables false
set_option maxRecDepth 100000

/-- Some blocks that were there are as they were, whatever else was made or stored. -/
def Svd (Q : Nat → Prop) (y x : World) : Prop := y.heap.size ≤ x.heap.size ∧ ∀ b o, b < y.heap.size → Q b → x.cell? ⟨b, o, none⟩ = y.cell? ⟨b, o, none⟩
section
variable {Q : Nat → Prop} {y x : World}
theorem Svd.refl (Q : Nat → Prop) (y : World) : Svd Q y y := ⟨Nat.le_refl _, fun _ _ _ _ => rfl⟩
theorem Svd.drew (h : Svd Q y x) : Svd Q y x.drew := h
theorem Svd.alloc (h : Svd Q y x) (o : Obj) : Svd Q y (x.alloc o) := by
  have hb := al_below x o
  exact ⟨Nat.le_trans h.1 hb.size, fun b o hlt hq => (hb.cell (p := ⟨b, o, none⟩) (Nat.lt_of_lt_of_le hlt h.1)).trans (h.2 b o hlt hq)⟩
theorem Svd.set (h : Svd Q y x) (b j : Nat) (v : Value) (hb : b < y.heap.size → ¬ Q b) : Svd Q y (x.setCell ⟨b, j, none⟩ v) := by
  refine ⟨by simpa using h.1, fun g o hlt hq => ?_⟩
  rw [World.cell?_setCell_other _ _ _ _ (fun e => by
    have e2 : b = g := by first | exact congrArg Addr.block e | exact (congrArg Addr.block e).symm
    subst e2
    exact hb hlt hq)]
  exact h.2 g o hlt hq
theorem AtW.svd {a : Option Addr} {n : Nat} {f : Nat → Nat} (h : AtW y a n f) (hK : Svd Q y x) (hO : OffW Q a n) : AtW x a n f := by
  refine ⟨h.1, fun hp => ?_⟩
  obtain ⟨b, off, e, hlt, hc⟩ := h.2 hp
  exact ⟨b, off, e, Nat.lt_of_lt_of_le hlt hK.1, fun j hj => (hK.2 _ _ hlt (hO hp b off e)).trans (hc j hj)⟩
theorem AtB.svd {a : Option Addr} {n : Nat} {xs : List Nat} (h : AtB y a n xs) (hK : Svd Q y x) (hO : OffW Q a n) : AtB x a n xs := by
  refine ⟨h.1, h.2.1, h.2.2.1, fun hp => ?_⟩
  obtain ⟨b, off, e, hlt, hc⟩ := h.2.2.2 hp
  exact ⟨b, off, e, Nat.lt_of_lt_of_le hlt hK.1, fun j hj => (hK.2 _ _ hlt (hO hp b off e)).trans (hc j hj)⟩
end
theorem eql_nil_w (w : World) (n c : Nat) : (binOp .eql 25 (.slice none n c) (.slice none 0 0)).run Tryd.prog w = .ok (.bool true) w := Lib.run_eql_slice_nil w 25 _ none n c 0 0 Tryd.underlying25
theorem eql_nil_i (w : World) (n c : Nat) : (binOp .eql 36 (.slice none n c) (.slice none 0 0)).run Tryd.prog w = .ok (.bool true) w := Lib.run_eql_slice_nil w 36 _ none n c 0 0 Tryd.underlying36
/-- Words that are copied, however many: the same words. -/
def WdsPost (w : World) (n : Nat) (f : Nat → Nat) (e : Ending) (w' : World) : Prop := ∃ A c, e = .returned (.slice A n c) ∧ n ≤ c ∧ AtW w' A n f ∧ Below w.heap.size w w' ∧ OffW (fun b => w.heap.size ≤ b) A n
theorem cloneI_nil (w : World) : Calls Tryd.prog 65 #[.slice none 0 0] w fun e w' => e = .returned (.slice none 0 0) ∧ w = w' := by
  have ke := fun w => eql_nil_i w 0 0
  go_enter Tryd.func65, Tryd.ntmps65
  go_wp2_with fail
  go_ret
  exact ⟨rfl, rfl⟩
theorem append_none (w : World) (ty : TypeId) (ad : Addr) (c : Nat) (f : Nat → Nat) (base : Nat) (hbase : w.heap.size = base) :
    ∃ A cap w', (Builtin.append_ #[25, 25] ty #[.slice (some ⟨base, 0, none⟩) 0 0, .slice (some ad) 0 c]).run Tryd.prog (w.alloc (.cells #[] 22)) = .ok (.slice A 0 cap) w' ∧ Below base w w' := by
  subst hbase
  obtain ⟨i, hi, hz0, hz1, hz2⟩ := info_parts infoW
  have hown0 : (w.alloc (.cells #[] 22)).ownsRow w.heap.size 22 1 (.slice (some ⟨w.heap.size, 0, none⟩) 0 0) 0 [] := World.ownsRow_made w #[] 0 (Nat.le_refl _) (Nat.zero_le _) rfl
  have hB1 : Below w.heap.size w (w.alloc (.cells #[] 22)) := al_below _ _
  obtain ⟨v', w', h1, h2, h3, _⟩ := run_append_own (P := Tryd.prog) (w.alloc (.cells #[] 22)) w.heap.size 25 ty 22 i _ 1 8 Tryd.underlying25 hi hz0 hz1 hz2 rfl (by decide) _ 0 [] hown0 ad 0 c []
    rfl (fun j u hu => by simp at hu) (by simp) (by unfold maxLen; omega) (by omega) (by simp)
  have hb : Below w.heap.size w w' := hB1.grown h3 (by simp) (fun k hk => by simp [Value.ownBlock] at hk; omega)
  rcases h2.2 with ⟨rfl, h0⟩ | ⟨g, cap, cur, rfl, hg, hgb, hcap, _⟩
  · exact ⟨none, 0, w', h1, hb⟩
  · exact ⟨some ⟨g, 0, none⟩, cap, w', h1, hb⟩
theorem wpList_append_none {ops : Array Oper} {rest : List Oper} {o : Oper} {a : Act} {w : World} {Q : Exit → Act → World → Prop} (hw : Region.wanted o (yielded ops a.tmps) = true) (s x : Operand)
    (ho : o.op = .call { callee := .builtin .append, args := #[s, x], argTypes := #[25, 25] }) (base : Nat) (hs : a.eval s = .slice (some ⟨base, 0, none⟩) 0 0)
    (ad : Addr) (c : Nat) (hx : a.eval x = .slice (some ad) 0 c) (hbase : w.heap.size = base)
    (h : ∀ A cap w', Below base w w' → wpList Tryd.prog ops Q rest (a.put o.dst (.slice A 0 cap)) w') :
    wpList Tryd.prog ops Q (o :: rest) a (w.alloc (.cells #[] 22)) := by
  obtain ⟨A, cap, w', hr, h4⟩ := append_none w o.type ad c (fun _ => 0) base hbase
  refine BigFrame.wpList_want hw fun K hK => ?_
  unfold Oper.wp execOp
  simp only [ho, resolve, invoke, builtin, Sem.run_bind, Sem.run_pure, Result.andThen_ok, List.map_toArray, List.map_cons, List.map_nil, hs, hx, hr]
  exact hK _ _ (h A cap w' h4)
theorem cloneWs_at (A : Option Addr) (n c : Nat) (f : Nat → Nat) (hn : n ≤ 1000000) (w : World) (hA : Hid (AtW w A n f)) :
    Calls Tryd.prog 72 #[.slice A n c] w (WdsPost w n f) := by
  rcases Nat.eq_zero_or_pos n with rfl | hp
  · rcases A with _ | ad
    · have ke := fun w => eql_nil_w w 0 c
      go_enter Tryd.func72, Tryd.ntmps72
      go_wp2_with fail
      go_ret
      exact ⟨none, 0, rfl, Nat.le_refl _, ⟨hA.out.1, fun h => by omega⟩, Below.refl _ _, OffW.nil _ _⟩
    · have ke := fun w => eql_some_w w ad 0 c
      go_enter Tryd.func72, Tryd.ntmps72
      go_wp2_with (at_builtin; (refine wpList_append_none (by rfl) (.tmp 5) (.tmp 6) (by rfl) w.heap.size (by rfl) ad c (by rfl) (by rfl) ?_); (intro A' cap w' hb; have HB := Lib.hid hb; clear hb))
      go_ret
      exact ⟨A', cap, rfl, Nat.zero_le _, ⟨hA.out.1, fun h => by omega⟩, HB.out, OffW.nil _ _⟩
  · refine (cloneW_at A n c f hp hn w hA).mono ?_
    rintro e w' ⟨g, c', rfl, hc, hg, hrow, hb⟩
    exact ⟨_, c', rfl, hc, hrow.at_, hb, OffW.one n hg⟩

/-! ### (*tape).do -/
/-- What is left of a log, whether the program is under way, whether the log is over; and what was asked behind its end. -/
abbrev tapeV (A : Option Addr) (n cap : Nat) (p o : Bool) (q0 q1 q2 q3 q4 q5 : Value) : List Value := [.slice A n cap, .bool p, .bool o, q0, q1, q2, q3, q4, q5]
/-- It tells the next result of the log, in memory of its own. -/
def ToldPost (w0 w : World) (g : Nat) (r : Res) (m : Nat) (rest : List Res) (p o : Bool) (q0 q1 q2 q3 q4 q5 : Value) (e : Ending) (w' : World) : Prop :=
  ∃ B bc A cap, e = .returned (.agg #[.int .u64 (r.n : Int), .slice B r.b.length bc, .bool r.fl]) ∧ ResP w' r B bc ∧ VarAt w' g (tapeV A m cap p o q0 q1 q2 q3 q4 q5) ∧ LogAt w0 A m rest ∧ m ≤ cap ∧ But g w w'
set_option maxHeartbeats 1000000 in
theorem do_told (g : Nat) (A : Option Addr) (n m cap : Nat) (hn : n = m + 1) (r : Res) (rest : List Res) (p o : Bool) (q0 q1 q2 q3 q4 q5 : Value) (k c : Int) (a b : Nat) (D : Option Addr) (dn dc : Nat) (E : Option Addr) (en ec : Nat) (w0 w : World)
    (hT : Hid (VarAt w g (tapeV A n cap p o q0 q1 q2 q3 q4 q5))) (hL : Hid (LogAt w0 A n (r :: rest))) (hc : n ≤ cap) (h0 : Hid (Below w0.heap.size w0 w)) (hg : w0.heap.size ≤ g) :
    Calls Tryd.prog 86 #[.pointer (some ⟨g, 0, none⟩), .agg #[.int .i64 k, .int .i64 c, .int .u64 (a : Int), .int .u64 (b : Int), .slice D dn dc, .slice E en ec]] w (ToldPost w0 w g r m rest p o q0 q1 q2 q3 q4 q5) := by
  obtain ⟨gb, go, B, bc, rfl, hlt0, hcl0, hrp⟩ := hL.out.at_ 0 r rfl
  have hlt := Nat.lt_of_lt_of_le hlt0 h0.out.size
  have hcl := hcl0.below h0.out hlt0
  clear hlt0 hcl0
  have hcut : ∀ W, (Instr.slice 58 (.slice (some ⟨gb, go, none⟩) n cap) (some (.int .i64 1)) none none).run Tryd.prog W = .ok (.slice (cutR (some ⟨gb, go, none⟩) cap 1) (n - 1) (cap - 1)) W := fun W => run_cut_log (some ⟨gb, go, none⟩) n cap 1 (by omega) W
  have HCL := Lib.hid ((hL.out.cut hc 1 (by omega)))
  simp only [List.drop_succ_cons, List.drop_zero] at HCL
  have e1 : n - 1 = m := by omega
  rw [e1] at HCL hcut
  generalize cutR (some ⟨gb, go, none⟩) cap 1 = A' at hcut HCL
  generalize hcap' : cap - 1 = cap' at hcut
  have HCC : Hid (m ≤ cap') := Lib.hid (by omega)
  have HRP := Lib.hid hrp
  have HG := Lib.hid hg
  rw [Nat.zero_mul, Nat.add_zero] at hcl
  obtain ⟨z0, z1, z2⟩ := hcl
  have hne : gb ≠ g := by
    obtain ⟨b', o', e', hlt', _⟩ := hL.out.2.2 (by omega)
    cases e'
    omega
  have d0 : decide ((0 : Int) < (n : Int)) = true := by rw [decide_eq_true_iff]; omega
  have i1 : (0 : Int) ≤ 0 ∧ (0 : Int) < (n : Int) := ⟨by omega, by omega⟩
  have i2 : (0 : Int) < (n : Int) := by omega
  obtain ⟨hgz, ⟨c0, c1, c2, c3, c4, c5, c6, c7, c8⟩, f0, f1, f2, f3, f4, f5, f6, f7, f8⟩ := hT.out.nine
  have hn1 : ¬ (gb = g) := hne
  have hn2 : ¬ (g = gb) := fun e => hne e.symm
  have g1 : g < w.heap.size + 1 := by omega
  have g2 : g < w.heap.size + 1 + 1 := by omega
  have g3 : ¬ (g = w.heap.size) := by omega
  have g4 : ¬ (g = w.heap.size + 1) := by omega
  have g5 : ¬ (g = w.heap.size + 1 + 1) := by omega
  clear hrp hcap' e1 hn hc hg
  go_enter Tryd.func86, Tryd.ntmps86
  go_wp2_with fail
  refine gen_w (P := fun W => Calls _ _ _ W _) (fun x => But g w x ∧ VarAt x g (tapeV A' m cap' p o q0 q1 q2 q3 q4 q5) ∧ VarAt x (w.heap.size + 1) [.int .u64 0, .slice none 0 0, .bool false] ∧ VarAt x (w.heap.size + 1 + 1) [.int .u64 (r.n : Int), .slice B r.b.length bc, .bool r.fl]) ⟨(by repeat (first | with_reducible assumption | with_reducible exact But.refl _ _ | with_reducible refine But.drew ?_ | (with_reducible refine But.alloc ?_ _ (by omega)) | (with_reducible refine But.set ?_ _ _) | (with_reducible refine But.new ?_ _ _ _ (by omega) (by omega)))), VarAt.mk9 (by simp; omega) (by go_simp) (by go_simp) (by go_simp) (by go_simp) (by go_simp) (by go_simp) (by go_simp) (by go_simp) (by go_simp) (by go_simp) (by go_simp) (by go_simp) (by go_simp) (by go_simp) (by go_simp) (by go_simp) (by go_simp) (by go_simp), VarAt.mk3 (by simp) (by go_simp) (by go_simp) (by go_simp) (by go_simp) (by go_simp) (by go_simp), VarAt.mk3 (by simp) (by go_simp) (by go_simp) (by go_simp) (by go_simp) (by go_simp) (by go_simp)⟩ ?_
  rintro x ⟨k0, k1, k2, k3⟩
  have K0 := Lib.hid k0
  have K1 := Lib.hid k1
  have K2 := Lib.hid k2
  have K3 := Lib.hid k3
  have hrx := HRP.out.kept h0.out k0 HG.out
  clear k0 k1 k2 k3 c0 c1 c2 c3 c4 c5 c6 c7 c8 f0 f1 f2 f3 f4 f5 f6 f7 f8 z0 z1 z2
  refine (cloneBC_at B _ bc r.b hrx.bl.2 x (Lib.hid hrx.b)).mono ?_
  rintro e w2 ⟨B2, bc2, rfl, hc2, hat2, hb2, hn2⟩
  have HN2 : Hid (OffW (Out (w.heap.size + 1) 2) B2 r.b.length) := Lib.hid (fun _ b off e => by have h1 := hn2 b off e; have h2 := K3.out.1; exact .inr (by omega))
  have k0 := K0.out.later hb2 (K1.out.1)
  have HAT := Lib.hid hat2
  have HC2 := Lib.hid hc2
  obtain ⟨y0, c0, c1, c2, f0, f1, f2⟩ := (K2.out.below hb2).three
  obtain ⟨y1, t0, t1, t2, s0, s1, s2⟩ := (K3.out.below hb2).three
  have HV := Lib.hid (K1.out.below hb2)
  have K := Lib.hid k0
  clear k0 hrx hb2 hat2 hc2 K0 K1 K2 K3
  clear hn2
  go_wp2_with fail
  have k := K.out
  exact bodyPost_ret (v := .agg #[.int .u64 (r.n : Int), .slice B2 r.b.length bc2, .bool r.fl]) (by simp [results, Tryd.results86, go_sem, c0, c1, c2]) rfl
    ⟨B2, bc2, A', cap', rfl, ⟨HRP.out.n, ⟨HC2.out, HRP.out.bl.2⟩, HAT.out.alike (N := w.heap.size + 1) (k := 2) (by repeat (first | with_reducible exact Alike.refl _ _ _ | with_reducible refine Alike.drew ?_ | (with_reducible refine Alike.set ?_ _ _ _ (by omega) (by omega)))) HN2.out⟩, (((HV.out.apart _ _ (by omega)).apart _ _ (by omega)).apart _ _ (by omega)).apart _ _ (by omega), HCL.out, HCC.out, (by repeat (first | with_reducible assumption | with_reducible exact But.refl _ _ | with_reducible refine But.drew ?_ | (with_reducible refine But.alloc ?_ _ (by omega)) | (with_reducible refine But.set ?_ _ _) | (with_reducible refine But.new ?_ _ _ _ (by omega) (by omega))))⟩
/-- At the log's end the program is left: what was asked stands in the tape, its bytes and words in memory of their own. -/
def LeftPost (w : World) (g : Nat) (x : Acc) (p : Bool) (e : Ending) (w' : World) : Prop :=
  ∃ D dc E ec A cap, e = .panicked [{ v := .iface 117 (.pointer (some ⟨g, 0, none⟩)), recovered := false }] ∧ VarAt w' g (tapeV A 0 cap p true (.int .i64 x.k) (.int .i64 x.c) (.int .u64 (x.a : Int)) (.int .u64 (x.b : Int)) (.slice D x.d.length dc) (.slice E x.m ec)) ∧ AccP w' x D dc E ec ∧ But g w w' ∧ OffW (fun b => w.heap.size ≤ b) D x.d.length ∧ OffW (fun b => w.heap.size ≤ b) E x.m
set_option maxHeartbeats 1000000 in
theorem do_left (g : Nat) (A : Option Addr) (cap : Nat) (p : Bool) (q0 q1 q2 q3 q4 q5 : Value) (x : Acc) (hm : x.m ≤ 1000000) (D : Option Addr) (dc : Nat) (E : Option Addr) (ec : Nat) (w0 w : World)
    (hT : Hid (VarAt w g (tapeV A 0 cap p false q0 q1 q2 q3 q4 q5))) (hX : Hid (AccP w0 x D dc E ec)) (h0 : Hid (Below w0.heap.size w0 w)) (hg : w0.heap.size ≤ g) :
    Calls Tryd.prog 86 #[.pointer (some ⟨g, 0, none⟩), .agg #[.int .i64 x.k, .int .i64 x.c, .int .u64 (x.a : Int), .int .u64 (x.b : Int), .slice D x.d.length dc, .slice E x.m ec]] w (LeftPost w g x p) := by
  have HG := Lib.hid hg
  have HM := Lib.hid hm
  obtain ⟨hgz, ⟨c0, c1, c2, c3, c4, c5, c6, c7, c8⟩, f0, f1, f2, f3, f4, f5, f6, f7, f8⟩ := hT.out.nine
  have g1 : g < w.heap.size + 1 := by omega
  have g2 : g < w.heap.size + 1 + 1 := by omega
  have g3 : ¬ (g = w.heap.size) := by omega
  have g4 : ¬ (g = w.heap.size + 1) := by omega
  have g6 : ¬ (w.heap.size = g) := by omega
  have g7 : ¬ (w.heap.size + 1 = g) := by omega
  clear hg hm
  go_enter Tryd.func86, Tryd.ntmps86
  go_upto_region 8 with fail
  refine gen_w (P := fun W => Code.wp _ _ _ _ W) (fun y => But g w y ∧ y.heap.size = w.heap.size + 1 + 1 ∧ VarAt y g (tapeV A 0 cap p true q0 q1 q2 q3 q4 q5) ∧ VarAt y w.heap.size (accA x D dc E ec)) ⟨(by repeat (first | with_reducible assumption | with_reducible exact But.refl _ _ | with_reducible refine But.drew ?_ | (with_reducible refine But.alloc ?_ _ (by omega)) | (with_reducible refine But.set ?_ _ _) | (with_reducible refine But.new ?_ _ _ _ (by omega) (by omega)))), by simp, VarAt.mk9 (by simp; omega) (by go_simp) (by go_simp) (by go_simp) (by go_simp) (by go_simp) (by go_simp) (by go_simp) (by go_simp) (by go_simp) (by go_simp) (by go_simp) (by go_simp) (by go_simp) (by go_simp) (by go_simp) (by go_simp) (by go_simp) (by go_simp), VarAt.mk6 (by simp; omega) (by go_simp) (by go_simp) (by go_simp) (by go_simp) (by go_simp) (by go_simp) (by go_simp) (by go_simp) (by go_simp) (by go_simp) (by go_simp) (by go_simp)⟩ ?_
  rintro y ⟨k0, k1, k2, k3⟩
  obtain ⟨N, hN⟩ : ∃ N, w.heap.size = N := ⟨_, rfl⟩
  rw [hN] at k1 k3 g1 g2 g3 g4 g6 g7 hgz ⊢
  have hxy := hX.out.later (h0.out.trans (k0.below.mono HG.out))
  have K0 := Lib.hid k0
  have K1 := Lib.hid k1
  have K2 := Lib.hid k2
  have K3 := Lib.hid k3
  have HD := Lib.hid hxy.d
  have HF := Lib.hid hxy.f
  have HL := Lib.hid hxy.dl.2
  have HNN := Lib.hid hN
  obtain ⟨z, ⟨b0, b1, b2, b3, b4, b5⟩, h0', h1', h2', h3', h4', h5'⟩ := k3.six
  clear c0 c1 c2 c3 c4 c5 c6 c7 c8 f0 f1 f2 f3 f4 f5 f6 f7 f8 k0 k1 k2 k3 hxy hN
  go_region_with (first
    | (go_at_call 91; (with_reducible refine (cloneBC_at D _ dc x.d HL.out _ (Lib.hid (HD.out.below (B := y.heap.size) (by repeat (first | with_reducible assumption | with_reducible exact Below.refl _ _ | with_reducible refine Below.drew ?_ | with_reducible refine below_al ?_)) (Nat.le_refl _)))).mono ?_); rintro e w2 ⟨B2, bc2, rfl, hc2, hat2, hb2, hn2⟩; have hy2 : Below y.heap.size y w2 := below_step hb2 (by repeat (first | with_reducible assumption | with_reducible exact Below.refl _ _ | with_reducible refine Below.drew ?_ | with_reducible refine below_al ?_)); have HN2 := Lib.hid hn2; have HC2 := Lib.hid hc2; have HAT := Lib.hid hat2; have HY2 := Lib.hid hy2; obtain ⟨z2, ⟨e0, e1, e2, e3, e4, e5⟩, i0, i1, i2, i3, i4, i5⟩ := (K3.out.below hy2).six; clear hc2 hat2 hb2 hn2 hy2)
    | (go_at_call 72; have hw2 := HY2.out; (with_reducible refine (cloneWs_at E _ ec x.f HM.out _ (Lib.hid (HF.out.below (B := y.heap.size) (by repeat (first | with_reducible assumption | with_reducible exact Below.refl _ _ | with_reducible refine Below.drew ?_ | with_reducible refine below_al ?_)) (Nat.le_refl _)))).mono ?_); rintro e w3 ⟨B3, bc3, rfl, hc3, hat3, hb3, hn3⟩; have hy3 : Below y.heap.size y w3 := below_step hb3 (by repeat (first | with_reducible assumption | with_reducible exact Below.refl _ _ | with_reducible refine Below.drew ?_ | with_reducible refine below_al ?_)); have HN3 := Lib.hid hn3; have HC3 := Lib.hid hc3; have HAT3 := Lib.hid hat3; have HB3 := Lib.hid hb3; have HY3 := Lib.hid hy3; obtain ⟨z3, ⟨j0, j1, j2, j3, j4, j5⟩, l0, l1, l2, l3, l4, l5⟩ := (K3.out.below hy3).six; obtain ⟨z4, ⟨t0, t1, t2, t3, t4, t5, t6, t7, t8⟩, s0, s1, s2, s3, s4, s5, s6, s7, s8⟩ := (K2.out.below hy3).nine; clear hc3 hat3 hb3 hn3 hy3 hw2))
  all_goals
    go_wp2_with fail
    have k0 := K0.out
    have k1 := K1.out
    have y3 := HY3.out
    have kN := HNN.out
    have kx := hX.out
    have ko := HB3.out.size
    have hbw : But g w w3 := k0.later y3 (by omega)
    have hy2s := HY2.out.size
    refine ⟨rfl, B2, bc2, B3, bc3, A, cap, rfl, VarAt.mk9 (by simp; omega) (by go_simp) (by go_simp) (by go_simp) (by go_simp) (by go_simp) (by go_simp) (by go_simp) (by go_simp) (by go_simp) (by go_simp) (by go_simp) (by go_simp) (by go_simp) (by go_simp) (by go_simp) (by go_simp) (by go_simp) (by go_simp), ⟨kx.k, kx.c, kx.a, kx.b, ⟨HC2.out, kx.dl.2⟩, ⟨HC3.out, kx.ml.2⟩, AtB.svd (Q := fun b => b ≠ N ∧ b ≠ g) (AtB.later HAT HB3.out) (by repeat (first | with_reducible exact Svd.refl _ _ | with_reducible refine Svd.drew ?_ | (with_reducible refine Svd.set ?_ _ _ _ (by omega)))) (fun _ b off e => by have h1 : y.heap.size ≤ b := HN2.out b off e; omega), AtW.svd (Q := fun b => b ≠ N ∧ b ≠ g) HAT3.out (by repeat (first | with_reducible exact Svd.refl _ _ | with_reducible refine Svd.drew ?_ | (with_reducible refine Svd.set ?_ _ _ _ (by omega)))) (HN3.out.mono fun b h => by omega)⟩, (by repeat (first | with_reducible assumption | with_reducible exact But.refl _ _ | with_reducible refine But.drew ?_ | (with_reducible refine But.alloc ?_ _ (by omega)) | (with_reducible refine But.set ?_ _ _) | (with_reducible refine But.new ?_ _ _ _ (by omega) (by omega)))), (fun _ b off e => by have h1 : y.heap.size ≤ b := HN2.out b off e; omega), HN3.out.mono fun b h => by omega⟩
end Go.Proofs.YtdbomlclkhkinaaDoor
