/-
  The contracts of the document's own Do, kind by kind: over letters for what the document's own disk tells.
-/
import Derived.Test.YtjbhichgojjakaaAccDo
namespace Go.Proofs.Ytjbhichgojjakaa
open Go.ChangeShapes Go.WideShapes Go.ChangeAt Go.RowKit Go.BigFrame
set_option linter.unusedVariables false
set_option maxRecDepth 100000

/-- The end of a region that reads the world's box and lays the results. -/
def EndR (w : World) (dk : List Value) (y x : World) : Prop := Kp w [(0, dk)] [(2, 6), (3, 3)] x ∧ Alike w.heap.size 4 y x
section
variable {w y x : World} {dk : List Value}
theorem EndR.of (hB : Below w.heap.size w x) (h0 : VarAt x w.heap.size dk) (r2 : Room x (w.heap.size + 2) 6) (r3 : Room x (w.heap.size + 3) 3) (ha : Alike w.heap.size 4 y x) : EndR w dk y x := by
  refine ⟨⟨hB, fun p hp => ?_, fun p hp => ?_⟩, ha⟩
  · simp only [List.mem_cons, or_false, List.not_mem_nil] at hp
    subst hp
    exact h0
  · simp only [List.mem_cons, or_false, List.not_mem_nil] at hp
    rcases hp with rfl | rfl
    · exact r2
    · exact r3
theorem EndR.set2 (h : EndR w dk y x) (j : Nat) (v : Value) : EndR w dk y (x.setCell ⟨w.heap.size + 2, j, none⟩ v) := ⟨h.1.set 2 j v rfl, h.2.set _ j v (by omega) (by omega)⟩
theorem EndR.set3 (h : EndR w dk y x) (j : Nat) (v : Value) : EndR w dk y (x.setCell ⟨w.heap.size + 3, j, none⟩ v) := ⟨h.1.set 3 j v rfl, h.2.set _ j v (by omega) (by omega)⟩
theorem EndR.drew (h : EndR w dk y x) : EndR w dk y x.drew := ⟨h.1.drew, h.2.drew⟩
theorem EndR.c0 (h : EndR w dk y x) (j : Nat) (v : Value) (hv : dk[j]? = some v) : x.cell? ⟨w.heap.size, j, none⟩ = some v := (h.1.at_ (o := 0) (.head _)).2.1 j v hv
theorem EndR.r2 (h : EndR w dk y x) (j : Nat) (hj : j < 6) : x.cell? ⟨w.heap.size + 2, j, none⟩ = some (cellV x (w.heap.size + 2) j) := h.1.res (o := 2) (n := 6) (.head _) j hj
theorem EndR.r3 (h : EndR w dk y x) (j : Nat) (hj : j < 3) : x.cell? ⟨w.heap.size + 3, j, none⟩ = some (cellV x (w.heap.size + 3) j) := h.1.res (o := 3) (n := 3) (.tail _ (.head _)) j hj
theorem EndR.f2 (h : EndR w dk y x) (j : Nat) (hj : j < 6) : x.frozen? ⟨w.heap.size + 2, j, none⟩ = false := h.1.free (o := 2) (n := 6) (.head _) j hj
theorem EndR.f3 (h : EndR w dk y x) (j : Nat) (hj : j < 3) : x.frozen? ⟨w.heap.size + 3, j, none⟩ = false := h.1.free (o := 3) (n := 3) (.tail _ (.head _)) j hj
end
theorem endR_fin {w w2 y x : World} {dk : List Value} (h : EndR w dk y x) (hz : w.heap.size + 4 ≤ w2.heap.size) (hb2 : Below w.heap.size w w2) {t c : Int} {A R S A' R' S' X : Option Addr} {n m ka ra sa k r N : Nat} {F G : Nat → Nat} {l0 l1 P0 P1 : List Stm} {xs : List Nat} {fl : Bool}
    (hA : AtW w A n F) (h0 : StmsAt w R m l0) (h1 : StmsAt w S m l1) (a' : AtW y A' n G) (s0 : StmsAt y R' m P0) (s1 : StmsAt y S' m P1) (hk : xs.length ≤ k) (hx : AtB y X xs.length xs)
    (hP : ∀ P : Nat → Prop, (∀ b, w2.heap.size ≤ b → P b) → OffW P A n → OffS P w2 R m → OffS P w2 S m → OffW P A' n ∧ OffS P y R' m ∧ OffS P y S' m ∧ OffW P X xs.length) :
    DoW w t c A n r R S m G P0 P1 N xs fl (.returned (.tuple #[.agg #[.int .i64 t, .int .i64 c, .slice A' n ka, .int .u64 (r : Int), .slice R' m ra, .slice S' m sa], .agg #[.int .u64 (N : Int), .slice X xs.length k, .bool fl]])) x :=
  DoW.fin h.2 h.1.1 hz hb2 hA h0 h1 a' s0 s1 hk hx hP
/-- What a world keeps while a memory is laid into the world's box. -/
def InsS (w : World) (t c : Int) (v3 v4 v5 : Value) (acc : List Value) (x : World) : Prop :=
  (∃ u, Kp w [(1, acc)] [(0, 6), (2, 6), (3, 3)] x ∧ VarAt x w.heap.size [.int .i64 t, .int .i64 c, u, v3, v4, v5])
section
variable {w x x2 : World} {t c : Int} {v3 v4 v5 : Value} {acc : List Value}
theorem InsS.later (h : InsS w t c v3 v4 v5 acc x) (hb : Below x.heap.size x x2) : InsS w t c v3 v4 v5 acc x2 := by
  obtain ⟨u, h1, h2⟩ := h
  exact ⟨u, h1.later hb, h2.below hb⟩
theorem InsS.drew (h : InsS w t c v3 v4 v5 acc x) : InsS w t c v3 v4 v5 acc x.drew := h.later (Below.drew (Below.refl _ _))
theorem InsS.alloc (h : InsS w t c v3 v4 v5 acc x) (o : Obj) : InsS w t c v3 v4 v5 acc (x.alloc o) := h.later (al_below _ _)
theorem InsS.bel (h : InsS w t c v3 v4 v5 acc x) : Below w.heap.size w x := by obtain ⟨u, h1, _⟩ := h; exact h1.1
theorem InsS.size (h : InsS w t c v3 v4 v5 acc x) : w.heap.size + 4 ≤ x.heap.size := by obtain ⟨u, h1, _⟩ := h; have := (h1.2.2 (3, 3) (.tail _ (.tail _ (.head _)))).1; omega
theorem InsS.c0 (h : InsS w t c v3 v4 v5 acc x) : x.cell? ⟨w.heap.size, 0, none⟩ = some (.int .i64 t) := by obtain ⟨u, _, h2⟩ := h; exact h2.2.1 0 _ rfl
theorem InsS.c1 (h : InsS w t c v3 v4 v5 acc x) : x.cell? ⟨w.heap.size, 1, none⟩ = some (.int .i64 c) := by obtain ⟨u, _, h2⟩ := h; exact h2.2.1 1 _ rfl
theorem InsS.c2 (h : InsS w t c v3 v4 v5 acc x) : x.cell? ⟨w.heap.size, 2, none⟩ = some (cellV x w.heap.size 2) := by
  obtain ⟨u, _, h2⟩ := h
  have e := h2.2.1 2 _ rfl
  unfold cellV; rw [e]; rfl
theorem InsS.f (h : InsS w t c v3 v4 v5 acc x) (j : Nat) (hj : j < 6) : x.frozen? ⟨w.heap.size, j, none⟩ = false := by obtain ⟨u, _, h2⟩ := h; exact h2.2.2 j hj
theorem InsS.ac (h : InsS w t c v3 v4 v5 acc x) (j : Nat) (v : Value) (hv : acc[j]? = some v) : x.cell? ⟨w.heap.size + 1, j, none⟩ = some v := by obtain ⟨u, h1, _⟩ := h; exact h1.cell (o := 1) (.head _) j hv
theorem InsS.cc (h : InsS w t c v3 v4 v5 acc x) : x.cell? ⟨w.heap.size, 3, none⟩ = some v3 ∧ x.cell? ⟨w.heap.size, 4, none⟩ = some v4 ∧ x.cell? ⟨w.heap.size, 5, none⟩ = some v5 := by obtain ⟨u, _, h2⟩ := h; exact ⟨h2.2.1 3 _ rfl, h2.2.1 4 _ rfl, h2.2.1 5 _ rfl⟩
theorem InsS.r2 (h : InsS w t c v3 v4 v5 acc x) (j : Nat) (hj : j < 6) : x.cell? ⟨w.heap.size + 2, j, none⟩ = some (cellV x (w.heap.size + 2) j) ∧ x.frozen? ⟨w.heap.size + 2, j, none⟩ = false := by
  obtain ⟨u, h1, _⟩ := h; exact ⟨h1.res (o := 2) (n := 6) (.tail _ (.head _)) j hj, h1.free (o := 2) (n := 6) (.tail _ (.head _)) j hj⟩
theorem InsS.r3 (h : InsS w t c v3 v4 v5 acc x) (j : Nat) (hj : j < 3) : x.cell? ⟨w.heap.size + 3, j, none⟩ = some (cellV x (w.heap.size + 3) j) ∧ x.frozen? ⟨w.heap.size + 3, j, none⟩ = false := by
  obtain ⟨u, h1, _⟩ := h; exact ⟨h1.res (o := 3) (n := 3) (.tail _ (.tail _ (.head _))) j hj, h1.free (o := 3) (n := 3) (.tail _ (.tail _ (.head _))) j hj⟩
theorem InsS.set2 (h : InsS w t c v3 v4 v5 acc x) (v : Value) : InsS w t c v3 v4 v5 acc (x.setCell ⟨w.heap.size, 2, none⟩ v) := by
  obtain ⟨u, h1, h2⟩ := h; exact ⟨v, h1.set 0 2 v rfl, h2.setAt 2 v (by simp)⟩
theorem InsS.set0 (h : InsS w t c v3 v4 v5 acc x) : InsS w t c v3 v4 v5 acc (x.setCell ⟨w.heap.size, 0, none⟩ (.int .i64 t)) := by
  obtain ⟨u, h1, h2⟩ := h; exact ⟨u, h1.set 0 0 _ rfl, h2.setAt 0 _ (by simp)⟩
theorem InsS.set1 (h : InsS w t c v3 v4 v5 acc x) : InsS w t c v3 v4 v5 acc (x.setCell ⟨w.heap.size, 1, none⟩ (.int .i64 c)) := by
  obtain ⟨u, h1, h2⟩ := h; exact ⟨u, h1.set 0 1 _ rfl, h2.setAt 1 _ (by simp)⟩
theorem own0 (x : World) (N : Nat) (hz : x.heap.size = N) : (x.alloc (.cells #[] 29)).ownsRow N 29 1 (.slice (some ⟨x.heap.size, 0, none⟩) 0 0) 0 [] := by
  subst hz; exact World.ownsRow_made x #[] 0 (Nat.le_refl _) (Nat.zero_le _) rfl
theorem OffS.back {P : Nat → Prop} {w w' : World} {a : Option Addr} {n : Nat} {l : List Stm} (h : OffS P w' a n) (hS : StmsAt w a n l) (hb : Below w.heap.size w w') : OffS P w a n := fun b off e hn => by
  obtain ⟨b', off', e', hlt, _⟩ := hS.2.2 hn
  obtain ⟨h1, h2⟩ := h b off e hn
  rw [e'] at e
  cases e
  exact ⟨h1, fun j hj ad len c hc hl => h2 j hj ad len c ((hb.cell (p := ⟨b, off + j * 2, none⟩) hlt).trans hc) hl⟩
theorem step_append_ins {ops : Array Oper} {o : Oper} {a : Act} {w0 : World} {K : Act → World → Prop} {Q : Exit → Act → World → Prop} {E : Prop} (hS : InsS w0 t c v3 v4 v5 acc x) (hg : o.guard = none) (s z : Operand)
    (ho : o.op = .call { callee := .builtin .append, args := #[s, z], argTypes := #[26, 26] }) (v : Value) (hs : a.eval s = v) (hown : x.ownsRow (w0.heap.size + 4) 29 1 v 0 [])
    (ad : Addr) (m cp : Nat) (f : Nat → Nat) (hx : a.eval z = .slice (some ad) m cp) (hA : AtW x (some ad) m f) (hp : 0 < m) (hm : m ≤ 1000000)
    (h : ∀ g cap x', RowW x' g m f → w0.heap.size + 4 ≤ g → InsS w0 t c v3 v4 v5 acc x' → K (a.put o.dst (.slice (some ⟨g, 0, none⟩) m cap)) x') : if Region.wanted o (yielded ops a.tmps) = true then Oper.wp Try.prog o a x K Q else E := by
  have hw : Region.wanted o (yielded ops a.tmps) = true := by simp [Region.wanted, hg]
  rw [if_pos hw]
  obtain ⟨i, hi, hz0, hz1, hz2⟩ := info_parts infoW
  obtain ⟨v', w', h1, h2, h3, _⟩ := run_append_own (P := Try.prog) x (w0.heap.size + 4) 26 o.type 29 i _ 1 8 Try.underlying26 hi hz0 hz1 hz2 rfl (by decide) v 0 [] hown ad m cp (wordsV m f)
    (by rw [wordsV_length]; omega) (fun j u hu => by
      have hj : j < m := by have := (List.getElem?_eq_some_iff.1 hu).1; rw [wordsV_length] at this; exact this
      obtain ⟨b, off, e, hlt, hc⟩ := hA.2 hp
      cases e
      rw [wordsV_get hj] at hu
      cases hu
      rw [add_plain]
      exact hc j hj) (wordsV_one _ _) (by unfold maxLen; omega) (by omega) hS.size
  have hk : Below (w0.heap.size + 4) x w' := (Below.refl _ x).grown h3 hS.size (fun k hk => (hown.lt k hk).1)
  have hS' : InsS w0 t c v3 v4 v5 acc w' := by
    obtain ⟨u, k1, k2⟩ := hS
    have kv : ∀ {b : Nat} {vs : List Value}, b < w0.heap.size + 4 → VarAt x b vs → VarAt w' b vs := fun {b vs} hb hv => ⟨Nat.lt_of_lt_of_le hv.1 hk.size, fun j v hj => (hk.cell (p := ⟨b, j, none⟩) hb).trans (hv.2.1 j v hj), fun j hj => (hk.frozen (p := ⟨b, j, none⟩) hb).trans (hv.2.2 j hj)⟩
    have kr : ∀ {b n : Nat}, b < w0.heap.size + 4 → Room x b n → Room w' b n := fun {b n} hb hv => ⟨Nat.lt_of_lt_of_le hv.1 hk.size, fun j hj => by rw [hk.cell (p := ⟨b, 0 + j, none⟩) hb, hk.frozen (p := ⟨b, 0 + j, none⟩) hb]; exact hv.2 j hj⟩
    refine ⟨u, ⟨k1.1.trans (hk.mono (by omega)), fun p hp => ?_, fun p hp => ?_⟩, kv (by omega) k2⟩
    · have := k1.2.1 p hp
      simp only [List.mem_cons, or_false, List.not_mem_nil] at hp
      subst hp
      exact kv (by omega) this
    · have := k1.2.2 p hp
      simp only [List.mem_cons, or_false, List.not_mem_nil] at hp
      rcases hp with rfl | rfl | rfl
      · exact kr (by omega) this
      · exact kr (by omega) this
      · exact kr (by omega) this
  rw [List.nil_append] at h2
  unfold Oper.wp execOp
  simp only [ho, resolve, invoke, builtin, Sem.run_bind, Sem.run_pure, Result.andThen_ok, List.map_toArray, List.map_cons, List.map_nil, hs, hx, h1]
  rcases h2.2 with ⟨_, h0⟩ | ⟨g, cap, cur, rfl, hg2, hgb, hcap, _⟩
  · omega
  · rw [Nat.zero_add] at h2 ⊢
    exact h g cap w' ⟨(Array.getElem?_eq_some_iff.1 hgb).1, hA.1, fun j hj => (h2.cellAt j (by omega)).trans (wordsV_get hj), fun j => h2.frozenAt j⟩ hg2 hS'
end
section
variable (t c : Int) (A : Option Addr) (n k : Nat) (F : Nat → Nat) (r : Nat) (hr : r < 18446744073709551616) (R S : Option Addr) (m ra sa : Nat) (l0 l1 : List Stm) (q p : Nat) (hq : r % 2 = q) (hp : (1 : Int) - (q : Int) = (p : Int)) (me : Int) (a b : Nat) (D : Option Addr) (dn dc : Nat) (W : Option Addr) (wn wc : Nat)
include hr hq hp
set_option maxHeartbeats 4000000 in
theorem refDo_fails (ki i : Int) (d1 : decide (5 ≤ ki) = true) (d2 : decide (ki ≤ 12) = true) (w : World) (hA : Hid (AtW w A n F)) (h0 : Hid (StmsAt w R m l0)) (h1 : Hid (StmsAt w S m l1))  :
    Calls Try.prog 19 #[.agg #[.int .i64 t, .int .i64 c, .slice A n k, .int .u64 (r : Int), .slice R m ra, .slice S m sa], .int .i64 me, .agg #[.int .i64 ki, .int .i64 i, .int .u64 (a : Int), .int .u64 (b : Int), .slice D dn dc, .slice W wn wc], .bool true] w (DoW w t c A n r R S m F l0 l1 0 [] true) := by
  obtain ⟨w2, hw2⟩ : ∃ x, ((((w.alloc (.cells #[.int .i64 t, .int .i64 c, .slice A n k, .int .u64 (r : Int), .slice R m ra, .slice S m sa] 35)).alloc (.cells #[.int .i64 ki, .int .i64 i, .int .u64 (a : Int), .int .u64 (b : Int), .slice D dn dc, .slice W wn wc] 43)).alloc (.cells #[.int .i64 0, .int .i64 0, .slice none 0 0, .int .u64 0, .slice none 0 0, .slice none 0 0] 35)).alloc (.cells #[.int .u64 0, .slice none 0 0, .bool false] 39)) = x := ⟨_, rfl⟩
  have K2 : Hid (Kp w [(3, [.int .u64 0, .slice none 0 0, .bool false]), (2, [.int .i64 0, .int .i64 0, .slice none 0 0, .int .u64 0, .slice none 0 0, .slice none 0 0]), (1, [.int .i64 ki, .int .i64 i, .int .u64 (a : Int), .int .u64 (b : Int), .slice D dn dc, .slice W wn wc]), (0, [.int .i64 t, .int .i64 c, .slice A n k, .int .u64 (r : Int), .slice R m ra, .slice S m sa])] [] w2) := Lib.hid (by
    rw [← hw2]
    exact ((((Kp.nil w).var 0 rfl #[.int .i64 t, .int .i64 c, .slice A n k, .int .u64 (r : Int), .slice R m ra, .slice S m sa] 35).var 1 (by simp) #[.int .i64 ki, .int .i64 i, .int .u64 (a : Int), .int .u64 (b : Int), .slice D dn dc, .slice W wn wc] 43).var 2 (by simp) #[.int .i64 0, .int .i64 0, .slice none 0 0, .int .u64 0, .slice none 0 0, .slice none 0 0] 35).var 3 (by simp) #[.int .u64 0, .slice none 0 0, .bool false] 39)
  have HA2 := Lib.hid (hA.out.later K2.out.bel)
  have HS2 := Lib.hid (h0.out.later K2.out.bel)
  have HT2 := Lib.hid (h1.out.later K2.out.bel)
  have HZ2 : Hid (w.heap.size + 4 ≤ w2.heap.size) := Lib.hid (by have := (K2.out.at_ (o := 3) (.head _)).1; omega)
  have kr1 : (r : Int).tmod 2 = (q : Int) := by rw [Int.tmod_eq_emod_of_nonneg (by omega)]; omega
  have kr2 : (r : Int) % 2 = (q : Int) := by omega
  have kq2 : q < 2 := by omega
  have kqw : IntKind.i64.wrap (q : Int) = (q : Int) := by rw [IntKind.wrap_i64]; omega
  clear hq
  obtain ⟨z0, ⟨c0, c1, c2, c3, c4, c5⟩, f0, f1, f2, f3, f4, f5⟩ := (K2.out.at_ (o := 0) (.tail _ (.tail _ (.tail _ (.head _))))).six
  obtain ⟨_, ⟨a0, a1, a2, a3, a4, a5⟩, _⟩ := (K2.out.at_ (o := 1) (.tail _ (.tail _ (.head _)))).six
  obtain ⟨_, ⟨s0, s1, s2, s3, s4, s5⟩, g0, g1, g2, g3, g4, g5⟩ := (K2.out.at_ (o := 2) (.tail _ (.head _))).six
  obtain ⟨_, t0, t1, t2, j0, j1, j2⟩ := (K2.out.at_ (o := 3) (.head _)).three
  rw [Nat.add_zero] at z0 c0 c1 c2 c3 c4 c5 f0 f1 f2 f3 f4 f5
  go_enter Try.func19, Try.ntmps19
  go_wp2_with fail
  try clear hw2
  have HB := K2.out.bel
  exact bodyPost_ret (v := .tuple #[.agg #[.int .i64 t, .int .i64 c, .slice A n k, .int .u64 (r : Int), .slice R m ra, .slice S m sa], .agg #[.int .u64 0, .slice none 0 0, .bool true]]) (by simp [results, Try.results19, go_sem, s0, s1, s2, s3, s4, s5, t0, t1, t2]) rfl (DoW.fin (K := 4) (y := w2) (by repeat (first | with_reducible exact Alike.refl _ _ _ | with_reducible refine Alike.drew ?_ | (with_reducible refine Alike.set ?_ _ _ _ (by omega) (by omega)))) (by repeat (first | with_reducible assumption | with_reducible refine Below.drew ?_ | (with_reducible refine below_set1 (by omega) _ ?_))) HZ2.out K2.out.bel hA.out h0.out h1.out HA2.out HS2.out HT2.out (Nat.le_refl _) (AtB.nil _ _) (fun P hF g hA hB => ⟨g, hA, hB, OffW.nil P _⟩))

set_option maxHeartbeats 4000000 in
theorem refDo_none_a (ki i : Int) (fa : Bool) (d1 : decide (5 ≤ ki) = false) (d3 : decide (ki < 0) = true) (e5 : (ki == 5) = false) (e6 : (ki == 6) = false) (e7 : (ki == 7) = false) (e8 : (ki == 8) = false) (e9 : (ki == 9) = false) (e10 : (ki == 10) = false) (e11 : (ki == 11) = false) (e12 : (ki == 12) = false) (e13 : (ki == 13) = false) (w : World) (hA : Hid (AtW w A n F)) (h0 : Hid (StmsAt w R m l0)) (h1 : Hid (StmsAt w S m l1))  :
    Calls Try.prog 19 #[.agg #[.int .i64 t, .int .i64 c, .slice A n k, .int .u64 (r : Int), .slice R m ra, .slice S m sa], .int .i64 me, .agg #[.int .i64 ki, .int .i64 i, .int .u64 (a : Int), .int .u64 (b : Int), .slice D dn dc, .slice W wn wc], .bool fa] w (DoW w t c A n r R S m F l0 l1 0 [] false) := by
  obtain ⟨w2, hw2⟩ : ∃ x, ((((w.alloc (.cells #[.int .i64 t, .int .i64 c, .slice A n k, .int .u64 (r : Int), .slice R m ra, .slice S m sa] 35)).alloc (.cells #[.int .i64 ki, .int .i64 i, .int .u64 (a : Int), .int .u64 (b : Int), .slice D dn dc, .slice W wn wc] 43)).alloc (.cells #[.int .i64 0, .int .i64 0, .slice none 0 0, .int .u64 0, .slice none 0 0, .slice none 0 0] 35)).alloc (.cells #[.int .u64 0, .slice none 0 0, .bool false] 39)) = x := ⟨_, rfl⟩
  have K2 : Hid (Kp w [(3, [.int .u64 0, .slice none 0 0, .bool false]), (2, [.int .i64 0, .int .i64 0, .slice none 0 0, .int .u64 0, .slice none 0 0, .slice none 0 0]), (1, [.int .i64 ki, .int .i64 i, .int .u64 (a : Int), .int .u64 (b : Int), .slice D dn dc, .slice W wn wc]), (0, [.int .i64 t, .int .i64 c, .slice A n k, .int .u64 (r : Int), .slice R m ra, .slice S m sa])] [] w2) := Lib.hid (by
    rw [← hw2]
    exact ((((Kp.nil w).var 0 rfl #[.int .i64 t, .int .i64 c, .slice A n k, .int .u64 (r : Int), .slice R m ra, .slice S m sa] 35).var 1 (by simp) #[.int .i64 ki, .int .i64 i, .int .u64 (a : Int), .int .u64 (b : Int), .slice D dn dc, .slice W wn wc] 43).var 2 (by simp) #[.int .i64 0, .int .i64 0, .slice none 0 0, .int .u64 0, .slice none 0 0, .slice none 0 0] 35).var 3 (by simp) #[.int .u64 0, .slice none 0 0, .bool false] 39)
  have HA2 := Lib.hid (hA.out.later K2.out.bel)
  have HS2 := Lib.hid (h0.out.later K2.out.bel)
  have HT2 := Lib.hid (h1.out.later K2.out.bel)
  have HZ2 : Hid (w.heap.size + 4 ≤ w2.heap.size) := Lib.hid (by have := (K2.out.at_ (o := 3) (.head _)).1; omega)
  have kr1 : (r : Int).tmod 2 = (q : Int) := by rw [Int.tmod_eq_emod_of_nonneg (by omega)]; omega
  have kr2 : (r : Int) % 2 = (q : Int) := by omega
  have kq2 : q < 2 := by omega
  have kqw : IntKind.i64.wrap (q : Int) = (q : Int) := by rw [IntKind.wrap_i64]; omega
  clear hq
  obtain ⟨z0, ⟨c0, c1, c2, c3, c4, c5⟩, f0, f1, f2, f3, f4, f5⟩ := (K2.out.at_ (o := 0) (.tail _ (.tail _ (.tail _ (.head _))))).six
  obtain ⟨_, ⟨a0, a1, a2, a3, a4, a5⟩, _⟩ := (K2.out.at_ (o := 1) (.tail _ (.tail _ (.head _)))).six
  obtain ⟨_, ⟨s0, s1, s2, s3, s4, s5⟩, g0, g1, g2, g3, g4, g5⟩ := (K2.out.at_ (o := 2) (.tail _ (.head _))).six
  obtain ⟨_, t0, t1, t2, j0, j1, j2⟩ := (K2.out.at_ (o := 3) (.head _)).three
  rw [Nat.add_zero] at z0 c0 c1 c2 c3 c4 c5 f0 f1 f2 f3 f4 f5
  go_enter Try.func19, Try.ntmps19
  go_wp2_with fail
  try clear hw2
  have HB := K2.out.bel
  exact bodyPost_ret (v := .tuple #[.agg #[.int .i64 t, .int .i64 c, .slice A n k, .int .u64 (r : Int), .slice R m ra, .slice S m sa], .agg #[.int .u64 0, .slice none 0 0, .bool false]]) (by simp [results, Try.results19, go_sem, s0, s1, s2, s3, s4, s5, t0, t1, t2]) rfl (DoW.fin (K := 4) (y := w2) (by repeat (first | with_reducible exact Alike.refl _ _ _ | with_reducible refine Alike.drew ?_ | (with_reducible refine Alike.set ?_ _ _ _ (by omega) (by omega)))) (by repeat (first | with_reducible assumption | with_reducible refine Below.drew ?_ | (with_reducible refine below_set1 (by omega) _ ?_))) HZ2.out K2.out.bel hA.out h0.out h1.out HA2.out HS2.out HT2.out (Nat.le_refl _) (AtB.nil _ _) (fun P hF g hA hB => ⟨g, hA, hB, OffW.nil P _⟩))

set_option maxHeartbeats 4000000 in
theorem refDo_none_b (ki i : Int) (fa : Bool) (d1 : decide (5 ≤ ki) = true) (d2 : decide (ki ≤ 12) = false) (d3 : decide (ki < 0) = false) (d4 : decide (4 < ki) = true) (e5 : (ki == 5) = false) (e6 : (ki == 6) = false) (e7 : (ki == 7) = false) (e8 : (ki == 8) = false) (e9 : (ki == 9) = false) (e10 : (ki == 10) = false) (e11 : (ki == 11) = false) (e12 : (ki == 12) = false) (e13 : (ki == 13) = false) (w : World) (hA : Hid (AtW w A n F)) (h0 : Hid (StmsAt w R m l0)) (h1 : Hid (StmsAt w S m l1))  :
    Calls Try.prog 19 #[.agg #[.int .i64 t, .int .i64 c, .slice A n k, .int .u64 (r : Int), .slice R m ra, .slice S m sa], .int .i64 me, .agg #[.int .i64 ki, .int .i64 i, .int .u64 (a : Int), .int .u64 (b : Int), .slice D dn dc, .slice W wn wc], .bool fa] w (DoW w t c A n r R S m F l0 l1 0 [] false) := by
  obtain ⟨w2, hw2⟩ : ∃ x, ((((w.alloc (.cells #[.int .i64 t, .int .i64 c, .slice A n k, .int .u64 (r : Int), .slice R m ra, .slice S m sa] 35)).alloc (.cells #[.int .i64 ki, .int .i64 i, .int .u64 (a : Int), .int .u64 (b : Int), .slice D dn dc, .slice W wn wc] 43)).alloc (.cells #[.int .i64 0, .int .i64 0, .slice none 0 0, .int .u64 0, .slice none 0 0, .slice none 0 0] 35)).alloc (.cells #[.int .u64 0, .slice none 0 0, .bool false] 39)) = x := ⟨_, rfl⟩
  have K2 : Hid (Kp w [(3, [.int .u64 0, .slice none 0 0, .bool false]), (2, [.int .i64 0, .int .i64 0, .slice none 0 0, .int .u64 0, .slice none 0 0, .slice none 0 0]), (1, [.int .i64 ki, .int .i64 i, .int .u64 (a : Int), .int .u64 (b : Int), .slice D dn dc, .slice W wn wc]), (0, [.int .i64 t, .int .i64 c, .slice A n k, .int .u64 (r : Int), .slice R m ra, .slice S m sa])] [] w2) := Lib.hid (by
    rw [← hw2]
    exact ((((Kp.nil w).var 0 rfl #[.int .i64 t, .int .i64 c, .slice A n k, .int .u64 (r : Int), .slice R m ra, .slice S m sa] 35).var 1 (by simp) #[.int .i64 ki, .int .i64 i, .int .u64 (a : Int), .int .u64 (b : Int), .slice D dn dc, .slice W wn wc] 43).var 2 (by simp) #[.int .i64 0, .int .i64 0, .slice none 0 0, .int .u64 0, .slice none 0 0, .slice none 0 0] 35).var 3 (by simp) #[.int .u64 0, .slice none 0 0, .bool false] 39)
  have HA2 := Lib.hid (hA.out.later K2.out.bel)
  have HS2 := Lib.hid (h0.out.later K2.out.bel)
  have HT2 := Lib.hid (h1.out.later K2.out.bel)
  have HZ2 : Hid (w.heap.size + 4 ≤ w2.heap.size) := Lib.hid (by have := (K2.out.at_ (o := 3) (.head _)).1; omega)
  have kr1 : (r : Int).tmod 2 = (q : Int) := by rw [Int.tmod_eq_emod_of_nonneg (by omega)]; omega
  have kr2 : (r : Int) % 2 = (q : Int) := by omega
  have kq2 : q < 2 := by omega
  have kqw : IntKind.i64.wrap (q : Int) = (q : Int) := by rw [IntKind.wrap_i64]; omega
  clear hq
  obtain ⟨z0, ⟨c0, c1, c2, c3, c4, c5⟩, f0, f1, f2, f3, f4, f5⟩ := (K2.out.at_ (o := 0) (.tail _ (.tail _ (.tail _ (.head _))))).six
  obtain ⟨_, ⟨a0, a1, a2, a3, a4, a5⟩, _⟩ := (K2.out.at_ (o := 1) (.tail _ (.tail _ (.head _)))).six
  obtain ⟨_, ⟨s0, s1, s2, s3, s4, s5⟩, g0, g1, g2, g3, g4, g5⟩ := (K2.out.at_ (o := 2) (.tail _ (.head _))).six
  obtain ⟨_, t0, t1, t2, j0, j1, j2⟩ := (K2.out.at_ (o := 3) (.head _)).three
  rw [Nat.add_zero] at z0 c0 c1 c2 c3 c4 c5 f0 f1 f2 f3 f4 f5
  go_enter Try.func19, Try.ntmps19
  go_wp2_with fail
  try clear hw2
  have HB := K2.out.bel
  exact bodyPost_ret (v := .tuple #[.agg #[.int .i64 t, .int .i64 c, .slice A n k, .int .u64 (r : Int), .slice R m ra, .slice S m sa], .agg #[.int .u64 0, .slice none 0 0, .bool false]]) (by simp [results, Try.results19, go_sem, s0, s1, s2, s3, s4, s5, t0, t1, t2]) rfl (DoW.fin (K := 4) (y := w2) (by repeat (first | with_reducible exact Alike.refl _ _ _ | with_reducible refine Alike.drew ?_ | (with_reducible refine Alike.set ?_ _ _ _ (by omega) (by omega)))) (by repeat (first | with_reducible assumption | with_reducible refine Below.drew ?_ | (with_reducible refine below_set1 (by omega) _ ?_))) HZ2.out K2.out.bel hA.out h0.out h1.out HA2.out HS2.out HT2.out (Nat.le_refl _) (AtB.nil _ _) (fun P hF g hA hB => ⟨g, hA, hB, OffW.nil P _⟩))

set_option maxHeartbeats 4000000 in
theorem refDo_none_c (ki i : Int) (fa : Bool) (d1 : decide (5 ≤ ki) = false) (d3 : decide (ki < 0) = false) (d4 : decide (4 < ki) = false) (d5 : decide (i < 0) = true) (e5 : (ki == 5) = false) (e6 : (ki == 6) = false) (e7 : (ki == 7) = false) (e8 : (ki == 8) = false) (e9 : (ki == 9) = false) (e10 : (ki == 10) = false) (e11 : (ki == 11) = false) (e12 : (ki == 12) = false) (e13 : (ki == 13) = false) (w : World) (hA : Hid (AtW w A n F)) (h0 : Hid (StmsAt w R m l0)) (h1 : Hid (StmsAt w S m l1))  :
    Calls Try.prog 19 #[.agg #[.int .i64 t, .int .i64 c, .slice A n k, .int .u64 (r : Int), .slice R m ra, .slice S m sa], .int .i64 me, .agg #[.int .i64 ki, .int .i64 i, .int .u64 (a : Int), .int .u64 (b : Int), .slice D dn dc, .slice W wn wc], .bool fa] w (DoW w t c A n r R S m F l0 l1 0 [] false) := by
  obtain ⟨w2, hw2⟩ : ∃ x, ((((w.alloc (.cells #[.int .i64 t, .int .i64 c, .slice A n k, .int .u64 (r : Int), .slice R m ra, .slice S m sa] 35)).alloc (.cells #[.int .i64 ki, .int .i64 i, .int .u64 (a : Int), .int .u64 (b : Int), .slice D dn dc, .slice W wn wc] 43)).alloc (.cells #[.int .i64 0, .int .i64 0, .slice none 0 0, .int .u64 0, .slice none 0 0, .slice none 0 0] 35)).alloc (.cells #[.int .u64 0, .slice none 0 0, .bool false] 39)) = x := ⟨_, rfl⟩
  have K2 : Hid (Kp w [(3, [.int .u64 0, .slice none 0 0, .bool false]), (2, [.int .i64 0, .int .i64 0, .slice none 0 0, .int .u64 0, .slice none 0 0, .slice none 0 0]), (1, [.int .i64 ki, .int .i64 i, .int .u64 (a : Int), .int .u64 (b : Int), .slice D dn dc, .slice W wn wc]), (0, [.int .i64 t, .int .i64 c, .slice A n k, .int .u64 (r : Int), .slice R m ra, .slice S m sa])] [] w2) := Lib.hid (by
    rw [← hw2]
    exact ((((Kp.nil w).var 0 rfl #[.int .i64 t, .int .i64 c, .slice A n k, .int .u64 (r : Int), .slice R m ra, .slice S m sa] 35).var 1 (by simp) #[.int .i64 ki, .int .i64 i, .int .u64 (a : Int), .int .u64 (b : Int), .slice D dn dc, .slice W wn wc] 43).var 2 (by simp) #[.int .i64 0, .int .i64 0, .slice none 0 0, .int .u64 0, .slice none 0 0, .slice none 0 0] 35).var 3 (by simp) #[.int .u64 0, .slice none 0 0, .bool false] 39)
  have HA2 := Lib.hid (hA.out.later K2.out.bel)
  have HS2 := Lib.hid (h0.out.later K2.out.bel)
  have HT2 := Lib.hid (h1.out.later K2.out.bel)
  have HZ2 : Hid (w.heap.size + 4 ≤ w2.heap.size) := Lib.hid (by have := (K2.out.at_ (o := 3) (.head _)).1; omega)
  have kr1 : (r : Int).tmod 2 = (q : Int) := by rw [Int.tmod_eq_emod_of_nonneg (by omega)]; omega
  have kr2 : (r : Int) % 2 = (q : Int) := by omega
  have kq2 : q < 2 := by omega
  have kqw : IntKind.i64.wrap (q : Int) = (q : Int) := by rw [IntKind.wrap_i64]; omega
  clear hq
  obtain ⟨z0, ⟨c0, c1, c2, c3, c4, c5⟩, f0, f1, f2, f3, f4, f5⟩ := (K2.out.at_ (o := 0) (.tail _ (.tail _ (.tail _ (.head _))))).six
  obtain ⟨_, ⟨a0, a1, a2, a3, a4, a5⟩, _⟩ := (K2.out.at_ (o := 1) (.tail _ (.tail _ (.head _)))).six
  obtain ⟨_, ⟨s0, s1, s2, s3, s4, s5⟩, g0, g1, g2, g3, g4, g5⟩ := (K2.out.at_ (o := 2) (.tail _ (.head _))).six
  obtain ⟨_, t0, t1, t2, j0, j1, j2⟩ := (K2.out.at_ (o := 3) (.head _)).three
  rw [Nat.add_zero] at z0 c0 c1 c2 c3 c4 c5 f0 f1 f2 f3 f4 f5
  go_enter Try.func19, Try.ntmps19
  go_wp2_with fail
  try clear hw2
  have HB := K2.out.bel
  exact bodyPost_ret (v := .tuple #[.agg #[.int .i64 t, .int .i64 c, .slice A n k, .int .u64 (r : Int), .slice R m ra, .slice S m sa], .agg #[.int .u64 0, .slice none 0 0, .bool false]]) (by simp [results, Try.results19, go_sem, s0, s1, s2, s3, s4, s5, t0, t1, t2]) rfl (DoW.fin (K := 4) (y := w2) (by repeat (first | with_reducible exact Alike.refl _ _ _ | with_reducible refine Alike.drew ?_ | (with_reducible refine Alike.set ?_ _ _ _ (by omega) (by omega)))) (by repeat (first | with_reducible assumption | with_reducible refine Below.drew ?_ | (with_reducible refine below_set1 (by omega) _ ?_))) HZ2.out K2.out.bel hA.out h0.out h1.out HA2.out HS2.out HT2.out (Nat.le_refl _) (AtB.nil _ _) (fun P hF g hA hB => ⟨g, hA, hB, OffW.nil P _⟩))

set_option maxHeartbeats 4000000 in
theorem refDo_none_d (ki i : Int) (fa : Bool) (d1 : decide (5 ≤ ki) = false) (d3 : decide (ki < 0) = false) (d4 : decide (4 < ki) = false) (d5 : decide (i < 0) = false) (d6 : decide ((n : Int) ≤ i) = true) (e5 : (ki == 5) = false) (e6 : (ki == 6) = false) (e7 : (ki == 7) = false) (e8 : (ki == 8) = false) (e9 : (ki == 9) = false) (e10 : (ki == 10) = false) (e11 : (ki == 11) = false) (e12 : (ki == 12) = false) (e13 : (ki == 13) = false) (w : World) (hA : Hid (AtW w A n F)) (h0 : Hid (StmsAt w R m l0)) (h1 : Hid (StmsAt w S m l1))  :
    Calls Try.prog 19 #[.agg #[.int .i64 t, .int .i64 c, .slice A n k, .int .u64 (r : Int), .slice R m ra, .slice S m sa], .int .i64 me, .agg #[.int .i64 ki, .int .i64 i, .int .u64 (a : Int), .int .u64 (b : Int), .slice D dn dc, .slice W wn wc], .bool fa] w (DoW w t c A n r R S m F l0 l1 0 [] false) := by
  obtain ⟨w2, hw2⟩ : ∃ x, ((((w.alloc (.cells #[.int .i64 t, .int .i64 c, .slice A n k, .int .u64 (r : Int), .slice R m ra, .slice S m sa] 35)).alloc (.cells #[.int .i64 ki, .int .i64 i, .int .u64 (a : Int), .int .u64 (b : Int), .slice D dn dc, .slice W wn wc] 43)).alloc (.cells #[.int .i64 0, .int .i64 0, .slice none 0 0, .int .u64 0, .slice none 0 0, .slice none 0 0] 35)).alloc (.cells #[.int .u64 0, .slice none 0 0, .bool false] 39)) = x := ⟨_, rfl⟩
  have K2 : Hid (Kp w [(3, [.int .u64 0, .slice none 0 0, .bool false]), (2, [.int .i64 0, .int .i64 0, .slice none 0 0, .int .u64 0, .slice none 0 0, .slice none 0 0]), (1, [.int .i64 ki, .int .i64 i, .int .u64 (a : Int), .int .u64 (b : Int), .slice D dn dc, .slice W wn wc]), (0, [.int .i64 t, .int .i64 c, .slice A n k, .int .u64 (r : Int), .slice R m ra, .slice S m sa])] [] w2) := Lib.hid (by
    rw [← hw2]
    exact ((((Kp.nil w).var 0 rfl #[.int .i64 t, .int .i64 c, .slice A n k, .int .u64 (r : Int), .slice R m ra, .slice S m sa] 35).var 1 (by simp) #[.int .i64 ki, .int .i64 i, .int .u64 (a : Int), .int .u64 (b : Int), .slice D dn dc, .slice W wn wc] 43).var 2 (by simp) #[.int .i64 0, .int .i64 0, .slice none 0 0, .int .u64 0, .slice none 0 0, .slice none 0 0] 35).var 3 (by simp) #[.int .u64 0, .slice none 0 0, .bool false] 39)
  have HA2 := Lib.hid (hA.out.later K2.out.bel)
  have HS2 := Lib.hid (h0.out.later K2.out.bel)
  have HT2 := Lib.hid (h1.out.later K2.out.bel)
  have HZ2 : Hid (w.heap.size + 4 ≤ w2.heap.size) := Lib.hid (by have := (K2.out.at_ (o := 3) (.head _)).1; omega)
  have kr1 : (r : Int).tmod 2 = (q : Int) := by rw [Int.tmod_eq_emod_of_nonneg (by omega)]; omega
  have kr2 : (r : Int) % 2 = (q : Int) := by omega
  have kq2 : q < 2 := by omega
  have kqw : IntKind.i64.wrap (q : Int) = (q : Int) := by rw [IntKind.wrap_i64]; omega
  clear hq
  obtain ⟨z0, ⟨c0, c1, c2, c3, c4, c5⟩, f0, f1, f2, f3, f4, f5⟩ := (K2.out.at_ (o := 0) (.tail _ (.tail _ (.tail _ (.head _))))).six
  obtain ⟨_, ⟨a0, a1, a2, a3, a4, a5⟩, _⟩ := (K2.out.at_ (o := 1) (.tail _ (.tail _ (.head _)))).six
  obtain ⟨_, ⟨s0, s1, s2, s3, s4, s5⟩, g0, g1, g2, g3, g4, g5⟩ := (K2.out.at_ (o := 2) (.tail _ (.head _))).six
  obtain ⟨_, t0, t1, t2, j0, j1, j2⟩ := (K2.out.at_ (o := 3) (.head _)).three
  rw [Nat.add_zero] at z0 c0 c1 c2 c3 c4 c5 f0 f1 f2 f3 f4 f5
  go_enter Try.func19, Try.ntmps19
  go_wp2_with fail
  try clear hw2
  have HB := K2.out.bel
  exact bodyPost_ret (v := .tuple #[.agg #[.int .i64 t, .int .i64 c, .slice A n k, .int .u64 (r : Int), .slice R m ra, .slice S m sa], .agg #[.int .u64 0, .slice none 0 0, .bool false]]) (by simp [results, Try.results19, go_sem, s0, s1, s2, s3, s4, s5, t0, t1, t2]) rfl (DoW.fin (K := 4) (y := w2) (by repeat (first | with_reducible exact Alike.refl _ _ _ | with_reducible refine Alike.drew ?_ | (with_reducible refine Alike.set ?_ _ _ _ (by omega) (by omega)))) (by repeat (first | with_reducible assumption | with_reducible refine Below.drew ?_ | (with_reducible refine below_set1 (by omega) _ ?_))) HZ2.out K2.out.bel hA.out h0.out h1.out HA2.out HS2.out HT2.out (Nat.le_refl _) (AtB.nil _ _) (fun P hF g hA hB => ⟨g, hA, hB, OffW.nil P _⟩))

set_option maxHeartbeats 4000000 in
theorem refDo_append (i : Int) (P0 P1 : List Stm) (cd : Int) (ys : List Nat) (hc : ∀ w, Hid (StmsAt w R m l0) → Hid (StmsAt w S m l1) → Hid (AtB w D dn ys) → Calls Try.prog 42 #[.agg #[.int .u64 (r : Int), .slice R m ra, .slice S m sa], .int .i64 (q : Int), .int .i64 me, .slice D dn dc] w (DskPostC w (r : Int) R S m m P0 P1 cd)) (w : World) (hA : Hid (AtW w A n F)) (h0 : Hid (StmsAt w R m l0)) (h1 : Hid (StmsAt w S m l1)) (hD : Hid (AtB w D dn ys)) :
    Calls Try.prog 19 #[.agg #[.int .i64 t, .int .i64 c, .slice A n k, .int .u64 (r : Int), .slice R m ra, .slice S m sa], .int .i64 me, .agg #[.int .i64 5, .int .i64 i, .int .u64 (a : Int), .int .u64 (b : Int), .slice D dn dc, .slice W wn wc], .bool false] w (DoW w t c A n r R S m F P0 P1 0 [] false) := by
  obtain ⟨w2, hw2⟩ : ∃ x, ((((w.alloc (.cells #[.int .i64 t, .int .i64 c, .slice A n k, .int .u64 (r : Int), .slice R m ra, .slice S m sa] 35)).alloc (.cells #[.int .i64 5, .int .i64 i, .int .u64 (a : Int), .int .u64 (b : Int), .slice D dn dc, .slice W wn wc] 43)).alloc (.cells #[.int .i64 0, .int .i64 0, .slice none 0 0, .int .u64 0, .slice none 0 0, .slice none 0 0] 35)).alloc (.cells #[.int .u64 0, .slice none 0 0, .bool false] 39)) = x := ⟨_, rfl⟩
  have K2 : Hid (Kp w [(3, [.int .u64 0, .slice none 0 0, .bool false]), (2, [.int .i64 0, .int .i64 0, .slice none 0 0, .int .u64 0, .slice none 0 0, .slice none 0 0]), (1, [.int .i64 5, .int .i64 i, .int .u64 (a : Int), .int .u64 (b : Int), .slice D dn dc, .slice W wn wc]), (0, [.int .i64 t, .int .i64 c, .slice A n k, .int .u64 (r : Int), .slice R m ra, .slice S m sa])] [] w2) := Lib.hid (by
    rw [← hw2]
    exact ((((Kp.nil w).var 0 rfl #[.int .i64 t, .int .i64 c, .slice A n k, .int .u64 (r : Int), .slice R m ra, .slice S m sa] 35).var 1 (by simp) #[.int .i64 5, .int .i64 i, .int .u64 (a : Int), .int .u64 (b : Int), .slice D dn dc, .slice W wn wc] 43).var 2 (by simp) #[.int .i64 0, .int .i64 0, .slice none 0 0, .int .u64 0, .slice none 0 0, .slice none 0 0] 35).var 3 (by simp) #[.int .u64 0, .slice none 0 0, .bool false] 39)
  have HA2 := Lib.hid (hA.out.later K2.out.bel)
  have HS2 := Lib.hid (h0.out.later K2.out.bel)
  have HT2 := Lib.hid (h1.out.later K2.out.bel)
  have HZ2 : Hid (w.heap.size + 4 ≤ w2.heap.size) := Lib.hid (by have := (K2.out.at_ (o := 3) (.head _)).1; omega)
  have kr1 : (r : Int).tmod 2 = (q : Int) := by rw [Int.tmod_eq_emod_of_nonneg (by omega)]; omega
  have kr2 : (r : Int) % 2 = (q : Int) := by omega
  have kq2 : q < 2 := by omega
  have kqw : IntKind.i64.wrap (q : Int) = (q : Int) := by rw [IntKind.wrap_i64]; omega
  clear hq
  obtain ⟨z0, ⟨c0, c1, c2, c3, c4, c5⟩, f0, f1, f2, f3, f4, f5⟩ := (K2.out.at_ (o := 0) (.tail _ (.tail _ (.tail _ (.head _))))).six
  obtain ⟨_, ⟨a0, a1, a2, a3, a4, a5⟩, _⟩ := (K2.out.at_ (o := 1) (.tail _ (.tail _ (.head _)))).six
  obtain ⟨_, ⟨s0, s1, s2, s3, s4, s5⟩, g0, g1, g2, g3, g4, g5⟩ := (K2.out.at_ (o := 2) (.tail _ (.head _))).six
  obtain ⟨_, t0, t1, t2, j0, j1, j2⟩ := (K2.out.at_ (o := 3) (.head _)).three
  rw [Nat.add_zero] at z0 c0 c1 c2 c3 c4 c5 f0 f1 f2 f3 f4 f5
  go_enter Try.func19, Try.ntmps19
  go_wp2_with fail
  try clear hw2
  (with_reducible refine (hc _ HS2 HT2 (Lib.hid (AtB.later hD K2.out.bel))).mono ?_)
  rintro e w3 ⟨R3, ra3, S3, sa3, rfl, hs0, hs1, hb3, hP3⟩
  have K3 := Lib.hid (K2.out.later hb3)
  have HA3 := Lib.hid (HA2.out.later hb3)
  have HS3 := Lib.hid hs0
  have HT3 := Lib.hid hs1
  have HP3 := Lib.hid hP3
  clear c0 c1 c2 c3 c4 c5 f0 f1 f2 f3 f4 f5 a0 a1 a2 a3 a4 a5 s0 s1 s2 s3 s4 s5 g0 g1 g2 g3 g4 g5 t0 t1 t2 j0 j1 j2 z0
  clear hs0 hs1 hb3 hP3
  obtain ⟨z0, ⟨c0, c1, c2, c3, c4, c5⟩, f0, f1, f2, f3, f4, f5⟩ := (K3.out.at_ (o := 0) (.tail _ (.tail _ (.tail _ (.head _))))).six
  obtain ⟨_, ⟨a0, a1, a2, a3, a4, a5⟩, _⟩ := (K3.out.at_ (o := 1) (.tail _ (.tail _ (.head _)))).six
  obtain ⟨_, ⟨s0, s1, s2, s3, s4, s5⟩, g0, g1, g2, g3, g4, g5⟩ := (K3.out.at_ (o := 2) (.tail _ (.head _))).six
  obtain ⟨_, t0, t1, t2, j0, j1, j2⟩ := (K3.out.at_ (o := 3) (.head _)).three
  rw [Nat.add_zero] at z0 c0 c1 c2 c3 c4 c5 f0 f1 f2 f3 f4 f5
  go_wp2_with fail
  have HB := K3.out.bel
  exact bodyPost_ret (v := .tuple #[.agg #[.int .i64 t, .int .i64 c, .slice A n k, .int .u64 (r : Int), .slice R3 m ra3, .slice S3 m sa3], .agg #[.int .u64 0, .slice none 0 0, .bool false]]) (by simp [results, Try.results19, go_sem, s0, s1, s2, s3, s4, s5, t0, t1, t2]) rfl (DoW.fin (K := 4) (y := w3) (by repeat (first | with_reducible exact Alike.refl _ _ _ | with_reducible refine Alike.drew ?_ | (with_reducible refine Alike.set ?_ _ _ _ (by omega) (by omega)))) (by repeat (first | with_reducible assumption | with_reducible refine Below.drew ?_ | (with_reducible refine below_set1 (by omega) _ ?_))) HZ2.out K2.out.bel hA.out h0.out h1.out HA3.out HS3.out HT3.out (Nat.le_refl _) (AtB.nil _ _) (fun P hF g hA hB => ⟨g, (HP3.out P hF hA hB).1, (HP3.out P hF hA hB).2, OffW.nil P _⟩))

set_option maxHeartbeats 4000000 in
theorem refDo_sync (i : Int) (P0 P1 : List Stm) (cd : Int) (ys : List Nat) (hc : ∀ w, Hid (StmsAt w R m l0) → Hid (StmsAt w S m l1) → Calls Try.prog 43 #[.agg #[.int .u64 (r : Int), .slice R m ra, .slice S m sa], .int .i64 (q : Int), .int .i64 me] w (DskPostC w (r : Int) R S m m P0 P1 cd)) (w : World) (hA : Hid (AtW w A n F)) (h0 : Hid (StmsAt w R m l0)) (h1 : Hid (StmsAt w S m l1))  :
    Calls Try.prog 19 #[.agg #[.int .i64 t, .int .i64 c, .slice A n k, .int .u64 (r : Int), .slice R m ra, .slice S m sa], .int .i64 me, .agg #[.int .i64 6, .int .i64 i, .int .u64 (a : Int), .int .u64 (b : Int), .slice D dn dc, .slice W wn wc], .bool false] w (DoW w t c A n r R S m F P0 P1 0 [] false) := by
  obtain ⟨w2, hw2⟩ : ∃ x, ((((w.alloc (.cells #[.int .i64 t, .int .i64 c, .slice A n k, .int .u64 (r : Int), .slice R m ra, .slice S m sa] 35)).alloc (.cells #[.int .i64 6, .int .i64 i, .int .u64 (a : Int), .int .u64 (b : Int), .slice D dn dc, .slice W wn wc] 43)).alloc (.cells #[.int .i64 0, .int .i64 0, .slice none 0 0, .int .u64 0, .slice none 0 0, .slice none 0 0] 35)).alloc (.cells #[.int .u64 0, .slice none 0 0, .bool false] 39)) = x := ⟨_, rfl⟩
  have K2 : Hid (Kp w [(3, [.int .u64 0, .slice none 0 0, .bool false]), (2, [.int .i64 0, .int .i64 0, .slice none 0 0, .int .u64 0, .slice none 0 0, .slice none 0 0]), (1, [.int .i64 6, .int .i64 i, .int .u64 (a : Int), .int .u64 (b : Int), .slice D dn dc, .slice W wn wc]), (0, [.int .i64 t, .int .i64 c, .slice A n k, .int .u64 (r : Int), .slice R m ra, .slice S m sa])] [] w2) := Lib.hid (by
    rw [← hw2]
    exact ((((Kp.nil w).var 0 rfl #[.int .i64 t, .int .i64 c, .slice A n k, .int .u64 (r : Int), .slice R m ra, .slice S m sa] 35).var 1 (by simp) #[.int .i64 6, .int .i64 i, .int .u64 (a : Int), .int .u64 (b : Int), .slice D dn dc, .slice W wn wc] 43).var 2 (by simp) #[.int .i64 0, .int .i64 0, .slice none 0 0, .int .u64 0, .slice none 0 0, .slice none 0 0] 35).var 3 (by simp) #[.int .u64 0, .slice none 0 0, .bool false] 39)
  have HA2 := Lib.hid (hA.out.later K2.out.bel)
  have HS2 := Lib.hid (h0.out.later K2.out.bel)
  have HT2 := Lib.hid (h1.out.later K2.out.bel)
  have HZ2 : Hid (w.heap.size + 4 ≤ w2.heap.size) := Lib.hid (by have := (K2.out.at_ (o := 3) (.head _)).1; omega)
  have kr1 : (r : Int).tmod 2 = (q : Int) := by rw [Int.tmod_eq_emod_of_nonneg (by omega)]; omega
  have kr2 : (r : Int) % 2 = (q : Int) := by omega
  have kq2 : q < 2 := by omega
  have kqw : IntKind.i64.wrap (q : Int) = (q : Int) := by rw [IntKind.wrap_i64]; omega
  clear hq
  obtain ⟨z0, ⟨c0, c1, c2, c3, c4, c5⟩, f0, f1, f2, f3, f4, f5⟩ := (K2.out.at_ (o := 0) (.tail _ (.tail _ (.tail _ (.head _))))).six
  obtain ⟨_, ⟨a0, a1, a2, a3, a4, a5⟩, _⟩ := (K2.out.at_ (o := 1) (.tail _ (.tail _ (.head _)))).six
  obtain ⟨_, ⟨s0, s1, s2, s3, s4, s5⟩, g0, g1, g2, g3, g4, g5⟩ := (K2.out.at_ (o := 2) (.tail _ (.head _))).six
  obtain ⟨_, t0, t1, t2, j0, j1, j2⟩ := (K2.out.at_ (o := 3) (.head _)).three
  rw [Nat.add_zero] at z0 c0 c1 c2 c3 c4 c5 f0 f1 f2 f3 f4 f5
  go_enter Try.func19, Try.ntmps19
  go_wp2_with fail
  try clear hw2
  (with_reducible refine (hc _ HS2 HT2).mono ?_)
  rintro e w3 ⟨R3, ra3, S3, sa3, rfl, hs0, hs1, hb3, hP3⟩
  have K3 := Lib.hid (K2.out.later hb3)
  have HA3 := Lib.hid (HA2.out.later hb3)
  have HS3 := Lib.hid hs0
  have HT3 := Lib.hid hs1
  have HP3 := Lib.hid hP3
  clear c0 c1 c2 c3 c4 c5 f0 f1 f2 f3 f4 f5 a0 a1 a2 a3 a4 a5 s0 s1 s2 s3 s4 s5 g0 g1 g2 g3 g4 g5 t0 t1 t2 j0 j1 j2 z0
  clear hs0 hs1 hb3 hP3
  obtain ⟨z0, ⟨c0, c1, c2, c3, c4, c5⟩, f0, f1, f2, f3, f4, f5⟩ := (K3.out.at_ (o := 0) (.tail _ (.tail _ (.tail _ (.head _))))).six
  obtain ⟨_, ⟨a0, a1, a2, a3, a4, a5⟩, _⟩ := (K3.out.at_ (o := 1) (.tail _ (.tail _ (.head _)))).six
  obtain ⟨_, ⟨s0, s1, s2, s3, s4, s5⟩, g0, g1, g2, g3, g4, g5⟩ := (K3.out.at_ (o := 2) (.tail _ (.head _))).six
  obtain ⟨_, t0, t1, t2, j0, j1, j2⟩ := (K3.out.at_ (o := 3) (.head _)).three
  rw [Nat.add_zero] at z0 c0 c1 c2 c3 c4 c5 f0 f1 f2 f3 f4 f5
  go_wp2_with fail
  have HB := K3.out.bel
  exact bodyPost_ret (v := .tuple #[.agg #[.int .i64 t, .int .i64 c, .slice A n k, .int .u64 (r : Int), .slice R3 m ra3, .slice S3 m sa3], .agg #[.int .u64 0, .slice none 0 0, .bool false]]) (by simp [results, Try.results19, go_sem, s0, s1, s2, s3, s4, s5, t0, t1, t2]) rfl (DoW.fin (K := 4) (y := w3) (by repeat (first | with_reducible exact Alike.refl _ _ _ | with_reducible refine Alike.drew ?_ | (with_reducible refine Alike.set ?_ _ _ _ (by omega) (by omega)))) (by repeat (first | with_reducible assumption | with_reducible refine Below.drew ?_ | (with_reducible refine below_set1 (by omega) _ ?_))) HZ2.out K2.out.bel hA.out h0.out h1.out HA3.out HS3.out HT3.out (Nat.le_refl _) (AtB.nil _ _) (fun P hF g hA hB => ⟨g, (HP3.out P hF hA hB).1, (HP3.out P hF hA hB).2, OffW.nil P _⟩))

set_option maxHeartbeats 4000000 in
theorem refDo_clear (i : Int) (P0 P1 : List Stm) (cd : Int) (ys : List Nat) (hc : ∀ w, Hid (StmsAt w R m l0) → Hid (StmsAt w S m l1) → Calls Try.prog 45 #[.agg #[.int .u64 (r : Int), .slice R m ra, .slice S m sa], .int .i64 (p : Int)] w (DskPostC w (r : Int) R S m m P0 P1 cd)) (w : World) (hA : Hid (AtW w A n F)) (h0 : Hid (StmsAt w R m l0)) (h1 : Hid (StmsAt w S m l1))  :
    Calls Try.prog 19 #[.agg #[.int .i64 t, .int .i64 c, .slice A n k, .int .u64 (r : Int), .slice R m ra, .slice S m sa], .int .i64 me, .agg #[.int .i64 9, .int .i64 i, .int .u64 (a : Int), .int .u64 (b : Int), .slice D dn dc, .slice W wn wc], .bool false] w (DoW w t c A n r R S m F P0 P1 0 [] false) := by
  obtain ⟨w2, hw2⟩ : ∃ x, ((((w.alloc (.cells #[.int .i64 t, .int .i64 c, .slice A n k, .int .u64 (r : Int), .slice R m ra, .slice S m sa] 35)).alloc (.cells #[.int .i64 9, .int .i64 i, .int .u64 (a : Int), .int .u64 (b : Int), .slice D dn dc, .slice W wn wc] 43)).alloc (.cells #[.int .i64 0, .int .i64 0, .slice none 0 0, .int .u64 0, .slice none 0 0, .slice none 0 0] 35)).alloc (.cells #[.int .u64 0, .slice none 0 0, .bool false] 39)) = x := ⟨_, rfl⟩
  have K2 : Hid (Kp w [(3, [.int .u64 0, .slice none 0 0, .bool false]), (2, [.int .i64 0, .int .i64 0, .slice none 0 0, .int .u64 0, .slice none 0 0, .slice none 0 0]), (1, [.int .i64 9, .int .i64 i, .int .u64 (a : Int), .int .u64 (b : Int), .slice D dn dc, .slice W wn wc]), (0, [.int .i64 t, .int .i64 c, .slice A n k, .int .u64 (r : Int), .slice R m ra, .slice S m sa])] [] w2) := Lib.hid (by
    rw [← hw2]
    exact ((((Kp.nil w).var 0 rfl #[.int .i64 t, .int .i64 c, .slice A n k, .int .u64 (r : Int), .slice R m ra, .slice S m sa] 35).var 1 (by simp) #[.int .i64 9, .int .i64 i, .int .u64 (a : Int), .int .u64 (b : Int), .slice D dn dc, .slice W wn wc] 43).var 2 (by simp) #[.int .i64 0, .int .i64 0, .slice none 0 0, .int .u64 0, .slice none 0 0, .slice none 0 0] 35).var 3 (by simp) #[.int .u64 0, .slice none 0 0, .bool false] 39)
  have HA2 := Lib.hid (hA.out.later K2.out.bel)
  have HS2 := Lib.hid (h0.out.later K2.out.bel)
  have HT2 := Lib.hid (h1.out.later K2.out.bel)
  have HZ2 : Hid (w.heap.size + 4 ≤ w2.heap.size) := Lib.hid (by have := (K2.out.at_ (o := 3) (.head _)).1; omega)
  have kr1 : (r : Int).tmod 2 = (q : Int) := by rw [Int.tmod_eq_emod_of_nonneg (by omega)]; omega
  have kr2 : (r : Int) % 2 = (q : Int) := by omega
  have kq2 : q < 2 := by omega
  have kqw : IntKind.i64.wrap (q : Int) = (q : Int) := by rw [IntKind.wrap_i64]; omega
  clear hq
  obtain ⟨z0, ⟨c0, c1, c2, c3, c4, c5⟩, f0, f1, f2, f3, f4, f5⟩ := (K2.out.at_ (o := 0) (.tail _ (.tail _ (.tail _ (.head _))))).six
  obtain ⟨_, ⟨a0, a1, a2, a3, a4, a5⟩, _⟩ := (K2.out.at_ (o := 1) (.tail _ (.tail _ (.head _)))).six
  obtain ⟨_, ⟨s0, s1, s2, s3, s4, s5⟩, g0, g1, g2, g3, g4, g5⟩ := (K2.out.at_ (o := 2) (.tail _ (.head _))).six
  obtain ⟨_, t0, t1, t2, j0, j1, j2⟩ := (K2.out.at_ (o := 3) (.head _)).three
  rw [Nat.add_zero] at z0 c0 c1 c2 c3 c4 c5 f0 f1 f2 f3 f4 f5
  go_enter Try.func19, Try.ntmps19
  go_wp2_with fail
  try clear hw2
  (with_reducible refine (hc _ HS2 HT2).mono ?_)
  rintro e w3 ⟨R3, ra3, S3, sa3, rfl, hs0, hs1, hb3, hP3⟩
  have K3 := Lib.hid (K2.out.later hb3)
  have HA3 := Lib.hid (HA2.out.later hb3)
  have HS3 := Lib.hid hs0
  have HT3 := Lib.hid hs1
  have HP3 := Lib.hid hP3
  clear c0 c1 c2 c3 c4 c5 f0 f1 f2 f3 f4 f5 a0 a1 a2 a3 a4 a5 s0 s1 s2 s3 s4 s5 g0 g1 g2 g3 g4 g5 t0 t1 t2 j0 j1 j2 z0
  clear hs0 hs1 hb3 hP3
  obtain ⟨z0, ⟨c0, c1, c2, c3, c4, c5⟩, f0, f1, f2, f3, f4, f5⟩ := (K3.out.at_ (o := 0) (.tail _ (.tail _ (.tail _ (.head _))))).six
  obtain ⟨_, ⟨a0, a1, a2, a3, a4, a5⟩, _⟩ := (K3.out.at_ (o := 1) (.tail _ (.tail _ (.head _)))).six
  obtain ⟨_, ⟨s0, s1, s2, s3, s4, s5⟩, g0, g1, g2, g3, g4, g5⟩ := (K3.out.at_ (o := 2) (.tail _ (.head _))).six
  obtain ⟨_, t0, t1, t2, j0, j1, j2⟩ := (K3.out.at_ (o := 3) (.head _)).three
  rw [Nat.add_zero] at z0 c0 c1 c2 c3 c4 c5 f0 f1 f2 f3 f4 f5
  go_wp2_with fail
  have HB := K3.out.bel
  exact bodyPost_ret (v := .tuple #[.agg #[.int .i64 t, .int .i64 c, .slice A n k, .int .u64 (r : Int), .slice R3 m ra3, .slice S3 m sa3], .agg #[.int .u64 0, .slice none 0 0, .bool false]]) (by simp [results, Try.results19, go_sem, s0, s1, s2, s3, s4, s5, t0, t1, t2]) rfl (DoW.fin (K := 4) (y := w3) (by repeat (first | with_reducible exact Alike.refl _ _ _ | with_reducible refine Alike.drew ?_ | (with_reducible refine Alike.set ?_ _ _ _ (by omega) (by omega)))) (by repeat (first | with_reducible assumption | with_reducible refine Below.drew ?_ | (with_reducible refine below_set1 (by omega) _ ?_))) HZ2.out K2.out.bel hA.out h0.out h1.out HA3.out HS3.out HT3.out (Nat.le_refl _) (AtB.nil _ _) (fun P hF g hA hB => ⟨g, (HP3.out P hF hA hB).1, (HP3.out P hF hA hB).2, OffW.nil P _⟩))

set_option maxHeartbeats 4000000 in
theorem refDo_write (i : Int) (P0 P1 : List Stm) (cd : Int) (ys : List Nat) (hc : ∀ w, Hid (StmsAt w R m l0) → Hid (StmsAt w S m l1) → Hid (AtB w D dn ys) → Calls Try.prog 42 #[.agg #[.int .u64 (r : Int), .slice R m ra, .slice S m sa], .int .i64 (p : Int), .int .i64 0, .slice D dn dc] w (DskPostC w (r : Int) R S m m P0 P1 cd)) (w : World) (hA : Hid (AtW w A n F)) (h0 : Hid (StmsAt w R m l0)) (h1 : Hid (StmsAt w S m l1)) (hD : Hid (AtB w D dn ys)) :
    Calls Try.prog 19 #[.agg #[.int .i64 t, .int .i64 c, .slice A n k, .int .u64 (r : Int), .slice R m ra, .slice S m sa], .int .i64 me, .agg #[.int .i64 10, .int .i64 i, .int .u64 (a : Int), .int .u64 (b : Int), .slice D dn dc, .slice W wn wc], .bool false] w (DoW w t c A n r R S m F P0 P1 0 [] false) := by
  obtain ⟨w2, hw2⟩ : ∃ x, ((((w.alloc (.cells #[.int .i64 t, .int .i64 c, .slice A n k, .int .u64 (r : Int), .slice R m ra, .slice S m sa] 35)).alloc (.cells #[.int .i64 10, .int .i64 i, .int .u64 (a : Int), .int .u64 (b : Int), .slice D dn dc, .slice W wn wc] 43)).alloc (.cells #[.int .i64 0, .int .i64 0, .slice none 0 0, .int .u64 0, .slice none 0 0, .slice none 0 0] 35)).alloc (.cells #[.int .u64 0, .slice none 0 0, .bool false] 39)) = x := ⟨_, rfl⟩
  have K2 : Hid (Kp w [(3, [.int .u64 0, .slice none 0 0, .bool false]), (2, [.int .i64 0, .int .i64 0, .slice none 0 0, .int .u64 0, .slice none 0 0, .slice none 0 0]), (1, [.int .i64 10, .int .i64 i, .int .u64 (a : Int), .int .u64 (b : Int), .slice D dn dc, .slice W wn wc]), (0, [.int .i64 t, .int .i64 c, .slice A n k, .int .u64 (r : Int), .slice R m ra, .slice S m sa])] [] w2) := Lib.hid (by
    rw [← hw2]
    exact ((((Kp.nil w).var 0 rfl #[.int .i64 t, .int .i64 c, .slice A n k, .int .u64 (r : Int), .slice R m ra, .slice S m sa] 35).var 1 (by simp) #[.int .i64 10, .int .i64 i, .int .u64 (a : Int), .int .u64 (b : Int), .slice D dn dc, .slice W wn wc] 43).var 2 (by simp) #[.int .i64 0, .int .i64 0, .slice none 0 0, .int .u64 0, .slice none 0 0, .slice none 0 0] 35).var 3 (by simp) #[.int .u64 0, .slice none 0 0, .bool false] 39)
  have HA2 := Lib.hid (hA.out.later K2.out.bel)
  have HS2 := Lib.hid (h0.out.later K2.out.bel)
  have HT2 := Lib.hid (h1.out.later K2.out.bel)
  have HZ2 : Hid (w.heap.size + 4 ≤ w2.heap.size) := Lib.hid (by have := (K2.out.at_ (o := 3) (.head _)).1; omega)
  have kr1 : (r : Int).tmod 2 = (q : Int) := by rw [Int.tmod_eq_emod_of_nonneg (by omega)]; omega
  have kr2 : (r : Int) % 2 = (q : Int) := by omega
  have kq2 : q < 2 := by omega
  have kqw : IntKind.i64.wrap (q : Int) = (q : Int) := by rw [IntKind.wrap_i64]; omega
  clear hq
  obtain ⟨z0, ⟨c0, c1, c2, c3, c4, c5⟩, f0, f1, f2, f3, f4, f5⟩ := (K2.out.at_ (o := 0) (.tail _ (.tail _ (.tail _ (.head _))))).six
  obtain ⟨_, ⟨a0, a1, a2, a3, a4, a5⟩, _⟩ := (K2.out.at_ (o := 1) (.tail _ (.tail _ (.head _)))).six
  obtain ⟨_, ⟨s0, s1, s2, s3, s4, s5⟩, g0, g1, g2, g3, g4, g5⟩ := (K2.out.at_ (o := 2) (.tail _ (.head _))).six
  obtain ⟨_, t0, t1, t2, j0, j1, j2⟩ := (K2.out.at_ (o := 3) (.head _)).three
  rw [Nat.add_zero] at z0 c0 c1 c2 c3 c4 c5 f0 f1 f2 f3 f4 f5
  go_enter Try.func19, Try.ntmps19
  go_wp2_with fail
  try clear hw2
  (with_reducible refine (hc _ HS2 HT2 (Lib.hid (AtB.later hD K2.out.bel))).mono ?_)
  rintro e w3 ⟨R3, ra3, S3, sa3, rfl, hs0, hs1, hb3, hP3⟩
  have K3 := Lib.hid (K2.out.later hb3)
  have HA3 := Lib.hid (HA2.out.later hb3)
  have HS3 := Lib.hid hs0
  have HT3 := Lib.hid hs1
  have HP3 := Lib.hid hP3
  clear c0 c1 c2 c3 c4 c5 f0 f1 f2 f3 f4 f5 a0 a1 a2 a3 a4 a5 s0 s1 s2 s3 s4 s5 g0 g1 g2 g3 g4 g5 t0 t1 t2 j0 j1 j2 z0
  clear hs0 hs1 hb3 hP3
  obtain ⟨z0, ⟨c0, c1, c2, c3, c4, c5⟩, f0, f1, f2, f3, f4, f5⟩ := (K3.out.at_ (o := 0) (.tail _ (.tail _ (.tail _ (.head _))))).six
  obtain ⟨_, ⟨a0, a1, a2, a3, a4, a5⟩, _⟩ := (K3.out.at_ (o := 1) (.tail _ (.tail _ (.head _)))).six
  obtain ⟨_, ⟨s0, s1, s2, s3, s4, s5⟩, g0, g1, g2, g3, g4, g5⟩ := (K3.out.at_ (o := 2) (.tail _ (.head _))).six
  obtain ⟨_, t0, t1, t2, j0, j1, j2⟩ := (K3.out.at_ (o := 3) (.head _)).three
  rw [Nat.add_zero] at z0 c0 c1 c2 c3 c4 c5 f0 f1 f2 f3 f4 f5
  go_wp2_with fail
  have HB := K3.out.bel
  exact bodyPost_ret (v := .tuple #[.agg #[.int .i64 t, .int .i64 c, .slice A n k, .int .u64 (r : Int), .slice R3 m ra3, .slice S3 m sa3], .agg #[.int .u64 0, .slice none 0 0, .bool false]]) (by simp [results, Try.results19, go_sem, s0, s1, s2, s3, s4, s5, t0, t1, t2]) rfl (DoW.fin (K := 4) (y := w3) (by repeat (first | with_reducible exact Alike.refl _ _ _ | with_reducible refine Alike.drew ?_ | (with_reducible refine Alike.set ?_ _ _ _ (by omega) (by omega)))) (by repeat (first | with_reducible assumption | with_reducible refine Below.drew ?_ | (with_reducible refine below_set1 (by omega) _ ?_))) HZ2.out K2.out.bel hA.out h0.out h1.out HA3.out HS3.out HT3.out (Nat.le_refl _) (AtB.nil _ _) (fun P hF g hA hB => ⟨g, (HP3.out P hF hA hB).1, (HP3.out P hF hA hB).2, OffW.nil P _⟩))

set_option maxHeartbeats 4000000 in
theorem refDo_flush (i : Int) (P0 P1 : List Stm) (cd : Int) (ys : List Nat) (hc : ∀ w, Hid (StmsAt w R m l0) → Hid (StmsAt w S m l1) → Calls Try.prog 43 #[.agg #[.int .u64 (r : Int), .slice R m ra, .slice S m sa], .int .i64 (p : Int), .int .i64 0] w (DskPostC w (r : Int) R S m m P0 P1 cd)) (w : World) (hA : Hid (AtW w A n F)) (h0 : Hid (StmsAt w R m l0)) (h1 : Hid (StmsAt w S m l1))  :
    Calls Try.prog 19 #[.agg #[.int .i64 t, .int .i64 c, .slice A n k, .int .u64 (r : Int), .slice R m ra, .slice S m sa], .int .i64 me, .agg #[.int .i64 11, .int .i64 i, .int .u64 (a : Int), .int .u64 (b : Int), .slice D dn dc, .slice W wn wc], .bool false] w (DoW w t c A n r R S m F P0 P1 0 [] false) := by
  obtain ⟨w2, hw2⟩ : ∃ x, ((((w.alloc (.cells #[.int .i64 t, .int .i64 c, .slice A n k, .int .u64 (r : Int), .slice R m ra, .slice S m sa] 35)).alloc (.cells #[.int .i64 11, .int .i64 i, .int .u64 (a : Int), .int .u64 (b : Int), .slice D dn dc, .slice W wn wc] 43)).alloc (.cells #[.int .i64 0, .int .i64 0, .slice none 0 0, .int .u64 0, .slice none 0 0, .slice none 0 0] 35)).alloc (.cells #[.int .u64 0, .slice none 0 0, .bool false] 39)) = x := ⟨_, rfl⟩
  have K2 : Hid (Kp w [(3, [.int .u64 0, .slice none 0 0, .bool false]), (2, [.int .i64 0, .int .i64 0, .slice none 0 0, .int .u64 0, .slice none 0 0, .slice none 0 0]), (1, [.int .i64 11, .int .i64 i, .int .u64 (a : Int), .int .u64 (b : Int), .slice D dn dc, .slice W wn wc]), (0, [.int .i64 t, .int .i64 c, .slice A n k, .int .u64 (r : Int), .slice R m ra, .slice S m sa])] [] w2) := Lib.hid (by
    rw [← hw2]
    exact ((((Kp.nil w).var 0 rfl #[.int .i64 t, .int .i64 c, .slice A n k, .int .u64 (r : Int), .slice R m ra, .slice S m sa] 35).var 1 (by simp) #[.int .i64 11, .int .i64 i, .int .u64 (a : Int), .int .u64 (b : Int), .slice D dn dc, .slice W wn wc] 43).var 2 (by simp) #[.int .i64 0, .int .i64 0, .slice none 0 0, .int .u64 0, .slice none 0 0, .slice none 0 0] 35).var 3 (by simp) #[.int .u64 0, .slice none 0 0, .bool false] 39)
  have HA2 := Lib.hid (hA.out.later K2.out.bel)
  have HS2 := Lib.hid (h0.out.later K2.out.bel)
  have HT2 := Lib.hid (h1.out.later K2.out.bel)
  have HZ2 : Hid (w.heap.size + 4 ≤ w2.heap.size) := Lib.hid (by have := (K2.out.at_ (o := 3) (.head _)).1; omega)
  have kr1 : (r : Int).tmod 2 = (q : Int) := by rw [Int.tmod_eq_emod_of_nonneg (by omega)]; omega
  have kr2 : (r : Int) % 2 = (q : Int) := by omega
  have kq2 : q < 2 := by omega
  have kqw : IntKind.i64.wrap (q : Int) = (q : Int) := by rw [IntKind.wrap_i64]; omega
  clear hq
  obtain ⟨z0, ⟨c0, c1, c2, c3, c4, c5⟩, f0, f1, f2, f3, f4, f5⟩ := (K2.out.at_ (o := 0) (.tail _ (.tail _ (.tail _ (.head _))))).six
  obtain ⟨_, ⟨a0, a1, a2, a3, a4, a5⟩, _⟩ := (K2.out.at_ (o := 1) (.tail _ (.tail _ (.head _)))).six
  obtain ⟨_, ⟨s0, s1, s2, s3, s4, s5⟩, g0, g1, g2, g3, g4, g5⟩ := (K2.out.at_ (o := 2) (.tail _ (.head _))).six
  obtain ⟨_, t0, t1, t2, j0, j1, j2⟩ := (K2.out.at_ (o := 3) (.head _)).three
  rw [Nat.add_zero] at z0 c0 c1 c2 c3 c4 c5 f0 f1 f2 f3 f4 f5
  go_enter Try.func19, Try.ntmps19
  go_wp2_with fail
  try clear hw2
  (with_reducible refine (hc _ HS2 HT2).mono ?_)
  rintro e w3 ⟨R3, ra3, S3, sa3, rfl, hs0, hs1, hb3, hP3⟩
  have K3 := Lib.hid (K2.out.later hb3)
  have HA3 := Lib.hid (HA2.out.later hb3)
  have HS3 := Lib.hid hs0
  have HT3 := Lib.hid hs1
  have HP3 := Lib.hid hP3
  clear c0 c1 c2 c3 c4 c5 f0 f1 f2 f3 f4 f5 a0 a1 a2 a3 a4 a5 s0 s1 s2 s3 s4 s5 g0 g1 g2 g3 g4 g5 t0 t1 t2 j0 j1 j2 z0
  clear hs0 hs1 hb3 hP3
  obtain ⟨z0, ⟨c0, c1, c2, c3, c4, c5⟩, f0, f1, f2, f3, f4, f5⟩ := (K3.out.at_ (o := 0) (.tail _ (.tail _ (.tail _ (.head _))))).six
  obtain ⟨_, ⟨a0, a1, a2, a3, a4, a5⟩, _⟩ := (K3.out.at_ (o := 1) (.tail _ (.tail _ (.head _)))).six
  obtain ⟨_, ⟨s0, s1, s2, s3, s4, s5⟩, g0, g1, g2, g3, g4, g5⟩ := (K3.out.at_ (o := 2) (.tail _ (.head _))).six
  obtain ⟨_, t0, t1, t2, j0, j1, j2⟩ := (K3.out.at_ (o := 3) (.head _)).three
  rw [Nat.add_zero] at z0 c0 c1 c2 c3 c4 c5 f0 f1 f2 f3 f4 f5
  go_wp2_with fail
  have HB := K3.out.bel
  exact bodyPost_ret (v := .tuple #[.agg #[.int .i64 t, .int .i64 c, .slice A n k, .int .u64 (r : Int), .slice R3 m ra3, .slice S3 m sa3], .agg #[.int .u64 0, .slice none 0 0, .bool false]]) (by simp [results, Try.results19, go_sem, s0, s1, s2, s3, s4, s5, t0, t1, t2]) rfl (DoW.fin (K := 4) (y := w3) (by repeat (first | with_reducible exact Alike.refl _ _ _ | with_reducible refine Alike.drew ?_ | (with_reducible refine Alike.set ?_ _ _ _ (by omega) (by omega)))) (by repeat (first | with_reducible assumption | with_reducible refine Below.drew ?_ | (with_reducible refine below_set1 (by omega) _ ?_))) HZ2.out K2.out.bel hA.out h0.out h1.out HA3.out HS3.out HT3.out (Nat.le_refl _) (AtB.nil _ _) (fun P hF g hA hB => ⟨g, (HP3.out P hF hA hB).1, (HP3.out P hF hA hB).2, OffW.nil P _⟩))

set_option maxHeartbeats 4000000 in
theorem refDo_root (i : Int) (w : World) (hA : Hid (AtW w A n F)) (h0 : Hid (StmsAt w R m l0)) (h1 : Hid (StmsAt w S m l1))  :
    Calls Try.prog 19 #[.agg #[.int .i64 t, .int .i64 c, .slice A n k, .int .u64 (r : Int), .slice R m ra, .slice S m sa], .int .i64 me, .agg #[.int .i64 7, .int .i64 i, .int .u64 (a : Int), .int .u64 (b : Int), .slice D dn dc, .slice W wn wc], .bool false] w (DoW w t c A n r R S m F l0 l1 r [] false) := by
  obtain ⟨w2, hw2⟩ : ∃ x, ((((w.alloc (.cells #[.int .i64 t, .int .i64 c, .slice A n k, .int .u64 (r : Int), .slice R m ra, .slice S m sa] 35)).alloc (.cells #[.int .i64 7, .int .i64 i, .int .u64 (a : Int), .int .u64 (b : Int), .slice D dn dc, .slice W wn wc] 43)).alloc (.cells #[.int .i64 0, .int .i64 0, .slice none 0 0, .int .u64 0, .slice none 0 0, .slice none 0 0] 35)).alloc (.cells #[.int .u64 0, .slice none 0 0, .bool false] 39)) = x := ⟨_, rfl⟩
  have K2 : Hid (Kp w [(3, [.int .u64 0, .slice none 0 0, .bool false]), (2, [.int .i64 0, .int .i64 0, .slice none 0 0, .int .u64 0, .slice none 0 0, .slice none 0 0]), (1, [.int .i64 7, .int .i64 i, .int .u64 (a : Int), .int .u64 (b : Int), .slice D dn dc, .slice W wn wc]), (0, [.int .i64 t, .int .i64 c, .slice A n k, .int .u64 (r : Int), .slice R m ra, .slice S m sa])] [] w2) := Lib.hid (by
    rw [← hw2]
    exact ((((Kp.nil w).var 0 rfl #[.int .i64 t, .int .i64 c, .slice A n k, .int .u64 (r : Int), .slice R m ra, .slice S m sa] 35).var 1 (by simp) #[.int .i64 7, .int .i64 i, .int .u64 (a : Int), .int .u64 (b : Int), .slice D dn dc, .slice W wn wc] 43).var 2 (by simp) #[.int .i64 0, .int .i64 0, .slice none 0 0, .int .u64 0, .slice none 0 0, .slice none 0 0] 35).var 3 (by simp) #[.int .u64 0, .slice none 0 0, .bool false] 39)
  have HA2 := Lib.hid (hA.out.later K2.out.bel)
  have HS2 := Lib.hid (h0.out.later K2.out.bel)
  have HT2 := Lib.hid (h1.out.later K2.out.bel)
  have HZ2 : Hid (w.heap.size + 4 ≤ w2.heap.size) := Lib.hid (by have := (K2.out.at_ (o := 3) (.head _)).1; omega)
  have kr1 : (r : Int).tmod 2 = (q : Int) := by rw [Int.tmod_eq_emod_of_nonneg (by omega)]; omega
  have kr2 : (r : Int) % 2 = (q : Int) := by omega
  have kq2 : q < 2 := by omega
  have kqw : IntKind.i64.wrap (q : Int) = (q : Int) := by rw [IntKind.wrap_i64]; omega
  clear hq
  obtain ⟨z0, ⟨c0, c1, c2, c3, c4, c5⟩, f0, f1, f2, f3, f4, f5⟩ := (K2.out.at_ (o := 0) (.tail _ (.tail _ (.tail _ (.head _))))).six
  obtain ⟨_, ⟨a0, a1, a2, a3, a4, a5⟩, _⟩ := (K2.out.at_ (o := 1) (.tail _ (.tail _ (.head _)))).six
  obtain ⟨_, ⟨s0, s1, s2, s3, s4, s5⟩, g0, g1, g2, g3, g4, g5⟩ := (K2.out.at_ (o := 2) (.tail _ (.head _))).six
  obtain ⟨_, t0, t1, t2, j0, j1, j2⟩ := (K2.out.at_ (o := 3) (.head _)).three
  rw [Nat.add_zero] at z0 c0 c1 c2 c3 c4 c5 f0 f1 f2 f3 f4 f5
  go_enter Try.func19, Try.ntmps19
  go_wp2_with fail
  try clear hw2
  have HB := K2.out.bel
  have RM2 := VarAt.room6 (K2.out.at_ (o := 2) (.tail _ (.head _)))
  have RM3 := VarAt.room3 (K2.out.at_ (o := 3) (.head _))
  refine gen_world (fun x => EndR w [.int .i64 t, .int .i64 c, .slice A n k, .int .u64 (r : Int), .slice R m ra, .slice S m sa] w2 x) (EndR.of (by repeat (first | with_reducible assumption | with_reducible refine Below.drew ?_ | (with_reducible refine below_set1 (by omega) _ ?_))) (VarAt.of6 (by simpa using z0) (by go_simp) (by go_simp) (by go_simp) (by go_simp) (by go_simp) (by go_simp) (by go_simp) (by go_simp) (by go_simp) (by go_simp) (by go_simp) (by go_simp) ) (by repeat (first | with_reducible assumption | with_reducible refine Room.apart ?_ _ _ _)) (by repeat (first | with_reducible assumption | with_reducible refine Room.apart ?_ _ _ _)) (by repeat (first | with_reducible exact Alike.refl _ _ _ | with_reducible refine Alike.drew ?_ | (with_reducible refine Alike.set ?_ _ _ _ (by omega) (by omega))))) ?_
  intro x hx
  clear c0 c1 c2 c3 c4 c5 f0 f1 f2 f3 f4 f5 a0 a1 a2 a3 a4 a5 s0 s1 s2 s3 s4 s5 g0 g1 g2 g3 g4 g5 t0 t1 t2 j0 j1 j2 z0
  clear HB RM2 RM3
  have rD0 : ∀ w', EndR w [.int .i64 t, .int .i64 c, .slice A n k, .int .u64 (r : Int), .slice R m ra, .slice S m sa] w2 w' → w'.cell? ⟨w.heap.size, 0, none⟩ = some (.int .i64 t) := fun w' h => h.c0 0 _ rfl
  have r20 : ∀ w', EndR w [.int .i64 t, .int .i64 c, .slice A n k, .int .u64 (r : Int), .slice R m ra, .slice S m sa] w2 w' → w'.cell? ⟨w.heap.size + 2, 0, none⟩ = some (cellV w' (w.heap.size + 2) 0) := fun w' h => h.r2 0 (by decide)
  have f20 : ∀ w', EndR w [.int .i64 t, .int .i64 c, .slice A n k, .int .u64 (r : Int), .slice R m ra, .slice S m sa] w2 w' → w'.frozen? ⟨w.heap.size + 2, 0, none⟩ = false := fun w' h => h.f2 0 (by decide)
  have r30 : ∀ w', EndR w [.int .i64 t, .int .i64 c, .slice A n k, .int .u64 (r : Int), .slice R m ra, .slice S m sa] w2 w' → w'.cell? ⟨w.heap.size + 3, 0, none⟩ = some (cellV w' (w.heap.size + 3) 0) := fun w' h => h.r3 0 (by decide)
  have f30 : ∀ w', EndR w [.int .i64 t, .int .i64 c, .slice A n k, .int .u64 (r : Int), .slice R m ra, .slice S m sa] w2 w' → w'.frozen? ⟨w.heap.size + 3, 0, none⟩ = false := fun w' h => h.f3 0 (by decide)
  have rD1 : ∀ w', EndR w [.int .i64 t, .int .i64 c, .slice A n k, .int .u64 (r : Int), .slice R m ra, .slice S m sa] w2 w' → w'.cell? ⟨w.heap.size, 1, none⟩ = some (.int .i64 c) := fun w' h => h.c0 1 _ rfl
  have r21 : ∀ w', EndR w [.int .i64 t, .int .i64 c, .slice A n k, .int .u64 (r : Int), .slice R m ra, .slice S m sa] w2 w' → w'.cell? ⟨w.heap.size + 2, 1, none⟩ = some (cellV w' (w.heap.size + 2) 1) := fun w' h => h.r2 1 (by decide)
  have f21 : ∀ w', EndR w [.int .i64 t, .int .i64 c, .slice A n k, .int .u64 (r : Int), .slice R m ra, .slice S m sa] w2 w' → w'.frozen? ⟨w.heap.size + 2, 1, none⟩ = false := fun w' h => h.f2 1 (by decide)
  have r31 : ∀ w', EndR w [.int .i64 t, .int .i64 c, .slice A n k, .int .u64 (r : Int), .slice R m ra, .slice S m sa] w2 w' → w'.cell? ⟨w.heap.size + 3, 1, none⟩ = some (cellV w' (w.heap.size + 3) 1) := fun w' h => h.r3 1 (by decide)
  have f31 : ∀ w', EndR w [.int .i64 t, .int .i64 c, .slice A n k, .int .u64 (r : Int), .slice R m ra, .slice S m sa] w2 w' → w'.frozen? ⟨w.heap.size + 3, 1, none⟩ = false := fun w' h => h.f3 1 (by decide)
  have rD2 : ∀ w', EndR w [.int .i64 t, .int .i64 c, .slice A n k, .int .u64 (r : Int), .slice R m ra, .slice S m sa] w2 w' → w'.cell? ⟨w.heap.size, 2, none⟩ = some (.slice A n k) := fun w' h => h.c0 2 _ rfl
  have r22 : ∀ w', EndR w [.int .i64 t, .int .i64 c, .slice A n k, .int .u64 (r : Int), .slice R m ra, .slice S m sa] w2 w' → w'.cell? ⟨w.heap.size + 2, 2, none⟩ = some (cellV w' (w.heap.size + 2) 2) := fun w' h => h.r2 2 (by decide)
  have f22 : ∀ w', EndR w [.int .i64 t, .int .i64 c, .slice A n k, .int .u64 (r : Int), .slice R m ra, .slice S m sa] w2 w' → w'.frozen? ⟨w.heap.size + 2, 2, none⟩ = false := fun w' h => h.f2 2 (by decide)
  have r32 : ∀ w', EndR w [.int .i64 t, .int .i64 c, .slice A n k, .int .u64 (r : Int), .slice R m ra, .slice S m sa] w2 w' → w'.cell? ⟨w.heap.size + 3, 2, none⟩ = some (cellV w' (w.heap.size + 3) 2) := fun w' h => h.r3 2 (by decide)
  have f32 : ∀ w', EndR w [.int .i64 t, .int .i64 c, .slice A n k, .int .u64 (r : Int), .slice R m ra, .slice S m sa] w2 w' → w'.frozen? ⟨w.heap.size + 3, 2, none⟩ = false := fun w' h => h.f3 2 (by decide)
  have rD3 : ∀ w', EndR w [.int .i64 t, .int .i64 c, .slice A n k, .int .u64 (r : Int), .slice R m ra, .slice S m sa] w2 w' → w'.cell? ⟨w.heap.size, 3, none⟩ = some (.int .u64 (r : Int)) := fun w' h => h.c0 3 _ rfl
  have r23 : ∀ w', EndR w [.int .i64 t, .int .i64 c, .slice A n k, .int .u64 (r : Int), .slice R m ra, .slice S m sa] w2 w' → w'.cell? ⟨w.heap.size + 2, 3, none⟩ = some (cellV w' (w.heap.size + 2) 3) := fun w' h => h.r2 3 (by decide)
  have f23 : ∀ w', EndR w [.int .i64 t, .int .i64 c, .slice A n k, .int .u64 (r : Int), .slice R m ra, .slice S m sa] w2 w' → w'.frozen? ⟨w.heap.size + 2, 3, none⟩ = false := fun w' h => h.f2 3 (by decide)
  have rD4 : ∀ w', EndR w [.int .i64 t, .int .i64 c, .slice A n k, .int .u64 (r : Int), .slice R m ra, .slice S m sa] w2 w' → w'.cell? ⟨w.heap.size, 4, none⟩ = some (.slice R m ra) := fun w' h => h.c0 4 _ rfl
  have r24 : ∀ w', EndR w [.int .i64 t, .int .i64 c, .slice A n k, .int .u64 (r : Int), .slice R m ra, .slice S m sa] w2 w' → w'.cell? ⟨w.heap.size + 2, 4, none⟩ = some (cellV w' (w.heap.size + 2) 4) := fun w' h => h.r2 4 (by decide)
  have f24 : ∀ w', EndR w [.int .i64 t, .int .i64 c, .slice A n k, .int .u64 (r : Int), .slice R m ra, .slice S m sa] w2 w' → w'.frozen? ⟨w.heap.size + 2, 4, none⟩ = false := fun w' h => h.f2 4 (by decide)
  have rD5 : ∀ w', EndR w [.int .i64 t, .int .i64 c, .slice A n k, .int .u64 (r : Int), .slice R m ra, .slice S m sa] w2 w' → w'.cell? ⟨w.heap.size, 5, none⟩ = some (.slice S m sa) := fun w' h => h.c0 5 _ rfl
  have r25 : ∀ w', EndR w [.int .i64 t, .int .i64 c, .slice A n k, .int .u64 (r : Int), .slice R m ra, .slice S m sa] w2 w' → w'.cell? ⟨w.heap.size + 2, 5, none⟩ = some (cellV w' (w.heap.size + 2) 5) := fun w' h => h.r2 5 (by decide)
  have f25 : ∀ w', EndR w [.int .i64 t, .int .i64 c, .slice A n k, .int .u64 (r : Int), .slice R m ra, .slice S m sa] w2 w' → w'.frozen? ⟨w.heap.size + 2, 5, none⟩ = false := fun w' h => h.f2 5 (by decide)
  have HX := Lib.hid hx
  first | (go_region_held3 (fun w' => EndR w [.int .i64 t, .int .i64 c, .slice A n k, .int .u64 (r : Int), .slice R m ra, .slice S m sa] w2 w') (repeat (first | with_reducible assumption | with_reducible refine EndR.drew ?_ | with_reducible refine EndR.set3 ?_ _ _ | with_reducible refine EndR.set2 ?_ _ _)) (fail)) | fail
  all_goals
    go_wp2_with fail
    have q20 := r20 x HX.out
    have q21 := r21 x HX.out
    have q22 := r22 x HX.out
    have q23 := r23 x HX.out
    have q24 := r24 x HX.out
    have q25 := r25 x HX.out
    have q30 := r30 x HX.out
    have q31 := r31 x HX.out
    have q32 := r32 x HX.out
    exact bodyPost_ret (v := .tuple #[.agg #[.int .i64 t, .int .i64 c, .slice A n k, .int .u64 (r : Int), .slice R m ra, .slice S m sa], .agg #[.int .u64 (r : Int), .slice none 0 0, .bool false]]) (by simp [results, Try.results19, go_sem, q20, q21, q22, q23, q24, q25, q30, q31, q32]) rfl (endR_fin (dk := [.int .i64 t, .int .i64 c, .slice A n k, .int .u64 (r : Int), .slice R m ra, .slice S m sa]) (y := w2) (by assumption) HZ2.out K2.out.bel hA.out h0.out h1.out HA2.out HS2.out HT2.out (Nat.le_refl _) (AtB.nil _ _) (fun P hF g hA hB => ⟨g, hA, hB, OffW.nil P _⟩))

set_option maxHeartbeats 4000000 in
theorem refDo_read (i : Int) (xs : List Nat) (cd : Int) (hc : ∀ w, Hid (StmsAt w R m l0) → Hid (StmsAt w S m l1) → Calls Try.prog 44 #[.agg #[.int .u64 (r : Int), .slice R m ra, .slice S m sa], .int .i64 (q : Int), .int .i64 i] w (ReadPostC w R m S m xs cd)) (w : World) (hA : Hid (AtW w A n F)) (h0 : Hid (StmsAt w R m l0)) (h1 : Hid (StmsAt w S m l1))  :
    Calls Try.prog 19 #[.agg #[.int .i64 t, .int .i64 c, .slice A n k, .int .u64 (r : Int), .slice R m ra, .slice S m sa], .int .i64 me, .agg #[.int .i64 8, .int .i64 i, .int .u64 (a : Int), .int .u64 (b : Int), .slice D dn dc, .slice W wn wc], .bool false] w (DoW w t c A n r R S m F l0 l1 0 xs false) := by
  obtain ⟨w2, hw2⟩ : ∃ x, ((((w.alloc (.cells #[.int .i64 t, .int .i64 c, .slice A n k, .int .u64 (r : Int), .slice R m ra, .slice S m sa] 35)).alloc (.cells #[.int .i64 8, .int .i64 i, .int .u64 (a : Int), .int .u64 (b : Int), .slice D dn dc, .slice W wn wc] 43)).alloc (.cells #[.int .i64 0, .int .i64 0, .slice none 0 0, .int .u64 0, .slice none 0 0, .slice none 0 0] 35)).alloc (.cells #[.int .u64 0, .slice none 0 0, .bool false] 39)) = x := ⟨_, rfl⟩
  have K2 : Hid (Kp w [(3, [.int .u64 0, .slice none 0 0, .bool false]), (2, [.int .i64 0, .int .i64 0, .slice none 0 0, .int .u64 0, .slice none 0 0, .slice none 0 0]), (1, [.int .i64 8, .int .i64 i, .int .u64 (a : Int), .int .u64 (b : Int), .slice D dn dc, .slice W wn wc]), (0, [.int .i64 t, .int .i64 c, .slice A n k, .int .u64 (r : Int), .slice R m ra, .slice S m sa])] [] w2) := Lib.hid (by
    rw [← hw2]
    exact ((((Kp.nil w).var 0 rfl #[.int .i64 t, .int .i64 c, .slice A n k, .int .u64 (r : Int), .slice R m ra, .slice S m sa] 35).var 1 (by simp) #[.int .i64 8, .int .i64 i, .int .u64 (a : Int), .int .u64 (b : Int), .slice D dn dc, .slice W wn wc] 43).var 2 (by simp) #[.int .i64 0, .int .i64 0, .slice none 0 0, .int .u64 0, .slice none 0 0, .slice none 0 0] 35).var 3 (by simp) #[.int .u64 0, .slice none 0 0, .bool false] 39)
  have HA2 := Lib.hid (hA.out.later K2.out.bel)
  have HS2 := Lib.hid (h0.out.later K2.out.bel)
  have HT2 := Lib.hid (h1.out.later K2.out.bel)
  have HZ2 : Hid (w.heap.size + 4 ≤ w2.heap.size) := Lib.hid (by have := (K2.out.at_ (o := 3) (.head _)).1; omega)
  have kr1 : (r : Int).tmod 2 = (q : Int) := by rw [Int.tmod_eq_emod_of_nonneg (by omega)]; omega
  have kr2 : (r : Int) % 2 = (q : Int) := by omega
  have kq2 : q < 2 := by omega
  have kqw : IntKind.i64.wrap (q : Int) = (q : Int) := by rw [IntKind.wrap_i64]; omega
  clear hq
  obtain ⟨z0, ⟨c0, c1, c2, c3, c4, c5⟩, f0, f1, f2, f3, f4, f5⟩ := (K2.out.at_ (o := 0) (.tail _ (.tail _ (.tail _ (.head _))))).six
  obtain ⟨_, ⟨a0, a1, a2, a3, a4, a5⟩, _⟩ := (K2.out.at_ (o := 1) (.tail _ (.tail _ (.head _)))).six
  obtain ⟨_, ⟨s0, s1, s2, s3, s4, s5⟩, g0, g1, g2, g3, g4, g5⟩ := (K2.out.at_ (o := 2) (.tail _ (.head _))).six
  obtain ⟨_, t0, t1, t2, j0, j1, j2⟩ := (K2.out.at_ (o := 3) (.head _)).three
  rw [Nat.add_zero] at z0 c0 c1 c2 c3 c4 c5 f0 f1 f2 f3 f4 f5
  go_enter Try.func19, Try.ntmps19
  go_wp2_with fail
  try clear hw2
  (with_reducible refine (hc _ HS2 HT2).mono ?_)
  rintro e w3 ⟨X3, k3, rfl, hk3, hat3, hb3, hP3⟩
  have K3 := Lib.hid (K2.out.later hb3)
  have HA3 := Lib.hid (HA2.out.later hb3)
  have HS3 := Lib.hid (HS2.out.later hb3)
  have HT3 := Lib.hid (HT2.out.later hb3)
  have HK3 := Lib.hid hk3
  have HAT3 := Lib.hid hat3
  have HB3 := Lib.hid hb3
  have HP3 := Lib.hid hP3
  clear c0 c1 c2 c3 c4 c5 f0 f1 f2 f3 f4 f5 a0 a1 a2 a3 a4 a5 s0 s1 s2 s3 s4 s5 g0 g1 g2 g3 g4 g5 t0 t1 t2 j0 j1 j2 z0
  clear hk3 hat3 hb3 hP3
  obtain ⟨z0, ⟨c0, c1, c2, c3, c4, c5⟩, f0, f1, f2, f3, f4, f5⟩ := (K3.out.at_ (o := 0) (.tail _ (.tail _ (.tail _ (.head _))))).six
  obtain ⟨_, ⟨a0, a1, a2, a3, a4, a5⟩, _⟩ := (K3.out.at_ (o := 1) (.tail _ (.tail _ (.head _)))).six
  obtain ⟨_, ⟨s0, s1, s2, s3, s4, s5⟩, g0, g1, g2, g3, g4, g5⟩ := (K3.out.at_ (o := 2) (.tail _ (.head _))).six
  obtain ⟨_, t0, t1, t2, j0, j1, j2⟩ := (K3.out.at_ (o := 3) (.head _)).three
  rw [Nat.add_zero] at z0 c0 c1 c2 c3 c4 c5 f0 f1 f2 f3 f4 f5
  go_wp2_with fail
  have HB := K3.out.bel
  exact bodyPost_ret (v := .tuple #[.agg #[.int .i64 t, .int .i64 c, .slice A n k, .int .u64 (r : Int), .slice R m ra, .slice S m sa], .agg #[.int .u64 0, .slice X3 xs.length k3, .bool false]]) (by simp [results, Try.results19, go_sem, s0, s1, s2, s3, s4, s5, t0, t1, t2]) rfl (DoW.fin (K := 4) (y := w3) (by repeat (first | with_reducible exact Alike.refl _ _ _ | with_reducible refine Alike.drew ?_ | (with_reducible refine Alike.set ?_ _ _ _ (by omega) (by omega)))) (by repeat (first | with_reducible assumption | with_reducible refine Below.drew ?_ | (with_reducible refine below_set1 (by omega) _ ?_))) HZ2.out K2.out.bel hA.out h0.out h1.out HA3.out HS3.out HT3.out HK3.out HAT3.out (fun P hF g hA hB => ⟨g, hA.later HS2.out HB3.out, hB.later HT2.out HB3.out, HP3.out P hF hA hB⟩))

set_option maxHeartbeats 4000000 in
theorem refDo_setroot (i : Int) (r1 : Nat) (hr1 : IntKind.u64.wrap ((r : Int) + 1) = (r1 : Int)) (w : World) (hA : Hid (AtW w A n F)) (h0 : Hid (StmsAt w R m l0)) (h1 : Hid (StmsAt w S m l1))  :
    Calls Try.prog 19 #[.agg #[.int .i64 t, .int .i64 c, .slice A n k, .int .u64 (r : Int), .slice R m ra, .slice S m sa], .int .i64 me, .agg #[.int .i64 12, .int .i64 i, .int .u64 (a : Int), .int .u64 (b : Int), .slice D dn dc, .slice W wn wc], .bool false] w (DoW w t c A n r1 R S m F l0 l1 0 [] false) := by
  obtain ⟨w2, hw2⟩ : ∃ x, ((((w.alloc (.cells #[.int .i64 t, .int .i64 c, .slice A n k, .int .u64 (r : Int), .slice R m ra, .slice S m sa] 35)).alloc (.cells #[.int .i64 12, .int .i64 i, .int .u64 (a : Int), .int .u64 (b : Int), .slice D dn dc, .slice W wn wc] 43)).alloc (.cells #[.int .i64 0, .int .i64 0, .slice none 0 0, .int .u64 0, .slice none 0 0, .slice none 0 0] 35)).alloc (.cells #[.int .u64 0, .slice none 0 0, .bool false] 39)) = x := ⟨_, rfl⟩
  have K2 : Hid (Kp w [(3, [.int .u64 0, .slice none 0 0, .bool false]), (2, [.int .i64 0, .int .i64 0, .slice none 0 0, .int .u64 0, .slice none 0 0, .slice none 0 0]), (1, [.int .i64 12, .int .i64 i, .int .u64 (a : Int), .int .u64 (b : Int), .slice D dn dc, .slice W wn wc]), (0, [.int .i64 t, .int .i64 c, .slice A n k, .int .u64 (r : Int), .slice R m ra, .slice S m sa])] [] w2) := Lib.hid (by
    rw [← hw2]
    exact ((((Kp.nil w).var 0 rfl #[.int .i64 t, .int .i64 c, .slice A n k, .int .u64 (r : Int), .slice R m ra, .slice S m sa] 35).var 1 (by simp) #[.int .i64 12, .int .i64 i, .int .u64 (a : Int), .int .u64 (b : Int), .slice D dn dc, .slice W wn wc] 43).var 2 (by simp) #[.int .i64 0, .int .i64 0, .slice none 0 0, .int .u64 0, .slice none 0 0, .slice none 0 0] 35).var 3 (by simp) #[.int .u64 0, .slice none 0 0, .bool false] 39)
  have HA2 := Lib.hid (hA.out.later K2.out.bel)
  have HS2 := Lib.hid (h0.out.later K2.out.bel)
  have HT2 := Lib.hid (h1.out.later K2.out.bel)
  have HZ2 : Hid (w.heap.size + 4 ≤ w2.heap.size) := Lib.hid (by have := (K2.out.at_ (o := 3) (.head _)).1; omega)
  have kr1 : (r : Int).tmod 2 = (q : Int) := by rw [Int.tmod_eq_emod_of_nonneg (by omega)]; omega
  have kr2 : (r : Int) % 2 = (q : Int) := by omega
  have kq2 : q < 2 := by omega
  have kqw : IntKind.i64.wrap (q : Int) = (q : Int) := by rw [IntKind.wrap_i64]; omega
  clear hq
  obtain ⟨z0, ⟨c0, c1, c2, c3, c4, c5⟩, f0, f1, f2, f3, f4, f5⟩ := (K2.out.at_ (o := 0) (.tail _ (.tail _ (.tail _ (.head _))))).six
  obtain ⟨_, ⟨a0, a1, a2, a3, a4, a5⟩, _⟩ := (K2.out.at_ (o := 1) (.tail _ (.tail _ (.head _)))).six
  obtain ⟨_, ⟨s0, s1, s2, s3, s4, s5⟩, g0, g1, g2, g3, g4, g5⟩ := (K2.out.at_ (o := 2) (.tail _ (.head _))).six
  obtain ⟨_, t0, t1, t2, j0, j1, j2⟩ := (K2.out.at_ (o := 3) (.head _)).three
  rw [Nat.add_zero] at z0 c0 c1 c2 c3 c4 c5 f0 f1 f2 f3 f4 f5
  go_enter Try.func19, Try.ntmps19
  go_wp2_with fail
  try clear hw2
  have HB := K2.out.bel
  exact bodyPost_ret (v := .tuple #[.agg #[.int .i64 t, .int .i64 c, .slice A n k, .int .u64 (r1 : Int), .slice R m ra, .slice S m sa], .agg #[.int .u64 0, .slice none 0 0, .bool false]]) (by simp [results, Try.results19, go_sem, s0, s1, s2, s3, s4, s5, t0, t1, t2]) rfl (DoW.fin (K := 4) (y := w2) (by repeat (first | with_reducible exact Alike.refl _ _ _ | with_reducible refine Alike.drew ?_ | (with_reducible refine Alike.set ?_ _ _ _ (by omega) (by omega)))) (by repeat (first | with_reducible assumption | with_reducible refine Below.drew ?_ | (with_reducible refine below_set1 (by omega) _ ?_))) HZ2.out K2.out.bel hA.out h0.out h1.out HA2.out HS2.out HT2.out (Nat.le_refl _) (AtB.nil _ _) (fun P hF g hA hB => ⟨g, hA, hB, OffW.nil P _⟩))

set_option maxHeartbeats 4000000 in
theorem refDo_install_no (i : Int) (fa : Bool) (hlen : ((wn : Int) == (n : Int)) = false) (w : World) (hA : Hid (AtW w A n F)) (h0 : Hid (StmsAt w R m l0)) (h1 : Hid (StmsAt w S m l1))  :
    Calls Try.prog 19 #[.agg #[.int .i64 t, .int .i64 c, .slice A n k, .int .u64 (r : Int), .slice R m ra, .slice S m sa], .int .i64 me, .agg #[.int .i64 13, .int .i64 i, .int .u64 (a : Int), .int .u64 (b : Int), .slice D dn dc, .slice W wn wc], .bool fa] w (DoW w t c A n r R S m F l0 l1 0 [] false) := by
  obtain ⟨w2, hw2⟩ : ∃ x, ((((w.alloc (.cells #[.int .i64 t, .int .i64 c, .slice A n k, .int .u64 (r : Int), .slice R m ra, .slice S m sa] 35)).alloc (.cells #[.int .i64 13, .int .i64 i, .int .u64 (a : Int), .int .u64 (b : Int), .slice D dn dc, .slice W wn wc] 43)).alloc (.cells #[.int .i64 0, .int .i64 0, .slice none 0 0, .int .u64 0, .slice none 0 0, .slice none 0 0] 35)).alloc (.cells #[.int .u64 0, .slice none 0 0, .bool false] 39)) = x := ⟨_, rfl⟩
  have K2 : Hid (Kp w [(3, [.int .u64 0, .slice none 0 0, .bool false]), (2, [.int .i64 0, .int .i64 0, .slice none 0 0, .int .u64 0, .slice none 0 0, .slice none 0 0]), (1, [.int .i64 13, .int .i64 i, .int .u64 (a : Int), .int .u64 (b : Int), .slice D dn dc, .slice W wn wc]), (0, [.int .i64 t, .int .i64 c, .slice A n k, .int .u64 (r : Int), .slice R m ra, .slice S m sa])] [] w2) := Lib.hid (by
    rw [← hw2]
    exact ((((Kp.nil w).var 0 rfl #[.int .i64 t, .int .i64 c, .slice A n k, .int .u64 (r : Int), .slice R m ra, .slice S m sa] 35).var 1 (by simp) #[.int .i64 13, .int .i64 i, .int .u64 (a : Int), .int .u64 (b : Int), .slice D dn dc, .slice W wn wc] 43).var 2 (by simp) #[.int .i64 0, .int .i64 0, .slice none 0 0, .int .u64 0, .slice none 0 0, .slice none 0 0] 35).var 3 (by simp) #[.int .u64 0, .slice none 0 0, .bool false] 39)
  have HA2 := Lib.hid (hA.out.later K2.out.bel)
  have HS2 := Lib.hid (h0.out.later K2.out.bel)
  have HT2 := Lib.hid (h1.out.later K2.out.bel)
  have HZ2 : Hid (w.heap.size + 4 ≤ w2.heap.size) := Lib.hid (by have := (K2.out.at_ (o := 3) (.head _)).1; omega)
  have kr1 : (r : Int).tmod 2 = (q : Int) := by rw [Int.tmod_eq_emod_of_nonneg (by omega)]; omega
  have kr2 : (r : Int) % 2 = (q : Int) := by omega
  have kq2 : q < 2 := by omega
  have kqw : IntKind.i64.wrap (q : Int) = (q : Int) := by rw [IntKind.wrap_i64]; omega
  clear hq
  obtain ⟨z0, ⟨c0, c1, c2, c3, c4, c5⟩, f0, f1, f2, f3, f4, f5⟩ := (K2.out.at_ (o := 0) (.tail _ (.tail _ (.tail _ (.head _))))).six
  obtain ⟨_, ⟨a0, a1, a2, a3, a4, a5⟩, _⟩ := (K2.out.at_ (o := 1) (.tail _ (.tail _ (.head _)))).six
  obtain ⟨_, ⟨s0, s1, s2, s3, s4, s5⟩, g0, g1, g2, g3, g4, g5⟩ := (K2.out.at_ (o := 2) (.tail _ (.head _))).six
  obtain ⟨_, t0, t1, t2, j0, j1, j2⟩ := (K2.out.at_ (o := 3) (.head _)).three
  rw [Nat.add_zero] at z0 c0 c1 c2 c3 c4 c5 f0 f1 f2 f3 f4 f5
  go_enter Try.func19, Try.ntmps19
  go_wp2_with fail
  try clear hw2
  have HB := K2.out.bel
  exact bodyPost_ret (v := .tuple #[.agg #[.int .i64 t, .int .i64 c, .slice A n k, .int .u64 (r : Int), .slice R m ra, .slice S m sa], .agg #[.int .u64 0, .slice none 0 0, .bool false]]) (by simp [results, Try.results19, go_sem, s0, s1, s2, s3, s4, s5, t0, t1, t2]) rfl (DoW.fin (K := 4) (y := w2) (by repeat (first | with_reducible exact Alike.refl _ _ _ | with_reducible refine Alike.drew ?_ | (with_reducible refine Alike.set ?_ _ _ _ (by omega) (by omega)))) (by repeat (first | with_reducible assumption | with_reducible refine Below.drew ?_ | (with_reducible refine below_set1 (by omega) _ ?_))) HZ2.out K2.out.bel hA.out h0.out h1.out HA2.out HS2.out HT2.out (Nat.le_refl _) (AtB.nil _ _) (fun P hF g hA hB => ⟨g, hA, hB, OffW.nil P _⟩))

set_option maxHeartbeats 4000000 in
theorem refDo_load (i x : Nat) (fa : Bool) (hi : i < n) (hx : F i = x)  (w : World) (hA : Hid (AtW w A n F)) (h0 : Hid (StmsAt w R m l0)) (h1 : Hid (StmsAt w S m l1))  :
    Calls Try.prog 19 #[.agg #[.int .i64 t, .int .i64 c, .slice A n k, .int .u64 (r : Int), .slice R m ra, .slice S m sa], .int .i64 me, .agg #[.int .i64 0, .int .i64 (i : Int), .int .u64 (a : Int), .int .u64 (b : Int), .slice D dn dc, .slice W wn wc], .bool fa] w (DoW w t c A n r R S m F l0 l1 x [] false) := by
  obtain ⟨b0, off, rfl, hlt, hcell⟩ := hA.out.2 (by omega)
  have hx0 := hcell i hi
  rw [hx] at hx0
  have HX0 := Lib.hid hx0
  have HLT := Lib.hid hlt
  have i0 : (0 : Int) ≤ (i : Int) := by omega
  have i1 : (i : Int) < (n : Int) := by omega
  have d3 : decide ((i : Int) < 0) = false := by rw [decide_eq_false_iff_not]; omega
  have d4 : decide ((n : Int) ≤ (i : Int)) = false := by rw [decide_eq_false_iff_not]; omega
  clear hcell hlt hx0 hx
  obtain ⟨w2, hw2⟩ : ∃ x, ((((w.alloc (.cells #[.int .i64 t, .int .i64 c, .slice (some ⟨b0, off, none⟩) n k, .int .u64 (r : Int), .slice R m ra, .slice S m sa] 35)).alloc (.cells #[.int .i64 0, .int .i64 (i : Int), .int .u64 (a : Int), .int .u64 (b : Int), .slice D dn dc, .slice W wn wc] 43)).alloc (.cells #[.int .i64 0, .int .i64 0, .slice none 0 0, .int .u64 0, .slice none 0 0, .slice none 0 0] 35)).alloc (.cells #[.int .u64 0, .slice none 0 0, .bool false] 39)) = x := ⟨_, rfl⟩
  have K2 : Hid (Kp w [(3, [.int .u64 0, .slice none 0 0, .bool false]), (2, [.int .i64 0, .int .i64 0, .slice none 0 0, .int .u64 0, .slice none 0 0, .slice none 0 0]), (1, [.int .i64 0, .int .i64 (i : Int), .int .u64 (a : Int), .int .u64 (b : Int), .slice D dn dc, .slice W wn wc]), (0, [.int .i64 t, .int .i64 c, .slice (some ⟨b0, off, none⟩) n k, .int .u64 (r : Int), .slice R m ra, .slice S m sa])] [] w2) := Lib.hid (by
    rw [← hw2]
    exact ((((Kp.nil w).var 0 rfl #[.int .i64 t, .int .i64 c, .slice (some ⟨b0, off, none⟩) n k, .int .u64 (r : Int), .slice R m ra, .slice S m sa] 35).var 1 (by simp) #[.int .i64 0, .int .i64 (i : Int), .int .u64 (a : Int), .int .u64 (b : Int), .slice D dn dc, .slice W wn wc] 43).var 2 (by simp) #[.int .i64 0, .int .i64 0, .slice none 0 0, .int .u64 0, .slice none 0 0, .slice none 0 0] 35).var 3 (by simp) #[.int .u64 0, .slice none 0 0, .bool false] 39)
  have HA2 := Lib.hid (hA.out.later K2.out.bel)
  have HS2 := Lib.hid (h0.out.later K2.out.bel)
  have HT2 := Lib.hid (h1.out.later K2.out.bel)
  have HZ2 : Hid (w.heap.size + 4 ≤ w2.heap.size) := Lib.hid (by have := (K2.out.at_ (o := 3) (.head _)).1; omega)
  have kr1 : (r : Int).tmod 2 = (q : Int) := by rw [Int.tmod_eq_emod_of_nonneg (by omega)]; omega
  have kr2 : (r : Int) % 2 = (q : Int) := by omega
  have kq2 : q < 2 := by omega
  have kqw : IntKind.i64.wrap (q : Int) = (q : Int) := by rw [IntKind.wrap_i64]; omega
  clear hq
  obtain ⟨z0, ⟨c0, c1, c2, c3, c4, c5⟩, f0, f1, f2, f3, f4, f5⟩ := (K2.out.at_ (o := 0) (.tail _ (.tail _ (.tail _ (.head _))))).six
  obtain ⟨_, ⟨a0, a1, a2, a3, a4, a5⟩, _⟩ := (K2.out.at_ (o := 1) (.tail _ (.tail _ (.head _)))).six
  obtain ⟨_, ⟨s0, s1, s2, s3, s4, s5⟩, g0, g1, g2, g3, g4, g5⟩ := (K2.out.at_ (o := 2) (.tail _ (.head _))).six
  obtain ⟨_, t0, t1, t2, j0, j1, j2⟩ := (K2.out.at_ (o := 3) (.head _)).three
  rw [Nat.add_zero] at z0 c0 c1 c2 c3 c4 c5 f0 f1 f2 f3 f4 f5
  have x0 : w2.cell? ⟨b0, off + i, none⟩ = some (.int .u64 (x : Int)) := (K2.out.bel.cell (p := ⟨b0, off + i, none⟩) HLT.out).trans HX0.out
  go_enter Try.func19, Try.ntmps19
  go_wp2_with fail
  try clear hw2
  have HB := K2.out.bel
  exact bodyPost_ret (v := .tuple #[.agg #[.int .i64 t, .int .i64 c, .slice (some ⟨b0, off, none⟩) n k, .int .u64 (r : Int), .slice R m ra, .slice S m sa], .agg #[.int .u64 (x : Int), .slice none 0 0, .bool false]]) (by simp [results, Try.results19, go_sem, s0, s1, s2, s3, s4, s5, t0, t1, t2]) rfl (DoW.fin (K := 4) (y := w2) (by repeat (first | with_reducible exact Alike.refl _ _ _ | with_reducible refine Alike.drew ?_ | (with_reducible refine Alike.set ?_ _ _ _ (by omega) (by omega)))) (by repeat (first | with_reducible assumption | with_reducible refine Below.drew ?_ | (with_reducible refine below_set1 (by omega) _ ?_))) HZ2.out K2.out.bel hA.out h0.out h1.out HA2.out HS2.out HT2.out (Nat.le_refl _) (AtB.nil _ _) (fun P hF g hA hB => ⟨g, hA, hB, OffW.nil P _⟩))

set_option maxHeartbeats 4000000 in
theorem refDo_store (i x : Nat) (fa : Bool) (hi : i < n) (hx : F i = x)  (G : Nat → Nat) (hc : ∀ w, Hid (AtW w A n F) → Calls Try.prog 46 #[.agg #[.int .i64 t, .int .i64 c, .slice A n k], .int .i64 (i : Int), .int .u64 (a : Int)] w (MemW w t c A n G)) (w : World) (hA : Hid (AtW w A n F)) (h0 : Hid (StmsAt w R m l0)) (h1 : Hid (StmsAt w S m l1))  :
    Calls Try.prog 19 #[.agg #[.int .i64 t, .int .i64 c, .slice A n k, .int .u64 (r : Int), .slice R m ra, .slice S m sa], .int .i64 me, .agg #[.int .i64 1, .int .i64 (i : Int), .int .u64 (a : Int), .int .u64 (b : Int), .slice D dn dc, .slice W wn wc], .bool fa] w (DoW w t c A n r R S m G l0 l1 0 [] false) := by
  obtain ⟨b0, off, rfl, hlt, hcell⟩ := hA.out.2 (by omega)
  have hx0 := hcell i hi
  rw [hx] at hx0
  have HX0 := Lib.hid hx0
  have HLT := Lib.hid hlt
  have i0 : (0 : Int) ≤ (i : Int) := by omega
  have i1 : (i : Int) < (n : Int) := by omega
  have d3 : decide ((i : Int) < 0) = false := by rw [decide_eq_false_iff_not]; omega
  have d4 : decide ((n : Int) ≤ (i : Int)) = false := by rw [decide_eq_false_iff_not]; omega
  clear hcell hlt hx0 hx
  obtain ⟨w2, hw2⟩ : ∃ x, ((((w.alloc (.cells #[.int .i64 t, .int .i64 c, .slice (some ⟨b0, off, none⟩) n k, .int .u64 (r : Int), .slice R m ra, .slice S m sa] 35)).alloc (.cells #[.int .i64 1, .int .i64 (i : Int), .int .u64 (a : Int), .int .u64 (b : Int), .slice D dn dc, .slice W wn wc] 43)).alloc (.cells #[.int .i64 0, .int .i64 0, .slice none 0 0, .int .u64 0, .slice none 0 0, .slice none 0 0] 35)).alloc (.cells #[.int .u64 0, .slice none 0 0, .bool false] 39)) = x := ⟨_, rfl⟩
  have K2 : Hid (Kp w [(3, [.int .u64 0, .slice none 0 0, .bool false]), (2, [.int .i64 0, .int .i64 0, .slice none 0 0, .int .u64 0, .slice none 0 0, .slice none 0 0]), (1, [.int .i64 1, .int .i64 (i : Int), .int .u64 (a : Int), .int .u64 (b : Int), .slice D dn dc, .slice W wn wc]), (0, [.int .i64 t, .int .i64 c, .slice (some ⟨b0, off, none⟩) n k, .int .u64 (r : Int), .slice R m ra, .slice S m sa])] [] w2) := Lib.hid (by
    rw [← hw2]
    exact ((((Kp.nil w).var 0 rfl #[.int .i64 t, .int .i64 c, .slice (some ⟨b0, off, none⟩) n k, .int .u64 (r : Int), .slice R m ra, .slice S m sa] 35).var 1 (by simp) #[.int .i64 1, .int .i64 (i : Int), .int .u64 (a : Int), .int .u64 (b : Int), .slice D dn dc, .slice W wn wc] 43).var 2 (by simp) #[.int .i64 0, .int .i64 0, .slice none 0 0, .int .u64 0, .slice none 0 0, .slice none 0 0] 35).var 3 (by simp) #[.int .u64 0, .slice none 0 0, .bool false] 39)
  have HA2 := Lib.hid (hA.out.later K2.out.bel)
  have HS2 := Lib.hid (h0.out.later K2.out.bel)
  have HT2 := Lib.hid (h1.out.later K2.out.bel)
  have HZ2 : Hid (w.heap.size + 4 ≤ w2.heap.size) := Lib.hid (by have := (K2.out.at_ (o := 3) (.head _)).1; omega)
  have kr1 : (r : Int).tmod 2 = (q : Int) := by rw [Int.tmod_eq_emod_of_nonneg (by omega)]; omega
  have kr2 : (r : Int) % 2 = (q : Int) := by omega
  have kq2 : q < 2 := by omega
  have kqw : IntKind.i64.wrap (q : Int) = (q : Int) := by rw [IntKind.wrap_i64]; omega
  clear hq
  obtain ⟨z0, ⟨c0, c1, c2, c3, c4, c5⟩, f0, f1, f2, f3, f4, f5⟩ := (K2.out.at_ (o := 0) (.tail _ (.tail _ (.tail _ (.head _))))).six
  obtain ⟨_, ⟨a0, a1, a2, a3, a4, a5⟩, _⟩ := (K2.out.at_ (o := 1) (.tail _ (.tail _ (.head _)))).six
  obtain ⟨_, ⟨s0, s1, s2, s3, s4, s5⟩, g0, g1, g2, g3, g4, g5⟩ := (K2.out.at_ (o := 2) (.tail _ (.head _))).six
  obtain ⟨_, t0, t1, t2, j0, j1, j2⟩ := (K2.out.at_ (o := 3) (.head _)).three
  rw [Nat.add_zero] at z0 c0 c1 c2 c3 c4 c5 f0 f1 f2 f3 f4 f5
  have x0 : w2.cell? ⟨b0, off + i, none⟩ = some (.int .u64 (x : Int)) := (K2.out.bel.cell (p := ⟨b0, off + i, none⟩) HLT.out).trans HX0.out
  go_enter Try.func19, Try.ntmps19
  go_wp2_with fail
  try clear hw2
  (with_reducible refine (hc _ HA2).mono ?_)
  rintro e w3 ⟨A3, k3, rfl, ha3, hb3, hP3⟩
  have K3 := Lib.hid (K2.out.later hb3)
  have HA3 := Lib.hid ha3
  have HS3 := Lib.hid (HS2.out.later hb3)
  have HT3 := Lib.hid (HT2.out.later hb3)
  have HB3 := Lib.hid hb3
  have HP3 := Lib.hid hP3
  clear c0 c1 c2 c3 c4 c5 f0 f1 f2 f3 f4 f5 a0 a1 a2 a3 a4 a5 s0 s1 s2 s3 s4 s5 g0 g1 g2 g3 g4 g5 t0 t1 t2 j0 j1 j2 z0
  clear ha3 hb3 hP3 x0
  obtain ⟨z0, ⟨c0, c1, c2, c3, c4, c5⟩, f0, f1, f2, f3, f4, f5⟩ := (K3.out.at_ (o := 0) (.tail _ (.tail _ (.tail _ (.head _))))).six
  obtain ⟨_, ⟨a0, a1, a2, a3, a4, a5⟩, _⟩ := (K3.out.at_ (o := 1) (.tail _ (.tail _ (.head _)))).six
  obtain ⟨_, ⟨s0, s1, s2, s3, s4, s5⟩, g0, g1, g2, g3, g4, g5⟩ := (K3.out.at_ (o := 2) (.tail _ (.head _))).six
  obtain ⟨_, t0, t1, t2, j0, j1, j2⟩ := (K3.out.at_ (o := 3) (.head _)).three
  rw [Nat.add_zero] at z0 c0 c1 c2 c3 c4 c5 f0 f1 f2 f3 f4 f5
  go_wp2_with fail
  have HB := K3.out.bel
  exact bodyPost_ret (v := .tuple #[.agg #[.int .i64 t, .int .i64 c, .slice A3 n k3, .int .u64 (r : Int), .slice R m ra, .slice S m sa], .agg #[.int .u64 (0 : Nat), .slice none 0 0, .bool false]]) (by simp [results, Try.results19, go_sem, s0, s1, s2, s3, s4, s5, t0, t1, t2]) rfl (DoW.fin (K := 4) (y := w3) (by repeat (first | with_reducible exact Alike.refl _ _ _ | with_reducible refine Alike.drew ?_ | (with_reducible refine Alike.set ?_ _ _ _ (by omega) (by omega)))) (by repeat (first | with_reducible assumption | with_reducible refine Below.drew ?_ | (with_reducible refine below_set1 (by omega) _ ?_))) HZ2.out K2.out.bel hA.out h0.out h1.out HA3.out HS3.out HT3.out (Nat.le_refl _) (AtB.nil _ _) (fun P hF g hA hB => ⟨HP3.out P hF g, hA.later HS2.out HB3.out, hB.later HT2.out HB3.out, OffW.nil P _⟩))

set_option maxHeartbeats 4000000 in
theorem refDo_cas_no (i x : Nat) (fa : Bool) (hi : i < n) (hx : F i = x) (hxa : ((x : Int) != (a : Int)) = true) (w : World) (hA : Hid (AtW w A n F)) (h0 : Hid (StmsAt w R m l0)) (h1 : Hid (StmsAt w S m l1))  :
    Calls Try.prog 19 #[.agg #[.int .i64 t, .int .i64 c, .slice A n k, .int .u64 (r : Int), .slice R m ra, .slice S m sa], .int .i64 me, .agg #[.int .i64 2, .int .i64 (i : Int), .int .u64 (a : Int), .int .u64 (b : Int), .slice D dn dc, .slice W wn wc], .bool fa] w (DoW w t c A n r R S m F l0 l1 0 [] false) := by
  obtain ⟨b0, off, rfl, hlt, hcell⟩ := hA.out.2 (by omega)
  have hx0 := hcell i hi
  rw [hx] at hx0
  have HX0 := Lib.hid hx0
  have HLT := Lib.hid hlt
  have i0 : (0 : Int) ≤ (i : Int) := by omega
  have i1 : (i : Int) < (n : Int) := by omega
  have d3 : decide ((i : Int) < 0) = false := by rw [decide_eq_false_iff_not]; omega
  have d4 : decide ((n : Int) ≤ (i : Int)) = false := by rw [decide_eq_false_iff_not]; omega
  clear hcell hlt hx0 hx
  obtain ⟨w2, hw2⟩ : ∃ x, ((((w.alloc (.cells #[.int .i64 t, .int .i64 c, .slice (some ⟨b0, off, none⟩) n k, .int .u64 (r : Int), .slice R m ra, .slice S m sa] 35)).alloc (.cells #[.int .i64 2, .int .i64 (i : Int), .int .u64 (a : Int), .int .u64 (b : Int), .slice D dn dc, .slice W wn wc] 43)).alloc (.cells #[.int .i64 0, .int .i64 0, .slice none 0 0, .int .u64 0, .slice none 0 0, .slice none 0 0] 35)).alloc (.cells #[.int .u64 0, .slice none 0 0, .bool false] 39)) = x := ⟨_, rfl⟩
  have K2 : Hid (Kp w [(3, [.int .u64 0, .slice none 0 0, .bool false]), (2, [.int .i64 0, .int .i64 0, .slice none 0 0, .int .u64 0, .slice none 0 0, .slice none 0 0]), (1, [.int .i64 2, .int .i64 (i : Int), .int .u64 (a : Int), .int .u64 (b : Int), .slice D dn dc, .slice W wn wc]), (0, [.int .i64 t, .int .i64 c, .slice (some ⟨b0, off, none⟩) n k, .int .u64 (r : Int), .slice R m ra, .slice S m sa])] [] w2) := Lib.hid (by
    rw [← hw2]
    exact ((((Kp.nil w).var 0 rfl #[.int .i64 t, .int .i64 c, .slice (some ⟨b0, off, none⟩) n k, .int .u64 (r : Int), .slice R m ra, .slice S m sa] 35).var 1 (by simp) #[.int .i64 2, .int .i64 (i : Int), .int .u64 (a : Int), .int .u64 (b : Int), .slice D dn dc, .slice W wn wc] 43).var 2 (by simp) #[.int .i64 0, .int .i64 0, .slice none 0 0, .int .u64 0, .slice none 0 0, .slice none 0 0] 35).var 3 (by simp) #[.int .u64 0, .slice none 0 0, .bool false] 39)
  have HA2 := Lib.hid (hA.out.later K2.out.bel)
  have HS2 := Lib.hid (h0.out.later K2.out.bel)
  have HT2 := Lib.hid (h1.out.later K2.out.bel)
  have HZ2 : Hid (w.heap.size + 4 ≤ w2.heap.size) := Lib.hid (by have := (K2.out.at_ (o := 3) (.head _)).1; omega)
  have kr1 : (r : Int).tmod 2 = (q : Int) := by rw [Int.tmod_eq_emod_of_nonneg (by omega)]; omega
  have kr2 : (r : Int) % 2 = (q : Int) := by omega
  have kq2 : q < 2 := by omega
  have kqw : IntKind.i64.wrap (q : Int) = (q : Int) := by rw [IntKind.wrap_i64]; omega
  clear hq
  obtain ⟨z0, ⟨c0, c1, c2, c3, c4, c5⟩, f0, f1, f2, f3, f4, f5⟩ := (K2.out.at_ (o := 0) (.tail _ (.tail _ (.tail _ (.head _))))).six
  obtain ⟨_, ⟨a0, a1, a2, a3, a4, a5⟩, _⟩ := (K2.out.at_ (o := 1) (.tail _ (.tail _ (.head _)))).six
  obtain ⟨_, ⟨s0, s1, s2, s3, s4, s5⟩, g0, g1, g2, g3, g4, g5⟩ := (K2.out.at_ (o := 2) (.tail _ (.head _))).six
  obtain ⟨_, t0, t1, t2, j0, j1, j2⟩ := (K2.out.at_ (o := 3) (.head _)).three
  rw [Nat.add_zero] at z0 c0 c1 c2 c3 c4 c5 f0 f1 f2 f3 f4 f5
  have x0 : w2.cell? ⟨b0, off + i, none⟩ = some (.int .u64 (x : Int)) := (K2.out.bel.cell (p := ⟨b0, off + i, none⟩) HLT.out).trans HX0.out
  go_enter Try.func19, Try.ntmps19
  go_wp2_with fail
  try clear hw2
  have HB := K2.out.bel
  exact bodyPost_ret (v := .tuple #[.agg #[.int .i64 t, .int .i64 c, .slice (some ⟨b0, off, none⟩) n k, .int .u64 (r : Int), .slice R m ra, .slice S m sa], .agg #[.int .u64 0, .slice none 0 0, .bool false]]) (by simp [results, Try.results19, go_sem, s0, s1, s2, s3, s4, s5, t0, t1, t2]) rfl (DoW.fin (K := 4) (y := w2) (by repeat (first | with_reducible exact Alike.refl _ _ _ | with_reducible refine Alike.drew ?_ | (with_reducible refine Alike.set ?_ _ _ _ (by omega) (by omega)))) (by repeat (first | with_reducible assumption | with_reducible refine Below.drew ?_ | (with_reducible refine below_set1 (by omega) _ ?_))) HZ2.out K2.out.bel hA.out h0.out h1.out HA2.out HS2.out HT2.out (Nat.le_refl _) (AtB.nil _ _) (fun P hF g hA hB => ⟨g, hA, hB, OffW.nil P _⟩))

set_option maxHeartbeats 4000000 in
theorem refDo_cas_yes (i x : Nat) (fa : Bool) (hi : i < n) (hx : F i = x) (hxa : ((x : Int) != (a : Int)) = false) (G : Nat → Nat) (hc : ∀ w, Hid (AtW w A n F) → Calls Try.prog 46 #[.agg #[.int .i64 t, .int .i64 c, .slice A n k], .int .i64 (i : Int), .int .u64 (b : Int)] w (MemW w t c A n G)) (w : World) (hA : Hid (AtW w A n F)) (h0 : Hid (StmsAt w R m l0)) (h1 : Hid (StmsAt w S m l1))  :
    Calls Try.prog 19 #[.agg #[.int .i64 t, .int .i64 c, .slice A n k, .int .u64 (r : Int), .slice R m ra, .slice S m sa], .int .i64 me, .agg #[.int .i64 2, .int .i64 (i : Int), .int .u64 (a : Int), .int .u64 (b : Int), .slice D dn dc, .slice W wn wc], .bool fa] w (DoW w t c A n r R S m G l0 l1 1 [] false) := by
  obtain ⟨b0, off, rfl, hlt, hcell⟩ := hA.out.2 (by omega)
  have hx0 := hcell i hi
  rw [hx] at hx0
  have HX0 := Lib.hid hx0
  have HLT := Lib.hid hlt
  have i0 : (0 : Int) ≤ (i : Int) := by omega
  have i1 : (i : Int) < (n : Int) := by omega
  have d3 : decide ((i : Int) < 0) = false := by rw [decide_eq_false_iff_not]; omega
  have d4 : decide ((n : Int) ≤ (i : Int)) = false := by rw [decide_eq_false_iff_not]; omega
  clear hcell hlt hx0 hx
  obtain ⟨w2, hw2⟩ : ∃ x, ((((w.alloc (.cells #[.int .i64 t, .int .i64 c, .slice (some ⟨b0, off, none⟩) n k, .int .u64 (r : Int), .slice R m ra, .slice S m sa] 35)).alloc (.cells #[.int .i64 2, .int .i64 (i : Int), .int .u64 (a : Int), .int .u64 (b : Int), .slice D dn dc, .slice W wn wc] 43)).alloc (.cells #[.int .i64 0, .int .i64 0, .slice none 0 0, .int .u64 0, .slice none 0 0, .slice none 0 0] 35)).alloc (.cells #[.int .u64 0, .slice none 0 0, .bool false] 39)) = x := ⟨_, rfl⟩
  have K2 : Hid (Kp w [(3, [.int .u64 0, .slice none 0 0, .bool false]), (2, [.int .i64 0, .int .i64 0, .slice none 0 0, .int .u64 0, .slice none 0 0, .slice none 0 0]), (1, [.int .i64 2, .int .i64 (i : Int), .int .u64 (a : Int), .int .u64 (b : Int), .slice D dn dc, .slice W wn wc]), (0, [.int .i64 t, .int .i64 c, .slice (some ⟨b0, off, none⟩) n k, .int .u64 (r : Int), .slice R m ra, .slice S m sa])] [] w2) := Lib.hid (by
    rw [← hw2]
    exact ((((Kp.nil w).var 0 rfl #[.int .i64 t, .int .i64 c, .slice (some ⟨b0, off, none⟩) n k, .int .u64 (r : Int), .slice R m ra, .slice S m sa] 35).var 1 (by simp) #[.int .i64 2, .int .i64 (i : Int), .int .u64 (a : Int), .int .u64 (b : Int), .slice D dn dc, .slice W wn wc] 43).var 2 (by simp) #[.int .i64 0, .int .i64 0, .slice none 0 0, .int .u64 0, .slice none 0 0, .slice none 0 0] 35).var 3 (by simp) #[.int .u64 0, .slice none 0 0, .bool false] 39)
  have HA2 := Lib.hid (hA.out.later K2.out.bel)
  have HS2 := Lib.hid (h0.out.later K2.out.bel)
  have HT2 := Lib.hid (h1.out.later K2.out.bel)
  have HZ2 : Hid (w.heap.size + 4 ≤ w2.heap.size) := Lib.hid (by have := (K2.out.at_ (o := 3) (.head _)).1; omega)
  have kr1 : (r : Int).tmod 2 = (q : Int) := by rw [Int.tmod_eq_emod_of_nonneg (by omega)]; omega
  have kr2 : (r : Int) % 2 = (q : Int) := by omega
  have kq2 : q < 2 := by omega
  have kqw : IntKind.i64.wrap (q : Int) = (q : Int) := by rw [IntKind.wrap_i64]; omega
  clear hq
  obtain ⟨z0, ⟨c0, c1, c2, c3, c4, c5⟩, f0, f1, f2, f3, f4, f5⟩ := (K2.out.at_ (o := 0) (.tail _ (.tail _ (.tail _ (.head _))))).six
  obtain ⟨_, ⟨a0, a1, a2, a3, a4, a5⟩, _⟩ := (K2.out.at_ (o := 1) (.tail _ (.tail _ (.head _)))).six
  obtain ⟨_, ⟨s0, s1, s2, s3, s4, s5⟩, g0, g1, g2, g3, g4, g5⟩ := (K2.out.at_ (o := 2) (.tail _ (.head _))).six
  obtain ⟨_, t0, t1, t2, j0, j1, j2⟩ := (K2.out.at_ (o := 3) (.head _)).three
  rw [Nat.add_zero] at z0 c0 c1 c2 c3 c4 c5 f0 f1 f2 f3 f4 f5
  have x0 : w2.cell? ⟨b0, off + i, none⟩ = some (.int .u64 (x : Int)) := (K2.out.bel.cell (p := ⟨b0, off + i, none⟩) HLT.out).trans HX0.out
  go_enter Try.func19, Try.ntmps19
  go_wp2_with fail
  try clear hw2
  (with_reducible refine (hc _ HA2).mono ?_)
  rintro e w3 ⟨A3, k3, rfl, ha3, hb3, hP3⟩
  have K3 := Lib.hid (K2.out.later hb3)
  have HA3 := Lib.hid ha3
  have HS3 := Lib.hid (HS2.out.later hb3)
  have HT3 := Lib.hid (HT2.out.later hb3)
  have HB3 := Lib.hid hb3
  have HP3 := Lib.hid hP3
  clear c0 c1 c2 c3 c4 c5 f0 f1 f2 f3 f4 f5 a0 a1 a2 a3 a4 a5 s0 s1 s2 s3 s4 s5 g0 g1 g2 g3 g4 g5 t0 t1 t2 j0 j1 j2 z0
  clear ha3 hb3 hP3 x0
  obtain ⟨z0, ⟨c0, c1, c2, c3, c4, c5⟩, f0, f1, f2, f3, f4, f5⟩ := (K3.out.at_ (o := 0) (.tail _ (.tail _ (.tail _ (.head _))))).six
  obtain ⟨_, ⟨a0, a1, a2, a3, a4, a5⟩, _⟩ := (K3.out.at_ (o := 1) (.tail _ (.tail _ (.head _)))).six
  obtain ⟨_, ⟨s0, s1, s2, s3, s4, s5⟩, g0, g1, g2, g3, g4, g5⟩ := (K3.out.at_ (o := 2) (.tail _ (.head _))).six
  obtain ⟨_, t0, t1, t2, j0, j1, j2⟩ := (K3.out.at_ (o := 3) (.head _)).three
  rw [Nat.add_zero] at z0 c0 c1 c2 c3 c4 c5 f0 f1 f2 f3 f4 f5
  go_wp2_with fail
  have HB := K3.out.bel
  exact bodyPost_ret (v := .tuple #[.agg #[.int .i64 t, .int .i64 c, .slice A3 n k3, .int .u64 (r : Int), .slice R m ra, .slice S m sa], .agg #[.int .u64 (1 : Nat), .slice none 0 0, .bool false]]) (by simp [results, Try.results19, go_sem, s0, s1, s2, s3, s4, s5, t0, t1, t2]) rfl (DoW.fin (K := 4) (y := w3) (by repeat (first | with_reducible exact Alike.refl _ _ _ | with_reducible refine Alike.drew ?_ | (with_reducible refine Alike.set ?_ _ _ _ (by omega) (by omega)))) (by repeat (first | with_reducible assumption | with_reducible refine Below.drew ?_ | (with_reducible refine below_set1 (by omega) _ ?_))) HZ2.out K2.out.bel hA.out h0.out h1.out HA3.out HS3.out HT3.out (Nat.le_refl _) (AtB.nil _ _) (fun P hF g hA hB => ⟨HP3.out P hF g, hA.later HS2.out HB3.out, hB.later HT2.out HB3.out, OffW.nil P _⟩))

set_option maxHeartbeats 4000000 in
theorem refDo_add (i x : Nat) (fa : Bool) (hi : i < n) (hx : F i = x) (s : Nat) (hs : IntKind.u64.wrap ((x : Int) + (a : Int)) = (s : Int)) (G : Nat → Nat) (hc : ∀ w, Hid (AtW w A n F) → Calls Try.prog 46 #[.agg #[.int .i64 t, .int .i64 c, .slice A n k], .int .i64 (i : Int), .int .u64 (s : Int)] w (MemW w t c A n G)) (w : World) (hA : Hid (AtW w A n F)) (h0 : Hid (StmsAt w R m l0)) (h1 : Hid (StmsAt w S m l1))  :
    Calls Try.prog 19 #[.agg #[.int .i64 t, .int .i64 c, .slice A n k, .int .u64 (r : Int), .slice R m ra, .slice S m sa], .int .i64 me, .agg #[.int .i64 3, .int .i64 (i : Int), .int .u64 (a : Int), .int .u64 (b : Int), .slice D dn dc, .slice W wn wc], .bool fa] w (DoW w t c A n r R S m G l0 l1 x [] false) := by
  obtain ⟨b0, off, rfl, hlt, hcell⟩ := hA.out.2 (by omega)
  have hx0 := hcell i hi
  rw [hx] at hx0
  have HX0 := Lib.hid hx0
  have HLT := Lib.hid hlt
  have i0 : (0 : Int) ≤ (i : Int) := by omega
  have i1 : (i : Int) < (n : Int) := by omega
  have d3 : decide ((i : Int) < 0) = false := by rw [decide_eq_false_iff_not]; omega
  have d4 : decide ((n : Int) ≤ (i : Int)) = false := by rw [decide_eq_false_iff_not]; omega
  clear hcell hlt hx0 hx
  obtain ⟨w2, hw2⟩ : ∃ x, ((((w.alloc (.cells #[.int .i64 t, .int .i64 c, .slice (some ⟨b0, off, none⟩) n k, .int .u64 (r : Int), .slice R m ra, .slice S m sa] 35)).alloc (.cells #[.int .i64 3, .int .i64 (i : Int), .int .u64 (a : Int), .int .u64 (b : Int), .slice D dn dc, .slice W wn wc] 43)).alloc (.cells #[.int .i64 0, .int .i64 0, .slice none 0 0, .int .u64 0, .slice none 0 0, .slice none 0 0] 35)).alloc (.cells #[.int .u64 0, .slice none 0 0, .bool false] 39)) = x := ⟨_, rfl⟩
  have K2 : Hid (Kp w [(3, [.int .u64 0, .slice none 0 0, .bool false]), (2, [.int .i64 0, .int .i64 0, .slice none 0 0, .int .u64 0, .slice none 0 0, .slice none 0 0]), (1, [.int .i64 3, .int .i64 (i : Int), .int .u64 (a : Int), .int .u64 (b : Int), .slice D dn dc, .slice W wn wc]), (0, [.int .i64 t, .int .i64 c, .slice (some ⟨b0, off, none⟩) n k, .int .u64 (r : Int), .slice R m ra, .slice S m sa])] [] w2) := Lib.hid (by
    rw [← hw2]
    exact ((((Kp.nil w).var 0 rfl #[.int .i64 t, .int .i64 c, .slice (some ⟨b0, off, none⟩) n k, .int .u64 (r : Int), .slice R m ra, .slice S m sa] 35).var 1 (by simp) #[.int .i64 3, .int .i64 (i : Int), .int .u64 (a : Int), .int .u64 (b : Int), .slice D dn dc, .slice W wn wc] 43).var 2 (by simp) #[.int .i64 0, .int .i64 0, .slice none 0 0, .int .u64 0, .slice none 0 0, .slice none 0 0] 35).var 3 (by simp) #[.int .u64 0, .slice none 0 0, .bool false] 39)
  have HA2 := Lib.hid (hA.out.later K2.out.bel)
  have HS2 := Lib.hid (h0.out.later K2.out.bel)
  have HT2 := Lib.hid (h1.out.later K2.out.bel)
  have HZ2 : Hid (w.heap.size + 4 ≤ w2.heap.size) := Lib.hid (by have := (K2.out.at_ (o := 3) (.head _)).1; omega)
  have kr1 : (r : Int).tmod 2 = (q : Int) := by rw [Int.tmod_eq_emod_of_nonneg (by omega)]; omega
  have kr2 : (r : Int) % 2 = (q : Int) := by omega
  have kq2 : q < 2 := by omega
  have kqw : IntKind.i64.wrap (q : Int) = (q : Int) := by rw [IntKind.wrap_i64]; omega
  clear hq
  obtain ⟨z0, ⟨c0, c1, c2, c3, c4, c5⟩, f0, f1, f2, f3, f4, f5⟩ := (K2.out.at_ (o := 0) (.tail _ (.tail _ (.tail _ (.head _))))).six
  obtain ⟨_, ⟨a0, a1, a2, a3, a4, a5⟩, _⟩ := (K2.out.at_ (o := 1) (.tail _ (.tail _ (.head _)))).six
  obtain ⟨_, ⟨s0, s1, s2, s3, s4, s5⟩, g0, g1, g2, g3, g4, g5⟩ := (K2.out.at_ (o := 2) (.tail _ (.head _))).six
  obtain ⟨_, t0, t1, t2, j0, j1, j2⟩ := (K2.out.at_ (o := 3) (.head _)).three
  rw [Nat.add_zero] at z0 c0 c1 c2 c3 c4 c5 f0 f1 f2 f3 f4 f5
  have x0 : w2.cell? ⟨b0, off + i, none⟩ = some (.int .u64 (x : Int)) := (K2.out.bel.cell (p := ⟨b0, off + i, none⟩) HLT.out).trans HX0.out
  go_enter Try.func19, Try.ntmps19
  go_wp2_with fail
  try clear hw2
  (with_reducible refine (hc _ HA2).mono ?_)
  rintro e w3 ⟨A3, k3, rfl, ha3, hb3, hP3⟩
  have K3 := Lib.hid (K2.out.later hb3)
  have HA3 := Lib.hid ha3
  have HS3 := Lib.hid (HS2.out.later hb3)
  have HT3 := Lib.hid (HT2.out.later hb3)
  have HB3 := Lib.hid hb3
  have HP3 := Lib.hid hP3
  clear c0 c1 c2 c3 c4 c5 f0 f1 f2 f3 f4 f5 a0 a1 a2 a3 a4 a5 s0 s1 s2 s3 s4 s5 g0 g1 g2 g3 g4 g5 t0 t1 t2 j0 j1 j2 z0
  clear ha3 hb3 hP3 x0
  obtain ⟨z0, ⟨c0, c1, c2, c3, c4, c5⟩, f0, f1, f2, f3, f4, f5⟩ := (K3.out.at_ (o := 0) (.tail _ (.tail _ (.tail _ (.head _))))).six
  obtain ⟨_, ⟨a0, a1, a2, a3, a4, a5⟩, _⟩ := (K3.out.at_ (o := 1) (.tail _ (.tail _ (.head _)))).six
  obtain ⟨_, ⟨s0, s1, s2, s3, s4, s5⟩, g0, g1, g2, g3, g4, g5⟩ := (K3.out.at_ (o := 2) (.tail _ (.head _))).six
  obtain ⟨_, t0, t1, t2, j0, j1, j2⟩ := (K3.out.at_ (o := 3) (.head _)).three
  rw [Nat.add_zero] at z0 c0 c1 c2 c3 c4 c5 f0 f1 f2 f3 f4 f5
  go_wp2_with fail
  have HB := K3.out.bel
  exact bodyPost_ret (v := .tuple #[.agg #[.int .i64 t, .int .i64 c, .slice A3 n k3, .int .u64 (r : Int), .slice R m ra, .slice S m sa], .agg #[.int .u64 (x : Int), .slice none 0 0, .bool false]]) (by simp [results, Try.results19, go_sem, s0, s1, s2, s3, s4, s5, t0, t1, t2]) rfl (DoW.fin (K := 4) (y := w3) (by repeat (first | with_reducible exact Alike.refl _ _ _ | with_reducible refine Alike.drew ?_ | (with_reducible refine Alike.set ?_ _ _ _ (by omega) (by omega)))) (by repeat (first | with_reducible assumption | with_reducible refine Below.drew ?_ | (with_reducible refine below_set1 (by omega) _ ?_))) HZ2.out K2.out.bel hA.out h0.out h1.out HA3.out HS3.out HT3.out (Nat.le_refl _) (AtB.nil _ _) (fun P hF g hA hB => ⟨HP3.out P hF g, hA.later HS2.out HB3.out, hB.later HT2.out HB3.out, OffW.nil P _⟩))

set_option maxHeartbeats 4000000 in
theorem refDo_swap (i x : Nat) (fa : Bool) (hi : i < n) (hx : F i = x)  (G : Nat → Nat) (hc : ∀ w, Hid (AtW w A n F) → Calls Try.prog 46 #[.agg #[.int .i64 t, .int .i64 c, .slice A n k], .int .i64 (i : Int), .int .u64 (a : Int)] w (MemW w t c A n G)) (w : World) (hA : Hid (AtW w A n F)) (h0 : Hid (StmsAt w R m l0)) (h1 : Hid (StmsAt w S m l1))  :
    Calls Try.prog 19 #[.agg #[.int .i64 t, .int .i64 c, .slice A n k, .int .u64 (r : Int), .slice R m ra, .slice S m sa], .int .i64 me, .agg #[.int .i64 4, .int .i64 (i : Int), .int .u64 (a : Int), .int .u64 (b : Int), .slice D dn dc, .slice W wn wc], .bool fa] w (DoW w t c A n r R S m G l0 l1 x [] false) := by
  obtain ⟨b0, off, rfl, hlt, hcell⟩ := hA.out.2 (by omega)
  have hx0 := hcell i hi
  rw [hx] at hx0
  have HX0 := Lib.hid hx0
  have HLT := Lib.hid hlt
  have i0 : (0 : Int) ≤ (i : Int) := by omega
  have i1 : (i : Int) < (n : Int) := by omega
  have d3 : decide ((i : Int) < 0) = false := by rw [decide_eq_false_iff_not]; omega
  have d4 : decide ((n : Int) ≤ (i : Int)) = false := by rw [decide_eq_false_iff_not]; omega
  clear hcell hlt hx0 hx
  obtain ⟨w2, hw2⟩ : ∃ x, ((((w.alloc (.cells #[.int .i64 t, .int .i64 c, .slice (some ⟨b0, off, none⟩) n k, .int .u64 (r : Int), .slice R m ra, .slice S m sa] 35)).alloc (.cells #[.int .i64 4, .int .i64 (i : Int), .int .u64 (a : Int), .int .u64 (b : Int), .slice D dn dc, .slice W wn wc] 43)).alloc (.cells #[.int .i64 0, .int .i64 0, .slice none 0 0, .int .u64 0, .slice none 0 0, .slice none 0 0] 35)).alloc (.cells #[.int .u64 0, .slice none 0 0, .bool false] 39)) = x := ⟨_, rfl⟩
  have K2 : Hid (Kp w [(3, [.int .u64 0, .slice none 0 0, .bool false]), (2, [.int .i64 0, .int .i64 0, .slice none 0 0, .int .u64 0, .slice none 0 0, .slice none 0 0]), (1, [.int .i64 4, .int .i64 (i : Int), .int .u64 (a : Int), .int .u64 (b : Int), .slice D dn dc, .slice W wn wc]), (0, [.int .i64 t, .int .i64 c, .slice (some ⟨b0, off, none⟩) n k, .int .u64 (r : Int), .slice R m ra, .slice S m sa])] [] w2) := Lib.hid (by
    rw [← hw2]
    exact ((((Kp.nil w).var 0 rfl #[.int .i64 t, .int .i64 c, .slice (some ⟨b0, off, none⟩) n k, .int .u64 (r : Int), .slice R m ra, .slice S m sa] 35).var 1 (by simp) #[.int .i64 4, .int .i64 (i : Int), .int .u64 (a : Int), .int .u64 (b : Int), .slice D dn dc, .slice W wn wc] 43).var 2 (by simp) #[.int .i64 0, .int .i64 0, .slice none 0 0, .int .u64 0, .slice none 0 0, .slice none 0 0] 35).var 3 (by simp) #[.int .u64 0, .slice none 0 0, .bool false] 39)
  have HA2 := Lib.hid (hA.out.later K2.out.bel)
  have HS2 := Lib.hid (h0.out.later K2.out.bel)
  have HT2 := Lib.hid (h1.out.later K2.out.bel)
  have HZ2 : Hid (w.heap.size + 4 ≤ w2.heap.size) := Lib.hid (by have := (K2.out.at_ (o := 3) (.head _)).1; omega)
  have kr1 : (r : Int).tmod 2 = (q : Int) := by rw [Int.tmod_eq_emod_of_nonneg (by omega)]; omega
  have kr2 : (r : Int) % 2 = (q : Int) := by omega
  have kq2 : q < 2 := by omega
  have kqw : IntKind.i64.wrap (q : Int) = (q : Int) := by rw [IntKind.wrap_i64]; omega
  clear hq
  obtain ⟨z0, ⟨c0, c1, c2, c3, c4, c5⟩, f0, f1, f2, f3, f4, f5⟩ := (K2.out.at_ (o := 0) (.tail _ (.tail _ (.tail _ (.head _))))).six
  obtain ⟨_, ⟨a0, a1, a2, a3, a4, a5⟩, _⟩ := (K2.out.at_ (o := 1) (.tail _ (.tail _ (.head _)))).six
  obtain ⟨_, ⟨s0, s1, s2, s3, s4, s5⟩, g0, g1, g2, g3, g4, g5⟩ := (K2.out.at_ (o := 2) (.tail _ (.head _))).six
  obtain ⟨_, t0, t1, t2, j0, j1, j2⟩ := (K2.out.at_ (o := 3) (.head _)).three
  rw [Nat.add_zero] at z0 c0 c1 c2 c3 c4 c5 f0 f1 f2 f3 f4 f5
  have x0 : w2.cell? ⟨b0, off + i, none⟩ = some (.int .u64 (x : Int)) := (K2.out.bel.cell (p := ⟨b0, off + i, none⟩) HLT.out).trans HX0.out
  go_enter Try.func19, Try.ntmps19
  go_wp2_with fail
  try clear hw2
  (with_reducible refine (hc _ HA2).mono ?_)
  rintro e w3 ⟨A3, k3, rfl, ha3, hb3, hP3⟩
  have K3 := Lib.hid (K2.out.later hb3)
  have HA3 := Lib.hid ha3
  have HS3 := Lib.hid (HS2.out.later hb3)
  have HT3 := Lib.hid (HT2.out.later hb3)
  have HB3 := Lib.hid hb3
  have HP3 := Lib.hid hP3
  clear c0 c1 c2 c3 c4 c5 f0 f1 f2 f3 f4 f5 a0 a1 a2 a3 a4 a5 s0 s1 s2 s3 s4 s5 g0 g1 g2 g3 g4 g5 t0 t1 t2 j0 j1 j2 z0
  clear ha3 hb3 hP3 x0
  obtain ⟨z0, ⟨c0, c1, c2, c3, c4, c5⟩, f0, f1, f2, f3, f4, f5⟩ := (K3.out.at_ (o := 0) (.tail _ (.tail _ (.tail _ (.head _))))).six
  obtain ⟨_, ⟨a0, a1, a2, a3, a4, a5⟩, _⟩ := (K3.out.at_ (o := 1) (.tail _ (.tail _ (.head _)))).six
  obtain ⟨_, ⟨s0, s1, s2, s3, s4, s5⟩, g0, g1, g2, g3, g4, g5⟩ := (K3.out.at_ (o := 2) (.tail _ (.head _))).six
  obtain ⟨_, t0, t1, t2, j0, j1, j2⟩ := (K3.out.at_ (o := 3) (.head _)).three
  rw [Nat.add_zero] at z0 c0 c1 c2 c3 c4 c5 f0 f1 f2 f3 f4 f5
  go_wp2_with fail
  have HB := K3.out.bel
  exact bodyPost_ret (v := .tuple #[.agg #[.int .i64 t, .int .i64 c, .slice A3 n k3, .int .u64 (r : Int), .slice R m ra, .slice S m sa], .agg #[.int .u64 (x : Int), .slice none 0 0, .bool false]]) (by simp [results, Try.results19, go_sem, s0, s1, s2, s3, s4, s5, t0, t1, t2]) rfl (DoW.fin (K := 4) (y := w3) (by repeat (first | with_reducible exact Alike.refl _ _ _ | with_reducible refine Alike.drew ?_ | (with_reducible refine Alike.set ?_ _ _ _ (by omega) (by omega)))) (by repeat (first | with_reducible assumption | with_reducible refine Below.drew ?_ | (with_reducible refine below_set1 (by omega) _ ?_))) HZ2.out K2.out.bel hA.out h0.out h1.out HA3.out HS3.out HT3.out (Nat.le_refl _) (AtB.nil _ _) (fun P hF g hA hB => ⟨HP3.out P hF g, hA.later HS2.out HB3.out, hB.later HT2.out HB3.out, OffW.nil P _⟩))

set_option maxHeartbeats 4000000 in
theorem refDo_install_yes (i : Int) (fa : Bool) (ws : Nat → Nat) (hp0 : 0 < n) (hn : n ≤ 1000000) (w : World) (hA : Hid (AtW w A n F)) (h0 : Hid (StmsAt w R m l0)) (h1 : Hid (StmsAt w S m l1)) (hW : Hid (AtW w W n ws)) :
    Calls Try.prog 19 #[.agg #[.int .i64 t, .int .i64 c, .slice A n k, .int .u64 (r : Int), .slice R m ra, .slice S m sa], .int .i64 me, .agg #[.int .i64 13, .int .i64 i, .int .u64 (a : Int), .int .u64 (b : Int), .slice D dn dc, .slice W n wc], .bool fa] w (DoW w t c A n r R S m ws l0 l1 0 [] false) := by
  obtain ⟨b1, o1, rfl, _, _⟩ := hW.out.2 hp0
  have HP0 := Lib.hid hp0
  have HN := Lib.hid hn
  have he : ((n : Int) == (n : Int)) = true := by simp
  clear hn hp0
  obtain ⟨w2, hw2⟩ : ∃ x, ((((w.alloc (.cells #[.int .i64 t, .int .i64 c, .slice A n k, .int .u64 (r : Int), .slice R m ra, .slice S m sa] 35)).alloc (.cells #[.int .i64 13, .int .i64 i, .int .u64 (a : Int), .int .u64 (b : Int), .slice D dn dc, .slice (some ⟨b1, o1, none⟩) n wc] 43)).alloc (.cells #[.int .i64 0, .int .i64 0, .slice none 0 0, .int .u64 0, .slice none 0 0, .slice none 0 0] 35)).alloc (.cells #[.int .u64 0, .slice none 0 0, .bool false] 39)) = x := ⟨_, rfl⟩
  have K2 : Hid (Kp w [(3, [.int .u64 0, .slice none 0 0, .bool false]), (2, [.int .i64 0, .int .i64 0, .slice none 0 0, .int .u64 0, .slice none 0 0, .slice none 0 0]), (1, [.int .i64 13, .int .i64 i, .int .u64 (a : Int), .int .u64 (b : Int), .slice D dn dc, .slice (some ⟨b1, o1, none⟩) n wc]), (0, [.int .i64 t, .int .i64 c, .slice A n k, .int .u64 (r : Int), .slice R m ra, .slice S m sa])] [] w2) := Lib.hid (by
    rw [← hw2]
    exact ((((Kp.nil w).var 0 rfl #[.int .i64 t, .int .i64 c, .slice A n k, .int .u64 (r : Int), .slice R m ra, .slice S m sa] 35).var 1 (by simp) #[.int .i64 13, .int .i64 i, .int .u64 (a : Int), .int .u64 (b : Int), .slice D dn dc, .slice (some ⟨b1, o1, none⟩) n wc] 43).var 2 (by simp) #[.int .i64 0, .int .i64 0, .slice none 0 0, .int .u64 0, .slice none 0 0, .slice none 0 0] 35).var 3 (by simp) #[.int .u64 0, .slice none 0 0, .bool false] 39)
  have HA2 := Lib.hid (hA.out.later K2.out.bel)
  have HS2 := Lib.hid (h0.out.later K2.out.bel)
  have HT2 := Lib.hid (h1.out.later K2.out.bel)
  have HZ2 : Hid (w.heap.size + 4 ≤ w2.heap.size) := Lib.hid (by have := (K2.out.at_ (o := 3) (.head _)).1; omega)
  have kr1 : (r : Int).tmod 2 = (q : Int) := by rw [Int.tmod_eq_emod_of_nonneg (by omega)]; omega
  have kr2 : (r : Int) % 2 = (q : Int) := by omega
  have kq2 : q < 2 := by omega
  have kqw : IntKind.i64.wrap (q : Int) = (q : Int) := by rw [IntKind.wrap_i64]; omega
  clear hq
  obtain ⟨z0, ⟨c0, c1, c2, c3, c4, c5⟩, f0, f1, f2, f3, f4, f5⟩ := (K2.out.at_ (o := 0) (.tail _ (.tail _ (.tail _ (.head _))))).six
  obtain ⟨_, ⟨a0, a1, a2, a3, a4, a5⟩, _⟩ := (K2.out.at_ (o := 1) (.tail _ (.tail _ (.head _)))).six
  obtain ⟨_, ⟨s0, s1, s2, s3, s4, s5⟩, g0, g1, g2, g3, g4, g5⟩ := (K2.out.at_ (o := 2) (.tail _ (.head _))).six
  obtain ⟨_, t0, t1, t2, j0, j1, j2⟩ := (K2.out.at_ (o := 3) (.head _)).three
  rw [Nat.add_zero] at z0 c0 c1 c2 c3 c4 c5 f0 f1 f2 f3 f4 f5
  have HW2 := Lib.hid (hW.out.later K2.out.bel)
  have HZZ : Hid (w2.heap.size = w.heap.size + 4) := Lib.hid (by rw [← hw2]; simp)
  go_enter Try.func19, Try.ntmps19
  go_wp2_with fail
  clear hw2
  have HIS : Hid (InsS w t c (.int .u64 (r : Int)) (.slice R m ra) (.slice S m sa) [.int .i64 13, .int .i64 i, .int .u64 (a : Int), .int .u64 (b : Int), .slice D dn dc, .slice (some ⟨b1, o1, none⟩) n wc] w2) := Lib.hid ⟨.slice A n k, ⟨K2.out.1, fun p hp => by
      simp only [List.mem_cons, or_false, List.not_mem_nil] at hp
      subst hp
      exact K2.out.at_ (o := 1) (.tail _ (.tail _ (.head _))), fun p hp => by
      simp only [List.mem_cons, or_false, List.not_mem_nil] at hp
      rcases hp with rfl | rfl | rfl
      · exact VarAt.room6 (K2.out.at_ (o := 0) (.tail _ (.tail _ (.tail _ (.head _)))))
      · exact VarAt.room6 (K2.out.at_ (o := 2) (.tail _ (.head _)))
      · exact VarAt.room3 (K2.out.at_ (o := 3) (.head _))⟩, K2.out.at_ (o := 0) (.tail _ (.tail _ (.tail _ (.head _))))⟩
  clear c0 c1 c2 c3 c4 c5 f0 f1 f2 f3 f4 f5 a0 a1 a2 a3 a4 a5 s0 s1 s2 s3 s4 s5 g0 g1 g2 g3 g4 g5 t0 t1 t2 j0 j1 j2 z0
  have hI0 := HIS.out
  have rC0 : ∀ w', InsS w t c (.int .u64 (r : Int)) (.slice R m ra) (.slice S m sa) [.int .i64 13, .int .i64 i, .int .u64 (a : Int), .int .u64 (b : Int), .slice D dn dc, .slice (some ⟨b1, o1, none⟩) n wc] w' → w'.cell? ⟨w.heap.size, 0, none⟩ = some (.int .i64 t) := fun w' h => h.c0
  have rC1 : ∀ w', InsS w t c (.int .u64 (r : Int)) (.slice R m ra) (.slice S m sa) [.int .i64 13, .int .i64 i, .int .u64 (a : Int), .int .u64 (b : Int), .slice D dn dc, .slice (some ⟨b1, o1, none⟩) n wc] w' → w'.cell? ⟨w.heap.size, 1, none⟩ = some (.int .i64 c) := fun w' h => h.c1
  have rC2 : ∀ w', InsS w t c (.int .u64 (r : Int)) (.slice R m ra) (.slice S m sa) [.int .i64 13, .int .i64 i, .int .u64 (a : Int), .int .u64 (b : Int), .slice D dn dc, .slice (some ⟨b1, o1, none⟩) n wc] w' → w'.cell? ⟨w.heap.size, 2, none⟩ = some (cellV w' w.heap.size 2) := fun w' h => h.c2
  have rF0 : ∀ w', InsS w t c (.int .u64 (r : Int)) (.slice R m ra) (.slice S m sa) [.int .i64 13, .int .i64 i, .int .u64 (a : Int), .int .u64 (b : Int), .slice D dn dc, .slice (some ⟨b1, o1, none⟩) n wc] w' → w'.frozen? ⟨w.heap.size, 0, none⟩ = false := fun w' h => h.f 0 (by decide)
  have rF1 : ∀ w', InsS w t c (.int .u64 (r : Int)) (.slice R m ra) (.slice S m sa) [.int .i64 13, .int .i64 i, .int .u64 (a : Int), .int .u64 (b : Int), .slice D dn dc, .slice (some ⟨b1, o1, none⟩) n wc] w' → w'.frozen? ⟨w.heap.size, 1, none⟩ = false := fun w' h => h.f 1 (by decide)
  have rF2 : ∀ w', InsS w t c (.int .u64 (r : Int)) (.slice R m ra) (.slice S m sa) [.int .i64 13, .int .i64 i, .int .u64 (a : Int), .int .u64 (b : Int), .slice D dn dc, .slice (some ⟨b1, o1, none⟩) n wc] w' → w'.frozen? ⟨w.heap.size, 2, none⟩ = false := fun w' h => h.f 2 (by decide)
  have rA5 : ∀ w', InsS w t c (.int .u64 (r : Int)) (.slice R m ra) (.slice S m sa) [.int .i64 13, .int .i64 i, .int .u64 (a : Int), .int .u64 (b : Int), .slice D dn dc, .slice (some ⟨b1, o1, none⟩) n wc] w' → w'.cell? ⟨w.heap.size + 1, 5, none⟩ = some (.slice (some ⟨b1, o1, none⟩) n wc) := fun w' h => h.ac 5 _ rfl
  first | (go_region_held3 (fun w' => InsS w t c (.int .u64 (r : Int)) (.slice R m ra) (.slice S m sa) [.int .i64 13, .int .i64 i, .int .u64 (a : Int), .int .u64 (b : Int), .slice D dn dc, .slice (some ⟨b1, o1, none⟩) n wc] w') (repeat (first | with_reducible assumption | with_reducible refine InsS.drew ?_ | with_reducible refine InsS.set2 ?_ _ | with_reducible refine InsS.set1 ?_ | with_reducible refine InsS.set0 ?_ | with_reducible refine InsS.alloc ?_ _))
    (first
      | (refine step_append_ins (by assumption) (by rfl) (.tmp 150) (.tmp 152) (by rfl) _ (by rfl) (show World.ownsRow ((w2.alloc (.cells #[] 29)).drew) (w.heap.size + 4) 29 1 _ 0 [] from own0 w2 _ HZZ.out) ⟨b1, o1, none⟩ n wc ws (by rfl) (hW.out.later (InsS.bel (by assumption))) HP0.out HN.out ?_; intro g cap x3 hrow hg hI3; have HROW := Lib.hid hrow; have HG := Lib.hid hg; have HI3 := Lib.hid hI3; clear hrow hg))) | fail
  all_goals
    have c0 := HI3.out.c0
    have c1 := HI3.out.c1
    have c2 := HI3.out.c2
    obtain ⟨c3, c4, c5⟩ := HI3.out.cc
    have f0 := HI3.out.f 0 (by decide)
    have f1 := HI3.out.f 1 (by decide)
    have f2 := HI3.out.f 2 (by decide)
    obtain ⟨s0, g0⟩ := HI3.out.r2 0 (by decide)
    obtain ⟨s1, g1⟩ := HI3.out.r2 1 (by decide)
    obtain ⟨s2, g2⟩ := HI3.out.r2 2 (by decide)
    obtain ⟨s3, g3⟩ := HI3.out.r2 3 (by decide)
    obtain ⟨s4, g4⟩ := HI3.out.r2 4 (by decide)
    obtain ⟨s5, g5⟩ := HI3.out.r2 5 (by decide)
    obtain ⟨t0, j0⟩ := HI3.out.r3 0 (by decide)
    obtain ⟨t1, j1⟩ := HI3.out.r3 1 (by decide)
    obtain ⟨t2, j2⟩ := HI3.out.r3 2 (by decide)
    have HB := HI3.out.bel
    clear rC0 rC1 rC2 rF0 rF1 rF2 rA5
    go_wp2_with fail
    exact bodyPost_ret (v := .tuple #[.agg #[.int .i64 t, .int .i64 c, .slice (some ⟨g, 0, none⟩) n cap, .int .u64 (r : Int), .slice R m ra, .slice S m sa], .agg #[.int .u64 0, .slice none 0 0, .bool false]]) (by simp [results, Try.results19, go_sem, s0, s1, s2, s3, s4, s5, t0, t1, t2]) rfl (DoW.fin (K := 4) (y := x3) (by repeat (first | with_reducible exact Alike.refl _ _ _ | with_reducible refine Alike.drew ?_ | (with_reducible refine Alike.set ?_ _ _ _ (by omega) (by omega)))) (by repeat (first | with_reducible assumption | with_reducible refine Below.drew ?_ | (with_reducible refine below_set1 (by omega) _ ?_))) HZ2.out K2.out.bel hA.out h0.out h1.out HROW.out.at_ (h0.out.later HB) (h1.out.later HB) (Nat.le_refl _) (AtB.nil _ _) (fun P hF _ hA hB => ⟨OffW.one n (hF g (by have := HG.out; have := HZZ.out; omega)), (OffS.back hA h0.out K2.out.bel).later h0.out HB, (OffS.back hB h1.out K2.out.bel).later h1.out HB, OffW.nil P _⟩))
end
end Go.Proofs.Ytjbhichgojjakaa
