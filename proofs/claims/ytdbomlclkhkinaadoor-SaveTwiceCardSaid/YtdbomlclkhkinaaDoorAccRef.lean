/-
  The contracts of the document's own Do, kind by kind: over letters for what the document's own disk tells.
-/
import Derived.Test.YtdbomlclkhkinaaDoorAccDo
namespace Go.Proofs.YtdbomlclkhkinaaDoor
open Go.ChangeShapes Go.WideShapes Go.ChangeAt Go.RowKit Go.BigFrame
set_option linter.unusedVariables false
set_option maxRecDepth 100000

/-- The end of a region that reads the world's box and lays the results. -/
def EndR (w : World) (dk : List Value) (y x : World) : Prop := Kp w [(0, dk)] [(2, 6), (3, 3)] x ∧ Alike w.heap.size 4 y x
section
variable {w y x : World} {dk : List Value}
theorem EndR.of (hB : Below w.heap.size w x) (h0 : VarAt x w.heap.size dk) (r2 : Room x (w.heap.size + 2) 6) (r3 : Room x (w.heap.size + 3) 3) (ha : Alike w.heap.size 4 y x) : EndR w dk y x := by
  refine ⟨⟨hB, fun p hp => ?_, fun p hp => ?_⟩, ha⟩
  · simp only [List.mem_cons, or_false, List.not_mem_nil] at hp
    subst hp
    exact h0
  · simp only [List.mem_cons, or_false, List.not_mem_nil] at hp
    rcases hp with rfl | rfl
    · exact r2
    · exact r3
theorem EndR.set2 (h : EndR w dk y x) (j : Nat) (v : Value) : EndR w dk y (x.setCell ⟨w.heap.size + 2, j, none⟩ v) := ⟨h.1.set 2 j v rfl, h.2.set _ j v (by omega) (by omega)⟩
theorem EndR.set3 (h : EndR w dk y x) (j : Nat) (v : Value) : EndR w dk y (x.setCell ⟨w.heap.size + 3, j, none⟩ v) := ⟨h.1.set 3 j v rfl, h.2.set _ j v (by omega) (by omega)⟩
theorem EndR.drew (h : EndR w dk y x) : EndR w dk y x.drew := ⟨h.1.drew, h.2.drew⟩
theorem EndR.c0 (h : EndR w dk y x) (j : Nat) (v : Value) (hv : dk[j]? = some v) : x.cell? ⟨w.heap.size, j, none⟩ = some v := (h.1.at_ (o := 0) (.head _)).2.1 j v hv
theorem EndR.r2 (h : EndR w dk y x) (j : Nat) (hj : j < 6) : x.cell? ⟨w.heap.size + 2, j, none⟩ = some (cellV x (w.heap.size + 2) j) := h.1.res (o := 2) (n := 6) (.head _) j hj
theorem EndR.r3 (h : EndR w dk y x) (j : Nat) (hj : j < 3) : x.cell? ⟨w.heap.size + 3, j, none⟩ = some (cellV x (w.heap.size + 3) j) := h.1.res (o := 3) (n := 3) (.tail _ (.head _)) j hj
theorem EndR.f2 (h : EndR w dk y x) (j : Nat) (hj : j < 6) : x.frozen? ⟨w.heap.size + 2, j, none⟩ = false := h.1.free (o := 2) (n := 6) (.head _) j hj
theorem EndR.f3 (h : EndR w dk y x) (j : Nat) (hj : j < 3) : x.frozen? ⟨w.heap.size + 3, j, none⟩ = false := h.1.free (o := 3) (n := 3) (.tail _ (.head _)) j hj
end
theorem endR_fin {w w2 y x : World} {dk : List Value} (h : EndR w dk y x) (hz : w.heap.size + 4 ≤ w2.heap.size) (hb2 : Below w.heap.size w w2) {t c : Int} {A R S A' R' S' X : Option Addr} {n m ka ra sa k r N : Nat} {F G : Nat → Nat} {l0 l1 P0 P1 : List Stm} {xs : List Nat} {fl : Bool}
    (hA : AtW w A n F) (h0 : StmsAt w R m l0) (h1 : StmsAt w S m l1) (a' : AtW y A' n G) (s0 : StmsAt y R' m P0) (s1 : StmsAt y S' m P1) (hk : xs.length ≤ k) (hx : AtB y X xs.length xs)
    (hP : ∀ P : Nat → Prop, (∀ b, w2.heap.size ≤ b → P b) → OffW P A n → OffS P w2 R m → OffS P w2 S m → OffW P A' n ∧ OffS P y R' m ∧ OffS P y S' m ∧ OffW P X xs.length) :
    DoW w t c A n r R S m G P0 P1 N xs fl (.returned (.tuple #[.agg #[.int .i64 t, .int .i64 c, .slice A' n ka, .int .u64 (r : Int), .slice R' m ra, .slice S' m sa], .agg #[.int .u64 (N : Int), .slice X xs.length k, .bool fl]])) x :=
  DoW.fin h.2 h.1.1 hz hb2 hA h0 h1 a' s0 s1 hk hx hP
/-- What a world keeps while a memory is laid into the world's box. -/
def InsS (w : World) (t c : Int) (v3 v4 v5 : Value) (acc : List Value) (x : World) : Prop :=
  (∃ u, Kp w [(1, acc)] [(0, 6), (2, 6), (3, 3)] x ∧ VarAt x w.heap.size [.int .i64 t, .int .i64 c, u, v3, v4, v5])
section
variable {w x x2 : World} {t c : Int} {v3 v4 v5 : Value} {acc : List Value}
theorem InsS.later (h : InsS w t c v3 v4 v5 acc x) (hb : Below x.heap.size x x2) : InsS w t c v3 v4 v5 acc x2 := by
  obtain ⟨u, h1, h2⟩ := h
  exact ⟨u, h1.later hb, h2.below hb⟩
theorem InsS.drew (h : InsS w t c v3 v4 v5 acc x) : InsS w t c v3 v4 v5 acc x.drew := h.later (Below.drew (Below.refl _ _))
theorem InsS.alloc (h : InsS w t c v3 v4 v5 acc x) (o : Obj) : InsS w t c v3 v4 v5 acc (x.alloc o) := h.later (al_below _ _)
theorem InsS.bel (h : InsS w t c v3 v4 v5 acc x) : Below w.heap.size w x := by obtain ⟨u, h1, _⟩ := h; exact h1.1
theorem InsS.size (h : InsS w t c v3 v4 v5 acc x) : w.heap.size + 4 ≤ x.heap.size := by obtain ⟨u, h1, _⟩ := h; have := (h1.2.2 (3, 3) (.tail _ (.tail _ (.head _)))).1; omega
theorem InsS.c0 (h : InsS w t c v3 v4 v5 acc x) : x.cell? ⟨w.heap.size, 0, none⟩ = some (.int .i64 t) := by obtain ⟨u, _, h2⟩ := h; exact h2.2.1 0 _ rfl
theorem InsS.c1 (h : InsS w t c v3 v4 v5 acc x) : x.cell? ⟨w.heap.size, 1, none⟩ = some (.int .i64 c) := by obtain ⟨u, _, h2⟩ := h; exact h2.2.1 1 _ rfl
theorem InsS.c2 (h : InsS w t c v3 v4 v5 acc x) : x.cell? ⟨w.heap.size, 2, none⟩ = some (cellV x w.heap.size 2) := by
  obtain ⟨u, _, h2⟩ := h
  have e := h2.2.1 2 _ rfl
  unfold cellV; rw [e]; rfl
theorem InsS.f (h : InsS w t c v3 v4 v5 acc x) (j : Nat) (hj : j < 6) : x.frozen? ⟨w.heap.size, j, none⟩ = false := by obtain ⟨u, _, h2⟩ := h; exact h2.2.2 j hj
theorem InsS.ac (h : InsS w t c v3 v4 v5 acc x) (j : Nat) (v : Value) (hv : acc[j]? = some v) : x.cell? ⟨w.heap.size + 1, j, none⟩ = some v := by obtain ⟨u, h1, _⟩ := h; exact h1.cell (o := 1) (.head _) j hv
theorem InsS.cc (h : InsS w t c v3 v4 v5 acc x) : x.cell? ⟨w.heap.size, 3, none⟩ = some v3 ∧ x.cell? ⟨w.heap.size, 4, none⟩ = some v4 ∧ x.cell? ⟨w.heap.size, 5, none⟩ = some v5 := by obtain ⟨u, _, h2⟩ := h; exact ⟨h2.2.1 3 _ rfl, h2.2.1 4 _ rfl, h2.2.1 5 _ rfl⟩
theorem InsS.r2 (h : InsS w t c v3 v4 v5 acc x) (j : Nat) (hj : j < 6) : x.cell? ⟨w.heap.size + 2, j, none⟩ = some (cellV x (w.heap.size + 2) j) ∧ x.frozen? ⟨w.heap.size + 2, j, none⟩ = false := by
  obtain ⟨u, h1, _⟩ := h; exact ⟨h1.res (o := 2) (n := 6) (.tail _ (.head _)) j hj, h1.free (o := 2) (n := 6) (.tail _ (.head _)) j hj⟩
theorem InsS.r3 (h : InsS w t c v3 v4 v5 acc x) (j : Nat) (hj : j < 3) : x.cell? ⟨w.heap.size + 3, j, none⟩ = some (cellV x (w.heap.size + 3) j) ∧ x.frozen? ⟨w.heap.size + 3, j, none⟩ = false := by
  obtain ⟨u, h1, _⟩ := h; exact ⟨h1.res (o := 3) (n := 3) (.tail _ (.tail _ (.head _))) j hj, h1.free (o := 3) (n := 3) (.tail _ (.tail _ (.head _))) j hj⟩
theorem InsS.set2 (h : InsS w t c v3 v4 v5 acc x) (v : Value) : InsS w t c v3 v4 v5 acc (x.setCell ⟨w.heap.size, 2, none⟩ v) := by
  obtain ⟨u, h1, h2⟩ := h; exact ⟨v, h1.set 0 2 v rfl, h2.setAt 2 v (by simp)⟩
theorem InsS.set0 (h : InsS w t c v3 v4 v5 acc x) : InsS w t c v3 v4 v5 acc (x.setCell ⟨w.heap.size, 0, none⟩ (.int .i64 t)) := by
  obtain ⟨u, h1, h2⟩ := h; exact ⟨u, h1.set 0 0 _ rfl, h2.setAt 0 _ (by simp)⟩
theorem InsS.set1 (h : InsS w t c v3 v4 v5 acc x) : InsS w t c v3 v4 v5 acc (x.setCell ⟨w.heap.size, 1, none⟩ (.int .i64 c)) := by
  obtain ⟨u, h1, h2⟩ := h; exact ⟨u, h1.set 0 1 _ rfl, h2.setAt 1 _ (by simp)⟩
theorem own0 (x : World) (N : Nat) (hz : x.heap.size = N) : (x.alloc (.cells #[] 22)).ownsRow N 22 1 (.slice (some ⟨x.heap.size, 0, none⟩) 0 0) 0 [] := by
  subst hz; exact World.ownsRow_made x #[] 0 (Nat.le_refl _) (Nat.zero_le _) rfl
theorem OffS.back {P : Nat → Prop} {w w' : World} {a : Option Addr} {n : Nat} {l : List Stm} (h : OffS P w' a n) (hS : StmsAt w a n l) (hb : Below w.heap.size w w') : OffS P w a n := fun b off e hn => by
  obtain ⟨b', off', e', hlt, _⟩ := hS.2.2 hn
  obtain ⟨h1, h2⟩ := h b off e hn
  rw [e'] at e
  cases e
  exact ⟨h1, fun j hj ad len c hc hl => h2 j hj ad len c ((hb.cell (p := ⟨b, off + j * 2, none⟩) hlt).trans hc) hl⟩
theorem step_append_ins {ops : Array Oper} {o : Oper} {a : Act} {w0 : World} {K : Act → World → Prop} {Q : Exit → Act → World → Prop} {E : Prop} (hS : InsS w0 t c v3 v4 v5 acc x) (hg : o.guard = none) (s z : Operand)
    (ho : o.op = .call { callee := .builtin .append, args := #[s, z], argTypes := #[25, 25] }) (v : Value) (hs : a.eval s = v) (hown : x.ownsRow (w0.heap.size + 4) 22 1 v 0 [])
    (ad : Addr) (m cp : Nat) (f : Nat → Nat) (hx : a.eval z = .slice (some ad) m cp) (hA : AtW x (some ad) m f) (hp : 0 < m) (hm : m ≤ 1000000)
    (h : ∀ g cap x', RowW x' g m f → w0.heap.size + 4 ≤ g → InsS w0 t c v3 v4 v5 acc x' → K (a.put o.dst (.slice (some ⟨g, 0, none⟩) m cap)) x') : if Region.wanted o (yielded ops a.tmps) = true then Oper.wp Tryd.prog o a x K Q else E := by
  have hw : Region.wanted o (yielded ops a.tmps) = true := by simp [Region.wanted, hg]
  rw [if_pos hw]
  obtain ⟨i, hi, hz0, hz1, hz2⟩ := info_parts infoW
  obtain ⟨v', w', h1, h2, h3, _⟩ := run_append_own (P := Tryd.prog) x (w0.heap.size + 4) 25 o.type 22 i _ 1 8 Tryd.underlying25 hi hz0 hz1 hz2 rfl (by decide) v 0 [] hown ad m cp (wordsV m f)
    (by rw [wordsV_length]; omega) (fun j u hu => by
      have hj : j < m := by have := (List.getElem?_eq_some_iff.1 hu).1; rw [wordsV_length] at this; exact this
      obtain ⟨b, off, e, hlt, hc⟩ := hA.2 hp
      cases e
      rw [wordsV_get hj] at hu
      cases hu
      rw [add_plain]
      exact hc j hj) (wordsV_one _ _) (by unfold maxLen; omega) (by omega) hS.size
  have hk : Below (w0.heap.size + 4) x w' := (Below.refl _ x).grown h3 hS.size (fun k hk => (hown.lt k hk).1)
  have hS' : InsS w0 t c v3 v4 v5 acc w' := by
    obtain ⟨u, k1, k2⟩ := hS
    have kv : ∀ {b : Nat} {vs : List Value}, b < w0.heap.size + 4 → VarAt x b vs → VarAt w' b vs := fun {b vs} hb hv => ⟨Nat.lt_of_lt_of_le hv.1 hk.size, fun j v hj => (hk.cell (p := ⟨b, j, none⟩) hb).trans (hv.2.1 j v hj), fun j hj => (hk.frozen (p := ⟨b, j, none⟩) hb).trans (hv.2.2 j hj)⟩
    have kr : ∀ {b n : Nat}, b < w0.heap.size + 4 → Room x b n → Room w' b n := fun {b n} hb hv => ⟨Nat.lt_of_lt_of_le hv.1 hk.size, fun j hj => by rw [hk.cell (p := ⟨b, 0 + j, none⟩) hb, hk.frozen (p := ⟨b, 0 + j, none⟩) hb]; exact hv.2 j hj⟩
    refine ⟨u, ⟨k1.1.trans (hk.mono (by omega)), fun p hp => ?_, fun p hp => ?_⟩, kv (by omega) k2⟩
    · have := k1.2.1 p hp
      simp only [List.mem_cons, or_false, List.not_mem_nil] at hp
      subst hp
      exact kv (by omega) this
    · have := k1.2.2 p hp
      simp only [List.mem_cons, or_false, List.not_mem_nil] at hp
      rcases hp with rfl | rfl | rfl
      · exact kr (by omega) this
      · exact kr (by omega) this
      · exact kr (by omega) this
  rw [List.nil_append] at h2
  unfold Oper.wp execOp
  simp only [ho, resolve, invoke, builtin, Sem.run_bind, Sem.run_pure, Result.andThen_ok, List.map_toArray, List.map_cons, List.map_nil, hs, hx, h1]
  rcases h2.2 with ⟨_, h0⟩ | ⟨g, cap, cur, rfl, hg2, hgb, hcap, _⟩
  · omega
  · rw [Nat.zero_add] at h2 ⊢
    exact h g cap w' ⟨(Array.getElem?_eq_some_iff.1 hgb).1, hA.1, fun j hj => (h2.cellAt j (by omega)).trans (wordsV_get hj), fun j => h2.frozenAt j⟩ hg2 hS'
end
section
variable (t c : Int) (A : Option Addr) (n k : Nat) (F : Nat → Nat) (r : Nat) (hr : r < 18446744073709551616) (R S : Option Addr) (m ra sa : Nat) (l0 l1 : List Stm) (q p : Nat) (hq : r % 2 = q) (hp : (1 : Int) - (q : Int) = (p : Int)) (me : Int) (a b : Nat) (D : Option Addr) (dn dc : Nat) (W : Option Addr) (wn wc : Nat)
include hr hq hp
end
end Go.Proofs.YtdbomlclkhkinaaDoor
