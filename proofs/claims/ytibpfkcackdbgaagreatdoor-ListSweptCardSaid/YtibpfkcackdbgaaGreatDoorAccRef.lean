/- AccRef -/
import Derived.Test.YtibpfkcackdbgaaGreatDoorAccDo
namespace Go.Proofs.YtibpfkcackdbgaaGreatDoor
open Go.ChangeShapes Go.WideShapes Go.ChangeAt Go.RowKit Go.BigFrame
set_option linter.unusedVariables false
set_option maxRecDepth 100000
def EndR (w : World) (dk : List Value) (y x : World) : Prop := Kp w [(0, dk)] [(2, 6), (3, 3)] x ∧ Alike w.heap.size 4 y x
section
variable {w y x : World} {dk : List Value}
theorem EndR.of (hB : Below w.heap.size w x) (h0 : VarAt x w.heap.size dk) (r2 : Room x (w.heap.size + 2) 6) (r3 : Room x (w.heap.size + 3) 3) (ha : Alike w.heap.size 4 y x) : EndR w dk y x := by
 refine ⟨⟨hB, fun p hp => ?_, fun p hp => ?_⟩, ha⟩
 ·simp only [List.mem_cons, or_false, List.not_mem_nil] at hp
  subst hp
  exact h0
 ·simp only [List.mem_cons, or_false, List.not_mem_nil] at hp
  rcases hp with rfl | rfl
  ·exact r2
  ·exact r3
theorem EndR.set2 (h : EndR w dk y x) (j : Nat) (v : Value) : EndR w dk y (x.setCell ⟨w.heap.size + 2, j, none⟩ v) := ⟨h.1.set 2 j v rfl, h.2.set _ j v (by omega) (by omega)⟩
theorem EndR.set3 (h : EndR w dk y x) (j : Nat) (v : Value) : EndR w dk y (x.setCell ⟨w.heap.size + 3, j, none⟩ v) := ⟨h.1.set 3 j v rfl, h.2.set _ j v (by omega) (by omega)⟩
theorem EndR.drew (h : EndR w dk y x) : EndR w dk y x.drew := ⟨h.1.drew, h.2.drew⟩
theorem EndR.c0 (h : EndR w dk y x) (j : Nat) (v : Value) (hv : dk[j]? = some v) : x.cell? ⟨w.heap.size, j, none⟩ = some v := (h.1.at_ (o := 0) (.head _)).2.1 j v hv
theorem EndR.r2 (h : EndR w dk y x) (j : Nat) (hj : j < 6) : x.cell? ⟨w.heap.size + 2, j, none⟩ = some (cellV x (w.heap.size + 2) j) := h.1.res (o := 2) (n := 6) (.head _) j hj
theorem EndR.r3 (h : EndR w dk y x) (j : Nat) (hj : j < 3) : x.cell? ⟨w.heap.size + 3, j, none⟩ = some (cellV x (w.heap.size + 3) j) := h.1.res (o := 3) (n := 3) (.tail _ (.head _)) j hj
theorem EndR.f2 (h : EndR w dk y x) (j : Nat) (hj : j < 6) : x.frozen? ⟨w.heap.size + 2, j, none⟩ = false := h.1.free (o := 2) (n := 6) (.head _) j hj
theorem EndR.f3 (h : EndR w dk y x) (j : Nat) (hj : j < 3) : x.frozen? ⟨w.heap.size + 3, j, none⟩ = false := h.1.free (o := 3) (n := 3) (.tail _ (.head _)) j hj
end
def InsS (w : World) (t c : Int) (v3 v4 v5 : Value) (acc : List Value) (x : World) : Prop :=
 (∃ u, Kp w [(1, acc)] [(0, 6), (2, 6), (3, 3)] x ∧ VarAt x w.heap.size [.int .i64 t, .int .i64 c, u, v3, v4, v5])
section
variable {w x x2 : World} {t c : Int} {v3 v4 v5 : Value} {acc : List Value}
theorem InsS.later (h : InsS w t c v3 v4 v5 acc x) (hb : Below x.heap.size x x2) : InsS w t c v3 v4 v5 acc x2 := by
 obtain ⟨u, h1, h2⟩ := h
 exact ⟨u, h1.later hb, h2.below hb⟩
theorem InsS.drew (h : InsS w t c v3 v4 v5 acc x) : InsS w t c v3 v4 v5 acc x.drew := h.later (Below.drew (Below.refl _ _))
theorem InsS.alloc (h : InsS w t c v3 v4 v5 acc x) (o : Obj) : InsS w t c v3 v4 v5 acc (x.alloc o) := h.later (al_below _ _)
theorem InsS.bel (h : InsS w t c v3 v4 v5 acc x) : Below w.heap.size w x := by obtain ⟨u, h1, _⟩ := h; exact h1.1
theorem InsS.size (h : InsS w t c v3 v4 v5 acc x) : w.heap.size + 4 ≤ x.heap.size := by obtain ⟨u, h1, _⟩ := h; have := (h1.2.2 (3, 3) (.tail _ (.tail _ (.head _)))).1; omega
theorem InsS.c0 (h : InsS w t c v3 v4 v5 acc x) : x.cell? ⟨w.heap.size, 0, none⟩ = some (.int .i64 t) := by obtain ⟨u, _, h2⟩ := h; exact h2.2.1 0 _ rfl
theorem InsS.c1 (h : InsS w t c v3 v4 v5 acc x) : x.cell? ⟨w.heap.size, 1, none⟩ = some (.int .i64 c) := by obtain ⟨u, _, h2⟩ := h; exact h2.2.1 1 _ rfl
theorem InsS.c2 (h : InsS w t c v3 v4 v5 acc x) : x.cell? ⟨w.heap.size, 2, none⟩ = some (cellV x w.heap.size 2) := by
 obtain ⟨u, _, h2⟩ := h
 have e := h2.2.1 2 _ rfl
 unfold cellV; rw [e]; rfl
theorem InsS.f (h : InsS w t c v3 v4 v5 acc x) (j : Nat) (hj : j < 6) : x.frozen? ⟨w.heap.size, j, none⟩ = false := by obtain ⟨u, _, h2⟩ := h; exact h2.2.2 j hj
theorem InsS.ac (h : InsS w t c v3 v4 v5 acc x) (j : Nat) (v : Value) (hv : acc[j]? = some v) : x.cell? ⟨w.heap.size + 1, j, none⟩ = some v := by obtain ⟨u, h1, _⟩ := h; exact h1.cell (o := 1) (.head _) j hv
theorem InsS.r2 (h : InsS w t c v3 v4 v5 acc x) (j : Nat) (hj : j < 6) : x.cell? ⟨w.heap.size + 2, j, none⟩ = some (cellV x (w.heap.size + 2) j) ∧ x.frozen? ⟨w.heap.size + 2, j, none⟩ = false := by
 obtain ⟨u, h1, _⟩ := h; exact ⟨h1.res (o := 2) (n := 6) (.tail _ (.head _)) j hj, h1.free (o := 2) (n := 6) (.tail _ (.head _)) j hj⟩
theorem InsS.r3 (h : InsS w t c v3 v4 v5 acc x) (j : Nat) (hj : j < 3) : x.cell? ⟨w.heap.size + 3, j, none⟩ = some (cellV x (w.heap.size + 3) j) ∧ x.frozen? ⟨w.heap.size + 3, j, none⟩ = false := by
 obtain ⟨u, h1, _⟩ := h; exact ⟨h1.res (o := 3) (n := 3) (.tail _ (.tail _ (.head _))) j hj, h1.free (o := 3) (n := 3) (.tail _ (.tail _ (.head _))) j hj⟩
theorem InsS.set2 (h : InsS w t c v3 v4 v5 acc x) (v : Value) : InsS w t c v3 v4 v5 acc (x.setCell ⟨w.heap.size, 2, none⟩ v) := by
 obtain ⟨u, h1, h2⟩ := h; exact ⟨v, h1.set 0 2 v rfl, h2.setAt 2 v (by simp)⟩
theorem OffS.back {P : Nat → Prop} {w w' : World} {a : Option Addr} {n : Nat} {l : List Stm} (h : OffS P w' a n) (hS : StmsAt w a n l) (hb : Below w.heap.size w w') : OffS P w a n := fun b off e hn => by
 obtain ⟨b', off', e', hlt, _⟩ := hS.2.2 hn
 obtain ⟨h1, h2⟩ := h b off e hn
 rw [e'] at e
 cases e
 exact ⟨h1, fun j hj ad len c hc hl => h2 j hj ad len c ((hb.cell (p := ⟨b, off + j * 2, none⟩) hlt).trans hc) hl⟩
end
section
variable (t c : Int) (A : Option Addr) (n k : Nat) (F : Nat → Nat) (r : Nat) (hr : r < 18446744073709551616) (R S : Option Addr) (m ra sa : Nat) (l0 l1 : List Stm) (q p : Nat) (hq : r % 2 = q) (hp : (1 : Int) - (q : Int) = (p : Int)) (me : Int) (a b : Nat) (D : Option Addr) (dn dc : Nat) (W : Option Addr) (wn wc : Nat)
include hr hq hp
end
end Go.Proofs.YtibpfkcackdbgaaGreatDoor
