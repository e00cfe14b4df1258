/- AccDo -/
import Derived.Test.YtibpfkcackdbgaaGreatDoorAccDisk
import Derived.Test.YtibpfkcackdbgaaGreatDoorAccWord
import Derived.Test.YtibpfkcackdbgaaGreatDoorCllA
namespace Go.Proofs.YtibpfkcackdbgaaGreatDoor
open Go.ChangeShapes Go.WideShapes Go.ChangeAt Go.RowKit Go.BigFrame
set_option linter.unusedVariables false
set_option maxRecDepth 100000
def DoW (w : World) (t c : Int) (A : Option Addr) (n : Nat) (r : Nat) (R S : Option Addr) (m : Nat) (G : Nat → Nat) (P0 P1 : List Stm) (N : Nat) (xs : List Nat) (fl : Bool) (e : Ending) (w' : World) : Prop :=
 ∃ A' ka R' ra S' sa X k, e = .returned (.tuple #[.agg #[.int .i64 t, .int .i64 c, .slice A' n ka, .int .u64 (r : Int), .slice R' m ra, .slice S' m sa], .agg #[.int .u64 (N : Int), .slice X xs.length k, .bool fl]]) ∧ AtW w' A' n G ∧ StmsAt w' R' m P0 ∧ StmsAt w' S' m P1 ∧ xs.length ≤ k ∧ AtB w' X xs.length xs ∧ Below w.heap.size w w' ∧
  ∀ P : Nat → Prop, (∀ b, w.heap.size ≤ b → P b) → OffW P A n → OffS P w R m → OffS P w S m → OffW P A' n ∧ OffS P w' R' m ∧ OffS P w' S' m ∧ OffW P X xs.length
theorem DoW.fin {w w2 y x : World} {K : Nat} (ha : Alike w.heap.size K y x) (hB : Below w.heap.size w x) (hz : w.heap.size + K ≤ w2.heap.size) (hb2 : Below w.heap.size w w2) {t c : Int} {A R S A' R' S' X : Option Addr} {n m ka ra sa k r N : Nat} {F G : Nat → Nat} {l0 l1 P0 P1 : List Stm} {xs : List Nat} {fl : Bool}
  (hA : AtW w A n F) (h0 : StmsAt w R m l0) (h1 : StmsAt w S m l1) (a' : AtW y A' n G) (s0 : StmsAt y R' m P0) (s1 : StmsAt y S' m P1) (hk : xs.length ≤ k) (hx : AtB y X xs.length xs)
  (hP : ∀ P : Nat → Prop, (∀ b, w2.heap.size ≤ b → P b) → OffW P A n → OffS P w2 R m → OffS P w2 S m → OffW P A' n ∧ OffS P y R' m ∧ OffS P y S' m ∧ OffW P X xs.length) :
  DoW w t c A n r R S m G P0 P1 N xs fl (.returned (.tuple #[.agg #[.int .i64 t, .int .i64 c, .slice A' n ka, .int .u64 (r : Int), .slice R' m ra, .slice S' m sa], .agg #[.int .u64 (N : Int), .slice X xs.length k, .bool fl]])) x := by
 obtain ⟨o, o0, o1, o2⟩ := hP (Out w.heap.size K) (fun b hb => .inr (by omega)) (hA.old.mono fun b hb => .inl hb) ((h0.old.mono fun b hb => .inl hb).later h0 hb2) ((h1.old.mono fun b hb => .inl hb).later h1 hb2)
 refine ⟨A', ka, R', ra, S', sa, X, k, rfl, a'.alike ha o, s0.alike ha o0, s1.alike ha o1, hk, hx.alike ha o2, hB, fun P hF g gA gB => ?_⟩
 obtain ⟨p, p0, p1, p2⟩ := hP P (fun b hb => hF b (by omega)) g (gA.later h0 hb2) (gB.later h1 hb2)
 exact ⟨p, p0.alike ha o0, p1.alike ha o1, p2⟩
def EndD (w : World) (dk res : List Value) (y x : World) : Prop := Kp w [(4, res), (0, dk)] [(2, 6), (3, 3)] x ∧ Alike w.heap.size 5 y x
theorem VarAt.room6 {w : World} {b : Nat} {v0 v1 v2 v3 v4 v5 : Value} (h : VarAt w b [v0, v1, v2, v3, v4, v5]) : Room w b 6 := VarAt.room h
theorem VarAt.of6 {w : World} {b : Nat} {v0 v1 v2 v3 v4 v5 : Value} (hz : b < w.heap.size) (c0 : w.cell? ⟨b, 0, none⟩ = some v0) (c1 : w.cell? ⟨b, 1, none⟩ = some v1) (c2 : w.cell? ⟨b, 2, none⟩ = some v2) (c3 : w.cell? ⟨b, 3, none⟩ = some v3) (c4 : w.cell? ⟨b, 4, none⟩ = some v4) (c5 : w.cell? ⟨b, 5, none⟩ = some v5)
  (f0 : w.frozen? ⟨b, 0, none⟩ = false) (f1 : w.frozen? ⟨b, 1, none⟩ = false) (f2 : w.frozen? ⟨b, 2, none⟩ = false) (f3 : w.frozen? ⟨b, 3, none⟩ = false) (f4 : w.frozen? ⟨b, 4, none⟩ = false) (f5 : w.frozen? ⟨b, 5, none⟩ = false) : VarAt w b [v0, v1, v2, v3, v4, v5] := by
 refine ⟨hz, fun j v hv => ?_, fun j hj => ?_⟩
 ·obtain rfl | rfl | rfl | rfl | rfl | rfl : j = 0 ∨ j = 1 ∨ j = 2 ∨ j = 3 ∨ j = 4 ∨ j = 5 := by have := (List.getElem?_eq_some_iff.1 hv).1; simp at this; omega
  all_goals (cases hv; assumption)
 ·obtain rfl | rfl | rfl | rfl | rfl | rfl : j = 0 ∨ j = 1 ∨ j = 2 ∨ j = 3 ∨ j = 4 ∨ j = 5 := by simp at hj; omega
  all_goals assumption
section
variable {w y x : World} {dk res : List Value}
theorem EndD.of (hB : Below w.heap.size w x) (h0 : VarAt x w.heap.size dk) (h4 : VarAt x (w.heap.size + 4) res) (r2 : Room x (w.heap.size + 2) 6) (r3 : Room x (w.heap.size + 3) 3) (ha : Alike w.heap.size 5 y x) : EndD w dk res y x := by
 refine ⟨⟨hB, fun p hp => ?_, fun p hp => ?_⟩, ha⟩
 ·simp only [List.mem_cons, or_false, List.not_mem_nil] at hp
  rcases hp with rfl | rfl
  ·exact h4
  ·exact h0
 ·simp only [List.mem_cons, or_false, List.not_mem_nil] at hp
  rcases hp with rfl | rfl
  ·exact r2
  ·exact r3
theorem EndD.set2 (h : EndD w dk res y x) (j : Nat) (v : Value) : EndD w dk res y (x.setCell ⟨w.heap.size + 2, j, none⟩ v) := ⟨h.1.set 2 j v rfl, h.2.set _ j v (by omega) (by omega)⟩
theorem EndD.set3 (h : EndD w dk res y x) (j : Nat) (v : Value) : EndD w dk res y (x.setCell ⟨w.heap.size + 3, j, none⟩ v) := ⟨h.1.set 3 j v rfl, h.2.set _ j v (by omega) (by omega)⟩
theorem EndD.drew (h : EndD w dk res y x) : EndD w dk res y x.drew := ⟨h.1.drew, h.2.drew⟩
theorem EndD.c0 (h : EndD w dk res y x) (j : Nat) (v : Value) (hv : dk[j]? = some v) : x.cell? ⟨w.heap.size, j, none⟩ = some v := (h.1.at_ (o := 0) (.tail _ (.head _))).2.1 j v hv
theorem EndD.c4 (h : EndD w dk res y x) (j : Nat) (v : Value) (hv : res[j]? = some v) : x.cell? ⟨w.heap.size + 4, j, none⟩ = some v := (h.1.at_ (o := 4) (.head _)).2.1 j v hv
theorem EndD.r2 (h : EndD w dk res y x) (j : Nat) (hj : j < 6) : x.cell? ⟨w.heap.size + 2, j, none⟩ = some (cellV x (w.heap.size + 2) j) := h.1.res (o := 2) (n := 6) (.head _) j hj
theorem EndD.r3 (h : EndD w dk res y x) (j : Nat) (hj : j < 3) : x.cell? ⟨w.heap.size + 3, j, none⟩ = some (cellV x (w.heap.size + 3) j) := h.1.res (o := 3) (n := 3) (.tail _ (.head _)) j hj
theorem EndD.f2 (h : EndD w dk res y x) (j : Nat) (hj : j < 6) : x.frozen? ⟨w.heap.size + 2, j, none⟩ = false := h.1.free (o := 2) (n := 6) (.head _) j hj
theorem EndD.f3 (h : EndD w dk res y x) (j : Nat) (hj : j < 3) : x.frozen? ⟨w.heap.size + 3, j, none⟩ = false := h.1.free (o := 3) (n := 3) (.tail _ (.head _)) j hj
end
def diskB (k : Int) : Bool := decide (5 ≤ k) && decide (k ≤ 12)
theorem disk_any (k : Int) (w : World) : Calls Tryz.prog 73 #[.int .i64 k] w fun e w' => e = .returned (.bool (diskB k)) ∧ w = w' := by
 by_cases h1 : 5 ≤ k
 ·have E : Hid (diskB k = decide (k ≤ 12)) := Lib.hid (by unfold diskB; rw [decide_eq_true h1, Bool.true_and])
  have d : decide (5 ≤ k) = true := decide_eq_true h1
  clear h1
  go_enter Tryz.func73, Tryz.ntmps73
  go_wp2_with fail
  go_ret
  exact ⟨ret_boolc E.out.symm, rfl⟩
 ·have E : Hid (diskB k = false) := Lib.hid (by unfold diskB; rw [decide_eq_false h1, Bool.false_and])
  have d : decide (5 ≤ k) = false := decide_eq_false h1
  clear h1
  go_enter Tryz.func73, Tryz.ntmps73
  go_wp2_with fail
  go_ret
  exact ⟨ret_boolc E.out.symm, rfl⟩
section
variable (t c : Int) (A : Option Addr) (n k : Nat) (F : Nat → Nat) (r : Nat) (R S : Option Addr) (m ra sa : Nat) (l0 l1 : List Stm) (me ki i : Int) (a b : Nat) (D : Option Addr) (dn dc : Nat) (W : Option Addr) (wn wc : Nat)
theorem endD_fin {w w2 y x : World} {dk res : List Value} (h : EndD w dk res y x) (hz : w.heap.size + 5 ≤ w2.heap.size) (hb2 : Below w.heap.size w w2) {t c : Int} {A R S A' R' S' X : Option Addr} {n m ka ra sa k r N : Nat} {F G : Nat → Nat} {l0 l1 P0 P1 : List Stm} {xs : List Nat} {fl : Bool}
  (hA : AtW w A n F) (h0 : StmsAt w R m l0) (h1 : StmsAt w S m l1) (a' : AtW y A' n G) (s0 : StmsAt y R' m P0) (s1 : StmsAt y S' m P1) (hk : xs.length ≤ k) (hx : AtB y X xs.length xs)
  (hP : ∀ P : Nat → Prop, (∀ b, w2.heap.size ≤ b → P b) → OffW P A n → OffS P w2 R m → OffS P w2 S m → OffW P A' n ∧ OffS P y R' m ∧ OffS P y S' m ∧ OffW P X xs.length) :
  DoW w t c A n r R S m G P0 P1 N xs fl (.returned (.tuple #[.agg #[.int .i64 t, .int .i64 c, .slice A' n ka, .int .u64 (r : Int), .slice R' m ra, .slice S' m sa], .agg #[.int .u64 (N : Int), .slice X xs.length k, .bool fl]])) x :=
 DoW.fin h.2 h.1.1 hz hb2 hA h0 h1 a' s0 s1 hk hx hP
set_option maxHeartbeats 4000000 in
theorem do_fails (hdk : diskB ki = true) (w : World) (hA : Hid (AtW w A n F)) (h0 : Hid (StmsAt w R m l0)) (h1 : Hid (StmsAt w S m l1))  :
  Calls Tryz.prog 34 #[.agg #[.int .i64 t, .int .i64 c, .slice A n k, .int .u64 (r : Int), .slice R m ra, .slice S m sa], .int .i64 me, .agg #[.int .i64 ki, .int .i64 i, .int .u64 (a : Int), .int .u64 (b : Int), .slice D dn dc, .slice W wn wc], .bool true] w (DoW w t c A n r R S m F l0 l1 0 [] true) := by
 obtain ⟨w2, hw2⟩ : ∃ x, (((((w.alloc (.cells #[.int .i64 t, .int .i64 c, .slice A n k, .int .u64 (r : Int), .slice R m ra, .slice S m sa] 33)).alloc (.cells #[.int .i64 ki, .int .i64 i, .int .u64 (a : Int), .int .u64 (b : Int), .slice D dn dc, .slice W wn wc] 70)).alloc (.cells #[.int .i64 0, .int .i64 0, .slice none 0 0, .int .u64 0, .slice none 0 0, .slice none 0 0] 33)).alloc (.cells #[.int .u64 0, .slice none 0 0, .bool false] 81)).alloc (.cells #[.int .u64 0, .slice none 0 0, .bool false] 81)) = x := ⟨_, rfl⟩
 have K2 : Hid (Kp w [(4, [.int .u64 0, .slice none 0 0, .bool false]), (3, [.int .u64 0, .slice none 0 0, .bool false]), (2, [.int .i64 0, .int .i64 0, .slice none 0 0, .int .u64 0, .slice none 0 0, .slice none 0 0]), (1, [.int .i64 ki, .int .i64 i, .int .u64 (a : Int), .int .u64 (b : Int), .slice D dn dc, .slice W wn wc]), (0, [.int .i64 t, .int .i64 c, .slice A n k, .int .u64 (r : Int), .slice R m ra, .slice S m sa])] [] w2) := Lib.hid (by
  rw [← hw2]
  exact (((((Kp.nil w).var 0 rfl #[.int .i64 t, .int .i64 c, .slice A n k, .int .u64 (r : Int), .slice R m ra, .slice S m sa] 33).var 1 (by simp) #[.int .i64 ki, .int .i64 i, .int .u64 (a : Int), .int .u64 (b : Int), .slice D dn dc, .slice W wn wc] 70).var 2 (by simp) #[.int .i64 0, .int .i64 0, .slice none 0 0, .int .u64 0, .slice none 0 0, .slice none 0 0] 33).var 3 (by simp) #[.int .u64 0, .slice none 0 0, .bool false] 81).var 4 (by simp) #[.int .u64 0, .slice none 0 0, .bool false] 81)
 have HA2 := Lib.hid (hA.out.later K2.out.bel)
 have HS2 := Lib.hid (h0.out.later K2.out.bel)
 have HT2 := Lib.hid (h1.out.later K2.out.bel)
 have HZ2 : Hid (w.heap.size + 5 ≤ w2.heap.size) := Lib.hid (by have := (K2.out.at_ (o := 4) (.head _)).1; omega)
 have HDK := fun w => disk_any ki w
 rw [hdk] at HDK
 clear hdk
 obtain ⟨_, ⟨c0, c1, c2, c3, c4, c5⟩, f0, f1, f2, f3, f4, f5⟩ := (K2.out.at_ (o := 0) (.tail _ (.tail _ (.tail _ (.tail _ (.head _)))))).six
 obtain ⟨_, ⟨a0, a1, a2, a3, a4, a5⟩, _⟩ := (K2.out.at_ (o := 1) (.tail _ (.tail _ (.tail _ (.head _))))).six
 obtain ⟨_, ⟨s0, s1, s2, s3, s4, s5⟩, g0, g1, g2, g3, g4, g5⟩ := (K2.out.at_ (o := 2) (.tail _ (.tail _ (.head _)))).six
 obtain ⟨_, t0, t1, t2, j0, j1, j2⟩ := (K2.out.at_ (o := 3) (.tail _ (.head _))).three
 obtain ⟨z4, u0, u1, u2, k0, k1, k2⟩ := (K2.out.at_ (o := 4) (.head _)).three
 have z0 := (K2.out.at_ (o := 0) (.tail _ (.tail _ (.tail _ (.tail _ (.head _)))))).1
 rw [Nat.add_zero] at c0 c1 c2 c3 c4 c5 f0 f1 f2 f3 f4 f5 z0
 go_enter Tryz.func34, Tryz.ntmps34
 go_wp2_with (go_at_call 73; (with_reducible refine (HDK _).mono ?_); rintro e w' ⟨rfl, rfl⟩)
 clear HDK
 try clear hw2
 have HB := K2.out.bel
 have RM2 := VarAt.room6 (K2.out.at_ (o := 2) (.tail _ (.tail _ (.head _))))
 have RM3 := VarAt.room3 (K2.out.at_ (o := 3) (.tail _ (.head _)))
 refine gen_world (fun x => EndD w [.int .i64 t, .int .i64 c, .slice A n k, .int .u64 (r : Int), .slice R m ra, .slice S m sa] [.int .u64 0, .slice none 0 0, .bool true] w2 x) (EndD.of (by repeat (first | with_reducible assumption | with_reducible refine Below.drew ?_ | (with_reducible refine below_set1 (by omega) _ ?_))) (VarAt.of6 (by simpa using z0) (by go_simp) (by go_simp) (by go_simp) (by go_simp) (by go_simp) (by go_simp) (by go_simp) (by go_simp) (by go_simp) (by go_simp) (by go_simp) (by go_simp) ) (VarAt.of3 (by simpa using z4) (by go_simp) (by go_simp) (by go_simp) (by go_simp) (by go_simp) (by go_simp) ) (by repeat (first | with_reducible assumption | with_reducible refine Room.apart ?_ _ _ _)) (by repeat (first | with_reducible assumption | with_reducible refine Room.apart ?_ _ _ _)) (by repeat (first | with_reducible exact Alike.refl _ _ _ | with_reducible refine Alike.drew ?_ | (with_reducible refine Alike.set ?_ _ _ _ (by omega) (by omega))))) ?_
 intro x hx
 clear c0 c1 c2 c3 c4 c5 f0 f1 f2 f3 f4 f5 a0 a1 a2 a3 a4 a5 s0 s1 s2 s3 s4 s5 g0 g1 g2 g3 g4 g5 t0 t1 t2 j0 j1 j2 u0 u1 u2 k0 k1 k2 z0 z4
 clear HB RM2 RM3
 have rD0 : ∀ w', EndD w [.int .i64 t, .int .i64 c, .slice A n k, .int .u64 (r : Int), .slice R m ra, .slice S m sa] [.int .u64 0, .slice none 0 0, .bool true] w2 w' → w'.cell? ⟨w.heap.size, 0, none⟩ = some (.int .i64 t) := fun w' h => h.c0 0 _ rfl
 have rE0 : ∀ w', EndD w [.int .i64 t, .int .i64 c, .slice A n k, .int .u64 (r : Int), .slice R m ra, .slice S m sa] [.int .u64 0, .slice none 0 0, .bool true] w2 w' → w'.cell? ⟨w.heap.size + 4, 0, none⟩ = some (.int .u64 0) := fun w' h => h.c4 0 _ rfl
 have r20 : ∀ w', EndD w [.int .i64 t, .int .i64 c, .slice A n k, .int .u64 (r : Int), .slice R m ra, .slice S m sa] [.int .u64 0, .slice none 0 0, .bool true] w2 w' → w'.cell? ⟨w.heap.size + 2, 0, none⟩ = some (cellV w' (w.heap.size + 2) 0) := fun w' h => h.r2 0 (by decide)
 have f20 : ∀ w', EndD w [.int .i64 t, .int .i64 c, .slice A n k, .int .u64 (r : Int), .slice R m ra, .slice S m sa] [.int .u64 0, .slice none 0 0, .bool true] w2 w' → w'.frozen? ⟨w.heap.size + 2, 0, none⟩ = false := fun w' h => h.f2 0 (by decide)
 have r30 : ∀ w', EndD w [.int .i64 t, .int .i64 c, .slice A n k, .int .u64 (r : Int), .slice R m ra, .slice S m sa] [.int .u64 0, .slice none 0 0, .bool true] w2 w' → w'.cell? ⟨w.heap.size + 3, 0, none⟩ = some (cellV w' (w.heap.size + 3) 0) := fun w' h => h.r3 0 (by decide)
 have f30 : ∀ w', EndD w [.int .i64 t, .int .i64 c, .slice A n k, .int .u64 (r : Int), .slice R m ra, .slice S m sa] [.int .u64 0, .slice none 0 0, .bool true] w2 w' → w'.frozen? ⟨w.heap.size + 3, 0, none⟩ = false := fun w' h => h.f3 0 (by decide)
 have rD1 : ∀ w', EndD w [.int .i64 t, .int .i64 c, .slice A n k, .int .u64 (r : Int), .slice R m ra, .slice S m sa] [.int .u64 0, .slice none 0 0, .bool true] w2 w' → w'.cell? ⟨w.heap.size, 1, none⟩ = some (.int .i64 c) := fun w' h => h.c0 1 _ rfl
 have rE1 : ∀ w', EndD w [.int .i64 t, .int .i64 c, .slice A n k, .int .u64 (r : Int), .slice R m ra, .slice S m sa] [.int .u64 0, .slice none 0 0, .bool true] w2 w' → w'.cell? ⟨w.heap.size + 4, 1, none⟩ = some (.slice none 0 0) := fun w' h => h.c4 1 _ rfl
 have r21 : ∀ w', EndD w [.int .i64 t, .int .i64 c, .slice A n k, .int .u64 (r : Int), .slice R m ra, .slice S m sa] [.int .u64 0, .slice none 0 0, .bool true] w2 w' → w'.cell? ⟨w.heap.size + 2, 1, none⟩ = some (cellV w' (w.heap.size + 2) 1) := fun w' h => h.r2 1 (by decide)
 have f21 : ∀ w', EndD w [.int .i64 t, .int .i64 c, .slice A n k, .int .u64 (r : Int), .slice R m ra, .slice S m sa] [.int .u64 0, .slice none 0 0, .bool true] w2 w' → w'.frozen? ⟨w.heap.size + 2, 1, none⟩ = false := fun w' h => h.f2 1 (by decide)
 have r31 : ∀ w', EndD w [.int .i64 t, .int .i64 c, .slice A n k, .int .u64 (r : Int), .slice R m ra, .slice S m sa] [.int .u64 0, .slice none 0 0, .bool true] w2 w' → w'.cell? ⟨w.heap.size + 3, 1, none⟩ = some (cellV w' (w.heap.size + 3) 1) := fun w' h => h.r3 1 (by decide)
 have f31 : ∀ w', EndD w [.int .i64 t, .int .i64 c, .slice A n k, .int .u64 (r : Int), .slice R m ra, .slice S m sa] [.int .u64 0, .slice none 0 0, .bool true] w2 w' → w'.frozen? ⟨w.heap.size + 3, 1, none⟩ = false := fun w' h => h.f3 1 (by decide)
 have rD2 : ∀ w', EndD w [.int .i64 t, .int .i64 c, .slice A n k, .int .u64 (r : Int), .slice R m ra, .slice S m sa] [.int .u64 0, .slice none 0 0, .bool true] w2 w' → w'.cell? ⟨w.heap.size, 2, none⟩ = some (.slice A n k) := fun w' h => h.c0 2 _ rfl
 have rE2 : ∀ w', EndD w [.int .i64 t, .int .i64 c, .slice A n k, .int .u64 (r : Int), .slice R m ra, .slice S m sa] [.int .u64 0, .slice none 0 0, .bool true] w2 w' → w'.cell? ⟨w.heap.size + 4, 2, none⟩ = some (.bool true) := fun w' h => h.c4 2 _ rfl
 have r22 : ∀ w', EndD w [.int .i64 t, .int .i64 c, .slice A n k, .int .u64 (r : Int), .slice R m ra, .slice S m sa] [.int .u64 0, .slice none 0 0, .bool true] w2 w' → w'.cell? ⟨w.heap.size + 2, 2, none⟩ = some (cellV w' (w.heap.size + 2) 2) := fun w' h => h.r2 2 (by decide)
 have f22 : ∀ w', EndD w [.int .i64 t, .int .i64 c, .slice A n k, .int .u64 (r : Int), .slice R m ra, .slice S m sa] [.int .u64 0, .slice none 0 0, .bool true] w2 w' → w'.frozen? ⟨w.heap.size + 2, 2, none⟩ = false := fun w' h => h.f2 2 (by decide)
 have r32 : ∀ w', EndD w [.int .i64 t, .int .i64 c, .slice A n k, .int .u64 (r : Int), .slice R m ra, .slice S m sa] [.int .u64 0, .slice none 0 0, .bool true] w2 w' → w'.cell? ⟨w.heap.size + 3, 2, none⟩ = some (cellV w' (w.heap.size + 3) 2) := fun w' h => h.r3 2 (by decide)
 have f32 : ∀ w', EndD w [.int .i64 t, .int .i64 c, .slice A n k, .int .u64 (r : Int), .slice R m ra, .slice S m sa] [.int .u64 0, .slice none 0 0, .bool true] w2 w' → w'.frozen? ⟨w.heap.size + 3, 2, none⟩ = false := fun w' h => h.f3 2 (by decide)
 have rD3 : ∀ w', EndD w [.int .i64 t, .int .i64 c, .slice A n k, .int .u64 (r : Int), .slice R m ra, .slice S m sa] [.int .u64 0, .slice none 0 0, .bool true] w2 w' → w'.cell? ⟨w.heap.size, 3, none⟩ = some (.int .u64 (r : Int)) := fun w' h => h.c0 3 _ rfl
 have r23 : ∀ w', EndD w [.int .i64 t, .int .i64 c, .slice A n k, .int .u64 (r : Int), .slice R m ra, .slice S m sa] [.int .u64 0, .slice none 0 0, .bool true] w2 w' → w'.cell? ⟨w.heap.size + 2, 3, none⟩ = some (cellV w' (w.heap.size + 2) 3) := fun w' h => h.r2 3 (by decide)
 have f23 : ∀ w', EndD w [.int .i64 t, .int .i64 c, .slice A n k, .int .u64 (r : Int), .slice R m ra, .slice S m sa] [.int .u64 0, .slice none 0 0, .bool true] w2 w' → w'.frozen? ⟨w.heap.size + 2, 3, none⟩ = false := fun w' h => h.f2 3 (by decide)
 have rD4 : ∀ w', EndD w [.int .i64 t, .int .i64 c, .slice A n k, .int .u64 (r : Int), .slice R m ra, .slice S m sa] [.int .u64 0, .slice none 0 0, .bool true] w2 w' → w'.cell? ⟨w.heap.size, 4, none⟩ = some (.slice R m ra) := fun w' h => h.c0 4 _ rfl
 have r24 : ∀ w', EndD w [.int .i64 t, .int .i64 c, .slice A n k, .int .u64 (r : Int), .slice R m ra, .slice S m sa] [.int .u64 0, .slice none 0 0, .bool true] w2 w' → w'.cell? ⟨w.heap.size + 2, 4, none⟩ = some (cellV w' (w.heap.size + 2) 4) := fun w' h => h.r2 4 (by decide)
 have f24 : ∀ w', EndD w [.int .i64 t, .int .i64 c, .slice A n k, .int .u64 (r : Int), .slice R m ra, .slice S m sa] [.int .u64 0, .slice none 0 0, .bool true] w2 w' → w'.frozen? ⟨w.heap.size + 2, 4, none⟩ = false := fun w' h => h.f2 4 (by decide)
 have rD5 : ∀ w', EndD w [.int .i64 t, .int .i64 c, .slice A n k, .int .u64 (r : Int), .slice R m ra, .slice S m sa] [.int .u64 0, .slice none 0 0, .bool true] w2 w' → w'.cell? ⟨w.heap.size, 5, none⟩ = some (.slice S m sa) := fun w' h => h.c0 5 _ rfl
 have r25 : ∀ w', EndD w [.int .i64 t, .int .i64 c, .slice A n k, .int .u64 (r : Int), .slice R m ra, .slice S m sa] [.int .u64 0, .slice none 0 0, .bool true] w2 w' → w'.cell? ⟨w.heap.size + 2, 5, none⟩ = some (cellV w' (w.heap.size + 2) 5) := fun w' h => h.r2 5 (by decide)
 have f25 : ∀ w', EndD w [.int .i64 t, .int .i64 c, .slice A n k, .int .u64 (r : Int), .slice R m ra, .slice S m sa] [.int .u64 0, .slice none 0 0, .bool true] w2 w' → w'.frozen? ⟨w.heap.size + 2, 5, none⟩ = false := fun w' h => h.f2 5 (by decide)
 have HX := Lib.hid hx
 first | (go_region_held3 (fun w' => EndD w [.int .i64 t, .int .i64 c, .slice A n k, .int .u64 (r : Int), .slice R m ra, .slice S m sa] [.int .u64 0, .slice none 0 0, .bool true] w2 w') (repeat (first | with_reducible assumption | with_reducible refine EndD.drew ?_ | with_reducible refine EndD.set3 ?_ _ _ | with_reducible refine EndD.set2 ?_ _ _)) (fail)) | fail
 all_goals
  go_wp2_with fail
  have q20 := r20 x HX.out
  have q21 := r21 x HX.out
  have q22 := r22 x HX.out
  have q23 := r23 x HX.out
  have q24 := r24 x HX.out
  have q25 := r25 x HX.out
  have q30 := r30 x HX.out
  have q31 := r31 x HX.out
  have q32 := r32 x HX.out
  exact bodyPost_ret (v := .tuple #[.agg #[.int .i64 t, .int .i64 c, .slice A n k, .int .u64 (r : Int), .slice R m ra, .slice S m sa], .agg #[.int .u64 0, .slice none 0 0, .bool true]]) (by simp [results, Tryz.results34, go_sem, q20, q21, q22, q23, q24, q25, q30, q31, q32]) rfl (endD_fin (dk := [.int .i64 t, .int .i64 c, .slice A n k, .int .u64 (r : Int), .slice R m ra, .slice S m sa]) (res := [.int .u64 0, .slice none 0 0, .bool true]) (y := w2) (by assumption) HZ2.out K2.out.bel hA.out h0.out h1.out HA2.out HS2.out HT2.out (Nat.le_refl _) (AtB.nil _ _) (fun P hF g hA hB => ⟨g, hA, hB, OffW.nil P _⟩))
set_option maxHeartbeats 4000000 in
theorem do_disk (hdk : diskB ki = true) (fa : Bool) (hfa : fa = false) (ys : List Nat) (r1 N : Nat) (P0 P1 : List Stm) (xs : List Nat) (hc : ∀ w, Hid (StmsAt w R m l0) → Hid (StmsAt w S m l1) → Hid (AtB w D dn ys) → Calls Tryz.prog 74 #[.agg #[.int .u64 (r : Int), .slice R m ra, .slice S m sa], .int .i64 me, .agg #[.int .i64 ki, .int .i64 i, .int .u64 (a : Int), .int .u64 (b : Int), .slice D dn dc, .slice W wn wc]] w (DiskW w r1 R S m P0 P1 N xs)) (w : World) (hA : Hid (AtW w A n F)) (h0 : Hid (StmsAt w R m l0)) (h1 : Hid (StmsAt w S m l1)) (hD : Hid (AtB w D dn ys)) :
  Calls Tryz.prog 34 #[.agg #[.int .i64 t, .int .i64 c, .slice A n k, .int .u64 (r : Int), .slice R m ra, .slice S m sa], .int .i64 me, .agg #[.int .i64 ki, .int .i64 i, .int .u64 (a : Int), .int .u64 (b : Int), .slice D dn dc, .slice W wn wc], .bool fa] w (DoW w t c A n r1 R S m F P0 P1 N xs false) := by
 obtain ⟨w2, hw2⟩ : ∃ x, (((((w.alloc (.cells #[.int .i64 t, .int .i64 c, .slice A n k, .int .u64 (r : Int), .slice R m ra, .slice S m sa] 33)).alloc (.cells #[.int .i64 ki, .int .i64 i, .int .u64 (a : Int), .int .u64 (b : Int), .slice D dn dc, .slice W wn wc] 70)).alloc (.cells #[.int .i64 0, .int .i64 0, .slice none 0 0, .int .u64 0, .slice none 0 0, .slice none 0 0] 33)).alloc (.cells #[.int .u64 0, .slice none 0 0, .bool false] 81)).alloc (.cells #[.int .u64 0, .slice none 0 0, .bool false] 81)) = x := ⟨_, rfl⟩
 have K2 : Hid (Kp w [(4, [.int .u64 0, .slice none 0 0, .bool false]), (3, [.int .u64 0, .slice none 0 0, .bool false]), (2, [.int .i64 0, .int .i64 0, .slice none 0 0, .int .u64 0, .slice none 0 0, .slice none 0 0]), (1, [.int .i64 ki, .int .i64 i, .int .u64 (a : Int), .int .u64 (b : Int), .slice D dn dc, .slice W wn wc]), (0, [.int .i64 t, .int .i64 c, .slice A n k, .int .u64 (r : Int), .slice R m ra, .slice S m sa])] [] w2) := Lib.hid (by
  rw [← hw2]
  exact (((((Kp.nil w).var 0 rfl #[.int .i64 t, .int .i64 c, .slice A n k, .int .u64 (r : Int), .slice R m ra, .slice S m sa] 33).var 1 (by simp) #[.int .i64 ki, .int .i64 i, .int .u64 (a : Int), .int .u64 (b : Int), .slice D dn dc, .slice W wn wc] 70).var 2 (by simp) #[.int .i64 0, .int .i64 0, .slice none 0 0, .int .u64 0, .slice none 0 0, .slice none 0 0] 33).var 3 (by simp) #[.int .u64 0, .slice none 0 0, .bool false] 81).var 4 (by simp) #[.int .u64 0, .slice none 0 0, .bool false] 81)
 have HA2 := Lib.hid (hA.out.later K2.out.bel)
 have HS2 := Lib.hid (h0.out.later K2.out.bel)
 have HT2 := Lib.hid (h1.out.later K2.out.bel)
 have HZ2 : Hid (w.heap.size + 5 ≤ w2.heap.size) := Lib.hid (by have := (K2.out.at_ (o := 4) (.head _)).1; omega)
 subst hfa
 have HDK := fun w => disk_any ki w
 rw [hdk] at HDK
 clear hdk
 obtain ⟨_, ⟨c0, c1, c2, c3, c4, c5⟩, f0, f1, f2, f3, f4, f5⟩ := (K2.out.at_ (o := 0) (.tail _ (.tail _ (.tail _ (.tail _ (.head _)))))).six
 obtain ⟨_, ⟨a0, a1, a2, a3, a4, a5⟩, _⟩ := (K2.out.at_ (o := 1) (.tail _ (.tail _ (.tail _ (.head _))))).six
 obtain ⟨_, ⟨s0, s1, s2, s3, s4, s5⟩, g0, g1, g2, g3, g4, g5⟩ := (K2.out.at_ (o := 2) (.tail _ (.tail _ (.head _)))).six
 obtain ⟨_, t0, t1, t2, j0, j1, j2⟩ := (K2.out.at_ (o := 3) (.tail _ (.head _))).three
 obtain ⟨z4, u0, u1, u2, k0, k1, k2⟩ := (K2.out.at_ (o := 4) (.head _)).three
 have z0 := (K2.out.at_ (o := 0) (.tail _ (.tail _ (.tail _ (.tail _ (.head _)))))).1
 rw [Nat.add_zero] at c0 c1 c2 c3 c4 c5 f0 f1 f2 f3 f4 f5 z0
 go_enter Tryz.func34, Tryz.ntmps34
 go_wp2_with (go_at_call 73; (with_reducible refine (HDK _).mono ?_); rintro e w' ⟨rfl, rfl⟩)
 clear HDK
 try clear hw2
 (with_reducible refine (hc _ HS2 HT2 (Lib.hid (AtB.later hD K2.out.bel))).mono ?_)
 rintro e w3 ⟨R3, ra3, S3, sa3, X3, k3, rfl, hs0, hs1, hk3, hat3, hb3, hP3⟩
 have K3 := Lib.hid (K2.out.later hb3)
 clear c0 c1 c2 c3 c4 c5 f0 f1 f2 f3 f4 f5 a0 a1 a2 a3 a4 a5 s0 s1 s2 s3 s4 s5 g0 g1 g2 g3 g4 g5 t0 t1 t2 j0 j1 j2 u0 u1 u2 k0 k1 k2 z0 z4
 have HA3 := Lib.hid (HA2.out.later hb3)
 have HS3 := Lib.hid hs0
 have HT3 := Lib.hid hs1
 have HK3 := Lib.hid hk3
 have HAT3 := Lib.hid hat3
 have HP3 := Lib.hid hP3
 clear hs0 hs1 hk3 hat3 hb3 hP3
 obtain ⟨_, ⟨c0, c1, c2, c3, c4, c5⟩, f0, f1, f2, f3, f4, f5⟩ := (K3.out.at_ (o := 0) (.tail _ (.tail _ (.tail _ (.tail _ (.head _)))))).six
 obtain ⟨_, ⟨a0, a1, a2, a3, a4, a5⟩, _⟩ := (K3.out.at_ (o := 1) (.tail _ (.tail _ (.tail _ (.head _))))).six
 obtain ⟨_, ⟨s0, s1, s2, s3, s4, s5⟩, g0, g1, g2, g3, g4, g5⟩ := (K3.out.at_ (o := 2) (.tail _ (.tail _ (.head _)))).six
 obtain ⟨_, t0, t1, t2, j0, j1, j2⟩ := (K3.out.at_ (o := 3) (.tail _ (.head _))).three
 obtain ⟨z4, u0, u1, u2, k0, k1, k2⟩ := (K3.out.at_ (o := 4) (.head _)).three
 have z0 := (K3.out.at_ (o := 0) (.tail _ (.tail _ (.tail _ (.tail _ (.head _)))))).1
 rw [Nat.add_zero] at c0 c1 c2 c3 c4 c5 f0 f1 f2 f3 f4 f5 z0
 go_wp2_with fail
 have HB := K3.out.bel
 have RM2 := VarAt.room6 (K3.out.at_ (o := 2) (.tail _ (.tail _ (.head _))))
 have RM3 := VarAt.room3 (K3.out.at_ (o := 3) (.tail _ (.head _)))
 refine gen_world (fun x => EndD w [.int .i64 t, .int .i64 c, .slice A n k, .int .u64 (r1 : Int), .slice R3 m ra3, .slice S3 m sa3] [.int .u64 (N : Int), .slice X3 xs.length k3, .bool false] w3 x) (EndD.of (by repeat (first | with_reducible assumption | with_reducible refine Below.drew ?_ | (with_reducible refine below_set1 (by omega) _ ?_))) (VarAt.of6 (by simpa using z0) (by go_simp) (by go_simp) (by go_simp) (by go_simp) (by go_simp) (by go_simp) (by go_simp) (by go_simp) (by go_simp) (by go_simp) (by go_simp) (by go_simp) ) (VarAt.of3 (by simpa using z4) (by go_simp) (by go_simp) (by go_simp) (by go_simp) (by go_simp) (by go_simp) ) (by repeat (first | with_reducible assumption | with_reducible refine Room.apart ?_ _ _ _)) (by repeat (first | with_reducible assumption | with_reducible refine Room.apart ?_ _ _ _)) (by repeat (first | with_reducible exact Alike.refl _ _ _ | with_reducible refine Alike.drew ?_ | (with_reducible refine Alike.set ?_ _ _ _ (by omega) (by omega))))) ?_
 intro x hx
 clear c0 c1 c2 c3 c4 c5 f0 f1 f2 f3 f4 f5 a0 a1 a2 a3 a4 a5 s0 s1 s2 s3 s4 s5 g0 g1 g2 g3 g4 g5 t0 t1 t2 j0 j1 j2 u0 u1 u2 k0 k1 k2 z0 z4
 clear HB RM2 RM3
 have rD0 : ∀ w', EndD w [.int .i64 t, .int .i64 c, .slice A n k, .int .u64 (r1 : Int), .slice R3 m ra3, .slice S3 m sa3] [.int .u64 (N : Int), .slice X3 xs.length k3, .bool false] w3 w' → w'.cell? ⟨w.heap.size, 0, none⟩ = some (.int .i64 t) := fun w' h => h.c0 0 _ rfl
 have rE0 : ∀ w', EndD w [.int .i64 t, .int .i64 c, .slice A n k, .int .u64 (r1 : Int), .slice R3 m ra3, .slice S3 m sa3] [.int .u64 (N : Int), .slice X3 xs.length k3, .bool false] w3 w' → w'.cell? ⟨w.heap.size + 4, 0, none⟩ = some (.int .u64 (N : Int)) := fun w' h => h.c4 0 _ rfl
 have r20 : ∀ w', EndD w [.int .i64 t, .int .i64 c, .slice A n k, .int .u64 (r1 : Int), .slice R3 m ra3, .slice S3 m sa3] [.int .u64 (N : Int), .slice X3 xs.length k3, .bool false] w3 w' → w'.cell? ⟨w.heap.size + 2, 0, none⟩ = some (cellV w' (w.heap.size + 2) 0) := fun w' h => h.r2 0 (by decide)
 have f20 : ∀ w', EndD w [.int .i64 t, .int .i64 c, .slice A n k, .int .u64 (r1 : Int), .slice R3 m ra3, .slice S3 m sa3] [.int .u64 (N : Int), .slice X3 xs.length k3, .bool false] w3 w' → w'.frozen? ⟨w.heap.size + 2, 0, none⟩ = false := fun w' h => h.f2 0 (by decide)
 have r30 : ∀ w', EndD w [.int .i64 t, .int .i64 c, .slice A n k, .int .u64 (r1 : Int), .slice R3 m ra3, .slice S3 m sa3] [.int .u64 (N : Int), .slice X3 xs.length k3, .bool false] w3 w' → w'.cell? ⟨w.heap.size + 3, 0, none⟩ = some (cellV w' (w.heap.size + 3) 0) := fun w' h => h.r3 0 (by decide)
 have f30 : ∀ w', EndD w [.int .i64 t, .int .i64 c, .slice A n k, .int .u64 (r1 : Int), .slice R3 m ra3, .slice S3 m sa3] [.int .u64 (N : Int), .slice X3 xs.length k3, .bool false] w3 w' → w'.frozen? ⟨w.heap.size + 3, 0, none⟩ = false := fun w' h => h.f3 0 (by decide)
 have rD1 : ∀ w', EndD w [.int .i64 t, .int .i64 c, .slice A n k, .int .u64 (r1 : Int), .slice R3 m ra3, .slice S3 m sa3] [.int .u64 (N : Int), .slice X3 xs.length k3, .bool false] w3 w' → w'.cell? ⟨w.heap.size, 1, none⟩ = some (.int .i64 c) := fun w' h => h.c0 1 _ rfl
 have rE1 : ∀ w', EndD w [.int .i64 t, .int .i64 c, .slice A n k, .int .u64 (r1 : Int), .slice R3 m ra3, .slice S3 m sa3] [.int .u64 (N : Int), .slice X3 xs.length k3, .bool false] w3 w' → w'.cell? ⟨w.heap.size + 4, 1, none⟩ = some (.slice X3 xs.length k3) := fun w' h => h.c4 1 _ rfl
 have r21 : ∀ w', EndD w [.int .i64 t, .int .i64 c, .slice A n k, .int .u64 (r1 : Int), .slice R3 m ra3, .slice S3 m sa3] [.int .u64 (N : Int), .slice X3 xs.length k3, .bool false] w3 w' → w'.cell? ⟨w.heap.size + 2, 1, none⟩ = some (cellV w' (w.heap.size + 2) 1) := fun w' h => h.r2 1 (by decide)
 have f21 : ∀ w', EndD w [.int .i64 t, .int .i64 c, .slice A n k, .int .u64 (r1 : Int), .slice R3 m ra3, .slice S3 m sa3] [.int .u64 (N : Int), .slice X3 xs.length k3, .bool false] w3 w' → w'.frozen? ⟨w.heap.size + 2, 1, none⟩ = false := fun w' h => h.f2 1 (by decide)
 have r31 : ∀ w', EndD w [.int .i64 t, .int .i64 c, .slice A n k, .int .u64 (r1 : Int), .slice R3 m ra3, .slice S3 m sa3] [.int .u64 (N : Int), .slice X3 xs.length k3, .bool false] w3 w' → w'.cell? ⟨w.heap.size + 3, 1, none⟩ = some (cellV w' (w.heap.size + 3) 1) := fun w' h => h.r3 1 (by decide)
 have f31 : ∀ w', EndD w [.int .i64 t, .int .i64 c, .slice A n k, .int .u64 (r1 : Int), .slice R3 m ra3, .slice S3 m sa3] [.int .u64 (N : Int), .slice X3 xs.length k3, .bool false] w3 w' → w'.frozen? ⟨w.heap.size + 3, 1, none⟩ = false := fun w' h => h.f3 1 (by decide)
 have rD2 : ∀ w', EndD w [.int .i64 t, .int .i64 c, .slice A n k, .int .u64 (r1 : Int), .slice R3 m ra3, .slice S3 m sa3] [.int .u64 (N : Int), .slice X3 xs.length k3, .bool false] w3 w' → w'.cell? ⟨w.heap.size, 2, none⟩ = some (.slice A n k) := fun w' h => h.c0 2 _ rfl
 have rE2 : ∀ w', EndD w [.int .i64 t, .int .i64 c, .slice A n k, .int .u64 (r1 : Int), .slice R3 m ra3, .slice S3 m sa3] [.int .u64 (N : Int), .slice X3 xs.length k3, .bool false] w3 w' → w'.cell? ⟨w.heap.size + 4, 2, none⟩ = some (.bool false) := fun w' h => h.c4 2 _ rfl
 have r22 : ∀ w', EndD w [.int .i64 t, .int .i64 c, .slice A n k, .int .u64 (r1 : Int), .slice R3 m ra3, .slice S3 m sa3] [.int .u64 (N : Int), .slice X3 xs.length k3, .bool false] w3 w' → w'.cell? ⟨w.heap.size + 2, 2, none⟩ = some (cellV w' (w.heap.size + 2) 2) := fun w' h => h.r2 2 (by decide)
 have f22 : ∀ w', EndD w [.int .i64 t, .int .i64 c, .slice A n k, .int .u64 (r1 : Int), .slice R3 m ra3, .slice S3 m sa3] [.int .u64 (N : Int), .slice X3 xs.length k3, .bool false] w3 w' → w'.frozen? ⟨w.heap.size + 2, 2, none⟩ = false := fun w' h => h.f2 2 (by decide)
 have r32 : ∀ w', EndD w [.int .i64 t, .int .i64 c, .slice A n k, .int .u64 (r1 : Int), .slice R3 m ra3, .slice S3 m sa3] [.int .u64 (N : Int), .slice X3 xs.length k3, .bool false] w3 w' → w'.cell? ⟨w.heap.size + 3, 2, none⟩ = some (cellV w' (w.heap.size + 3) 2) := fun w' h => h.r3 2 (by decide)
 have f32 : ∀ w', EndD w [.int .i64 t, .int .i64 c, .slice A n k, .int .u64 (r1 : Int), .slice R3 m ra3, .slice S3 m sa3] [.int .u64 (N : Int), .slice X3 xs.length k3, .bool false] w3 w' → w'.frozen? ⟨w.heap.size + 3, 2, none⟩ = false := fun w' h => h.f3 2 (by decide)
 have rD3 : ∀ w', EndD w [.int .i64 t, .int .i64 c, .slice A n k, .int .u64 (r1 : Int), .slice R3 m ra3, .slice S3 m sa3] [.int .u64 (N : Int), .slice X3 xs.length k3, .bool false] w3 w' → w'.cell? ⟨w.heap.size, 3, none⟩ = some (.int .u64 (r1 : Int)) := fun w' h => h.c0 3 _ rfl
 have r23 : ∀ w', EndD w [.int .i64 t, .int .i64 c, .slice A n k, .int .u64 (r1 : Int), .slice R3 m ra3, .slice S3 m sa3] [.int .u64 (N : Int), .slice X3 xs.length k3, .bool false] w3 w' → w'.cell? ⟨w.heap.size + 2, 3, none⟩ = some (cellV w' (w.heap.size + 2) 3) := fun w' h => h.r2 3 (by decide)
 have f23 : ∀ w', EndD w [.int .i64 t, .int .i64 c, .slice A n k, .int .u64 (r1 : Int), .slice R3 m ra3, .slice S3 m sa3] [.int .u64 (N : Int), .slice X3 xs.length k3, .bool false] w3 w' → w'.frozen? ⟨w.heap.size + 2, 3, none⟩ = false := fun w' h => h.f2 3 (by decide)
 have rD4 : ∀ w', EndD w [.int .i64 t, .int .i64 c, .slice A n k, .int .u64 (r1 : Int), .slice R3 m ra3, .slice S3 m sa3] [.int .u64 (N : Int), .slice X3 xs.length k3, .bool false] w3 w' → w'.cell? ⟨w.heap.size, 4, none⟩ = some (.slice R3 m ra3) := fun w' h => h.c0 4 _ rfl
 have r24 : ∀ w', EndD w [.int .i64 t, .int .i64 c, .slice A n k, .int .u64 (r1 : Int), .slice R3 m ra3, .slice S3 m sa3] [.int .u64 (N : Int), .slice X3 xs.length k3, .bool false] w3 w' → w'.cell? ⟨w.heap.size + 2, 4, none⟩ = some (cellV w' (w.heap.size + 2) 4) := fun w' h => h.r2 4 (by decide)
 have f24 : ∀ w', EndD w [.int .i64 t, .int .i64 c, .slice A n k, .int .u64 (r1 : Int), .slice R3 m ra3, .slice S3 m sa3] [.int .u64 (N : Int), .slice X3 xs.length k3, .bool false] w3 w' → w'.frozen? ⟨w.heap.size + 2, 4, none⟩ = false := fun w' h => h.f2 4 (by decide)
 have rD5 : ∀ w', EndD w [.int .i64 t, .int .i64 c, .slice A n k, .int .u64 (r1 : Int), .slice R3 m ra3, .slice S3 m sa3] [.int .u64 (N : Int), .slice X3 xs.length k3, .bool false] w3 w' → w'.cell? ⟨w.heap.size, 5, none⟩ = some (.slice S3 m sa3) := fun w' h => h.c0 5 _ rfl
 have r25 : ∀ w', EndD w [.int .i64 t, .int .i64 c, .slice A n k, .int .u64 (r1 : Int), .slice R3 m ra3, .slice S3 m sa3] [.int .u64 (N : Int), .slice X3 xs.length k3, .bool false] w3 w' → w'.cell? ⟨w.heap.size + 2, 5, none⟩ = some (cellV w' (w.heap.size + 2) 5) := fun w' h => h.r2 5 (by decide)
 have f25 : ∀ w', EndD w [.int .i64 t, .int .i64 c, .slice A n k, .int .u64 (r1 : Int), .slice R3 m ra3, .slice S3 m sa3] [.int .u64 (N : Int), .slice X3 xs.length k3, .bool false] w3 w' → w'.frozen? ⟨w.heap.size + 2, 5, none⟩ = false := fun w' h => h.f2 5 (by decide)
 have HX := Lib.hid hx
 first | (go_region_held3 (fun w' => EndD w [.int .i64 t, .int .i64 c, .slice A n k, .int .u64 (r1 : Int), .slice R3 m ra3, .slice S3 m sa3] [.int .u64 (N : Int), .slice X3 xs.length k3, .bool false] w3 w') (repeat (first | with_reducible assumption | with_reducible refine EndD.drew ?_ | with_reducible refine EndD.set3 ?_ _ _ | with_reducible refine EndD.set2 ?_ _ _)) (fail)) | fail
 all_goals
  go_wp2_with fail
  have q20 := r20 x HX.out
  have q21 := r21 x HX.out
  have q22 := r22 x HX.out
  have q23 := r23 x HX.out
  have q24 := r24 x HX.out
  have q25 := r25 x HX.out
  have q30 := r30 x HX.out
  have q31 := r31 x HX.out
  have q32 := r32 x HX.out
  exact bodyPost_ret (v := .tuple #[.agg #[.int .i64 t, .int .i64 c, .slice A n k, .int .u64 (r1 : Int), .slice R3 m ra3, .slice S3 m sa3], .agg #[.int .u64 (N : Int), .slice X3 xs.length k3, .bool false]]) (by simp [results, Tryz.results34, go_sem, q20, q21, q22, q23, q24, q25, q30, q31, q32]) rfl (endD_fin (dk := [.int .i64 t, .int .i64 c, .slice A n k, .int .u64 (r1 : Int), .slice R3 m ra3, .slice S3 m sa3]) (res := [.int .u64 (N : Int), .slice X3 xs.length k3, .bool false]) (y := w3) (by assumption) HZ2.out K2.out.bel hA.out h0.out h1.out HA3.out HS3.out HT3.out HK3.out HAT3.out (fun P hF g hA hB => ⟨g, HP3.out P hF hA hB⟩))
set_option maxHeartbeats 4000000 in
theorem do_word (hdk : diskB ki = false) (hk13 : (ki == 13) = false) (fa : Bool) (G : Nat → Nat) (told : Nat) (hc : ∀ w, Hid (AtW w A n F) → Calls Tryz.prog 76 #[.agg #[.int .i64 t, .int .i64 c, .slice A n k], .agg #[.int .i64 ki, .int .i64 i, .int .u64 (a : Int), .int .u64 (b : Int), .slice D dn dc, .slice W wn wc]] w (WordW w t c A n G told)) (w : World) (hA : Hid (AtW w A n F)) (h0 : Hid (StmsAt w R m l0)) (h1 : Hid (StmsAt w S m l1))  :
  Calls Tryz.prog 34 #[.agg #[.int .i64 t, .int .i64 c, .slice A n k, .int .u64 (r : Int), .slice R m ra, .slice S m sa], .int .i64 me, .agg #[.int .i64 ki, .int .i64 i, .int .u64 (a : Int), .int .u64 (b : Int), .slice D dn dc, .slice W wn wc], .bool fa] w (DoW w t c A n r R S m G l0 l1 told [] false) := by
 obtain ⟨w2, hw2⟩ : ∃ x, (((((w.alloc (.cells #[.int .i64 t, .int .i64 c, .slice A n k, .int .u64 (r : Int), .slice R m ra, .slice S m sa] 33)).alloc (.cells #[.int .i64 ki, .int .i64 i, .int .u64 (a : Int), .int .u64 (b : Int), .slice D dn dc, .slice W wn wc] 70)).alloc (.cells #[.int .i64 0, .int .i64 0, .slice none 0 0, .int .u64 0, .slice none 0 0, .slice none 0 0] 33)).alloc (.cells #[.int .u64 0, .slice none 0 0, .bool false] 81)).alloc (.cells #[.int .u64 0, .slice none 0 0, .bool false] 81)) = x := ⟨_, rfl⟩
 have K2 : Hid (Kp w [(4, [.int .u64 0, .slice none 0 0, .bool false]), (3, [.int .u64 0, .slice none 0 0, .bool false]), (2, [.int .i64 0, .int .i64 0, .slice none 0 0, .int .u64 0, .slice none 0 0, .slice none 0 0]), (1, [.int .i64 ki, .int .i64 i, .int .u64 (a : Int), .int .u64 (b : Int), .slice D dn dc, .slice W wn wc]), (0, [.int .i64 t, .int .i64 c, .slice A n k, .int .u64 (r : Int), .slice R m ra, .slice S m sa])] [] w2) := Lib.hid (by
  rw [← hw2]
  exact (((((Kp.nil w).var 0 rfl #[.int .i64 t, .int .i64 c, .slice A n k, .int .u64 (r : Int), .slice R m ra, .slice S m sa] 33).var 1 (by simp) #[.int .i64 ki, .int .i64 i, .int .u64 (a : Int), .int .u64 (b : Int), .slice D dn dc, .slice W wn wc] 70).var 2 (by simp) #[.int .i64 0, .int .i64 0, .slice none 0 0, .int .u64 0, .slice none 0 0, .slice none 0 0] 33).var 3 (by simp) #[.int .u64 0, .slice none 0 0, .bool false] 81).var 4 (by simp) #[.int .u64 0, .slice none 0 0, .bool false] 81)
 have HA2 := Lib.hid (hA.out.later K2.out.bel)
 have HS2 := Lib.hid (h0.out.later K2.out.bel)
 have HT2 := Lib.hid (h1.out.later K2.out.bel)
 have HZ2 : Hid (w.heap.size + 5 ≤ w2.heap.size) := Lib.hid (by have := (K2.out.at_ (o := 4) (.head _)).1; omega)
 have HDK := fun w => disk_any ki w
 rw [hdk] at HDK
 clear hdk
 obtain ⟨_, ⟨c0, c1, c2, c3, c4, c5⟩, f0, f1, f2, f3, f4, f5⟩ := (K2.out.at_ (o := 0) (.tail _ (.tail _ (.tail _ (.tail _ (.head _)))))).six
 obtain ⟨_, ⟨a0, a1, a2, a3, a4, a5⟩, _⟩ := (K2.out.at_ (o := 1) (.tail _ (.tail _ (.tail _ (.head _))))).six
 obtain ⟨_, ⟨s0, s1, s2, s3, s4, s5⟩, g0, g1, g2, g3, g4, g5⟩ := (K2.out.at_ (o := 2) (.tail _ (.tail _ (.head _)))).six
 obtain ⟨_, t0, t1, t2, j0, j1, j2⟩ := (K2.out.at_ (o := 3) (.tail _ (.head _))).three
 obtain ⟨z4, u0, u1, u2, k0, k1, k2⟩ := (K2.out.at_ (o := 4) (.head _)).three
 have z0 := (K2.out.at_ (o := 0) (.tail _ (.tail _ (.tail _ (.tail _ (.head _)))))).1
 rw [Nat.add_zero] at c0 c1 c2 c3 c4 c5 f0 f1 f2 f3 f4 f5 z0
 go_enter Tryz.func34, Tryz.ntmps34
 go_wp2_with (go_at_call 73; (with_reducible refine (HDK _).mono ?_); rintro e w' ⟨rfl, rfl⟩)
 clear HDK
 try clear hw2
 (with_reducible refine (hc _ HA2).mono ?_)
 rintro e w3 ⟨A3, k3, rfl, ha3, hb3, hP3⟩
 have K3 := Lib.hid (K2.out.later hb3)
 clear c0 c1 c2 c3 c4 c5 f0 f1 f2 f3 f4 f5 a0 a1 a2 a3 a4 a5 s0 s1 s2 s3 s4 s5 g0 g1 g2 g3 g4 g5 t0 t1 t2 j0 j1 j2 u0 u1 u2 k0 k1 k2 z0 z4
 have HA3 := Lib.hid ha3
 have HS3 := Lib.hid (HS2.out.later hb3)
 have HT3 := Lib.hid (HT2.out.later hb3)
 have HB3 := Lib.hid hb3
 have HP3 := Lib.hid hP3
 clear ha3 hb3 hP3
 obtain ⟨_, ⟨c0, c1, c2, c3, c4, c5⟩, f0, f1, f2, f3, f4, f5⟩ := (K3.out.at_ (o := 0) (.tail _ (.tail _ (.tail _ (.tail _ (.head _)))))).six
 obtain ⟨_, ⟨a0, a1, a2, a3, a4, a5⟩, _⟩ := (K3.out.at_ (o := 1) (.tail _ (.tail _ (.tail _ (.head _))))).six
 obtain ⟨_, ⟨s0, s1, s2, s3, s4, s5⟩, g0, g1, g2, g3, g4, g5⟩ := (K3.out.at_ (o := 2) (.tail _ (.tail _ (.head _)))).six
 obtain ⟨_, t0, t1, t2, j0, j1, j2⟩ := (K3.out.at_ (o := 3) (.tail _ (.head _))).three
 obtain ⟨z4, u0, u1, u2, k0, k1, k2⟩ := (K3.out.at_ (o := 4) (.head _)).three
 have z0 := (K3.out.at_ (o := 0) (.tail _ (.tail _ (.tail _ (.tail _ (.head _)))))).1
 rw [Nat.add_zero] at c0 c1 c2 c3 c4 c5 f0 f1 f2 f3 f4 f5 z0
 go_wp2_with fail
 have HB := K3.out.bel
 have RM2 := VarAt.room6 (K3.out.at_ (o := 2) (.tail _ (.tail _ (.head _))))
 have RM3 := VarAt.room3 (K3.out.at_ (o := 3) (.tail _ (.head _)))
 refine gen_world (fun x => EndD w [.int .i64 t, .int .i64 c, .slice A3 n k3, .int .u64 (r : Int), .slice R m ra, .slice S m sa] [.int .u64 (told : Int), .slice none 0 0, .bool false] w3 x) (EndD.of (by repeat (first | with_reducible assumption | with_reducible refine Below.drew ?_ | (with_reducible refine below_set1 (by omega) _ ?_))) (VarAt.of6 (by simpa using z0) (by go_simp) (by go_simp) (by go_simp) (by go_simp) (by go_simp) (by go_simp) (by go_simp) (by go_simp) (by go_simp) (by go_simp) (by go_simp) (by go_simp) ) (VarAt.of3 (by simpa using z4) (by go_simp) (by go_simp) (by go_simp) (by go_simp) (by go_simp) (by go_simp) ) (by repeat (first | with_reducible assumption | with_reducible refine Room.apart ?_ _ _ _)) (by repeat (first | with_reducible assumption | with_reducible refine Room.apart ?_ _ _ _)) (by repeat (first | with_reducible exact Alike.refl _ _ _ | with_reducible refine Alike.drew ?_ | (with_reducible refine Alike.set ?_ _ _ _ (by omega) (by omega))))) ?_
 intro x hx
 clear c0 c1 c2 c3 c4 c5 f0 f1 f2 f3 f4 f5 a0 a1 a2 a3 a4 a5 s0 s1 s2 s3 s4 s5 g0 g1 g2 g3 g4 g5 t0 t1 t2 j0 j1 j2 u0 u1 u2 k0 k1 k2 z0 z4
 clear HB RM2 RM3
 have rD0 : ∀ w', EndD w [.int .i64 t, .int .i64 c, .slice A3 n k3, .int .u64 (r : Int), .slice R m ra, .slice S m sa] [.int .u64 (told : Int), .slice none 0 0, .bool false] w3 w' → w'.cell? ⟨w.heap.size, 0, none⟩ = some (.int .i64 t) := fun w' h => h.c0 0 _ rfl
 have rE0 : ∀ w', EndD w [.int .i64 t, .int .i64 c, .slice A3 n k3, .int .u64 (r : Int), .slice R m ra, .slice S m sa] [.int .u64 (told : Int), .slice none 0 0, .bool false] w3 w' → w'.cell? ⟨w.heap.size + 4, 0, none⟩ = some (.int .u64 (told : Int)) := fun w' h => h.c4 0 _ rfl
 have r20 : ∀ w', EndD w [.int .i64 t, .int .i64 c, .slice A3 n k3, .int .u64 (r : Int), .slice R m ra, .slice S m sa] [.int .u64 (told : Int), .slice none 0 0, .bool false] w3 w' → w'.cell? ⟨w.heap.size + 2, 0, none⟩ = some (cellV w' (w.heap.size + 2) 0) := fun w' h => h.r2 0 (by decide)
 have f20 : ∀ w', EndD w [.int .i64 t, .int .i64 c, .slice A3 n k3, .int .u64 (r : Int), .slice R m ra, .slice S m sa] [.int .u64 (told : Int), .slice none 0 0, .bool false] w3 w' → w'.frozen? ⟨w.heap.size + 2, 0, none⟩ = false := fun w' h => h.f2 0 (by decide)
 have r30 : ∀ w', EndD w [.int .i64 t, .int .i64 c, .slice A3 n k3, .int .u64 (r : Int), .slice R m ra, .slice S m sa] [.int .u64 (told : Int), .slice none 0 0, .bool false] w3 w' → w'.cell? ⟨w.heap.size + 3, 0, none⟩ = some (cellV w' (w.heap.size + 3) 0) := fun w' h => h.r3 0 (by decide)
 have f30 : ∀ w', EndD w [.int .i64 t, .int .i64 c, .slice A3 n k3, .int .u64 (r : Int), .slice R m ra, .slice S m sa] [.int .u64 (told : Int), .slice none 0 0, .bool false] w3 w' → w'.frozen? ⟨w.heap.size + 3, 0, none⟩ = false := fun w' h => h.f3 0 (by decide)
 have rD1 : ∀ w', EndD w [.int .i64 t, .int .i64 c, .slice A3 n k3, .int .u64 (r : Int), .slice R m ra, .slice S m sa] [.int .u64 (told : Int), .slice none 0 0, .bool false] w3 w' → w'.cell? ⟨w.heap.size, 1, none⟩ = some (.int .i64 c) := fun w' h => h.c0 1 _ rfl
 have rE1 : ∀ w', EndD w [.int .i64 t, .int .i64 c, .slice A3 n k3, .int .u64 (r : Int), .slice R m ra, .slice S m sa] [.int .u64 (told : Int), .slice none 0 0, .bool false] w3 w' → w'.cell? ⟨w.heap.size + 4, 1, none⟩ = some (.slice none 0 0) := fun w' h => h.c4 1 _ rfl
 have r21 : ∀ w', EndD w [.int .i64 t, .int .i64 c, .slice A3 n k3, .int .u64 (r : Int), .slice R m ra, .slice S m sa] [.int .u64 (told : Int), .slice none 0 0, .bool false] w3 w' → w'.cell? ⟨w.heap.size + 2, 1, none⟩ = some (cellV w' (w.heap.size + 2) 1) := fun w' h => h.r2 1 (by decide)
 have f21 : ∀ w', EndD w [.int .i64 t, .int .i64 c, .slice A3 n k3, .int .u64 (r : Int), .slice R m ra, .slice S m sa] [.int .u64 (told : Int), .slice none 0 0, .bool false] w3 w' → w'.frozen? ⟨w.heap.size + 2, 1, none⟩ = false := fun w' h => h.f2 1 (by decide)
 have r31 : ∀ w', EndD w [.int .i64 t, .int .i64 c, .slice A3 n k3, .int .u64 (r : Int), .slice R m ra, .slice S m sa] [.int .u64 (told : Int), .slice none 0 0, .bool false] w3 w' → w'.cell? ⟨w.heap.size + 3, 1, none⟩ = some (cellV w' (w.heap.size + 3) 1) := fun w' h => h.r3 1 (by decide)
 have f31 : ∀ w', EndD w [.int .i64 t, .int .i64 c, .slice A3 n k3, .int .u64 (r : Int), .slice R m ra, .slice S m sa] [.int .u64 (told : Int), .slice none 0 0, .bool false] w3 w' → w'.frozen? ⟨w.heap.size + 3, 1, none⟩ = false := fun w' h => h.f3 1 (by decide)
 have rD2 : ∀ w', EndD w [.int .i64 t, .int .i64 c, .slice A3 n k3, .int .u64 (r : Int), .slice R m ra, .slice S m sa] [.int .u64 (told : Int), .slice none 0 0, .bool false] w3 w' → w'.cell? ⟨w.heap.size, 2, none⟩ = some (.slice A3 n k3) := fun w' h => h.c0 2 _ rfl
 have rE2 : ∀ w', EndD w [.int .i64 t, .int .i64 c, .slice A3 n k3, .int .u64 (r : Int), .slice R m ra, .slice S m sa] [.int .u64 (told : Int), .slice none 0 0, .bool false] w3 w' → w'.cell? ⟨w.heap.size + 4, 2, none⟩ = some (.bool false) := fun w' h => h.c4 2 _ rfl
 have r22 : ∀ w', EndD w [.int .i64 t, .int .i64 c, .slice A3 n k3, .int .u64 (r : Int), .slice R m ra, .slice S m sa] [.int .u64 (told : Int), .slice none 0 0, .bool false] w3 w' → w'.cell? ⟨w.heap.size + 2, 2, none⟩ = some (cellV w' (w.heap.size + 2) 2) := fun w' h => h.r2 2 (by decide)
 have f22 : ∀ w', EndD w [.int .i64 t, .int .i64 c, .slice A3 n k3, .int .u64 (r : Int), .slice R m ra, .slice S m sa] [.int .u64 (told : Int), .slice none 0 0, .bool false] w3 w' → w'.frozen? ⟨w.heap.size + 2, 2, none⟩ = false := fun w' h => h.f2 2 (by decide)
 have r32 : ∀ w', EndD w [.int .i64 t, .int .i64 c, .slice A3 n k3, .int .u64 (r : Int), .slice R m ra, .slice S m sa] [.int .u64 (told : Int), .slice none 0 0, .bool false] w3 w' → w'.cell? ⟨w.heap.size + 3, 2, none⟩ = some (cellV w' (w.heap.size + 3) 2) := fun w' h => h.r3 2 (by decide)
 have f32 : ∀ w', EndD w [.int .i64 t, .int .i64 c, .slice A3 n k3, .int .u64 (r : Int), .slice R m ra, .slice S m sa] [.int .u64 (told : Int), .slice none 0 0, .bool false] w3 w' → w'.frozen? ⟨w.heap.size + 3, 2, none⟩ = false := fun w' h => h.f3 2 (by decide)
 have rD3 : ∀ w', EndD w [.int .i64 t, .int .i64 c, .slice A3 n k3, .int .u64 (r : Int), .slice R m ra, .slice S m sa] [.int .u64 (told : Int), .slice none 0 0, .bool false] w3 w' → w'.cell? ⟨w.heap.size, 3, none⟩ = some (.int .u64 (r : Int)) := fun w' h => h.c0 3 _ rfl
 have r23 : ∀ w', EndD w [.int .i64 t, .int .i64 c, .slice A3 n k3, .int .u64 (r : Int), .slice R m ra, .slice S m sa] [.int .u64 (told : Int), .slice none 0 0, .bool false] w3 w' → w'.cell? ⟨w.heap.size + 2, 3, none⟩ = some (cellV w' (w.heap.size + 2) 3) := fun w' h => h.r2 3 (by decide)
 have f23 : ∀ w', EndD w [.int .i64 t, .int .i64 c, .slice A3 n k3, .int .u64 (r : Int), .slice R m ra, .slice S m sa] [.int .u64 (told : Int), .slice none 0 0, .bool false] w3 w' → w'.frozen? ⟨w.heap.size + 2, 3, none⟩ = false := fun w' h => h.f2 3 (by decide)
 have rD4 : ∀ w', EndD w [.int .i64 t, .int .i64 c, .slice A3 n k3, .int .u64 (r : Int), .slice R m ra, .slice S m sa] [.int .u64 (told : Int), .slice none 0 0, .bool false] w3 w' → w'.cell? ⟨w.heap.size, 4, none⟩ = some (.slice R m ra) := fun w' h => h.c0 4 _ rfl
 have r24 : ∀ w', EndD w [.int .i64 t, .int .i64 c, .slice A3 n k3, .int .u64 (r : Int), .slice R m ra, .slice S m sa] [.int .u64 (told : Int), .slice none 0 0, .bool false] w3 w' → w'.cell? ⟨w.heap.size + 2, 4, none⟩ = some (cellV w' (w.heap.size + 2) 4) := fun w' h => h.r2 4 (by decide)
 have f24 : ∀ w', EndD w [.int .i64 t, .int .i64 c, .slice A3 n k3, .int .u64 (r : Int), .slice R m ra, .slice S m sa] [.int .u64 (told : Int), .slice none 0 0, .bool false] w3 w' → w'.frozen? ⟨w.heap.size + 2, 4, none⟩ = false := fun w' h => h.f2 4 (by decide)
 have rD5 : ∀ w', EndD w [.int .i64 t, .int .i64 c, .slice A3 n k3, .int .u64 (r : Int), .slice R m ra, .slice S m sa] [.int .u64 (told : Int), .slice none 0 0, .bool false] w3 w' → w'.cell? ⟨w.heap.size, 5, none⟩ = some (.slice S m sa) := fun w' h => h.c0 5 _ rfl
 have r25 : ∀ w', EndD w [.int .i64 t, .int .i64 c, .slice A3 n k3, .int .u64 (r : Int), .slice R m ra, .slice S m sa] [.int .u64 (told : Int), .slice none 0 0, .bool false] w3 w' → w'.cell? ⟨w.heap.size + 2, 5, none⟩ = some (cellV w' (w.heap.size + 2) 5) := fun w' h => h.r2 5 (by decide)
 have f25 : ∀ w', EndD w [.int .i64 t, .int .i64 c, .slice A3 n k3, .int .u64 (r : Int), .slice R m ra, .slice S m sa] [.int .u64 (told : Int), .slice none 0 0, .bool false] w3 w' → w'.frozen? ⟨w.heap.size + 2, 5, none⟩ = false := fun w' h => h.f2 5 (by decide)
 have HX := Lib.hid hx
 first | (go_region_held3 (fun w' => EndD w [.int .i64 t, .int .i64 c, .slice A3 n k3, .int .u64 (r : Int), .slice R m ra, .slice S m sa] [.int .u64 (told : Int), .slice none 0 0, .bool false] w3 w') (repeat (first | with_reducible assumption | with_reducible refine EndD.drew ?_ | with_reducible refine EndD.set3 ?_ _ _ | with_reducible refine EndD.set2 ?_ _ _)) (fail)) | fail
 all_goals
  go_wp2_with fail
  have q20 := r20 x HX.out
  have q21 := r21 x HX.out
  have q22 := r22 x HX.out
  have q23 := r23 x HX.out
  have q24 := r24 x HX.out
  have q25 := r25 x HX.out
  have q30 := r30 x HX.out
  have q31 := r31 x HX.out
  have q32 := r32 x HX.out
  exact bodyPost_ret (v := .tuple #[.agg #[.int .i64 t, .int .i64 c, .slice A3 n k3, .int .u64 (r : Int), .slice R m ra, .slice S m sa], .agg #[.int .u64 (told : Int), .slice none 0 0, .bool false]]) (by simp [results, Tryz.results34, go_sem, q20, q21, q22, q23, q24, q25, q30, q31, q32]) rfl (endD_fin (dk := [.int .i64 t, .int .i64 c, .slice A3 n k3, .int .u64 (r : Int), .slice R m ra, .slice S m sa]) (res := [.int .u64 (told : Int), .slice none 0 0, .bool false]) (y := w3) (by assumption) HZ2.out K2.out.bel hA.out h0.out h1.out HA3.out HS3.out HT3.out (Nat.le_refl _) (AtB.nil _ _) (fun P hF g hA hB => ⟨HP3.out P hF g, hA.later HS2.out HB3.out, hB.later HT2.out HB3.out, OffW.nil P _⟩))
end
end Go.Proofs.YtibpfkcackdbgaaGreatDoor
