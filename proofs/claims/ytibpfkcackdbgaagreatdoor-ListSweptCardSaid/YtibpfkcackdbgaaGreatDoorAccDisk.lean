/- AccDisk -/
import Derived.Test.YtibpfkcackdbgaaGreatDoorAccRead
import Derived.Deep.RegionHeld3
namespace Go.Proofs.YtibpfkcackdbgaaGreatDoor
open Go.ChangeShapes Go.WideShapes Go.ChangeAt Go.RowKit Go.BigFrame
set_option linter.unusedVariables false
set_option maxRecDepth 100000
def DiskW (w : World) (r : Nat) (R S : Option Addr) (n : Nat) (P0 P1 : List Stm) (N : Nat) (xs : List Nat) (e : Ending) (w' : World) : Prop :=
 ∃ R' ra S' sa X k, e = .returned (.tuple #[.agg #[.int .u64 (r : Int), .slice R' n ra, .slice S' n sa], .agg #[.int .u64 (N : Int), .slice X xs.length k, .bool false]]) ∧ StmsAt w' R' n P0 ∧ StmsAt w' S' n P1 ∧ xs.length ≤ k ∧ AtB w' X xs.length xs ∧ Below w.heap.size w w' ∧
  ∀ P : Nat → Prop, (∀ b, w.heap.size ≤ b → P b) → OffS P w R n → OffS P w S n → OffS P w' R' n ∧ OffS P w' S' n ∧ OffW P X xs.length
def EndS (w : World) (dk res : List Value) (y x : World) : Prop := Kp w [(4, res), (0, dk)] [(2, 3), (3, 3)] x ∧ Alike w.heap.size 5 y x
theorem gen_world {P : World → Prop} {W : World} (S : World → Prop) (hS : S W) (h : ∀ x, S x → P x) : P W := h W hS
theorem VarAt.room {w : World} {b : Nat} {vs : List Value} (h : VarAt w b vs) : Room w b vs.length :=
 ⟨h.1, fun j hj => by rw [Nat.zero_add]; exact ⟨by rw [h.2.1 j _ (List.getElem?_eq_getElem hj)]; rfl, h.2.2 j hj⟩⟩
theorem VarAt.room3 {w : World} {b : Nat} {v0 v1 v2 : Value} (h : VarAt w b [v0, v1, v2]) : Room w b 3 := VarAt.room h
theorem VarAt.of3 {w : World} {b : Nat} {v0 v1 v2 : Value} (hz : b < w.heap.size) (c0 : w.cell? ⟨b, 0, none⟩ = some v0) (c1 : w.cell? ⟨b, 1, none⟩ = some v1) (c2 : w.cell? ⟨b, 2, none⟩ = some v2) (f0 : w.frozen? ⟨b, 0, none⟩ = false) (f1 : w.frozen? ⟨b, 1, none⟩ = false) (f2 : w.frozen? ⟨b, 2, none⟩ = false) : VarAt w b [v0, v1, v2] := by
 refine ⟨hz, fun j v hv => ?_, fun j hj => ?_⟩
 ·obtain rfl | rfl | rfl : j = 0 ∨ j = 1 ∨ j = 2 := by have := (List.getElem?_eq_some_iff.1 hv).1; simp at this; omega
  ·cases hv; exact c0
  ·cases hv; exact c1
  ·cases hv; exact c2
 ·obtain rfl | rfl | rfl : j = 0 ∨ j = 1 ∨ j = 2 := by simp at hj; omega
  ·exact f0
  ·exact f1
  ·exact f2
section
variable {w y x : World} {dk res : List Value}
theorem EndS.of (hB : Below w.heap.size w x) (h0 : VarAt x w.heap.size dk) (h4 : VarAt x (w.heap.size + 4) res) (r2 : Room x (w.heap.size + 2) 3) (r3 : Room x (w.heap.size + 3) 3) (ha : Alike w.heap.size 5 y x) : EndS w dk res y x := by
 refine ⟨⟨hB, fun p hp => ?_, fun p hp => ?_⟩, ha⟩
 ·simp only [List.mem_cons, or_false, List.not_mem_nil] at hp
  rcases hp with rfl | rfl
  ·exact h4
  ·exact h0
 ·simp only [List.mem_cons, or_false, List.not_mem_nil] at hp
  rcases hp with rfl | rfl
  ·exact r2
  ·exact r3
theorem EndS.set2 (h : EndS w dk res y x) (j : Nat) (v : Value) : EndS w dk res y (x.setCell ⟨w.heap.size + 2, j, none⟩ v) := ⟨h.1.set 2 j v rfl, h.2.set _ j v (by omega) (by omega)⟩
theorem EndS.set3 (h : EndS w dk res y x) (j : Nat) (v : Value) : EndS w dk res y (x.setCell ⟨w.heap.size + 3, j, none⟩ v) := ⟨h.1.set 3 j v rfl, h.2.set _ j v (by omega) (by omega)⟩
theorem EndS.drew (h : EndS w dk res y x) : EndS w dk res y x.drew := ⟨h.1.drew, h.2.drew⟩
theorem EndS.c0 (h : EndS w dk res y x) (j : Nat) (v : Value) (hv : dk[j]? = some v) : x.cell? ⟨w.heap.size, j, none⟩ = some v := (h.1.at_ (o := 0) (.tail _ (.head _))).2.1 j v hv
theorem EndS.c4 (h : EndS w dk res y x) (j : Nat) (v : Value) (hv : res[j]? = some v) : x.cell? ⟨w.heap.size + 4, j, none⟩ = some v := (h.1.at_ (o := 4) (.head _)).2.1 j v hv
theorem EndS.r2 (h : EndS w dk res y x) (j : Nat) (hj : j < 3) : x.cell? ⟨w.heap.size + 2, j, none⟩ = some (cellV x (w.heap.size + 2) j) := h.1.res (o := 2) (n := 3) (.head _) j hj
theorem EndS.r3 (h : EndS w dk res y x) (j : Nat) (hj : j < 3) : x.cell? ⟨w.heap.size + 3, j, none⟩ = some (cellV x (w.heap.size + 3) j) := h.1.res (o := 3) (n := 3) (.tail _ (.head _)) j hj
theorem EndS.f2 (h : EndS w dk res y x) (j : Nat) (hj : j < 3) : x.frozen? ⟨w.heap.size + 2, j, none⟩ = false := h.1.free (o := 2) (n := 3) (.head _) j hj
theorem EndS.f3 (h : EndS w dk res y x) (j : Nat) (hj : j < 3) : x.frozen? ⟨w.heap.size + 3, j, none⟩ = false := h.1.free (o := 3) (n := 3) (.tail _ (.head _)) j hj
theorem EndS.fin (h : EndS w dk res y x) {r : Nat} {R S R' S' X : Option Addr} {n ra sa N k : Nat} {P0 P1 : List Stm} {xs : List Nat} {w2 : World} (hz : w.heap.size + 5 ≤ w2.heap.size) (hb2 : Below w.heap.size w w2) (l0 l1 : List Stm) (h0 : StmsAt w R n l0) (h1 : StmsAt w S n l1)
  (s0 : StmsAt y R' n P0) (s1 : StmsAt y S' n P1) (hk : xs.length ≤ k) (hx : AtB y X xs.length xs)
  (hP : ∀ P : Nat → Prop, (∀ b, w2.heap.size ≤ b → P b) → OffS P w2 R n → OffS P w2 S n → OffS P y R' n ∧ OffS P y S' n ∧ OffW P X xs.length) :
  DiskW w r R S n P0 P1 N xs (.returned (.tuple #[.agg #[.int .u64 (r : Int), .slice R' n ra, .slice S' n sa], .agg #[.int .u64 (N : Int), .slice X xs.length k, .bool false]])) x := by
 obtain ⟨o0, o1, o2⟩ := hP (Out w.heap.size 5) (fun b hb => .inr (by omega)) ((h0.old.mono fun b hb => .inl hb).later h0 hb2) ((h1.old.mono fun b hb => .inl hb).later h1 hb2)
 refine ⟨R', ra, S', sa, X, k, rfl, s0.alike h.2 o0, s1.alike h.2 o1, hk, hx.alike h.2 o2, h.1.1, fun P hF hA hB => ?_⟩
 obtain ⟨p0, p1, p2⟩ := hP P (fun b hb => hF b (by omega)) (hA.later h0 hb2) (hB.later h1 hb2)
 exact ⟨p0.alike h.2 o0, p1.alike h.2 o1, p2⟩
end
section
variable (r : Nat) (hr : r < 18446744073709551616) (R S : Option Addr) (n ra sa : Nat) (l0 l1 : List Stm) (q p : Nat) (hq : r % 2 = q) (hp : (1 : Int) - (q : Int) = (p : Int)) (me i : Int) (a b : Nat) (D : Option Addr) (dn dc : Nat) (W : Option Addr) (wn wc : Nat)
include hr hq hp
set_option maxHeartbeats 2000000 in
theorem ofDisk_append (P0 P1 : List Stm) (cd : Int) (ys : List Nat) (hc : ∀ w, Hid (StmsAt w R n l0) → Hid (StmsAt w S n l1) → Hid (AtB w D dn ys) → Calls Tryz.prog 122 #[.agg #[.int .u64 (r : Int), .slice R n ra, .slice S n sa], .int .i64 (q : Int), .int .i64 me, .slice D dn dc] w (DskPostC w (r : Int) R S n n P0 P1 cd)) (w : World) (h0 : Hid (StmsAt w R n l0)) (h1 : Hid (StmsAt w S n l1)) (hD : Hid (AtB w D dn ys)) :
  Calls Tryz.prog 74 #[.agg #[.int .u64 (r : Int), .slice R n ra, .slice S n sa], .int .i64 me, .agg #[.int .i64 5, .int .i64 i, .int .u64 (a : Int), .int .u64 (b : Int), .slice D dn dc, .slice W wn wc]] w (DiskW w r R S n P0 P1 0 []) := by
 have K0 : Kp w [(4, [.int .u64 0, .slice none 0 0, .bool false]), (3, [.int .u64 0, .slice none 0 0, .bool false]), (2, [.int .u64 0, .slice none 0 0, .slice none 0 0]), (1, [.int .i64 5, .int .i64 i, .int .u64 (a : Int), .int .u64 (b : Int), .slice D dn dc, .slice W wn wc]), (0, [.int .u64 (r : Int), .slice R n ra, .slice S n sa])] [] (((((w.alloc (.cells #[.int .u64 (r : Int), .slice R n ra, .slice S n sa] 31)).alloc (.cells #[.int .i64 5, .int .i64 i, .int .u64 (a : Int), .int .u64 (b : Int), .slice D dn dc, .slice W wn wc] 70)).alloc (.cells #[.int .u64 0, .slice none 0 0, .slice none 0 0] 31)).alloc (.cells #[.int .u64 0, .slice none 0 0, .bool false] 81)).alloc (.cells #[.int .u64 0, .slice none 0 0, .bool false] 81)) :=
  (((((Kp.nil w).var 0 rfl #[.int .u64 (r : Int), .slice R n ra, .slice S n sa] 31).var 1 (by simp) #[.int .i64 5, .int .i64 i, .int .u64 (a : Int), .int .u64 (b : Int), .slice D dn dc, .slice W wn wc] 70).var 2 (by simp) #[.int .u64 0, .slice none 0 0, .slice none 0 0] 31).var 3 (by simp) #[.int .u64 0, .slice none 0 0, .bool false] 81).var 4 (by simp) #[.int .u64 0, .slice none 0 0, .bool false] 81
 have HK0 := Lib.hid K0
 clear K0
 have HROW := fun w => row_any r hr (.slice R n ra) (.slice S n sa) rfl rfl w
 rw [hq] at HROW
 have hq2 : q < 2 := by omega
 clear hq
 go_enter Tryz.func74, Tryz.ntmps74
 go_wp2_with fail
 (with_reducible refine (HROW _).mono ?_)
 rintro e w2 ⟨rfl, hb2⟩
 have K2 := Lib.hid (HK0.out.later hb2)
 have HS2 := Lib.hid (h0.out.later K2.out.bel)
 have HT2 := Lib.hid (h1.out.later K2.out.bel)
 have HZ2 : Hid (w.heap.size + 5 ≤ w2.heap.size) := Lib.hid (by have := (K2.out.at_ (o := 4) (.head _)).1; omega)
 clear hb2 HROW HK0
 obtain ⟨_, c0, c1, c2, f0, f1, f2⟩ := (K2.out.at_ (o := 0) (.tail _ (.tail _ (.tail _ (.tail _ (.head _)))))).three
 obtain ⟨_, ⟨a0, a1, a2, a3, a4, a5⟩, _⟩ := (K2.out.at_ (o := 1) (.tail _ (.tail _ (.tail _ (.head _))))).six
 obtain ⟨_, s0, s1, s2, g0, g1, g2⟩ := (K2.out.at_ (o := 2) (.tail _ (.tail _ (.head _)))).three
 obtain ⟨_, t0, t1, t2, j0, j1, j2⟩ := (K2.out.at_ (o := 3) (.tail _ (.head _))).three
 obtain ⟨z4, u0, u1, u2, k0, k1, k2⟩ := (K2.out.at_ (o := 4) (.head _)).three
 have z0 := (K2.out.at_ (o := 0) (.tail _ (.tail _ (.tail _ (.tail _ (.head _)))))).1
 rw [Nat.add_zero] at c0 c1 c2 f0 f1 f2 z0
 go_wp2_with fail
 (with_reducible refine (hc _ HS2 HT2 (AtB.later hD K2.out.bel |> Lib.hid)).mono ?_)
 rintro e w3 ⟨R3, ra3, S3, sa3, rfl, hs0, hs1, hb3, hP3⟩
 have K3 := Lib.hid (K2.out.later hb3)
 clear c0 c1 c2 f0 f1 f2 a0 a1 a2 a3 a4 a5 s0 s1 s2 g0 g1 g2 t0 t1 t2 j0 j1 j2 u0 u1 u2 k0 k1 k2 z0 z4
 have HS3 := Lib.hid hs0
 have HT3 := Lib.hid hs1
 have HP3 := Lib.hid hP3
 clear hs0 hs1 hb3 hP3
 obtain ⟨_, c0, c1, c2, f0, f1, f2⟩ := (K3.out.at_ (o := 0) (.tail _ (.tail _ (.tail _ (.tail _ (.head _)))))).three
 obtain ⟨_, ⟨a0, a1, a2, a3, a4, a5⟩, _⟩ := (K3.out.at_ (o := 1) (.tail _ (.tail _ (.tail _ (.head _))))).six
 obtain ⟨_, s0, s1, s2, g0, g1, g2⟩ := (K3.out.at_ (o := 2) (.tail _ (.tail _ (.head _)))).three
 obtain ⟨_, t0, t1, t2, j0, j1, j2⟩ := (K3.out.at_ (o := 3) (.tail _ (.head _))).three
 obtain ⟨z4, u0, u1, u2, k0, k1, k2⟩ := (K3.out.at_ (o := 4) (.head _)).three
 have z0 := (K3.out.at_ (o := 0) (.tail _ (.tail _ (.tail _ (.tail _ (.head _)))))).1
 rw [Nat.add_zero] at c0 c1 c2 f0 f1 f2 z0
 go_wp2_with fail
 have HB := K3.out.bel
 have RM2 := VarAt.room3 (K3.out.at_ (o := 2) (.tail _ (.tail _ (.head _))))
 have RM3 := VarAt.room3 (K3.out.at_ (o := 3) (.tail _ (.head _)))
 refine gen_world (fun x => EndS w [.int .u64 (r : Int), .slice R3 n ra3, .slice S3 n sa3] [.int .u64 0, .slice none 0 0, .bool false] w3 x) (EndS.of (by repeat (first | with_reducible assumption | with_reducible refine Below.drew ?_ | (with_reducible refine below_set1 (by omega) _ ?_))) (VarAt.of3 (by simpa using z0) (by go_simp) (by go_simp) (by go_simp) (by go_simp) (by go_simp) (by go_simp)) (VarAt.of3 (by simpa using z4) (by go_simp) (by go_simp) (by go_simp) (by go_simp) (by go_simp) (by go_simp)) (by repeat (first | with_reducible assumption | with_reducible refine Room.apart ?_ _ _ _)) (by repeat (first | with_reducible assumption | with_reducible refine Room.apart ?_ _ _ _)) (by repeat (first | with_reducible exact Alike.refl _ _ _ | with_reducible refine Alike.drew ?_ | (with_reducible refine Alike.set ?_ _ _ _ (by omega) (by omega))))) ?_
 intro x hx
 clear c0 c1 c2 f0 f1 f2 a0 a1 a2 a3 a4 a5 s0 s1 s2 g0 g1 g2 t0 t1 t2 j0 j1 j2 u0 u1 u2 k0 k1 k2 z0 z4
 clear HB RM2 RM3
 have rD0 : ∀ w', EndS w [.int .u64 (r : Int), .slice R3 n ra3, .slice S3 n sa3] [.int .u64 0, .slice none 0 0, .bool false] w3 w' → w'.cell? ⟨w.heap.size, 0, none⟩ = some (.int .u64 (r : Int)) := fun w' h => h.c0 0 _ rfl
 have rE0 : ∀ w', EndS w [.int .u64 (r : Int), .slice R3 n ra3, .slice S3 n sa3] [.int .u64 0, .slice none 0 0, .bool false] w3 w' → w'.cell? ⟨w.heap.size + 4, 0, none⟩ = some (.int .u64 0) := fun w' h => h.c4 0 _ rfl
 have r20 : ∀ w', EndS w [.int .u64 (r : Int), .slice R3 n ra3, .slice S3 n sa3] [.int .u64 0, .slice none 0 0, .bool false] w3 w' → w'.cell? ⟨w.heap.size + 2, 0, none⟩ = some (cellV w' (w.heap.size + 2) 0) := fun w' h => h.r2 0 (by decide)
 have f20 : ∀ w', EndS w [.int .u64 (r : Int), .slice R3 n ra3, .slice S3 n sa3] [.int .u64 0, .slice none 0 0, .bool false] w3 w' → w'.frozen? ⟨w.heap.size + 2, 0, none⟩ = false := fun w' h => h.f2 0 (by decide)
 have r30 : ∀ w', EndS w [.int .u64 (r : Int), .slice R3 n ra3, .slice S3 n sa3] [.int .u64 0, .slice none 0 0, .bool false] w3 w' → w'.cell? ⟨w.heap.size + 3, 0, none⟩ = some (cellV w' (w.heap.size + 3) 0) := fun w' h => h.r3 0 (by decide)
 have f30 : ∀ w', EndS w [.int .u64 (r : Int), .slice R3 n ra3, .slice S3 n sa3] [.int .u64 0, .slice none 0 0, .bool false] w3 w' → w'.frozen? ⟨w.heap.size + 3, 0, none⟩ = false := fun w' h => h.f3 0 (by decide)
 have rD1 : ∀ w', EndS w [.int .u64 (r : Int), .slice R3 n ra3, .slice S3 n sa3] [.int .u64 0, .slice none 0 0, .bool false] w3 w' → w'.cell? ⟨w.heap.size, 1, none⟩ = some (.slice R3 n ra3) := fun w' h => h.c0 1 _ rfl
 have rE1 : ∀ w', EndS w [.int .u64 (r : Int), .slice R3 n ra3, .slice S3 n sa3] [.int .u64 0, .slice none 0 0, .bool false] w3 w' → w'.cell? ⟨w.heap.size + 4, 1, none⟩ = some (.slice none 0 0) := fun w' h => h.c4 1 _ rfl
 have r21 : ∀ w', EndS w [.int .u64 (r : Int), .slice R3 n ra3, .slice S3 n sa3] [.int .u64 0, .slice none 0 0, .bool false] w3 w' → w'.cell? ⟨w.heap.size + 2, 1, none⟩ = some (cellV w' (w.heap.size + 2) 1) := fun w' h => h.r2 1 (by decide)
 have f21 : ∀ w', EndS w [.int .u64 (r : Int), .slice R3 n ra3, .slice S3 n sa3] [.int .u64 0, .slice none 0 0, .bool false] w3 w' → w'.frozen? ⟨w.heap.size + 2, 1, none⟩ = false := fun w' h => h.f2 1 (by decide)
 have r31 : ∀ w', EndS w [.int .u64 (r : Int), .slice R3 n ra3, .slice S3 n sa3] [.int .u64 0, .slice none 0 0, .bool false] w3 w' → w'.cell? ⟨w.heap.size + 3, 1, none⟩ = some (cellV w' (w.heap.size + 3) 1) := fun w' h => h.r3 1 (by decide)
 have f31 : ∀ w', EndS w [.int .u64 (r : Int), .slice R3 n ra3, .slice S3 n sa3] [.int .u64 0, .slice none 0 0, .bool false] w3 w' → w'.frozen? ⟨w.heap.size + 3, 1, none⟩ = false := fun w' h => h.f3 1 (by decide)
 have rD2 : ∀ w', EndS w [.int .u64 (r : Int), .slice R3 n ra3, .slice S3 n sa3] [.int .u64 0, .slice none 0 0, .bool false] w3 w' → w'.cell? ⟨w.heap.size, 2, none⟩ = some (.slice S3 n sa3) := fun w' h => h.c0 2 _ rfl
 have rE2 : ∀ w', EndS w [.int .u64 (r : Int), .slice R3 n ra3, .slice S3 n sa3] [.int .u64 0, .slice none 0 0, .bool false] w3 w' → w'.cell? ⟨w.heap.size + 4, 2, none⟩ = some (.bool false) := fun w' h => h.c4 2 _ rfl
 have r22 : ∀ w', EndS w [.int .u64 (r : Int), .slice R3 n ra3, .slice S3 n sa3] [.int .u64 0, .slice none 0 0, .bool false] w3 w' → w'.cell? ⟨w.heap.size + 2, 2, none⟩ = some (cellV w' (w.heap.size + 2) 2) := fun w' h => h.r2 2 (by decide)
 have f22 : ∀ w', EndS w [.int .u64 (r : Int), .slice R3 n ra3, .slice S3 n sa3] [.int .u64 0, .slice none 0 0, .bool false] w3 w' → w'.frozen? ⟨w.heap.size + 2, 2, none⟩ = false := fun w' h => h.f2 2 (by decide)
 have r32 : ∀ w', EndS w [.int .u64 (r : Int), .slice R3 n ra3, .slice S3 n sa3] [.int .u64 0, .slice none 0 0, .bool false] w3 w' → w'.cell? ⟨w.heap.size + 3, 2, none⟩ = some (cellV w' (w.heap.size + 3) 2) := fun w' h => h.r3 2 (by decide)
 have f32 : ∀ w', EndS w [.int .u64 (r : Int), .slice R3 n ra3, .slice S3 n sa3] [.int .u64 0, .slice none 0 0, .bool false] w3 w' → w'.frozen? ⟨w.heap.size + 3, 2, none⟩ = false := fun w' h => h.f3 2 (by decide)
 have HX := Lib.hid hx
 first | (go_region_held3 (fun w' => EndS w [.int .u64 (r : Int), .slice R3 n ra3, .slice S3 n sa3] [.int .u64 0, .slice none 0 0, .bool false] w3 w') (repeat (first | with_reducible assumption | with_reducible refine EndS.drew ?_ | with_reducible refine EndS.set3 ?_ _ _ | with_reducible refine EndS.set2 ?_ _ _)) (fail)) | fail
 all_goals
  go_wp2_with fail
  have q20 := r20 x HX.out
  have q21 := r21 x HX.out
  have q22 := r22 x HX.out
  have q30 := r30 x HX.out
  have q31 := r31 x HX.out
  have q32 := r32 x HX.out
  exact bodyPost_ret (v := .tuple #[.agg #[.int .u64 (r : Int), .slice R3 n ra3, .slice S3 n sa3], .agg #[.int .u64 0, .slice none 0 0, .bool false]]) (by simp [results, Tryz.results74, go_sem, q20, q21, q22, q30, q31, q32]) rfl (EndS.fin (dk := [.int .u64 (r : Int), .slice R3 n ra3, .slice S3 n sa3]) (res := [.int .u64 0, .slice none 0 0, .bool false]) (y := w3) (by assumption) HZ2.out K2.out.bel l0 l1 h0.out h1.out HS3.out HT3.out (Nat.le_refl _) (AtB.nil _ _) (fun P hF hA hB => ⟨(HP3.out P hF hA hB).1, (HP3.out P hF hA hB).2, OffW.nil P _⟩))
set_option maxHeartbeats 2000000 in
theorem ofDisk_sync (P0 P1 : List Stm) (cd : Int) (ys : List Nat) (hc : ∀ w, Hid (StmsAt w R n l0) → Hid (StmsAt w S n l1) → Calls Tryz.prog 123 #[.agg #[.int .u64 (r : Int), .slice R n ra, .slice S n sa], .int .i64 (q : Int), .int .i64 me] w (DskPostC w (r : Int) R S n n P0 P1 cd)) (w : World) (h0 : Hid (StmsAt w R n l0)) (h1 : Hid (StmsAt w S n l1))  :
  Calls Tryz.prog 74 #[.agg #[.int .u64 (r : Int), .slice R n ra, .slice S n sa], .int .i64 me, .agg #[.int .i64 6, .int .i64 i, .int .u64 (a : Int), .int .u64 (b : Int), .slice D dn dc, .slice W wn wc]] w (DiskW w r R S n P0 P1 0 []) := by
 have K0 : Kp w [(4, [.int .u64 0, .slice none 0 0, .bool false]), (3, [.int .u64 0, .slice none 0 0, .bool false]), (2, [.int .u64 0, .slice none 0 0, .slice none 0 0]), (1, [.int .i64 6, .int .i64 i, .int .u64 (a : Int), .int .u64 (b : Int), .slice D dn dc, .slice W wn wc]), (0, [.int .u64 (r : Int), .slice R n ra, .slice S n sa])] [] (((((w.alloc (.cells #[.int .u64 (r : Int), .slice R n ra, .slice S n sa] 31)).alloc (.cells #[.int .i64 6, .int .i64 i, .int .u64 (a : Int), .int .u64 (b : Int), .slice D dn dc, .slice W wn wc] 70)).alloc (.cells #[.int .u64 0, .slice none 0 0, .slice none 0 0] 31)).alloc (.cells #[.int .u64 0, .slice none 0 0, .bool false] 81)).alloc (.cells #[.int .u64 0, .slice none 0 0, .bool false] 81)) :=
  (((((Kp.nil w).var 0 rfl #[.int .u64 (r : Int), .slice R n ra, .slice S n sa] 31).var 1 (by simp) #[.int .i64 6, .int .i64 i, .int .u64 (a : Int), .int .u64 (b : Int), .slice D dn dc, .slice W wn wc] 70).var 2 (by simp) #[.int .u64 0, .slice none 0 0, .slice none 0 0] 31).var 3 (by simp) #[.int .u64 0, .slice none 0 0, .bool false] 81).var 4 (by simp) #[.int .u64 0, .slice none 0 0, .bool false] 81
 have HK0 := Lib.hid K0
 clear K0
 have HROW := fun w => row_any r hr (.slice R n ra) (.slice S n sa) rfl rfl w
 rw [hq] at HROW
 have hq2 : q < 2 := by omega
 clear hq
 go_enter Tryz.func74, Tryz.ntmps74
 go_wp2_with fail
 (with_reducible refine (HROW _).mono ?_)
 rintro e w2 ⟨rfl, hb2⟩
 have K2 := Lib.hid (HK0.out.later hb2)
 have HS2 := Lib.hid (h0.out.later K2.out.bel)
 have HT2 := Lib.hid (h1.out.later K2.out.bel)
 have HZ2 : Hid (w.heap.size + 5 ≤ w2.heap.size) := Lib.hid (by have := (K2.out.at_ (o := 4) (.head _)).1; omega)
 clear hb2 HROW HK0
 obtain ⟨_, c0, c1, c2, f0, f1, f2⟩ := (K2.out.at_ (o := 0) (.tail _ (.tail _ (.tail _ (.tail _ (.head _)))))).three
 obtain ⟨_, ⟨a0, a1, a2, a3, a4, a5⟩, _⟩ := (K2.out.at_ (o := 1) (.tail _ (.tail _ (.tail _ (.head _))))).six
 obtain ⟨_, s0, s1, s2, g0, g1, g2⟩ := (K2.out.at_ (o := 2) (.tail _ (.tail _ (.head _)))).three
 obtain ⟨_, t0, t1, t2, j0, j1, j2⟩ := (K2.out.at_ (o := 3) (.tail _ (.head _))).three
 obtain ⟨z4, u0, u1, u2, k0, k1, k2⟩ := (K2.out.at_ (o := 4) (.head _)).three
 have z0 := (K2.out.at_ (o := 0) (.tail _ (.tail _ (.tail _ (.tail _ (.head _)))))).1
 rw [Nat.add_zero] at c0 c1 c2 f0 f1 f2 z0
 go_wp2_with fail
 (with_reducible refine (hc _ HS2 HT2).mono ?_)
 rintro e w3 ⟨R3, ra3, S3, sa3, rfl, hs0, hs1, hb3, hP3⟩
 have K3 := Lib.hid (K2.out.later hb3)
 clear c0 c1 c2 f0 f1 f2 a0 a1 a2 a3 a4 a5 s0 s1 s2 g0 g1 g2 t0 t1 t2 j0 j1 j2 u0 u1 u2 k0 k1 k2 z0 z4
 have HS3 := Lib.hid hs0
 have HT3 := Lib.hid hs1
 have HP3 := Lib.hid hP3
 clear hs0 hs1 hb3 hP3
 obtain ⟨_, c0, c1, c2, f0, f1, f2⟩ := (K3.out.at_ (o := 0) (.tail _ (.tail _ (.tail _ (.tail _ (.head _)))))).three
 obtain ⟨_, ⟨a0, a1, a2, a3, a4, a5⟩, _⟩ := (K3.out.at_ (o := 1) (.tail _ (.tail _ (.tail _ (.head _))))).six
 obtain ⟨_, s0, s1, s2, g0, g1, g2⟩ := (K3.out.at_ (o := 2) (.tail _ (.tail _ (.head _)))).three
 obtain ⟨_, t0, t1, t2, j0, j1, j2⟩ := (K3.out.at_ (o := 3) (.tail _ (.head _))).three
 obtain ⟨z4, u0, u1, u2, k0, k1, k2⟩ := (K3.out.at_ (o := 4) (.head _)).three
 have z0 := (K3.out.at_ (o := 0) (.tail _ (.tail _ (.tail _ (.tail _ (.head _)))))).1
 rw [Nat.add_zero] at c0 c1 c2 f0 f1 f2 z0
 go_wp2_with fail
 have HB := K3.out.bel
 have RM2 := VarAt.room3 (K3.out.at_ (o := 2) (.tail _ (.tail _ (.head _))))
 have RM3 := VarAt.room3 (K3.out.at_ (o := 3) (.tail _ (.head _)))
 refine gen_world (fun x => EndS w [.int .u64 (r : Int), .slice R3 n ra3, .slice S3 n sa3] [.int .u64 0, .slice none 0 0, .bool false] w3 x) (EndS.of (by repeat (first | with_reducible assumption | with_reducible refine Below.drew ?_ | (with_reducible refine below_set1 (by omega) _ ?_))) (VarAt.of3 (by simpa using z0) (by go_simp) (by go_simp) (by go_simp) (by go_simp) (by go_simp) (by go_simp)) (VarAt.of3 (by simpa using z4) (by go_simp) (by go_simp) (by go_simp) (by go_simp) (by go_simp) (by go_simp)) (by repeat (first | with_reducible assumption | with_reducible refine Room.apart ?_ _ _ _)) (by repeat (first | with_reducible assumption | with_reducible refine Room.apart ?_ _ _ _)) (by repeat (first | with_reducible exact Alike.refl _ _ _ | with_reducible refine Alike.drew ?_ | (with_reducible refine Alike.set ?_ _ _ _ (by omega) (by omega))))) ?_
 intro x hx
 clear c0 c1 c2 f0 f1 f2 a0 a1 a2 a3 a4 a5 s0 s1 s2 g0 g1 g2 t0 t1 t2 j0 j1 j2 u0 u1 u2 k0 k1 k2 z0 z4
 clear HB RM2 RM3
 have rD0 : ∀ w', EndS w [.int .u64 (r : Int), .slice R3 n ra3, .slice S3 n sa3] [.int .u64 0, .slice none 0 0, .bool false] w3 w' → w'.cell? ⟨w.heap.size, 0, none⟩ = some (.int .u64 (r : Int)) := fun w' h => h.c0 0 _ rfl
 have rE0 : ∀ w', EndS w [.int .u64 (r : Int), .slice R3 n ra3, .slice S3 n sa3] [.int .u64 0, .slice none 0 0, .bool false] w3 w' → w'.cell? ⟨w.heap.size + 4, 0, none⟩ = some (.int .u64 0) := fun w' h => h.c4 0 _ rfl
 have r20 : ∀ w', EndS w [.int .u64 (r : Int), .slice R3 n ra3, .slice S3 n sa3] [.int .u64 0, .slice none 0 0, .bool false] w3 w' → w'.cell? ⟨w.heap.size + 2, 0, none⟩ = some (cellV w' (w.heap.size + 2) 0) := fun w' h => h.r2 0 (by decide)
 have f20 : ∀ w', EndS w [.int .u64 (r : Int), .slice R3 n ra3, .slice S3 n sa3] [.int .u64 0, .slice none 0 0, .bool false] w3 w' → w'.frozen? ⟨w.heap.size + 2, 0, none⟩ = false := fun w' h => h.f2 0 (by decide)
 have r30 : ∀ w', EndS w [.int .u64 (r : Int), .slice R3 n ra3, .slice S3 n sa3] [.int .u64 0, .slice none 0 0, .bool false] w3 w' → w'.cell? ⟨w.heap.size + 3, 0, none⟩ = some (cellV w' (w.heap.size + 3) 0) := fun w' h => h.r3 0 (by decide)
 have f30 : ∀ w', EndS w [.int .u64 (r : Int), .slice R3 n ra3, .slice S3 n sa3] [.int .u64 0, .slice none 0 0, .bool false] w3 w' → w'.frozen? ⟨w.heap.size + 3, 0, none⟩ = false := fun w' h => h.f3 0 (by decide)
 have rD1 : ∀ w', EndS w [.int .u64 (r : Int), .slice R3 n ra3, .slice S3 n sa3] [.int .u64 0, .slice none 0 0, .bool false] w3 w' → w'.cell? ⟨w.heap.size, 1, none⟩ = some (.slice R3 n ra3) := fun w' h => h.c0 1 _ rfl
 have rE1 : ∀ w', EndS w [.int .u64 (r : Int), .slice R3 n ra3, .slice S3 n sa3] [.int .u64 0, .slice none 0 0, .bool false] w3 w' → w'.cell? ⟨w.heap.size + 4, 1, none⟩ = some (.slice none 0 0) := fun w' h => h.c4 1 _ rfl
 have r21 : ∀ w', EndS w [.int .u64 (r : Int), .slice R3 n ra3, .slice S3 n sa3] [.int .u64 0, .slice none 0 0, .bool false] w3 w' → w'.cell? ⟨w.heap.size + 2, 1, none⟩ = some (cellV w' (w.heap.size + 2) 1) := fun w' h => h.r2 1 (by decide)
 have f21 : ∀ w', EndS w [.int .u64 (r : Int), .slice R3 n ra3, .slice S3 n sa3] [.int .u64 0, .slice none 0 0, .bool false] w3 w' → w'.frozen? ⟨w.heap.size + 2, 1, none⟩ = false := fun w' h => h.f2 1 (by decide)
 have r31 : ∀ w', EndS w [.int .u64 (r : Int), .slice R3 n ra3, .slice S3 n sa3] [.int .u64 0, .slice none 0 0, .bool false] w3 w' → w'.cell? ⟨w.heap.size + 3, 1, none⟩ = some (cellV w' (w.heap.size + 3) 1) := fun w' h => h.r3 1 (by decide)
 have f31 : ∀ w', EndS w [.int .u64 (r : Int), .slice R3 n ra3, .slice S3 n sa3] [.int .u64 0, .slice none 0 0, .bool false] w3 w' → w'.frozen? ⟨w.heap.size + 3, 1, none⟩ = false := fun w' h => h.f3 1 (by decide)
 have rD2 : ∀ w', EndS w [.int .u64 (r : Int), .slice R3 n ra3, .slice S3 n sa3] [.int .u64 0, .slice none 0 0, .bool false] w3 w' → w'.cell? ⟨w.heap.size, 2, none⟩ = some (.slice S3 n sa3) := fun w' h => h.c0 2 _ rfl
 have rE2 : ∀ w', EndS w [.int .u64 (r : Int), .slice R3 n ra3, .slice S3 n sa3] [.int .u64 0, .slice none 0 0, .bool false] w3 w' → w'.cell? ⟨w.heap.size + 4, 2, none⟩ = some (.bool false) := fun w' h => h.c4 2 _ rfl
 have r22 : ∀ w', EndS w [.int .u64 (r : Int), .slice R3 n ra3, .slice S3 n sa3] [.int .u64 0, .slice none 0 0, .bool false] w3 w' → w'.cell? ⟨w.heap.size + 2, 2, none⟩ = some (cellV w' (w.heap.size + 2) 2) := fun w' h => h.r2 2 (by decide)
 have f22 : ∀ w', EndS w [.int .u64 (r : Int), .slice R3 n ra3, .slice S3 n sa3] [.int .u64 0, .slice none 0 0, .bool false] w3 w' → w'.frozen? ⟨w.heap.size + 2, 2, none⟩ = false := fun w' h => h.f2 2 (by decide)
 have r32 : ∀ w', EndS w [.int .u64 (r : Int), .slice R3 n ra3, .slice S3 n sa3] [.int .u64 0, .slice none 0 0, .bool false] w3 w' → w'.cell? ⟨w.heap.size + 3, 2, none⟩ = some (cellV w' (w.heap.size + 3) 2) := fun w' h => h.r3 2 (by decide)
 have f32 : ∀ w', EndS w [.int .u64 (r : Int), .slice R3 n ra3, .slice S3 n sa3] [.int .u64 0, .slice none 0 0, .bool false] w3 w' → w'.frozen? ⟨w.heap.size + 3, 2, none⟩ = false := fun w' h => h.f3 2 (by decide)
 have HX := Lib.hid hx
 first | (go_region_held3 (fun w' => EndS w [.int .u64 (r : Int), .slice R3 n ra3, .slice S3 n sa3] [.int .u64 0, .slice none 0 0, .bool false] w3 w') (repeat (first | with_reducible assumption | with_reducible refine EndS.drew ?_ | with_reducible refine EndS.set3 ?_ _ _ | with_reducible refine EndS.set2 ?_ _ _)) (fail)) | fail
 all_goals
  go_wp2_with fail
  have q20 := r20 x HX.out
  have q21 := r21 x HX.out
  have q22 := r22 x HX.out
  have q30 := r30 x HX.out
  have q31 := r31 x HX.out
  have q32 := r32 x HX.out
  exact bodyPost_ret (v := .tuple #[.agg #[.int .u64 (r : Int), .slice R3 n ra3, .slice S3 n sa3], .agg #[.int .u64 0, .slice none 0 0, .bool false]]) (by simp [results, Tryz.results74, go_sem, q20, q21, q22, q30, q31, q32]) rfl (EndS.fin (dk := [.int .u64 (r : Int), .slice R3 n ra3, .slice S3 n sa3]) (res := [.int .u64 0, .slice none 0 0, .bool false]) (y := w3) (by assumption) HZ2.out K2.out.bel l0 l1 h0.out h1.out HS3.out HT3.out (Nat.le_refl _) (AtB.nil _ _) (fun P hF hA hB => ⟨(HP3.out P hF hA hB).1, (HP3.out P hF hA hB).2, OffW.nil P _⟩))
end
end Go.Proofs.YtibpfkcackdbgaaGreatDoor
