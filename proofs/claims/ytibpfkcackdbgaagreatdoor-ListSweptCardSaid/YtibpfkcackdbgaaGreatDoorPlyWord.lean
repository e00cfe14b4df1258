/- PlyWord -/
import Derived.Test.YtibpfkcackdbgaaGreatDoorPlyA
import Derived.Test.YtibpfkcackdbgaaGreatDoorAccC
namespace Go.Proofs.YtibpfkcackdbgaaGreatDoor
open Go.ChangeShapes Go.WideShapes Go.ChangeAt Go.RowKit Go.BigFrame
set_option linter.unusedVariables false
set_option maxRecDepth 100000
section
variable (dv : Value) (i : Int) (a b N : Nat) (P : World → Prop) (w : World)
def Tells (N : Nat) (P : World → Prop) (e : Ending) (w' : World) : Prop := e = .returned (.int .u64 (N : Int)) ∧ P w'
theorem load_of (h : Calls Tryz.prog 88 #[dv, .int .i64 0, .int .i64 i, .int .u64 0, .int .u64 0] w (Tells N P)) :
  Calls Tryz.prog 86 #[dv, .int .i64 i] w (Tells N P) := by
 go_enter Tryz.func86, Tryz.ntmps86
 go_wp2_with fail
 (with_reducible refine h.mono ?_)
 rintro e w' ⟨rfl, hp⟩
 have HP := Lib.hid hp
 clear hp
 go_wp2_with fail
 go_ret
 exact ⟨rfl, HP.out⟩
theorem store_of (h : Calls Tryz.prog 88 #[dv, .int .i64 1, .int .i64 i, .int .u64 (a : Int), .int .u64 0] w (Tells N P)) :
  Calls Tryz.prog 49 #[dv, .int .i64 i, .int .u64 (a : Int)] w (fun e w' => e = .returned (.tuple #[]) ∧ P w') := by
 go_enter Tryz.func49, Tryz.ntmps49
 go_wp2_with fail
 (with_reducible refine h.mono ?_)
 rintro e w' ⟨rfl, hp⟩
 have HP := Lib.hid hp
 clear hp
 go_wp2_with fail
 go_end0
 exact ⟨rfl, HP.out⟩
theorem cas_of (h : Calls Tryz.prog 88 #[dv, .int .i64 2, .int .i64 i, .int .u64 (a : Int), .int .u64 (b : Int)] w (Tells N P)) :
  Calls Tryz.prog 89 #[dv, .int .i64 i, .int .u64 (a : Int), .int .u64 (b : Int)] w (fun e w' => e = .returned (.bool ((N : Int) == 1)) ∧ P w') := by
 go_enter Tryz.func89, Tryz.ntmps89
 go_wp2_with fail
 (with_reducible refine h.mono ?_)
 rintro e w' ⟨rfl, hp⟩
 have HP := Lib.hid hp
 clear hp
 go_wp2_with fail
 go_ret
 exact ⟨rfl, HP.out⟩
end
theorem eql_do (f : Nat) (first cap : Array Value) (w : World) : (binOp .eql 52 (.func (.func f) first cap) .nilFunc).run Tryz.prog w = .ok (.bool false) w := by kernel_rfl
theorem askT (g : Nat) (k i : Int) (a b N : Nat) (P : World → Prop) (w : World) (h : Calls Tryz.prog 142 #[.pointer (some ⟨g, 0, none⟩), .agg #[.int .i64 k, .int .i64 i, .int .u64 (a : Int), .int .u64 (b : Int), .slice none 0 0, .slice none 0 0]] w (fun e w' => ∃ v1 v2, e = .returned (.agg #[.int .u64 (N : Int), v1, v2]) ∧ P w')) :
  Calls Tryz.prog 88 #[.func (.func 142) #[.pointer (some ⟨g, 0, none⟩)] #[], .int .i64 k, .int .i64 i, .int .u64 (a : Int), .int .u64 (b : Int)] w (Tells N P) := by
 have he := eql_do
 have hf := field_n
 go_enter Tryz.func88, Tryz.ntmps88
 go_wp2_with fail
 (with_reducible refine h.mono ?_)
 rintro e w' ⟨v1, v2, rfl, hp⟩
 have HP := Lib.hid hp
 clear hp
 go_wp2_with fail
 go_ret
 exact ⟨rfl, HP.out⟩
structure Dir (g p0 p1 n : Nat) (G : Nat → Nat) (x : World) : Prop where
 run : ∃ A ka R ra S sa, WdAt x g 1 0 A n ka 0 R 1 ra S sa G (zerosS 1) (zerosS 1) ∧ OffW (Out g 1) A n ∧ OffS (Out g 1) x R 1 ∧ OffS (Out g 1) x S 1
 v0 : VarAt x p0 [.pointer (some ⟨g, 0, none⟩)]
 v1 : VarAt x p1 [.int .i64 0]
theorem Dir.below {g p0 p1 n : Nat} {G : Nat → Nat} {x y : World} (h : Dir g p0 p1 n G x) (hb : Below x.heap.size x y) : Dir g p0 p1 n G y := by
 obtain ⟨⟨A, ka, R, ra, S, sa, hw, o0, o1, o2⟩, v0, v1⟩ := h
 exact ⟨⟨A, ka, R, ra, S, sa, hw.later hb, o0, o1.later hw.2.2.1 hb, o2.later hw.2.2.2 hb⟩, v0.below hb, v1.below hb⟩
def DirEnd (wr : World) (Nr g0 n : Nat) (OLD : List Value) (G : Nat → Nat) (s0 : Nat) (v9 v10 : Value) (y : World) : Prop :=
 ∃ b9 b10 A ka R ra S sa X kx, v9 = .pointer (some ⟨b9, 0, none⟩) ∧ v10 = .pointer (some ⟨b10, 0, none⟩) ∧ wr.heap.size ≤ b9 ∧ wr.heap.size ≤ b10 ∧ VarAt y b9 [.int .i64 1, .int .i64 0, .slice A n ka, .int .u64 0, .slice R 1 ra, .slice S 1 sa] ∧ VarAt y b10 [.int .u64 (s0 : Int), .slice X 0 kx, .bool false] ∧ VarAt y g0 OLD ∧
  AtW y A n G ∧ StmsAt y R 1 (zerosS 1) ∧ StmsAt y S 1 (zerosS 1) ∧ OffW (Out g0 1) A n ∧ OffS (Out g0 1) y R 1 ∧ OffS (Out g0 1) y S 1 ∧ (OffW (fun b => b ≠ Nr) A n ∧ OffS (fun b => b ≠ Nr) y R 1 ∧ OffS (fun b => b ≠ Nr) y S 1) ∧ Below wr.heap.size wr y
theorem DirEnd.of {wr w4 y : World} {Nr g0 n N2 s0 b9 b10 ka ra sa kx : Nat} {OLD : List Value} {G : Nat → Nat} {A R S X : Option Addr} (hk : Keep (Qn g0 wr.heap.size N2) w4 y) (n1 : wr.heap.size ≤ b9) (n2 : wr.heap.size ≤ b10) (v9 : VarAt y b9 [.int .i64 1, .int .i64 0, .slice A n ka, .int .u64 0, .slice R 1 ra, .slice S 1 sa]) (v10 : VarAt y b10 [.int .u64 (s0 : Int), .slice X 0 kx, .bool false]) (vg : VarAt y g0 OLD)
  (hA : AtW w4 A n G) (h0 : StmsAt w4 R 1 (zerosS 1)) (h1 : StmsAt w4 S 1 (zerosS 1)) (o0 : OffW (Qn g0 wr.heap.size N2) A n) (o1 : OffS (Qn g0 wr.heap.size N2) w4 R 1) (o2 : OffS (Qn g0 wr.heap.size N2) w4 S 1) (p0 : OffW (fun b => b ≠ Nr) A n) (p1 : OffS (fun b => b ≠ Nr) w4 R 1) (p2 : OffS (fun b => b ≠ Nr) w4 S 1) (hb : Below wr.heap.size wr y) :
  DirEnd wr Nr g0 n OLD G s0 (.pointer (some ⟨b9, 0, none⟩)) (.pointer (some ⟨b10, 0, none⟩)) y :=
 ⟨b9, b10, A, ka, R, ra, S, sa, X, kx, rfl, rfl, n1, n2, v9, v10, vg, hA.keep hk o0, h0.keep hk o1, h1.keep hk o2, o0.mono fun b hb => by unfold Qn at hb; unfold Out; omega,
  (o1.keep h0 hk o1).mono fun b hb => by unfold Qn at hb; unfold Out; omega, (o2.keep h1 hk o2).mono fun b hb => by unfold Qn at hb; unfold Out; omega, ⟨p0, p1.keep h0 hk o1, p2.keep h1 hk o2⟩, hb⟩
end Go.Proofs.YtibpfkcackdbgaaGreatDoor
