/-
  The contracts of play's deferred function, of (*tape).play, Run and Line.
-/
import Derived.Test.YtdbomlclkhkinaaDoorPlyDo
namespace Go.Proofs.YtdbomlclkhkinaaDoor
open Go.ChangeShapes Go.WideShapes Go.ChangeAt Go.RowKit Go.BigFrame
set_option linter.unusedVariables false
set_option maxRecDepth 100000

/-! ### The deferred function -/
theorem ta_tape (v : Value) (w : World) : (Instr.typeAssert (.iface 117 v) 20 117 true).run Tryd.prog w = .ok (.tuple #[v, .bool true]) w := by kernel_rfl
theorem ta_none (w : World) : (Instr.typeAssert .nilIface 20 117 true).run Tryd.prog w = .ok (.tuple #[.pointer none, .bool false]) w := by kernel_rfl
theorem catch_left (pb g : Nat) (x : Bool) (older : List PanicEntry) (w : World) (hp : w.cell? ⟨pb, 0, none⟩ = some (.pointer (some ⟨g, 0, none⟩))) (hc : w.cell? ⟨g, 1, none⟩ = some (.bool x)) (hz : w.frozen? ⟨g, 1, none⟩ = false) :
    CallsD Tryd.prog 85 #[.pointer (some ⟨pb, 0, none⟩)] (.panicking ({ v := .iface 117 (.pointer (some ⟨g, 0, none⟩)), recovered := false } :: older)) w fun e u' w' =>
      e = .returned (.tuple #[]) ∧ u' = .panicking ({ v := .iface 117 (.pointer (some ⟨g, 0, none⟩)), recovered := true } :: older) ∧ w' = w.setCell ⟨g, 1, none⟩ (.bool false) := by
  refine callsD_of_wpS Tryd.func85 rfl fun c₀ cs hu => ?_
  apply wpS_seq
  apply wpS_region
  simp [wpOpsS, go_sem, hp, hc, hz, Tryd.ntmps85, Exit.thenS]
  apply wpS_seq
  apply wpS_region
  simp [wpOpsS, go_sem, recoverD, hu, ta_tape, Exit.thenS]
  apply wpS_seq
  apply wpS_region
  simp [wpOpsS, go_sem, hc, Exit.thenS, Region.wanted, yielded]
  refine wpS_cond (t := false) (by simp [Act.eval, Array.replicate]) ?_
  simp only [Bool.false_eq_true, if_false]
  refine wpS_of_wp (wp_skip ?_)
  simp_all [bodyPostS, results, Tryd.results85]
theorem catch_idle (pb g : Nat) (x : Bool) (w : World) (hp : w.cell? ⟨pb, 0, none⟩ = some (.pointer (some ⟨g, 0, none⟩))) (hc : w.cell? ⟨g, 1, none⟩ = some (.bool x)) (hz : w.frozen? ⟨g, 1, none⟩ = false) :
    CallsD Tryd.prog 85 #[.pointer (some ⟨pb, 0, none⟩)] .returning w fun e u' w' =>
      e = .returned (.tuple #[]) ∧ u' = .returning ∧ w' = w.setCell ⟨g, 1, none⟩ (.bool false) := by
  refine callsD_of_wpS Tryd.func85 rfl fun c₀ cs hu => ?_
  apply wpS_seq
  apply wpS_region
  simp [wpOpsS, go_sem, hp, hc, hz, Tryd.ntmps85, Exit.thenS]
  apply wpS_seq
  apply wpS_region
  simp [wpOpsS, go_sem, recoverD, hu, ta_none, Exit.thenS]
  apply wpS_seq
  apply wpS_region
  simp [wpOpsS, go_sem, Exit.thenS, Region.wanted, yielded]
  refine wpS_cond (t := false) (by simp [Act.eval, Array.replicate]) ?_
  simp only [Bool.false_eq_true, if_false]
  refine wpS_of_wp (wp_skip ?_)
  cases c₀
  simp_all [bodyPostS, results, Tryd.results85]

/-! ### (*tape).play -/
/-- The program answers; the tape stands as told. -/
def ProgYes (g : Nat) (is : Bool) (N S : Int) (o : Bool) (z0 z1 z2 z3 z4 z5 : Value) (w1 : World) (e : Ending) (w2 : World) : Prop :=
  e = .returned (.agg #[.int .i64 0, .bool is, .int .i64 N, .int .u64 S, .slice none 0 0]) ∧ (∃ A n cap, VarAt w2 g (tapeV A n cap true o z0 z1 z2 z3 z4 z5)) ∧ But g w1 w2
def PlayYes (g : Nat) (is : Bool) (N S : Int) (o : Bool) (z0 z1 z2 z3 z4 z5 : Value) (w1 : World) (e : Ending) (w2 : World) : Prop :=
  e = .returned (.tuple #[.agg #[.int .i64 0, .bool is, .int .i64 N, .int .u64 S, .slice none 0 0], .bool true]) ∧ (∃ A n cap, VarAt w2 g (tapeV A n cap false o z0 z1 z2 z3 z4 z5)) ∧ But g w1 w2
def PlayLeft (g : Nat) (x : Acc) (w : World) (e : Ending) (w' : World) : Prop :=
  ∃ D dc E ec A cap, e = .returned (.tuple #[.agg #[.int .i64 0, .bool false, .int .i64 0, .int .u64 0, .slice none 0 0], .bool false]) ∧ VarAt w' g (tapeV A 0 cap false true (.int .i64 x.k) (.int .i64 x.c) (.int .u64 (x.a : Int)) (.int .u64 (x.b : Int)) (.slice D x.d.length dc) (.slice E x.m ec)) ∧ AccP w' x D dc E ec ∧ But g w w' ∧ OffW (fun b => w.heap.size ≤ b) D x.d.length ∧ OffW (fun b => w.heap.size ≤ b) E x.m

def RunYes (is : Bool) (N S : Int) (w : World) (e : Ending) (w' : World) : Prop := e = .returned (.tuple #[.agg #[.int .i64 0, .int .i64 0, .int .u64 0, .int .u64 0, .slice none 0 0, .slice none 0 0], .agg #[.int .i64 0, .bool is, .int .i64 N, .int .u64 S, .slice none 0 0], .bool true]) ∧ Below w.heap.size w w'
def RunLeft (x : Acc) (w : World) (e : Ending) (w' : World) : Prop := ∃ D dc E ec, e = .returned (.tuple #[.agg #[.int .i64 x.k, .int .i64 x.c, .int .u64 (x.a : Int), .int .u64 (x.b : Int), .slice D x.d.length dc, .slice E x.m ec], .agg #[.int .i64 0, .bool false, .int .i64 0, .int .u64 0, .slice none 0 0], .bool false]) ∧ AccP w' x D dc E ec ∧ Below w.heap.size w w' ∧ OffW (fun b => w.heap.size ≤ b) D x.d.length ∧ OffW (fun b => w.heap.size ≤ b) E x.m

end Go.Proofs.YtdbomlclkhkinaaDoor
