/-
  The contracts of play's deferred function, of (*tape).play, Run and Line.
-/
import Derived.Test.YtjbhichgojjakaaPlyDo
namespace Go.Proofs.Ytjbhichgojjakaa
open Go.ChangeShapes Go.WideShapes Go.ChangeAt Go.RowKit Go.BigFrame
set_option linter.unusedVariables false
set_option maxRecDepth 100000

/-! ### The deferred function -/
theorem ta_tape (v : Value) (w : World) : (Instr.typeAssert (.iface 102 v) 20 102 true).run Try.prog w = .ok (.tuple #[v, .bool true]) w := by kernel_rfl
theorem ta_none (w : World) : (Instr.typeAssert .nilIface 20 102 true).run Try.prog w = .ok (.tuple #[.pointer none, .bool false]) w := by kernel_rfl
theorem catch_left (pb g : Nat) (x : Bool) (older : List PanicEntry) (w : World) (hp : w.cell? ⟨pb, 0, none⟩ = some (.pointer (some ⟨g, 0, none⟩))) (hc : w.cell? ⟨g, 1, none⟩ = some (.bool x)) (hz : w.frozen? ⟨g, 1, none⟩ = false) :
    CallsD Try.prog 71 #[.pointer (some ⟨pb, 0, none⟩)] (.panicking ({ v := .iface 102 (.pointer (some ⟨g, 0, none⟩)), recovered := false } :: older)) w fun e u' w' =>
      e = .returned (.tuple #[]) ∧ u' = .panicking ({ v := .iface 102 (.pointer (some ⟨g, 0, none⟩)), recovered := true } :: older) ∧ w' = w.setCell ⟨g, 1, none⟩ (.bool false) := by
  refine callsD_of_wpS Try.func71 rfl fun c₀ cs hu => ?_
  apply wpS_seq
  apply wpS_region
  simp [wpOpsS, go_sem, hp, hc, hz, Try.ntmps71, Exit.thenS]
  apply wpS_seq
  apply wpS_region
  simp [wpOpsS, go_sem, recoverD, hu, ta_tape, Exit.thenS]
  apply wpS_seq
  apply wpS_region
  simp [wpOpsS, go_sem, hc, Exit.thenS, Region.wanted, yielded]
  refine wpS_cond (t := false) (by simp [Act.eval, Array.replicate]) ?_
  simp only [Bool.false_eq_true, if_false]
  refine wpS_of_wp (wp_skip ?_)
  simp_all [bodyPostS, results, Try.results71]
theorem catch_idle (pb g : Nat) (x : Bool) (w : World) (hp : w.cell? ⟨pb, 0, none⟩ = some (.pointer (some ⟨g, 0, none⟩))) (hc : w.cell? ⟨g, 1, none⟩ = some (.bool x)) (hz : w.frozen? ⟨g, 1, none⟩ = false) :
    CallsD Try.prog 71 #[.pointer (some ⟨pb, 0, none⟩)] .returning w fun e u' w' =>
      e = .returned (.tuple #[]) ∧ u' = .returning ∧ w' = w.setCell ⟨g, 1, none⟩ (.bool false) := by
  refine callsD_of_wpS Try.func71 rfl fun c₀ cs hu => ?_
  apply wpS_seq
  apply wpS_region
  simp [wpOpsS, go_sem, hp, hc, hz, Try.ntmps71, Exit.thenS]
  apply wpS_seq
  apply wpS_region
  simp [wpOpsS, go_sem, recoverD, hu, ta_none, Exit.thenS]
  apply wpS_seq
  apply wpS_region
  simp [wpOpsS, go_sem, Exit.thenS, Region.wanted, yielded]
  refine wpS_cond (t := false) (by simp [Act.eval, Array.replicate]) ?_
  simp only [Bool.false_eq_true, if_false]
  refine wpS_of_wp (wp_skip ?_)
  cases c₀
  simp_all [bodyPostS, results, Try.results71]

/-! ### (*tape).play -/
/-- The program answers; the tape stands as told. -/
def ProgYes (g : Nat) (is : Bool) (N S : Int) (o : Bool) (z0 z1 z2 z3 z4 z5 : Value) (w1 : World) (e : Ending) (w2 : World) : Prop :=
  e = .returned (.agg #[.int .i64 0, .bool is, .int .i64 N, .int .u64 S, .slice none 0 0]) ∧ (∃ A n cap, VarAt w2 g (tapeV A n cap true o z0 z1 z2 z3 z4 z5)) ∧ But g w1 w2
def PlayYes (g : Nat) (is : Bool) (N S : Int) (o : Bool) (z0 z1 z2 z3 z4 z5 : Value) (w1 : World) (e : Ending) (w2 : World) : Prop :=
  e = .returned (.tuple #[.agg #[.int .i64 0, .bool is, .int .i64 N, .int .u64 S, .slice none 0 0], .bool true]) ∧ (∃ A n cap, VarAt w2 g (tapeV A n cap false o z0 z1 z2 z3 z4 z5)) ∧ But g w1 w2
def PlayLeft (g : Nat) (x : Acc) (w : World) (e : Ending) (w' : World) : Prop :=
  ∃ D dc E ec A cap, e = .returned (.tuple #[.agg #[.int .i64 0, .bool false, .int .i64 0, .int .u64 0, .slice none 0 0], .bool false]) ∧ VarAt w' g (tapeV A 0 cap false true (.int .i64 x.k) (.int .i64 x.c) (.int .u64 (x.a : Int)) (.int .u64 (x.b : Int)) (.slice D x.d.length dc) (.slice E x.m ec)) ∧ AccP w' x D dc E ec ∧ But g w w' ∧ OffW (fun b => w.heap.size ≤ b) D x.d.length ∧ OffW (fun b => w.heap.size ≤ b) E x.m

set_option maxHeartbeats 1000000 in
theorem playL_yes (g : Nat) (A : Option Addr) (n cap : Nat) (p o : Bool) (q0 q1 q2 q3 q4 q5 : Value) (p0 : Nat) (is : Bool) (N S : Int) (z0 z1 z2 z3 z4 z5 : Value) (w : World)
    (hT : VarAt w g (tapeV A n cap p o q0 q1 q2 q3 q4 q5))
    (hP : ∀ w1, But g w w1 → VarAt w1 g (tapeV A n cap true o q0 q1 q2 q3 q4 q5) → Calls Try.prog 37 #[.func (.func 72) #[.pointer (some ⟨g, 0, none⟩)] #[], .pointer (some ⟨p0, 0, none⟩)] w1 (ProgYes g is N S o z0 z1 z2 z3 z4 z5 w1)) :
    Calls Try.prog 51 #[.pointer (some ⟨g, 0, none⟩), .func (.func 37) #[] #[.pointer (some ⟨p0, 0, none⟩)]] w (PlayYes g is N S o z0 z1 z2 z3 z4 z5 w) := by
  obtain ⟨hgz, ⟨c0, c1, c2, c3, c4, c5, c6, c7, c8⟩, f0, f1, f2, f3, f4, f5, f6, f7, f8⟩ := hT.nine
  have g1 : g < w.heap.size + 1 := by omega
  have g2 : g < w.heap.size + 1 + 1 := by omega
  have g3 : ¬ (g = w.heap.size) := by omega
  have g4 : ¬ (g = w.heap.size + 1) := by omega
  have hmf : ∀ (fn : Fn) (first cap : Array Value) (w : World), (Instr.makeFunc fn first cap).run Try.prog w = .ok (.func fn first cap) w := fun _ _ _ _ => rfl
  go_enter_defers Try.func51, Try.ntmps51
  go_wp2_with fail
  refine gen_w (P := fun W => Calls _ _ _ W _) (fun y => But g w y ∧ y.heap.size = w.heap.size + 1 + 1 ∧ VarAt y g (tapeV A n cap true o q0 q1 q2 q3 q4 q5) ∧ VarAt y w.heap.size [.pointer (some ⟨g, 0, none⟩)] ∧ VarAt y (w.heap.size + 1) [.int .i64 0, .bool false, .int .i64 0, .int .u64 0, .slice none 0 0]) ⟨(by repeat (first | with_reducible assumption | with_reducible exact But.refl _ _ | with_reducible refine But.drew ?_ | (with_reducible refine But.alloc ?_ _ (by omega)) | (with_reducible refine But.set ?_ _ _) | (with_reducible refine But.new ?_ _ _ _ (by omega) (by omega)))), by simp, VarAt.mk9 (by simp; omega) (by go_simp) (by go_simp) (by go_simp) (by go_simp) (by go_simp) (by go_simp) (by go_simp) (by go_simp) (by go_simp) (by go_simp) (by go_simp) (by go_simp) (by go_simp) (by go_simp) (by go_simp) (by go_simp) (by go_simp) (by go_simp), VarAt.mk1 (by simp; omega) (by go_simp) (by go_simp), VarAt.mk5 (by simp) (by go_simp) (by go_simp) (by go_simp) (by go_simp) (by go_simp) (by go_simp) (by go_simp) (by go_simp) (by go_simp) (by go_simp)⟩ ?_
  rintro y ⟨k0, k1, k2, k3, k4⟩
  have K0 := Lib.hid k0
  have K1 := Lib.hid k1
  have K3 := Lib.hid k3
  have K4 := Lib.hid k4
  have HP := hP y k0 k2
  clear hP hT c0 c1 c2 c3 c4 c5 c6 c7 c8 f0 f1 f2 f3 f4 f5 f6 f7 f8 k0 k1 k2 k3 k4
  refine HP.mono ?_
  rintro e w2 ⟨rfl, ⟨A', n', cap', hT2⟩, hb2⟩
  obtain ⟨hgz2, ⟨c0, c1, c2, c3, c4, c5, c6, c7, c8⟩, f0, f1, f2, f3, f4, f5, f6, f7, f8⟩ := hT2.nine
  obtain ⟨r0, ⟨r1, r2, r3, r4, r5⟩, s1, s2, s3, s4, s5⟩ := (K4.out.but hb2 (by omega)).five
  have hpb := ((K3.out.but hb2 (by omega)).2.1 0 _ rfl)
  have n1 : ¬ (w.heap.size = g) := by omega
  have n2 : ¬ (w.heap.size + 1 = g) := by omega
  go_wp2_with fail
  refine leaves_cons (f := 71) (args := #[.pointer (some ⟨w.heap.size, 0, none⟩)]) (by simp) (by simp [go_sem]) ?_
  refine (catch_idle w.heap.size g true _ (by go_simp) (by go_simp) (by go_simp)).mono ?_
  rintro e u' w3 ⟨rfl, rfl, rfl⟩
  have hby : But g w w2 := K0.out.trans hb2
  refine ⟨.tuple #[.agg #[.int .i64 0, .bool is, .int .i64 N, .int .u64 S, .slice none 0 0], .bool true], by simp [results, Try.results51, go_sem, r1, r2, r3, r4, r5], rfl, ⟨A', n', cap', VarAt.mk9 (by simp; omega) (by go_simp) (by go_simp) (by go_simp) (by go_simp) (by go_simp) (by go_simp) (by go_simp) (by go_simp) (by go_simp) (by go_simp) (by go_simp) (by go_simp) (by go_simp) (by go_simp) (by go_simp) (by go_simp) (by go_simp) (by go_simp)⟩, (by repeat (first | with_reducible assumption | with_reducible exact But.refl _ _ | with_reducible refine But.drew ?_ | (with_reducible refine But.alloc ?_ _ (by omega)) | (with_reducible refine But.set ?_ _ _) | (with_reducible refine But.new ?_ _ _ _ (by omega) (by omega))))⟩
set_option maxHeartbeats 1000000 in
theorem playL_left (g : Nat) (A : Option Addr) (n cap : Nat) (p o : Bool) (q0 q1 q2 q3 q4 q5 : Value) (p0 : Nat) (x : Acc) (w : World)
    (hT : VarAt w g (tapeV A n cap p o q0 q1 q2 q3 q4 q5))
    (hP : ∀ w1, But g w w1 → VarAt w1 g (tapeV A n cap true o q0 q1 q2 q3 q4 q5) → Calls Try.prog 37 #[.func (.func 72) #[.pointer (some ⟨g, 0, none⟩)] #[], .pointer (some ⟨p0, 0, none⟩)] w1 (LeftPost w1 g x true)) :
    Calls Try.prog 51 #[.pointer (some ⟨g, 0, none⟩), .func (.func 37) #[] #[.pointer (some ⟨p0, 0, none⟩)]] w (PlayLeft g x w) := by
  obtain ⟨hgz, ⟨c0, c1, c2, c3, c4, c5, c6, c7, c8⟩, f0, f1, f2, f3, f4, f5, f6, f7, f8⟩ := hT.nine
  have g1 : g < w.heap.size + 1 := by omega
  have g2 : g < w.heap.size + 1 + 1 := by omega
  have g3 : ¬ (g = w.heap.size) := by omega
  have g4 : ¬ (g = w.heap.size + 1) := by omega
  have hmf : ∀ (fn : Fn) (first cap : Array Value) (w : World), (Instr.makeFunc fn first cap).run Try.prog w = .ok (.func fn first cap) w := fun _ _ _ _ => rfl
  go_enter_defers Try.func51, Try.ntmps51
  go_wp2_with fail
  refine gen_w (P := fun W => Calls _ _ _ W _) (fun y => But g w y ∧ y.heap.size = w.heap.size + 1 + 1 ∧ VarAt y g (tapeV A n cap true o q0 q1 q2 q3 q4 q5) ∧ VarAt y w.heap.size [.pointer (some ⟨g, 0, none⟩)] ∧ VarAt y (w.heap.size + 1) [.int .i64 0, .bool false, .int .i64 0, .int .u64 0, .slice none 0 0]) ⟨(by repeat (first | with_reducible assumption | with_reducible exact But.refl _ _ | with_reducible refine But.drew ?_ | (with_reducible refine But.alloc ?_ _ (by omega)) | (with_reducible refine But.set ?_ _ _) | (with_reducible refine But.new ?_ _ _ _ (by omega) (by omega)))), by simp, VarAt.mk9 (by simp; omega) (by go_simp) (by go_simp) (by go_simp) (by go_simp) (by go_simp) (by go_simp) (by go_simp) (by go_simp) (by go_simp) (by go_simp) (by go_simp) (by go_simp) (by go_simp) (by go_simp) (by go_simp) (by go_simp) (by go_simp) (by go_simp), VarAt.mk1 (by simp; omega) (by go_simp) (by go_simp), VarAt.mk5 (by simp) (by go_simp) (by go_simp) (by go_simp) (by go_simp) (by go_simp) (by go_simp) (by go_simp) (by go_simp) (by go_simp) (by go_simp)⟩ ?_
  rintro y ⟨k0, k1, k2, k3, k4⟩
  have K0 := Lib.hid k0
  have K1 := Lib.hid k1
  have K3 := Lib.hid k3
  have K4 := Lib.hid k4
  have HP := hP y k0 k2
  clear hP hT c0 c1 c2 c3 c4 c5 c6 c7 c8 f0 f1 f2 f3 f4 f5 f6 f7 f8 k0 k1 k2 k3 k4
  refine HP.mono ?_
  rintro e w2 ⟨D, dc, E, ec, A', cap', rfl, hT2, hX, hb2, hD, hE⟩
  have HX := Lib.hid hX
  have HD := Lib.hid hD
  have HE := Lib.hid hE
  clear hX hD hE
  obtain ⟨hgz2, ⟨c0, c1, c2, c3, c4, c5, c6, c7, c8⟩, f0, f1, f2, f3, f4, f5, f6, f7, f8⟩ := hT2.nine
  obtain ⟨r0, ⟨r1, r2, r3, r4, r5⟩, s1, s2, s3, s4, s5⟩ := (K4.out.but hb2 (by omega)).five
  have hpb := ((K3.out.but hb2 (by omega)).2.1 0 _ rfl)
  have n1 : ¬ (w.heap.size = g) := by omega
  have n2 : ¬ (w.heap.size + 1 = g) := by omega
  go_wp2_with fail
  refine leaves_cons (f := 71) (args := #[.pointer (some ⟨w.heap.size, 0, none⟩)]) (by simp) (by simp [go_sem]) ?_
  refine (catch_left w.heap.size g true _ _ (by go_simp) (by go_simp) (by go_simp)).mono ?_
  rintro e u' w3 ⟨rfl, rfl, rfl⟩
  have hby : But g w w2 := K0.out.trans hb2
  have hx := HX.out
  have hz := K1.out
  have hsv : Svd (fun b => y.heap.size ≤ b) w2 (w2.setCell ⟨g, 1, none⟩ (.bool false)) := (Svd.refl _ _).set _ _ _ (by omega)
  refine ⟨.tuple #[.agg #[.int .i64 0, .bool false, .int .i64 0, .int .u64 0, .slice none 0 0], .bool false], by simp [results, Try.results51, go_sem, r1, r2, r3, r4, r5], D, dc, E, ec, A', cap', rfl, VarAt.mk9 (by simp; omega) (by go_simp) (by go_simp) (by go_simp) (by go_simp) (by go_simp) (by go_simp) (by go_simp) (by go_simp) (by go_simp) (by go_simp) (by go_simp) (by go_simp) (by go_simp) (by go_simp) (by go_simp) (by go_simp) (by go_simp) (by go_simp), ⟨hx.k, hx.c, hx.a, hx.b, hx.dl, hx.ml, hx.d.svd hsv HD.out, hx.f.svd hsv HE.out⟩, (by repeat (first | with_reducible assumption | with_reducible exact But.refl _ _ | with_reducible refine But.drew ?_ | (with_reducible refine But.alloc ?_ _ (by omega)) | (with_reducible refine But.set ?_ _ _) | (with_reducible refine But.new ?_ _ _ _ (by omega) (by omega)))), HD.out.mono fun b h => by omega, HE.out.mono fun b h => by omega⟩

set_option maxHeartbeats 1000000 in
theorem playD_yes (g : Nat) (A : Option Addr) (n cap : Nat) (p o : Bool) (q0 q1 q2 q3 q4 q5 : Value) (p0 p1 : Nat) (is : Bool) (N S : Int) (z0 z1 z2 z3 z4 z5 : Value) (w : World)
    (hT : VarAt w g (tapeV A n cap p o q0 q1 q2 q3 q4 q5))
    (hP : ∀ w1, But g w w1 → VarAt w1 g (tapeV A n cap true o q0 q1 q2 q3 q4 q5) → Calls Try.prog 28 #[.func (.func 72) #[.pointer (some ⟨g, 0, none⟩)] #[], .pointer (some ⟨p0, 0, none⟩), .pointer (some ⟨p1, 0, none⟩)] w1 (ProgYes g is N S o z0 z1 z2 z3 z4 z5 w1)) :
    Calls Try.prog 51 #[.pointer (some ⟨g, 0, none⟩), .func (.func 28) #[] #[.pointer (some ⟨p0, 0, none⟩), .pointer (some ⟨p1, 0, none⟩)]] w (PlayYes g is N S o z0 z1 z2 z3 z4 z5 w) := by
  obtain ⟨hgz, ⟨c0, c1, c2, c3, c4, c5, c6, c7, c8⟩, f0, f1, f2, f3, f4, f5, f6, f7, f8⟩ := hT.nine
  have g1 : g < w.heap.size + 1 := by omega
  have g2 : g < w.heap.size + 1 + 1 := by omega
  have g3 : ¬ (g = w.heap.size) := by omega
  have g4 : ¬ (g = w.heap.size + 1) := by omega
  have hmf : ∀ (fn : Fn) (first cap : Array Value) (w : World), (Instr.makeFunc fn first cap).run Try.prog w = .ok (.func fn first cap) w := fun _ _ _ _ => rfl
  go_enter_defers Try.func51, Try.ntmps51
  go_wp2_with fail
  refine gen_w (P := fun W => Calls _ _ _ W _) (fun y => But g w y ∧ y.heap.size = w.heap.size + 1 + 1 ∧ VarAt y g (tapeV A n cap true o q0 q1 q2 q3 q4 q5) ∧ VarAt y w.heap.size [.pointer (some ⟨g, 0, none⟩)] ∧ VarAt y (w.heap.size + 1) [.int .i64 0, .bool false, .int .i64 0, .int .u64 0, .slice none 0 0]) ⟨(by repeat (first | with_reducible assumption | with_reducible exact But.refl _ _ | with_reducible refine But.drew ?_ | (with_reducible refine But.alloc ?_ _ (by omega)) | (with_reducible refine But.set ?_ _ _) | (with_reducible refine But.new ?_ _ _ _ (by omega) (by omega)))), by simp, VarAt.mk9 (by simp; omega) (by go_simp) (by go_simp) (by go_simp) (by go_simp) (by go_simp) (by go_simp) (by go_simp) (by go_simp) (by go_simp) (by go_simp) (by go_simp) (by go_simp) (by go_simp) (by go_simp) (by go_simp) (by go_simp) (by go_simp) (by go_simp), VarAt.mk1 (by simp; omega) (by go_simp) (by go_simp), VarAt.mk5 (by simp) (by go_simp) (by go_simp) (by go_simp) (by go_simp) (by go_simp) (by go_simp) (by go_simp) (by go_simp) (by go_simp) (by go_simp)⟩ ?_
  rintro y ⟨k0, k1, k2, k3, k4⟩
  have K0 := Lib.hid k0
  have K1 := Lib.hid k1
  have K3 := Lib.hid k3
  have K4 := Lib.hid k4
  have HP := hP y k0 k2
  clear hP hT c0 c1 c2 c3 c4 c5 c6 c7 c8 f0 f1 f2 f3 f4 f5 f6 f7 f8 k0 k1 k2 k3 k4
  refine HP.mono ?_
  rintro e w2 ⟨rfl, ⟨A', n', cap', hT2⟩, hb2⟩
  obtain ⟨hgz2, ⟨c0, c1, c2, c3, c4, c5, c6, c7, c8⟩, f0, f1, f2, f3, f4, f5, f6, f7, f8⟩ := hT2.nine
  obtain ⟨r0, ⟨r1, r2, r3, r4, r5⟩, s1, s2, s3, s4, s5⟩ := (K4.out.but hb2 (by omega)).five
  have hpb := ((K3.out.but hb2 (by omega)).2.1 0 _ rfl)
  have n1 : ¬ (w.heap.size = g) := by omega
  have n2 : ¬ (w.heap.size + 1 = g) := by omega
  go_wp2_with fail
  refine leaves_cons (f := 71) (args := #[.pointer (some ⟨w.heap.size, 0, none⟩)]) (by simp) (by simp [go_sem]) ?_
  refine (catch_idle w.heap.size g true _ (by go_simp) (by go_simp) (by go_simp)).mono ?_
  rintro e u' w3 ⟨rfl, rfl, rfl⟩
  have hby : But g w w2 := K0.out.trans hb2
  refine ⟨.tuple #[.agg #[.int .i64 0, .bool is, .int .i64 N, .int .u64 S, .slice none 0 0], .bool true], by simp [results, Try.results51, go_sem, r1, r2, r3, r4, r5], rfl, ⟨A', n', cap', VarAt.mk9 (by simp; omega) (by go_simp) (by go_simp) (by go_simp) (by go_simp) (by go_simp) (by go_simp) (by go_simp) (by go_simp) (by go_simp) (by go_simp) (by go_simp) (by go_simp) (by go_simp) (by go_simp) (by go_simp) (by go_simp) (by go_simp) (by go_simp)⟩, (by repeat (first | with_reducible assumption | with_reducible exact But.refl _ _ | with_reducible refine But.drew ?_ | (with_reducible refine But.alloc ?_ _ (by omega)) | (with_reducible refine But.set ?_ _ _) | (with_reducible refine But.new ?_ _ _ _ (by omega) (by omega))))⟩
set_option maxHeartbeats 1000000 in
theorem playD_left (g : Nat) (A : Option Addr) (n cap : Nat) (p o : Bool) (q0 q1 q2 q3 q4 q5 : Value) (p0 p1 : Nat) (x : Acc) (w : World)
    (hT : VarAt w g (tapeV A n cap p o q0 q1 q2 q3 q4 q5))
    (hP : ∀ w1, But g w w1 → VarAt w1 g (tapeV A n cap true o q0 q1 q2 q3 q4 q5) → Calls Try.prog 28 #[.func (.func 72) #[.pointer (some ⟨g, 0, none⟩)] #[], .pointer (some ⟨p0, 0, none⟩), .pointer (some ⟨p1, 0, none⟩)] w1 (LeftPost w1 g x true)) :
    Calls Try.prog 51 #[.pointer (some ⟨g, 0, none⟩), .func (.func 28) #[] #[.pointer (some ⟨p0, 0, none⟩), .pointer (some ⟨p1, 0, none⟩)]] w (PlayLeft g x w) := by
  obtain ⟨hgz, ⟨c0, c1, c2, c3, c4, c5, c6, c7, c8⟩, f0, f1, f2, f3, f4, f5, f6, f7, f8⟩ := hT.nine
  have g1 : g < w.heap.size + 1 := by omega
  have g2 : g < w.heap.size + 1 + 1 := by omega
  have g3 : ¬ (g = w.heap.size) := by omega
  have g4 : ¬ (g = w.heap.size + 1) := by omega
  have hmf : ∀ (fn : Fn) (first cap : Array Value) (w : World), (Instr.makeFunc fn first cap).run Try.prog w = .ok (.func fn first cap) w := fun _ _ _ _ => rfl
  go_enter_defers Try.func51, Try.ntmps51
  go_wp2_with fail
  refine gen_w (P := fun W => Calls _ _ _ W _) (fun y => But g w y ∧ y.heap.size = w.heap.size + 1 + 1 ∧ VarAt y g (tapeV A n cap true o q0 q1 q2 q3 q4 q5) ∧ VarAt y w.heap.size [.pointer (some ⟨g, 0, none⟩)] ∧ VarAt y (w.heap.size + 1) [.int .i64 0, .bool false, .int .i64 0, .int .u64 0, .slice none 0 0]) ⟨(by repeat (first | with_reducible assumption | with_reducible exact But.refl _ _ | with_reducible refine But.drew ?_ | (with_reducible refine But.alloc ?_ _ (by omega)) | (with_reducible refine But.set ?_ _ _) | (with_reducible refine But.new ?_ _ _ _ (by omega) (by omega)))), by simp, VarAt.mk9 (by simp; omega) (by go_simp) (by go_simp) (by go_simp) (by go_simp) (by go_simp) (by go_simp) (by go_simp) (by go_simp) (by go_simp) (by go_simp) (by go_simp) (by go_simp) (by go_simp) (by go_simp) (by go_simp) (by go_simp) (by go_simp) (by go_simp), VarAt.mk1 (by simp; omega) (by go_simp) (by go_simp), VarAt.mk5 (by simp) (by go_simp) (by go_simp) (by go_simp) (by go_simp) (by go_simp) (by go_simp) (by go_simp) (by go_simp) (by go_simp) (by go_simp)⟩ ?_
  rintro y ⟨k0, k1, k2, k3, k4⟩
  have K0 := Lib.hid k0
  have K1 := Lib.hid k1
  have K3 := Lib.hid k3
  have K4 := Lib.hid k4
  have HP := hP y k0 k2
  clear hP hT c0 c1 c2 c3 c4 c5 c6 c7 c8 f0 f1 f2 f3 f4 f5 f6 f7 f8 k0 k1 k2 k3 k4
  refine HP.mono ?_
  rintro e w2 ⟨D, dc, E, ec, A', cap', rfl, hT2, hX, hb2, hD, hE⟩
  have HX := Lib.hid hX
  have HD := Lib.hid hD
  have HE := Lib.hid hE
  clear hX hD hE
  obtain ⟨hgz2, ⟨c0, c1, c2, c3, c4, c5, c6, c7, c8⟩, f0, f1, f2, f3, f4, f5, f6, f7, f8⟩ := hT2.nine
  obtain ⟨r0, ⟨r1, r2, r3, r4, r5⟩, s1, s2, s3, s4, s5⟩ := (K4.out.but hb2 (by omega)).five
  have hpb := ((K3.out.but hb2 (by omega)).2.1 0 _ rfl)
  have n1 : ¬ (w.heap.size = g) := by omega
  have n2 : ¬ (w.heap.size + 1 = g) := by omega
  go_wp2_with fail
  refine leaves_cons (f := 71) (args := #[.pointer (some ⟨w.heap.size, 0, none⟩)]) (by simp) (by simp [go_sem]) ?_
  refine (catch_left w.heap.size g true _ _ (by go_simp) (by go_simp) (by go_simp)).mono ?_
  rintro e u' w3 ⟨rfl, rfl, rfl⟩
  have hby : But g w w2 := K0.out.trans hb2
  have hx := HX.out
  have hz := K1.out
  have hsv : Svd (fun b => y.heap.size ≤ b) w2 (w2.setCell ⟨g, 1, none⟩ (.bool false)) := (Svd.refl _ _).set _ _ _ (by omega)
  refine ⟨.tuple #[.agg #[.int .i64 0, .bool false, .int .i64 0, .int .u64 0, .slice none 0 0], .bool false], by simp [results, Try.results51, go_sem, r1, r2, r3, r4, r5], D, dc, E, ec, A', cap', rfl, VarAt.mk9 (by simp; omega) (by go_simp) (by go_simp) (by go_simp) (by go_simp) (by go_simp) (by go_simp) (by go_simp) (by go_simp) (by go_simp) (by go_simp) (by go_simp) (by go_simp) (by go_simp) (by go_simp) (by go_simp) (by go_simp) (by go_simp) (by go_simp), ⟨hx.k, hx.c, hx.a, hx.b, hx.dl, hx.ml, hx.d.svd hsv HD.out, hx.f.svd hsv HE.out⟩, (by repeat (first | with_reducible assumption | with_reducible exact But.refl _ _ | with_reducible refine But.drew ?_ | (with_reducible refine But.alloc ?_ _ (by omega)) | (with_reducible refine But.set ?_ _ _) | (with_reducible refine But.new ?_ _ _ _ (by omega) (by omega)))), HD.out.mono fun b h => by omega, HE.out.mono fun b h => by omega⟩

/-! ### Run -/
def RunYes (is : Bool) (N S : Int) (w : World) (e : Ending) (w' : World) : Prop := e = .returned (.tuple #[.agg #[.int .i64 0, .int .i64 0, .int .u64 0, .int .u64 0, .slice none 0 0, .slice none 0 0], .agg #[.int .i64 0, .bool is, .int .i64 N, .int .u64 S, .slice none 0 0], .bool true]) ∧ Below w.heap.size w w'
def RunLeft (x : Acc) (w : World) (e : Ending) (w' : World) : Prop := ∃ D dc E ec, e = .returned (.tuple #[.agg #[.int .i64 x.k, .int .i64 x.c, .int .u64 (x.a : Int), .int .u64 (x.b : Int), .slice D x.d.length dc, .slice E x.m ec], .agg #[.int .i64 0, .bool false, .int .i64 0, .int .u64 0, .slice none 0 0], .bool false]) ∧ AccP w' x D dc E ec ∧ Below w.heap.size w w' ∧ OffW (fun b => w.heap.size ≤ b) D x.d.length ∧ OffW (fun b => w.heap.size ≤ b) E x.m

set_option maxHeartbeats 1000000 in
theorem runL_yes (A : Option Addr) (n cap : Nat) (p0 : Nat) (is : Bool) (N S : Int) (w : World)
    (hP : ∀ g w1, w.heap.size ≤ g → Below w.heap.size w w1 → VarAt w1 g (tapeV A n cap true false (.int .i64 0) (.int .i64 0) (.int .u64 0) (.int .u64 0) (.slice none 0 0) (.slice none 0 0)) → Calls Try.prog 37 #[.func (.func 72) #[.pointer (some ⟨g, 0, none⟩)] #[], .pointer (some ⟨p0, 0, none⟩)] w1 (ProgYes g is N S false (.int .i64 0) (.int .i64 0) (.int .u64 0) (.int .u64 0) (.slice none 0 0) (.slice none 0 0) w1)) :
    Calls Try.prog 27 #[.func (.func 37) #[] #[.pointer (some ⟨p0, 0, none⟩)], .slice A n cap] w (RunYes is N S w) := by
  have hmf : ∀ (fn : Fn) (first cap : Array Value) (w : World), (Instr.makeFunc fn first cap).run Try.prog w = .ok (.func fn first cap) w := fun _ _ _ _ => rfl
  go_enter Try.func27, Try.ntmps27
  go_wp2_with fail
  refine gen_w (P := fun W => Calls _ _ _ W _) (fun y => Below w.heap.size w y ∧ y.heap.size = w.heap.size + 1 + 1 + 1 ∧ VarAt y (w.heap.size + 1 + 1) (tapeV A n cap false false (.int .i64 0) (.int .i64 0) (.int .u64 0) (.int .u64 0) (.slice none 0 0) (.slice none 0 0)) ∧ VarAt y w.heap.size [.int .i64 0, .int .i64 0, .int .u64 0, .int .u64 0, .slice none 0 0, .slice none 0 0] ∧ VarAt y (w.heap.size + 1) [.int .i64 0, .bool false, .int .i64 0, .int .u64 0, .slice none 0 0]) ⟨(by repeat (first | with_reducible assumption | with_reducible exact Below.refl _ _ | with_reducible refine Below.drew ?_ | with_reducible refine below_al ?_ | (with_reducible refine below_set1 (by omega) _ ?_))), by simp, VarAt.mk9 (by simp) (by go_simp) (by go_simp) (by go_simp) (by go_simp) (by go_simp) (by go_simp) (by go_simp) (by go_simp) (by go_simp) (by go_simp) (by go_simp) (by go_simp) (by go_simp) (by go_simp) (by go_simp) (by go_simp) (by go_simp) (by go_simp), VarAt.mk6 (by simp; omega) (by go_simp) (by go_simp) (by go_simp) (by go_simp) (by go_simp) (by go_simp) (by go_simp) (by go_simp) (by go_simp) (by go_simp) (by go_simp) (by go_simp), VarAt.mk5 (by simp) (by go_simp) (by go_simp) (by go_simp) (by go_simp) (by go_simp) (by go_simp) (by go_simp) (by go_simp) (by go_simp) (by go_simp)⟩ ?_
  rintro y ⟨k0, k1, k2, k3, k4⟩
  obtain ⟨g, hg⟩ : ∃ g, w.heap.size + 1 + 1 = g := ⟨_, rfl⟩
  rw [hg] at k1 k2 ⊢
  have K0 := Lib.hid k0
  have K1 := Lib.hid k1
  have K3 := Lib.hid k3
  have K4 := Lib.hid k4
  have HG := Lib.hid hg
  clear hg
  have hpr := fun w1 (hb : But g y w1) => hP g w1 (by have := HG.out; omega) (K0.out.trans (hb.below.mono (by have := HG.out; omega)))
  refine (playL_yes g A n cap false false (.int .i64 0) (.int .i64 0) (.int .u64 0) (.int .u64 0) (.slice none 0 0) (.slice none 0 0) p0 is N S (.int .i64 0) (.int .i64 0) (.int .u64 0) (.int .u64 0) (.slice none 0 0) (.slice none 0 0) y k2 hpr).mono ?_
  clear hpr hP
  rintro e w2 ⟨rfl, ⟨A', n', cap', hT2⟩, hb2⟩
  have hgg := HG.out
  have hyz := K1.out
  obtain ⟨_, ⟨a0, a1, a2, a3, a4, a5⟩, b0, b1, b2, b3, b4, b5⟩ := (K3.out.but hb2 (by omega)).six
  obtain ⟨_, ⟨r1, r2, r3, r4, r5⟩, s1, s2, s3, s4, s5⟩ := (K4.out.but hb2 (by omega)).five
  obtain ⟨_, ⟨c0, c1, c2, c3, c4, c5, c6, c7, c8⟩, f0, f1, f2, f3, f4, f5, f6, f7, f8⟩ := hT2.nine
  have hsz := hb2.size
  have m1 : w.heap.size < w2.heap.size := by omega
  have m2 : w.heap.size + 1 < w2.heap.size := by omega
  have m3 : g < w2.heap.size := by omega
  have HBW : Hid (Below w.heap.size w w2) := Lib.hid (K0.out.trans (hb2.below.mono (by omega)))
  have HSZ := Lib.hid hsz
  clear k0 k1 k2 k3 k4 hgg hyz hsz
  clear hT2 hb2
  go_wp2_with (go_at_call 52; (with_reducible refine (cloneI_nil _).mono ?_); rintro e w3 ⟨rfl, rfl⟩)
  go_region
  all_goals (go_wp2_with fail)
  have hbw := HBW.out
  have hsz := HSZ.out
  have hyz := K1.out
  refine bodyPost_ret (v := .tuple #[.agg #[.int .i64 0, .int .i64 0, .int .u64 0, .int .u64 0, .slice none 0 0, .slice none 0 0], .agg #[.int .i64 0, .bool is, .int .i64 N, .int .u64 S, .slice none 0 0], .bool true]) (by simp [results, Try.results27, go_sem, a0, a1, a2, a3, a4, a5, r1, r2, r3, r4, r5, m1, m2]) rfl ⟨rfl, (by repeat (first | with_reducible assumption | with_reducible exact Below.refl _ _ | with_reducible refine Below.drew ?_ | with_reducible refine below_al ?_ | (with_reducible refine below_set1 (by omega) _ ?_)))⟩
set_option maxHeartbeats 1000000 in
theorem runL_left (A : Option Addr) (n cap : Nat) (p0 : Nat) (x : Acc) (w : World)
    (hP : ∀ g w1, w.heap.size ≤ g → Below w.heap.size w w1 → VarAt w1 g (tapeV A n cap true false (.int .i64 0) (.int .i64 0) (.int .u64 0) (.int .u64 0) (.slice none 0 0) (.slice none 0 0)) → Calls Try.prog 37 #[.func (.func 72) #[.pointer (some ⟨g, 0, none⟩)] #[], .pointer (some ⟨p0, 0, none⟩)] w1 (LeftPost w1 g x true)) :
    Calls Try.prog 27 #[.func (.func 37) #[] #[.pointer (some ⟨p0, 0, none⟩)], .slice A n cap] w (RunLeft x w) := by
  have hmf : ∀ (fn : Fn) (first cap : Array Value) (w : World), (Instr.makeFunc fn first cap).run Try.prog w = .ok (.func fn first cap) w := fun _ _ _ _ => rfl
  go_enter Try.func27, Try.ntmps27
  go_wp2_with fail
  refine gen_w (P := fun W => Calls _ _ _ W _) (fun y => Below w.heap.size w y ∧ y.heap.size = w.heap.size + 1 + 1 + 1 ∧ VarAt y (w.heap.size + 1 + 1) (tapeV A n cap false false (.int .i64 0) (.int .i64 0) (.int .u64 0) (.int .u64 0) (.slice none 0 0) (.slice none 0 0)) ∧ VarAt y w.heap.size [.int .i64 0, .int .i64 0, .int .u64 0, .int .u64 0, .slice none 0 0, .slice none 0 0] ∧ VarAt y (w.heap.size + 1) [.int .i64 0, .bool false, .int .i64 0, .int .u64 0, .slice none 0 0]) ⟨(by repeat (first | with_reducible assumption | with_reducible exact Below.refl _ _ | with_reducible refine Below.drew ?_ | with_reducible refine below_al ?_ | (with_reducible refine below_set1 (by omega) _ ?_))), by simp, VarAt.mk9 (by simp) (by go_simp) (by go_simp) (by go_simp) (by go_simp) (by go_simp) (by go_simp) (by go_simp) (by go_simp) (by go_simp) (by go_simp) (by go_simp) (by go_simp) (by go_simp) (by go_simp) (by go_simp) (by go_simp) (by go_simp) (by go_simp), VarAt.mk6 (by simp; omega) (by go_simp) (by go_simp) (by go_simp) (by go_simp) (by go_simp) (by go_simp) (by go_simp) (by go_simp) (by go_simp) (by go_simp) (by go_simp) (by go_simp), VarAt.mk5 (by simp) (by go_simp) (by go_simp) (by go_simp) (by go_simp) (by go_simp) (by go_simp) (by go_simp) (by go_simp) (by go_simp) (by go_simp)⟩ ?_
  rintro y ⟨k0, k1, k2, k3, k4⟩
  obtain ⟨g, hg⟩ : ∃ g, w.heap.size + 1 + 1 = g := ⟨_, rfl⟩
  rw [hg] at k1 k2 ⊢
  have K0 := Lib.hid k0
  have K1 := Lib.hid k1
  have K3 := Lib.hid k3
  have K4 := Lib.hid k4
  have HG := Lib.hid hg
  clear hg
  have hpr := fun w1 (hb : But g y w1) => hP g w1 (by have := HG.out; omega) (K0.out.trans (hb.below.mono (by have := HG.out; omega)))
  refine (playL_left g A n cap false false (.int .i64 0) (.int .i64 0) (.int .u64 0) (.int .u64 0) (.slice none 0 0) (.slice none 0 0) p0 x y k2 hpr).mono ?_
  clear hpr hP
  rintro e w2 ⟨D, dc, E, ec, A', cap', rfl, hT2, hX, hb2, hD, hE⟩
  have HX := Lib.hid hX
  have HD := Lib.hid hD
  have HE := Lib.hid hE
  have hgg := HG.out
  have hyz := K1.out
  obtain ⟨_, ⟨a0, a1, a2, a3, a4, a5⟩, b0, b1, b2, b3, b4, b5⟩ := (K3.out.but hb2 (by omega)).six
  obtain ⟨_, ⟨r1, r2, r3, r4, r5⟩, s1, s2, s3, s4, s5⟩ := (K4.out.but hb2 (by omega)).five
  obtain ⟨_, ⟨c0, c1, c2, c3, c4, c5, c6, c7, c8⟩, f0, f1, f2, f3, f4, f5, f6, f7, f8⟩ := hT2.nine
  have hsz := hb2.size
  have m1 : w.heap.size < w2.heap.size := by omega
  have m2 : w.heap.size + 1 < w2.heap.size := by omega
  have m3 : g < w2.heap.size := by omega
  have HBW : Hid (Below w.heap.size w w2) := Lib.hid (K0.out.trans (hb2.below.mono (by omega)))
  have HSZ := Lib.hid hsz
  clear k0 k1 k2 k3 k4 hgg hyz hsz
  clear hT2 hb2 hX hD hE
  go_wp2_with fail
  have hbw := HBW.out
  have hsz := HSZ.out
  have hyz := K1.out
  have hgg := HG.out
  have hx := HX.out
  refine bodyPost_ret (v := .tuple #[.agg #[.int .i64 x.k, .int .i64 x.c, .int .u64 (x.a : Int), .int .u64 (x.b : Int), .slice D x.d.length dc, .slice E x.m ec], .agg #[.int .i64 0, .bool false, .int .i64 0, .int .u64 0, .slice none 0 0], .bool false]) (by simp [results, Try.results27, go_sem, a0, a1, a2, a3, a4, a5, r1, r2, r3, r4, r5, m1, m2]) rfl ⟨D, dc, E, ec, rfl, ⟨hx.k, hx.c, hx.a, hx.b, hx.dl, hx.ml, hx.d.svd (Q := fun b => y.heap.size ≤ b) (by repeat (first | with_reducible exact Svd.refl _ _ | with_reducible refine Svd.drew ?_ | with_reducible refine Svd.alloc ?_ _ | (with_reducible refine Svd.set ?_ _ _ _ (by omega)))) HD.out, hx.f.svd (Q := fun b => y.heap.size ≤ b) (by repeat (first | with_reducible exact Svd.refl _ _ | with_reducible refine Svd.drew ?_ | with_reducible refine Svd.alloc ?_ _ | (with_reducible refine Svd.set ?_ _ _ _ (by omega)))) HE.out⟩, (by repeat (first | with_reducible assumption | with_reducible exact Below.refl _ _ | with_reducible refine Below.drew ?_ | with_reducible refine below_al ?_ | (with_reducible refine below_set1 (by omega) _ ?_))), HD.out.mono fun b h => by omega, HE.out.mono fun b h => by omega⟩

set_option maxHeartbeats 1000000 in
theorem runD_yes (A : Option Addr) (n cap : Nat) (p0 p1 : Nat) (is : Bool) (N S : Int) (w : World)
    (hP : ∀ g w1, w.heap.size ≤ g → Below w.heap.size w w1 → VarAt w1 g (tapeV A n cap true false (.int .i64 0) (.int .i64 0) (.int .u64 0) (.int .u64 0) (.slice none 0 0) (.slice none 0 0)) → Calls Try.prog 28 #[.func (.func 72) #[.pointer (some ⟨g, 0, none⟩)] #[], .pointer (some ⟨p0, 0, none⟩), .pointer (some ⟨p1, 0, none⟩)] w1 (ProgYes g is N S false (.int .i64 0) (.int .i64 0) (.int .u64 0) (.int .u64 0) (.slice none 0 0) (.slice none 0 0) w1)) :
    Calls Try.prog 27 #[.func (.func 28) #[] #[.pointer (some ⟨p0, 0, none⟩), .pointer (some ⟨p1, 0, none⟩)], .slice A n cap] w (RunYes is N S w) := by
  have hmf : ∀ (fn : Fn) (first cap : Array Value) (w : World), (Instr.makeFunc fn first cap).run Try.prog w = .ok (.func fn first cap) w := fun _ _ _ _ => rfl
  go_enter Try.func27, Try.ntmps27
  go_wp2_with fail
  refine gen_w (P := fun W => Calls _ _ _ W _) (fun y => Below w.heap.size w y ∧ y.heap.size = w.heap.size + 1 + 1 + 1 ∧ VarAt y (w.heap.size + 1 + 1) (tapeV A n cap false false (.int .i64 0) (.int .i64 0) (.int .u64 0) (.int .u64 0) (.slice none 0 0) (.slice none 0 0)) ∧ VarAt y w.heap.size [.int .i64 0, .int .i64 0, .int .u64 0, .int .u64 0, .slice none 0 0, .slice none 0 0] ∧ VarAt y (w.heap.size + 1) [.int .i64 0, .bool false, .int .i64 0, .int .u64 0, .slice none 0 0]) ⟨(by repeat (first | with_reducible assumption | with_reducible exact Below.refl _ _ | with_reducible refine Below.drew ?_ | with_reducible refine below_al ?_ | (with_reducible refine below_set1 (by omega) _ ?_))), by simp, VarAt.mk9 (by simp) (by go_simp) (by go_simp) (by go_simp) (by go_simp) (by go_simp) (by go_simp) (by go_simp) (by go_simp) (by go_simp) (by go_simp) (by go_simp) (by go_simp) (by go_simp) (by go_simp) (by go_simp) (by go_simp) (by go_simp) (by go_simp), VarAt.mk6 (by simp; omega) (by go_simp) (by go_simp) (by go_simp) (by go_simp) (by go_simp) (by go_simp) (by go_simp) (by go_simp) (by go_simp) (by go_simp) (by go_simp) (by go_simp), VarAt.mk5 (by simp) (by go_simp) (by go_simp) (by go_simp) (by go_simp) (by go_simp) (by go_simp) (by go_simp) (by go_simp) (by go_simp) (by go_simp)⟩ ?_
  rintro y ⟨k0, k1, k2, k3, k4⟩
  obtain ⟨g, hg⟩ : ∃ g, w.heap.size + 1 + 1 = g := ⟨_, rfl⟩
  rw [hg] at k1 k2 ⊢
  have K0 := Lib.hid k0
  have K1 := Lib.hid k1
  have K3 := Lib.hid k3
  have K4 := Lib.hid k4
  have HG := Lib.hid hg
  clear hg
  have hpr := fun w1 (hb : But g y w1) => hP g w1 (by have := HG.out; omega) (K0.out.trans (hb.below.mono (by have := HG.out; omega)))
  refine (playD_yes g A n cap false false (.int .i64 0) (.int .i64 0) (.int .u64 0) (.int .u64 0) (.slice none 0 0) (.slice none 0 0) p0 p1 is N S (.int .i64 0) (.int .i64 0) (.int .u64 0) (.int .u64 0) (.slice none 0 0) (.slice none 0 0) y k2 hpr).mono ?_
  clear hpr hP
  rintro e w2 ⟨rfl, ⟨A', n', cap', hT2⟩, hb2⟩
  have hgg := HG.out
  have hyz := K1.out
  obtain ⟨_, ⟨a0, a1, a2, a3, a4, a5⟩, b0, b1, b2, b3, b4, b5⟩ := (K3.out.but hb2 (by omega)).six
  obtain ⟨_, ⟨r1, r2, r3, r4, r5⟩, s1, s2, s3, s4, s5⟩ := (K4.out.but hb2 (by omega)).five
  obtain ⟨_, ⟨c0, c1, c2, c3, c4, c5, c6, c7, c8⟩, f0, f1, f2, f3, f4, f5, f6, f7, f8⟩ := hT2.nine
  have hsz := hb2.size
  have m1 : w.heap.size < w2.heap.size := by omega
  have m2 : w.heap.size + 1 < w2.heap.size := by omega
  have m3 : g < w2.heap.size := by omega
  have HBW : Hid (Below w.heap.size w w2) := Lib.hid (K0.out.trans (hb2.below.mono (by omega)))
  have HSZ := Lib.hid hsz
  clear k0 k1 k2 k3 k4 hgg hyz hsz
  clear hT2 hb2
  go_wp2_with (go_at_call 52; (with_reducible refine (cloneI_nil _).mono ?_); rintro e w3 ⟨rfl, rfl⟩)
  go_region
  all_goals (go_wp2_with fail)
  have hbw := HBW.out
  have hsz := HSZ.out
  have hyz := K1.out
  refine bodyPost_ret (v := .tuple #[.agg #[.int .i64 0, .int .i64 0, .int .u64 0, .int .u64 0, .slice none 0 0, .slice none 0 0], .agg #[.int .i64 0, .bool is, .int .i64 N, .int .u64 S, .slice none 0 0], .bool true]) (by simp [results, Try.results27, go_sem, a0, a1, a2, a3, a4, a5, r1, r2, r3, r4, r5, m1, m2]) rfl ⟨rfl, (by repeat (first | with_reducible assumption | with_reducible exact Below.refl _ _ | with_reducible refine Below.drew ?_ | with_reducible refine below_al ?_ | (with_reducible refine below_set1 (by omega) _ ?_)))⟩
set_option maxHeartbeats 1000000 in
theorem runD_left (A : Option Addr) (n cap : Nat) (p0 p1 : Nat) (x : Acc) (w : World)
    (hP : ∀ g w1, w.heap.size ≤ g → Below w.heap.size w w1 → VarAt w1 g (tapeV A n cap true false (.int .i64 0) (.int .i64 0) (.int .u64 0) (.int .u64 0) (.slice none 0 0) (.slice none 0 0)) → Calls Try.prog 28 #[.func (.func 72) #[.pointer (some ⟨g, 0, none⟩)] #[], .pointer (some ⟨p0, 0, none⟩), .pointer (some ⟨p1, 0, none⟩)] w1 (LeftPost w1 g x true)) :
    Calls Try.prog 27 #[.func (.func 28) #[] #[.pointer (some ⟨p0, 0, none⟩), .pointer (some ⟨p1, 0, none⟩)], .slice A n cap] w (RunLeft x w) := by
  have hmf : ∀ (fn : Fn) (first cap : Array Value) (w : World), (Instr.makeFunc fn first cap).run Try.prog w = .ok (.func fn first cap) w := fun _ _ _ _ => rfl
  go_enter Try.func27, Try.ntmps27
  go_wp2_with fail
  refine gen_w (P := fun W => Calls _ _ _ W _) (fun y => Below w.heap.size w y ∧ y.heap.size = w.heap.size + 1 + 1 + 1 ∧ VarAt y (w.heap.size + 1 + 1) (tapeV A n cap false false (.int .i64 0) (.int .i64 0) (.int .u64 0) (.int .u64 0) (.slice none 0 0) (.slice none 0 0)) ∧ VarAt y w.heap.size [.int .i64 0, .int .i64 0, .int .u64 0, .int .u64 0, .slice none 0 0, .slice none 0 0] ∧ VarAt y (w.heap.size + 1) [.int .i64 0, .bool false, .int .i64 0, .int .u64 0, .slice none 0 0]) ⟨(by repeat (first | with_reducible assumption | with_reducible exact Below.refl _ _ | with_reducible refine Below.drew ?_ | with_reducible refine below_al ?_ | (with_reducible refine below_set1 (by omega) _ ?_))), by simp, VarAt.mk9 (by simp) (by go_simp) (by go_simp) (by go_simp) (by go_simp) (by go_simp) (by go_simp) (by go_simp) (by go_simp) (by go_simp) (by go_simp) (by go_simp) (by go_simp) (by go_simp) (by go_simp) (by go_simp) (by go_simp) (by go_simp) (by go_simp), VarAt.mk6 (by simp; omega) (by go_simp) (by go_simp) (by go_simp) (by go_simp) (by go_simp) (by go_simp) (by go_simp) (by go_simp) (by go_simp) (by go_simp) (by go_simp) (by go_simp), VarAt.mk5 (by simp) (by go_simp) (by go_simp) (by go_simp) (by go_simp) (by go_simp) (by go_simp) (by go_simp) (by go_simp) (by go_simp) (by go_simp)⟩ ?_
  rintro y ⟨k0, k1, k2, k3, k4⟩
  obtain ⟨g, hg⟩ : ∃ g, w.heap.size + 1 + 1 = g := ⟨_, rfl⟩
  rw [hg] at k1 k2 ⊢
  have K0 := Lib.hid k0
  have K1 := Lib.hid k1
  have K3 := Lib.hid k3
  have K4 := Lib.hid k4
  have HG := Lib.hid hg
  clear hg
  have hpr := fun w1 (hb : But g y w1) => hP g w1 (by have := HG.out; omega) (K0.out.trans (hb.below.mono (by have := HG.out; omega)))
  refine (playD_left g A n cap false false (.int .i64 0) (.int .i64 0) (.int .u64 0) (.int .u64 0) (.slice none 0 0) (.slice none 0 0) p0 p1 x y k2 hpr).mono ?_
  clear hpr hP
  rintro e w2 ⟨D, dc, E, ec, A', cap', rfl, hT2, hX, hb2, hD, hE⟩
  have HX := Lib.hid hX
  have HD := Lib.hid hD
  have HE := Lib.hid hE
  have hgg := HG.out
  have hyz := K1.out
  obtain ⟨_, ⟨a0, a1, a2, a3, a4, a5⟩, b0, b1, b2, b3, b4, b5⟩ := (K3.out.but hb2 (by omega)).six
  obtain ⟨_, ⟨r1, r2, r3, r4, r5⟩, s1, s2, s3, s4, s5⟩ := (K4.out.but hb2 (by omega)).five
  obtain ⟨_, ⟨c0, c1, c2, c3, c4, c5, c6, c7, c8⟩, f0, f1, f2, f3, f4, f5, f6, f7, f8⟩ := hT2.nine
  have hsz := hb2.size
  have m1 : w.heap.size < w2.heap.size := by omega
  have m2 : w.heap.size + 1 < w2.heap.size := by omega
  have m3 : g < w2.heap.size := by omega
  have HBW : Hid (Below w.heap.size w w2) := Lib.hid (K0.out.trans (hb2.below.mono (by omega)))
  have HSZ := Lib.hid hsz
  clear k0 k1 k2 k3 k4 hgg hyz hsz
  clear hT2 hb2 hX hD hE
  go_wp2_with fail
  have hbw := HBW.out
  have hsz := HSZ.out
  have hyz := K1.out
  have hgg := HG.out
  have hx := HX.out
  refine bodyPost_ret (v := .tuple #[.agg #[.int .i64 x.k, .int .i64 x.c, .int .u64 (x.a : Int), .int .u64 (x.b : Int), .slice D x.d.length dc, .slice E x.m ec], .agg #[.int .i64 0, .bool false, .int .i64 0, .int .u64 0, .slice none 0 0], .bool false]) (by simp [results, Try.results27, go_sem, a0, a1, a2, a3, a4, a5, r1, r2, r3, r4, r5, m1, m2]) rfl ⟨D, dc, E, ec, rfl, ⟨hx.k, hx.c, hx.a, hx.b, hx.dl, hx.ml, hx.d.svd (Q := fun b => y.heap.size ≤ b) (by repeat (first | with_reducible exact Svd.refl _ _ | with_reducible refine Svd.drew ?_ | with_reducible refine Svd.alloc ?_ _ | (with_reducible refine Svd.set ?_ _ _ _ (by omega)))) HD.out, hx.f.svd (Q := fun b => y.heap.size ≤ b) (by repeat (first | with_reducible exact Svd.refl _ _ | with_reducible refine Svd.drew ?_ | with_reducible refine Svd.alloc ?_ _ | (with_reducible refine Svd.set ?_ _ _ _ (by omega)))) HE.out⟩, (by repeat (first | with_reducible assumption | with_reducible exact Below.refl _ _ | with_reducible refine Below.drew ?_ | with_reducible refine below_al ?_ | (with_reducible refine below_set1 (by omega) _ ?_))), HD.out.mono fun b h => by omega, HE.out.mono fun b h => by omega⟩
end Go.Proofs.Ytjbhichgojjakaa
