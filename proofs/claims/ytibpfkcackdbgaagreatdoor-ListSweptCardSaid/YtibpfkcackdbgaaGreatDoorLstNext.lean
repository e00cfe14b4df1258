/- LstNext -/
import Derived.Test.YtibpfkcackdbgaaGreatDoorLstA
import Derived.Test.YtibpfkcackdbgaaGreatDoorSavA
namespace Go.Proofs.YtibpfkcackdbgaaGreatDoor
open Go.ChangeShapes Go.WideShapes Go.ChangeAt Go.RowKit Go.BigFrame
set_option linter.unusedVariables false
set_option maxRecDepth 100000
set_option maxHeartbeats 1000000 in
theorem playLv_yes (g : Nat) (A : Option Addr) (n cap : Nat) (p o : Bool) (q0 q1 q2 q3 q4 q5 : Value) (p0 p1 : Nat) (er : Int) (is : Bool) (N S : Int) (z0 z1 z2 z3 z4 z5 : Value) (w : World)
  (hT : VarAt w g (tapeV A n cap p o q0 q1 q2 q3 q4 q5))
  (hP : ∀ w1, But g w w1 → VarAt w1 g (tapeV A n cap true o q0 q1 q2 q3 q4 q5) → Calls Tryz.prog 83 #[.func (.func 142) #[.pointer (some ⟨g, 0, none⟩)] #[], .pointer (some ⟨p0, 0, none⟩), .pointer (some ⟨p1, 0, none⟩)] w1 (ProgE g er is N S o z0 z1 z2 z3 z4 z5 w1)) :
  Calls Tryz.prog 96 #[.pointer (some ⟨g, 0, none⟩), .func (.func 83) #[] #[.pointer (some ⟨p0, 0, none⟩), .pointer (some ⟨p1, 0, none⟩)]] w (PlayE g er is N S o z0 z1 z2 z3 z4 z5 w) := by
 obtain ⟨hgz, ⟨c0, c1, c2, c3, c4, c5, c6, c7, c8⟩, f0, f1, f2, f3, f4, f5, f6, f7, f8⟩ := hT.nine
 have g1 : g < w.heap.size + 1 := by omega
 have g2 : g < w.heap.size + 1 + 1 := by omega
 have g3 : ¬ (g = w.heap.size) := by omega
 have g4 : ¬ (g = w.heap.size + 1) := by omega
 have hmf : ∀ (fn : Fn) (first cap : Array Value) (w : World), (Instr.makeFunc fn first cap).run Tryz.prog w = .ok (.func fn first cap) w := fun _ _ _ _ => rfl
 go_enter_defers Tryz.func96, Tryz.ntmps96
 go_wp2_with fail
 refine gen_w (P := fun W => Calls _ _ _ W _) (fun y => But g w y ∧ y.heap.size = w.heap.size + 1 + 1 ∧ VarAt y g (tapeV A n cap true o q0 q1 q2 q3 q4 q5) ∧ VarAt y w.heap.size [.pointer (some ⟨g, 0, none⟩)] ∧ VarAt y (w.heap.size + 1) [.int .i64 0, .bool false, .int .i64 0, .int .u64 0, .slice none 0 0]) ⟨butA, by simp, VarAt.mk9 (by simp; omega), VarAt.mk1 (by simp; omega), VarAt.mk5 (by simp)⟩ ?_
 rintro y ⟨k0, k1, k2, k3, k4⟩
 have K0 := Lib.hid k0
 have K1 := Lib.hid k1
 have K3 := Lib.hid k3
 have K4 := Lib.hid k4
 have HP := hP y k0 k2
 clear hP hT c0 c1 c2 c3 c4 c5 c6 c7 c8 f0 f1 f2 f3 f4 f5 f6 f7 f8 k0 k1 k2 k3 k4
 refine HP.mono ?_
 rintro e w2 ⟨rfl, ⟨A', n', cap', hT2⟩, hb2⟩
 obtain ⟨hgz2, ⟨c0, c1, c2, c3, c4, c5, c6, c7, c8⟩, f0, f1, f2, f3, f4, f5, f6, f7, f8⟩ := hT2.nine
 obtain ⟨r0, ⟨r1, r2, r3, r4, r5⟩, s1, s2, s3, s4, s5⟩ := (K4.out.but hb2 (by omega)).five
 have hpb := ((K3.out.but hb2 (by omega)).2.1 0 _ rfl)
 have n1 : ¬ (w.heap.size = g) := by omega
 have n2 : ¬ (w.heap.size + 1 = g) := by omega
 go_wp2_with fail
 refine leaves_cons (f := 141) (args := #[.pointer (some ⟨w.heap.size, 0, none⟩)]) (by simp) (by simp [go_sem]) ?_
 refine (catch_idle w.heap.size g true _ (by go_simp) (by go_simp) (by go_simp)).mono ?_
 rintro e u' w3 ⟨rfl, rfl, rfl⟩
 have hby : But g w w2 := K0.out.trans hb2
 refine ⟨.tuple #[.agg #[.int .i64 er, .bool is, .int .i64 N, .int .u64 S, .slice none 0 0], .bool true], by simp [results, Tryz.results96, go_sem, r1, r2, r3, r4, r5], rfl, ⟨A', n', cap', VarAt.mk9 (by simp; omega)⟩, butA⟩
set_option maxHeartbeats 1000000 in
theorem playLv_left (g : Nat) (A : Option Addr) (n cap : Nat) (p o : Bool) (q0 q1 q2 q3 q4 q5 : Value) (p0 p1 : Nat) (x : Acc) (w : World)
  (hT : VarAt w g (tapeV A n cap p o q0 q1 q2 q3 q4 q5))
  (hP : ∀ w1, But g w w1 → VarAt w1 g (tapeV A n cap true o q0 q1 q2 q3 q4 q5) → Calls Tryz.prog 83 #[.func (.func 142) #[.pointer (some ⟨g, 0, none⟩)] #[], .pointer (some ⟨p0, 0, none⟩), .pointer (some ⟨p1, 0, none⟩)] w1 (LeftPost w1 g x true)) :
  Calls Tryz.prog 96 #[.pointer (some ⟨g, 0, none⟩), .func (.func 83) #[] #[.pointer (some ⟨p0, 0, none⟩), .pointer (some ⟨p1, 0, none⟩)]] w (PlayLeft g x w) := by
 obtain ⟨hgz, ⟨c0, c1, c2, c3, c4, c5, c6, c7, c8⟩, f0, f1, f2, f3, f4, f5, f6, f7, f8⟩ := hT.nine
 have g1 : g < w.heap.size + 1 := by omega
 have g2 : g < w.heap.size + 1 + 1 := by omega
 have g3 : ¬ (g = w.heap.size) := by omega
 have g4 : ¬ (g = w.heap.size + 1) := by omega
 have hmf : ∀ (fn : Fn) (first cap : Array Value) (w : World), (Instr.makeFunc fn first cap).run Tryz.prog w = .ok (.func fn first cap) w := fun _ _ _ _ => rfl
 go_enter_defers Tryz.func96, Tryz.ntmps96
 go_wp2_with fail
 refine gen_w (P := fun W => Calls _ _ _ W _) (fun y => But g w y ∧ y.heap.size = w.heap.size + 1 + 1 ∧ VarAt y g (tapeV A n cap true o q0 q1 q2 q3 q4 q5) ∧ VarAt y w.heap.size [.pointer (some ⟨g, 0, none⟩)] ∧ VarAt y (w.heap.size + 1) [.int .i64 0, .bool false, .int .i64 0, .int .u64 0, .slice none 0 0]) ⟨butA, by simp, VarAt.mk9 (by simp; omega), VarAt.mk1 (by simp; omega), VarAt.mk5 (by simp)⟩ ?_
 rintro y ⟨k0, k1, k2, k3, k4⟩
 have K0 := Lib.hid k0
 have K1 := Lib.hid k1
 have K3 := Lib.hid k3
 have K4 := Lib.hid k4
 have HP := hP y k0 k2
 clear hP hT c0 c1 c2 c3 c4 c5 c6 c7 c8 f0 f1 f2 f3 f4 f5 f6 f7 f8 k0 k1 k2 k3 k4
 refine HP.mono ?_
 rintro e w2 ⟨D, dc, E, ec, A', cap', rfl, hT2, hX, hb2, hD, hE⟩
 have HX := Lib.hid hX
 have HD := Lib.hid hD
 have HE := Lib.hid hE
 clear hX hD hE
 obtain ⟨hgz2, ⟨c0, c1, c2, c3, c4, c5, c6, c7, c8⟩, f0, f1, f2, f3, f4, f5, f6, f7, f8⟩ := hT2.nine
 obtain ⟨r0, ⟨r1, r2, r3, r4, r5⟩, s1, s2, s3, s4, s5⟩ := (K4.out.but hb2 (by omega)).five
 have hpb := ((K3.out.but hb2 (by omega)).2.1 0 _ rfl)
 have n1 : ¬ (w.heap.size = g) := by omega
 have n2 : ¬ (w.heap.size + 1 = g) := by omega
 go_wp2_with fail
 refine leaves_cons (f := 141) (args := #[.pointer (some ⟨w.heap.size, 0, none⟩)]) (by simp) (by simp [go_sem]) ?_
 refine (catch_left w.heap.size g true _ _ (by go_simp) (by go_simp) (by go_simp)).mono ?_
 rintro e u' w3 ⟨rfl, rfl, rfl⟩
 have hby : But g w w2 := K0.out.trans hb2
 have hx := HX.out
 have hz := K1.out
 have hsv : Svd (fun b => y.heap.size ≤ b) w2 (w2.setCell ⟨g, 1, none⟩ (.bool false)) := (Svd.refl _ _).set _ _ _ (by omega)
 refine ⟨.tuple #[.agg #[.int .i64 0, .bool false, .int .i64 0, .int .u64 0, .slice none 0 0], .bool false], by simp [results, Tryz.results96, go_sem, r1, r2, r3, r4, r5], D, dc, E, ec, A', cap', rfl, VarAt.mk9 (by simp; omega), ⟨hx.k, hx.c, hx.a, hx.b, hx.dl, hx.ml, hx.d.svd hsv HD.out, hx.f.svd hsv HE.out⟩, butA, HD.out.mono fun b h => by omega, HE.out.mono fun b h => by omega⟩
set_option maxHeartbeats 1000000 in
theorem runLv_yes (A : Option Addr) (n cap : Nat) (p0 p1 : Nat) (er : Int) (is : Bool) (N S : Int) (w : World)
  (hP : ∀ g w1, w.heap.size ≤ g → Below w.heap.size w w1 → VarAt w1 g (tapeV A n cap true false (.int .i64 0) (.int .i64 0) (.int .u64 0) (.int .u64 0) (.slice none 0 0) (.slice none 0 0)) → Calls Tryz.prog 83 #[.func (.func 142) #[.pointer (some ⟨g, 0, none⟩)] #[], .pointer (some ⟨p0, 0, none⟩), .pointer (some ⟨p1, 0, none⟩)] w1 (ProgE g er is N S false (.int .i64 0) (.int .i64 0) (.int .u64 0) (.int .u64 0) (.slice none 0 0) (.slice none 0 0) w1)) :
  Calls Tryz.prog 62 #[.func (.func 83) #[] #[.pointer (some ⟨p0, 0, none⟩), .pointer (some ⟨p1, 0, none⟩)], .slice A n cap] w (RunE er is N S w) := by
 have hmf : ∀ (fn : Fn) (first cap : Array Value) (w : World), (Instr.makeFunc fn first cap).run Tryz.prog w = .ok (.func fn first cap) w := fun _ _ _ _ => rfl
 go_enter Tryz.func62, Tryz.ntmps62
 go_wp2_with fail
 refine gen_w (P := fun W => Calls _ _ _ W _) (fun y => Below w.heap.size w y ∧ y.heap.size = w.heap.size + 1 + 1 + 1 ∧ VarAt y (w.heap.size + 1 + 1) (tapeV A n cap false false (.int .i64 0) (.int .i64 0) (.int .u64 0) (.int .u64 0) (.slice none 0 0) (.slice none 0 0)) ∧ VarAt y w.heap.size [.int .i64 0, .int .i64 0, .int .u64 0, .int .u64 0, .slice none 0 0, .slice none 0 0] ∧ VarAt y (w.heap.size + 1) [.int .i64 0, .bool false, .int .i64 0, .int .u64 0, .slice none 0 0]) ⟨belA, by simp, VarAt.mk9 (by simp), VarAt.mk6 (by simp; omega), VarAt.mk5 (by simp)⟩ ?_
 rintro y ⟨k0, k1, k2, k3, k4⟩
 obtain ⟨g, hg⟩ : ∃ g, w.heap.size + 1 + 1 = g := ⟨_, rfl⟩
 rw [hg] at k1 k2 ⊢
 have K0 := Lib.hid k0
 have K1 := Lib.hid k1
 have K3 := Lib.hid k3
 have K4 := Lib.hid k4
 have HG := Lib.hid hg
 clear hg
 have hpr := fun w1 (hb : But g y w1) => hP g w1 (by have := HG.out; omega) (K0.out.trans (hb.below.mono (by have := HG.out; omega)))
 refine (playLv_yes g A n cap false false (.int .i64 0) (.int .i64 0) (.int .u64 0) (.int .u64 0) (.slice none 0 0) (.slice none 0 0) p0 p1 er is N S (.int .i64 0) (.int .i64 0) (.int .u64 0) (.int .u64 0) (.slice none 0 0) (.slice none 0 0) y k2 hpr).mono ?_
 clear hpr hP
 rintro e w2 ⟨rfl, ⟨A', n', cap', hT2⟩, hb2⟩
 have hgg := HG.out
 have hyz := K1.out
 obtain ⟨_, ⟨a0, a1, a2, a3, a4, a5⟩, b0, b1, b2, b3, b4, b5⟩ := (K3.out.but hb2 (by omega)).six
 obtain ⟨_, ⟨r1, r2, r3, r4, r5⟩, s1, s2, s3, s4, s5⟩ := (K4.out.but hb2 (by omega)).five
 obtain ⟨_, ⟨c0, c1, c2, c3, c4, c5, c6, c7, c8⟩, f0, f1, f2, f3, f4, f5, f6, f7, f8⟩ := hT2.nine
 have hsz := hb2.size
 have m1 : w.heap.size < w2.heap.size := by omega
 have m2 : w.heap.size + 1 < w2.heap.size := by omega
 have m3 : g < w2.heap.size := by omega
 have HBW : Hid (Below w.heap.size w w2) := Lib.hid (K0.out.trans (hb2.below.mono (by omega)))
 have HSZ := Lib.hid hsz
 clear k0 k1 k2 k3 k4 hgg hyz hsz
 clear hT2 hb2
 go_wp2_with (go_at_call 97; (with_reducible refine (cloneI_nil _).mono ?_); rintro e w3 ⟨rfl, rfl⟩)
 go_region
 all_goals (go_wp2_with fail)
 have hbw := HBW.out
 have hsz := HSZ.out
 have hyz := K1.out
 refine bodyPost_ret (v := .tuple #[.agg #[.int .i64 0, .int .i64 0, .int .u64 0, .int .u64 0, .slice none 0 0, .slice none 0 0], .agg #[.int .i64 er, .bool is, .int .i64 N, .int .u64 S, .slice none 0 0], .bool true]) (by simp [results, Tryz.results62, go_sem, a0, a1, a2, a3, a4, a5, r1, r2, r3, r4, r5, m1, m2]) rfl ⟨rfl, belA⟩
set_option maxHeartbeats 1000000 in
theorem runLv_left (A : Option Addr) (n cap : Nat) (p0 p1 : Nat) (x : Acc) (w : World)
  (hP : ∀ g w1, w.heap.size ≤ g → Below w.heap.size w w1 → VarAt w1 g (tapeV A n cap true false (.int .i64 0) (.int .i64 0) (.int .u64 0) (.int .u64 0) (.slice none 0 0) (.slice none 0 0)) → Calls Tryz.prog 83 #[.func (.func 142) #[.pointer (some ⟨g, 0, none⟩)] #[], .pointer (some ⟨p0, 0, none⟩), .pointer (some ⟨p1, 0, none⟩)] w1 (LeftPost w1 g x true)) :
  Calls Tryz.prog 62 #[.func (.func 83) #[] #[.pointer (some ⟨p0, 0, none⟩), .pointer (some ⟨p1, 0, none⟩)], .slice A n cap] w (RunLeft x w) := by
 have hmf : ∀ (fn : Fn) (first cap : Array Value) (w : World), (Instr.makeFunc fn first cap).run Tryz.prog w = .ok (.func fn first cap) w := fun _ _ _ _ => rfl
 go_enter Tryz.func62, Tryz.ntmps62
 go_wp2_with fail
 refine gen_w (P := fun W => Calls _ _ _ W _) (fun y => Below w.heap.size w y ∧ y.heap.size = w.heap.size + 1 + 1 + 1 ∧ VarAt y (w.heap.size + 1 + 1) (tapeV A n cap false false (.int .i64 0) (.int .i64 0) (.int .u64 0) (.int .u64 0) (.slice none 0 0) (.slice none 0 0)) ∧ VarAt y w.heap.size [.int .i64 0, .int .i64 0, .int .u64 0, .int .u64 0, .slice none 0 0, .slice none 0 0] ∧ VarAt y (w.heap.size + 1) [.int .i64 0, .bool false, .int .i64 0, .int .u64 0, .slice none 0 0]) ⟨belA, by simp, VarAt.mk9 (by simp), VarAt.mk6 (by simp; omega), VarAt.mk5 (by simp)⟩ ?_
 rintro y ⟨k0, k1, k2, k3, k4⟩
 obtain ⟨g, hg⟩ : ∃ g, w.heap.size + 1 + 1 = g := ⟨_, rfl⟩
 rw [hg] at k1 k2 ⊢
 have K0 := Lib.hid k0
 have K1 := Lib.hid k1
 have K3 := Lib.hid k3
 have K4 := Lib.hid k4
 have HG := Lib.hid hg
 clear hg
 have hpr := fun w1 (hb : But g y w1) => hP g w1 (by have := HG.out; omega) (K0.out.trans (hb.below.mono (by have := HG.out; omega)))
 refine (playLv_left g A n cap false false (.int .i64 0) (.int .i64 0) (.int .u64 0) (.int .u64 0) (.slice none 0 0) (.slice none 0 0) p0 p1 x y k2 hpr).mono ?_
 clear hpr hP
 rintro e w2 ⟨D, dc, E, ec, A', cap', rfl, hT2, hX, hb2, hD, hE⟩
 have HX := Lib.hid hX
 have HD := Lib.hid hD
 have HE := Lib.hid hE
 have hgg := HG.out
 have hyz := K1.out
 obtain ⟨_, ⟨a0, a1, a2, a3, a4, a5⟩, b0, b1, b2, b3, b4, b5⟩ := (K3.out.but hb2 (by omega)).six
 obtain ⟨_, ⟨r1, r2, r3, r4, r5⟩, s1, s2, s3, s4, s5⟩ := (K4.out.but hb2 (by omega)).five
 obtain ⟨_, ⟨c0, c1, c2, c3, c4, c5, c6, c7, c8⟩, f0, f1, f2, f3, f4, f5, f6, f7, f8⟩ := hT2.nine
 have hsz := hb2.size
 have m1 : w.heap.size < w2.heap.size := by omega
 have m2 : w.heap.size + 1 < w2.heap.size := by omega
 have m3 : g < w2.heap.size := by omega
 have HBW : Hid (Below w.heap.size w w2) := Lib.hid (K0.out.trans (hb2.below.mono (by omega)))
 have HSZ := Lib.hid hsz
 clear k0 k1 k2 k3 k4 hgg hyz hsz
 clear hT2 hb2 hX hD hE
 go_wp2_with fail
 have hbw := HBW.out
 have hsz := HSZ.out
 have hyz := K1.out
 have hgg := HG.out
 have hx := HX.out
 refine bodyPost_ret (v := .tuple #[.agg #[.int .i64 x.k, .int .i64 x.c, .int .u64 (x.a : Int), .int .u64 (x.b : Int), .slice D x.d.length dc, .slice E x.m ec], .agg #[.int .i64 0, .bool false, .int .i64 0, .int .u64 0, .slice none 0 0], .bool false]) (by simp [results, Tryz.results62, go_sem, a0, a1, a2, a3, a4, a5, r1, r2, r3, r4, r5, m1, m2]) rfl ⟨D, dc, E, ec, rfl, ⟨hx.k, hx.c, hx.a, hx.b, hx.dl, hx.ml, hx.d.svd (Q := fun b => y.heap.size ≤ b) (by repeat (first | with_reducible exact Svd.refl _ _ | with_reducible refine Svd.drew ?_ | with_reducible refine Svd.alloc ?_ _ | (with_reducible refine Svd.set ?_ _ _ _ (by omega)))) HD.out, hx.f.svd (Q := fun b => y.heap.size ≤ b) (by repeat (first | with_reducible exact Svd.refl _ _ | with_reducible refine Svd.drew ?_ | with_reducible refine Svd.alloc ?_ _ | (with_reducible refine Svd.set ?_ _ _ _ (by omega)))) HE.out⟩, belA, HD.out.mono fun b h => by omega, HE.out.mono fun b h => by omega⟩
def lNextR (t : Nat) (k u v : Int) (x : Nat) (log : List Res) : RanD (List Res) := (lPrg t k u v x (log.length + 1)).run tapeTellD log
theorem lNextR_ok (t : Nat) (k u v : Int) (x : Nat) (log : List Res) : lNextR t k u v x log ≠ .bad := Prd.ok_run _ _ (lPrg_ok t k u v x _ _ (Nat.lt_succ_self _))
def TapeEndD (g : Nat) (w0 wb w : World) (ret : Nat → Value) : RanD (List Res) → Ending → World → Prop
 | .done r s, e, w' => e = .returned (ret r) ∧ TapeI g w0 wb s w' ∧ But g w w'
 | .left k i a b d, e, w' => LeftPost wb g (accD k i a b d) true e w'
 | .bad, _, _ => True
theorem lAnswerT_at (g : Nat) (w0 wb : World) (hg : w0.heap.size ≤ g) (hgw : g < wb.heap.size) (hb0 : Below w0.heap.size w0 wb) (hT : Tab w0) (t : Nat) (ht : t ≤ 64) (k u v : Int) (x : Nat) (hx : x < 18446744073709551616) (hop : LOp k u v x) (n : Nat) (s : List Res) (R : RanD (List Res)) (hR : (lPrg t k u v x n).run tapeTellD s = R) (hb : R ≠ .bad) (w : World) (hI : TapeI g w0 wb s w) :
  Calls Tryz.prog 84 #[doV g, .int .i64 (t : Int), .agg #[.int .i64 k, .int .i64 u, .int .i64 v, .int .u64 (x : Int)]] w (TapeEndD g w0 wb w (lOut k) R) := by
 have hsz := hI.2.size
 refine (lAnswer_at (tapeD g w0 wb hg hgw hb0 hT) t ht k u v x hx hop n s R hR hb w hI (show g < w.heap.size by omega) (fun _ => show wb.heap.size ≤ w.heap.size from hsz)).mono ?_
 intro e w' h
 cases R with
 | bad => trivial
 | left k' i a b d =>
  obtain ⟨rfl, e', D, dc, E, ec, A', cap', rfl, q⟩ := h
  exact ⟨D, dc, E, ec, A', cap', rfl, q⟩
 | done r s2 => exact h
def lProgEnd (g : Nat) (k : Int) (w1 : World) : RanD (List Res) → Ending → World → Prop
 | .done r _, e, w' => ProgE g (lErr k r) (lIs k r) (lN k r : Int) (lW k r : Int) false (.int .i64 0) (.int .i64 0) (.int .u64 0) (.int .u64 0) (.slice none 0 0) (.slice none 0 0) w1 e w'
 | .left k' i a b d, e, w' => LeftPost w1 g (accD k' i a b d) true e w'
 | .bad, _, _ => False
set_option maxHeartbeats 2000000 in
set_option maxRecDepth 100000 in
theorem lProg_at (g p0 p1 : Nat) (A : Option Addr) (n cap : Nat) (log : List Res) (t : Nat) (ht : t ≤ 64) (k u v : Int) (x : Nat) (hx : x < 18446744073709551616) (hop : LOp k u v x) (w0 w1 : World) (hg : w0.heap.size ≤ g) (hc : n ≤ cap)
  (hTab : Tab w0) (hl : LogAt w0 A n log) (hb : Below w0.heap.size w0 w1) (hT : VarAt w1 g (tapeV A n cap true false (.int .i64 0) (.int .i64 0) (.int .u64 0) (.int .u64 0) (.slice none 0 0) (.slice none 0 0))) (h0 : VarAt w1 p0 [.int .i64 (t : Int)]) (h1 : VarAt w1 p1 [.int .i64 k, .int .i64 u, .int .i64 v, .int .u64 (x : Int)]) (R : RanD (List Res)) (hR : lNextR t k u v x log = R) :
  Calls Tryz.prog 83 #[doV g, .pointer (some ⟨p0, 0, none⟩), .pointer (some ⟨p1, 0, none⟩)] w1 (lProgEnd g k w1 R) := by
 have hnl := hl.1
 subst hnl
 have hb' : R ≠ .bad := hR ▸ lNextR_ok t k u v x log
 have hI : TapeI g w0 w1 log w1 := ⟨⟨A, cap, hT, hl, hc⟩, But.refl _ _⟩
 have hgw := hT.1
 have HC := fun y hI => lAnswerT_at g w0 w1 hg hgw hb hTab t ht k u v x hx hop (log.length + 1) log R hR hb' y hI
 obtain ⟨m0, c0, z0⟩ : p0 < w1.heap.size ∧ w1.cell? ⟨p0, 0, none⟩ = some (.int .i64 (t : Int)) ∧ True := ⟨h0.1, h0.2.1 0 _ rfl, trivial⟩
 obtain ⟨m1, d0, d1, d2, d3⟩ : p1 < w1.heap.size ∧ w1.cell? ⟨p1, 0, none⟩ = some (.int .i64 k) ∧ w1.cell? ⟨p1, 1, none⟩ = some (.int .i64 u) ∧ w1.cell? ⟨p1, 2, none⟩ = some (.int .i64 v) ∧ w1.cell? ⟨p1, 3, none⟩ = some (.int .u64 (x : Int)) := ⟨h1.1, h1.2.1 0 _ rfl, h1.2.1 1 _ rfl, h1.2.1 2 _ rfl, h1.2.1 3 _ rfl⟩
 have HI := Lib.hid hI
 have HG := Lib.hid hg
 have HGW := Lib.hid hgw
 have HB := Lib.hid hb'
 clear hI hgw hb' hR ht hx hop hTab hT h0 h1 hl hb hc z0 hg
 go_enter Tryz.func83, Tryz.ntmps83
 go_wp2_with fail
 have hal := al_below w1 (.cells #[.int .i64 0, .bool false, .int .i64 0, .int .u64 0, .slice none 0 0] 38)
 have hv := VarAt.made w1 #[.int .i64 0, .bool false, .int .i64 0, .int .u64 0, .slice none 0 0] 38
 have hsz : (w1.alloc (.cells #[.int .i64 0, .bool false, .int .i64 0, .int .u64 0, .slice none 0 0] 38)).heap.size = w1.heap.size + 1 := by simp
 have hbt : But g w1 (w1.alloc (.cells #[.int .i64 0, .bool false, .int .i64 0, .int .u64 0, .slice none 0 0] 38)) := (But.refl g w1).alloc _ (Nat.le_of_lt HGW.out)
 generalize w1.alloc (.cells #[.int .i64 0, .bool false, .int .i64 0, .int .u64 0, .slice none 0 0] 38) = y at hal hv hsz hbt ⊢
 have hIy : TapeI g w0 w1 log y := ⟨by obtain ⟨A', c', q1, q2, q3⟩ := HI.out.1; exact ⟨A', c', q1.below hal, q2, q3⟩, hbt⟩
 have HV := Lib.hid hv
 have HBT := Lib.hid hbt
 refine (HC y hIy).mono ?_
 clear HC hal hv hbt hIy c0 d0 d1 d2 d3
 cases R with
 | bad => exact absurd rfl HB.out
 | left k' i a b d =>
  rintro e w2 ⟨D, dc, E, ec, A', cap', rfl, q⟩
  exact ⟨rfl, D, dc, E, ec, A', cap', rfl, q⟩
 | done r s2 =>
  rintro e w2 ⟨rfl, ⟨⟨A', cap', q1, q2, q3⟩, q4⟩, q5⟩
  have hg := HGW.out
  have q5' : But g y w2 := q5
  obtain ⟨m2, ⟨a1, a2, a3, a4, a5⟩, b1, b2, b3, b4, b5⟩ := (HV.out.but q5' (by omega)).five
  have HQ1 := Lib.hid q1
  have HQ4 := Lib.hid q4
  clear q1 q2 q3 q4 q5 q5' hg
  have hoe : lOut k r = .agg #[.int .i64 (lErr k r), .bool (lIs k r), .int .i64 (lN k r : Int), .int .u64 (lW k r : Int), .slice none 0 0] := rfl
  rw [hoe]
  clear hoe
  go_wp2_with fail
  have hg := HGW.out
  have hbw := HQ4.out
  exact bodyPost_ret (v := .agg #[.int .i64 (lErr k r), .bool (lIs k r), .int .i64 (lN k r : Int), .int .u64 (lW k r : Int), .slice none 0 0]) (by simp [results, Tryz.results83, go_sem, a1, a2, a3, a4, a5]) rfl ⟨rfl, ⟨A', _, cap', ((((HQ1.out.apart _ _ (by omega)).apart _ _ (by omega)).apart _ _ (by omega)).apart _ _ (by omega)).apart _ _ (by omega)⟩, butA⟩
set_option maxHeartbeats 4000000 in
set_option maxRecDepth 100000 in
theorem lNext_left (t : Nat) (ht : t ≤ 64) (c me k u v : Int) (x : Nat) (hx : x < 18446744073709551616) (hop : LOp k u v x) (A : Option Addr) (n cap : Nat) (log : List Res) (hc : n ≤ cap) (w : World) (hTab : Tab w) (hl : Hid (LogAt w A n log)) (k' i : Int) (a b : Nat) (d : List Nat) (hR : lNextR t k u v x log = .left k' i a b d) :
  Calls Tryz.prog 43 #[.int .i64 (t : Int), .int .i64 c, .int .i64 me, .agg #[.int .i64 k, .int .i64 u, .int .i64 v, .int .u64 (x : Int)], .slice A n cap] w (RunLeft (accD k' i a b d) w) := by
 have HP := fun g w1 hg hb hT h0 h1 => lProg_at g w.heap.size (w.heap.size + 1) A n cap log t ht k u v x hx hop w w1 hg hc hTab hl.out hb hT h0 h1 _ hR
 have hmf : ∀ (fn : Fn) (first cap : Array Value) (w : World), (Instr.makeFunc fn first cap).run Tryz.prog w = .ok (.func fn first cap) w := fun _ _ _ _ => rfl
 clear ht hx hop hTab hc hR
 replace HP : ∀ g w1, w.heap.size ≤ g → Below w.heap.size w w1 → VarAt w1 g (tapeV A n cap true false (.int .i64 0) (.int .i64 0) (.int .u64 0) (.int .u64 0) (.slice none 0 0) (.slice none 0 0)) → VarAt w1 w.heap.size [.int .i64 (t : Int)] → VarAt w1 (w.heap.size + 1) [.int .i64 k, .int .i64 u, .int .i64 v, .int .u64 (x : Int)] → Calls Tryz.prog 83 #[doV g, .pointer (some ⟨w.heap.size, 0, none⟩), .pointer (some ⟨w.heap.size + 1, 0, none⟩)] w1 (LeftPost w1 g (accD k' i a b d) true) := HP
 generalize accD k' i a b d = xx at *
 go_enter Tryz.func43, Tryz.ntmps43
 go_wp2_with fail
 refine gen_w (P := fun W => Calls _ _ _ W _) (fun y => Below w.heap.size w y ∧ y.heap.size = w.heap.size + 1 + 1 + 1 + 1 ∧ VarAt y w.heap.size [.int .i64 (t : Int)] ∧ VarAt y (w.heap.size + 1) [.int .i64 k, .int .i64 u, .int .i64 v, .int .u64 (x : Int)] ∧ VarAt y (w.heap.size + 1 + 1) [.int .i64 0, .int .i64 0, .int .u64 0, .int .u64 0, .slice none 0 0, .slice none 0 0] ∧ VarAt y (w.heap.size + 1 + 1 + 1) [.int .i64 0, .bool false, .int .i64 0, .int .u64 0, .slice none 0 0]) ⟨belA, by simp, VarAt.mk1 (by simp <;> omega), VarAt.mk4 (by simp <;> omega), VarAt.mk6 (by simp <;> omega), VarAt.mk5 (by simp <;> omega)⟩ ?_
 rintro y ⟨k0, k1, k2, k3, k4, k5⟩
 have K0 := Lib.hid k0
 have K1 := Lib.hid k1
 have K4 := Lib.hid k4
 have K5 := Lib.hid k5
 have HQ : ∀ g w1, y.heap.size ≤ g → Below y.heap.size y w1 → VarAt w1 g (tapeV A n cap true false (.int .i64 0) (.int .i64 0) (.int .u64 0) (.int .u64 0) (.slice none 0 0) (.slice none 0 0)) → Calls Tryz.prog 83 #[doV g, .pointer (some ⟨w.heap.size, 0, none⟩), .pointer (some ⟨w.heap.size + 1, 0, none⟩)] w1 (LeftPost w1 g xx true) :=
  fun g w1 hg hb hT => HP g w1 (by omega) (k0.trans (hb.mono (by omega))) hT (k2.below hb) (k3.below hb)
 clear HP k0 k1 k2 k3 k4 k5
 refine (runLv_left A n cap w.heap.size (w.heap.size + 1) xx y HQ).mono ?_
 clear HQ
 rintro e w2 ⟨D, dc, E, ec, rfl, hX, hb2, hD, hE⟩
 have HX := Lib.hid hX
 have HD := Lib.hid hD
 have HE := Lib.hid hE
 obtain ⟨m1, ⟨a0, a1, a2, a3, a4, a5⟩, b0, b1, b2, b3, b4, b5⟩ := (K4.out.below hb2).six
 obtain ⟨m2, ⟨r1, r2, r3, r4, r5⟩, s1, s2, s3, s4, s5⟩ := (K5.out.below hb2).five
 have HB2 := Lib.hid (K0.out.trans (hb2.mono K0.out.size))
 clear hb2 hX hD hE
 go_wp2_with fail
 have hyz := K1.out
 have hb := HB2.out
 have hx := HX.out
 exact bodyPost_ret (v := .tuple #[.agg #[.int .i64 xx.k, .int .i64 xx.c, .int .u64 (xx.a : Int), .int .u64 (xx.b : Int), .slice D xx.d.length dc, .slice E xx.m ec], .agg #[.int .i64 0, .bool false, .int .i64 0, .int .u64 0, .slice none 0 0], .bool false]) (by simp [results, Tryz.results43, go_sem, a0, a1, a2, a3, a4, a5, r1, r2, r3, r4, r5]) rfl ⟨D, dc, E, ec, rfl, ⟨hx.k, hx.c, hx.a, hx.b, hx.dl, hx.ml, hx.d.svd (Q := fun b => y.heap.size ≤ b) (by repeat (first | with_reducible exact Svd.refl _ _ | with_reducible refine Svd.drew ?_ | with_reducible refine Svd.alloc ?_ _ | (with_reducible refine Svd.set ?_ _ _ _ (by omega)))) HD.out, hx.f.svd (Q := fun b => y.heap.size ≤ b) (by repeat (first | with_reducible exact Svd.refl _ _ | with_reducible refine Svd.drew ?_ | with_reducible refine Svd.alloc ?_ _ | (with_reducible refine Svd.set ?_ _ _ _ (by omega)))) HE.out⟩, belA, HD.out.mono fun b h => by omega, HE.out.mono fun b h => by omega⟩
set_option maxHeartbeats 4000000 in
set_option maxRecDepth 100000 in
theorem lNext_done (t : Nat) (ht : t ≤ 64) (c me k u v : Int) (x : Nat) (hx : x < 18446744073709551616) (hop : LOp k u v x) (A : Option Addr) (n cap : Nat) (log : List Res) (hc : n ≤ cap) (w : World) (hTab : Tab w) (hl : Hid (LogAt w A n log)) (r : Nat) (s2 : List Res) (hR : lNextR t k u v x log = .done r s2) :
  Calls Tryz.prog 43 #[.int .i64 (t : Int), .int .i64 c, .int .i64 me, .agg #[.int .i64 k, .int .i64 u, .int .i64 v, .int .u64 (x : Int)], .slice A n cap] w (RunE (lErr k r) (lIs k r) (lN k r : Int) (lW k r : Int) w) := by
 have HP := fun g w1 hg hb hT h0 h1 => lProg_at g w.heap.size (w.heap.size + 1) A n cap log t ht k u v x hx hop w w1 hg hc hTab hl.out hb hT h0 h1 _ hR
 have hmf : ∀ (fn : Fn) (first cap : Array Value) (w : World), (Instr.makeFunc fn first cap).run Tryz.prog w = .ok (.func fn first cap) w := fun _ _ _ _ => rfl
 clear ht hx hop hTab hc hR
 replace HP : ∀ g w1, w.heap.size ≤ g → Below w.heap.size w w1 → VarAt w1 g (tapeV A n cap true false (.int .i64 0) (.int .i64 0) (.int .u64 0) (.int .u64 0) (.slice none 0 0) (.slice none 0 0)) → VarAt w1 w.heap.size [.int .i64 (t : Int)] → VarAt w1 (w.heap.size + 1) [.int .i64 k, .int .i64 u, .int .i64 v, .int .u64 (x : Int)] → Calls Tryz.prog 83 #[doV g, .pointer (some ⟨w.heap.size, 0, none⟩), .pointer (some ⟨w.heap.size + 1, 0, none⟩)] w1 (ProgE g (lErr k r) (lIs k r) (lN k r : Int) (lW k r : Int) false (.int .i64 0) (.int .i64 0) (.int .u64 0) (.int .u64 0) (.slice none 0 0) (.slice none 0 0) w1) := HP
 generalize lErr k r = er at *
 generalize lIs k r = is at *
 generalize ((lN k r : Nat) : Int) = M at *
 generalize ((lW k r : Nat) : Int) = N at *
 go_enter Tryz.func43, Tryz.ntmps43
 go_wp2_with fail
 refine gen_w (P := fun W => Calls _ _ _ W _) (fun y => Below w.heap.size w y ∧ y.heap.size = w.heap.size + 1 + 1 + 1 + 1 ∧ VarAt y w.heap.size [.int .i64 (t : Int)] ∧ VarAt y (w.heap.size + 1) [.int .i64 k, .int .i64 u, .int .i64 v, .int .u64 (x : Int)] ∧ VarAt y (w.heap.size + 1 + 1) [.int .i64 0, .int .i64 0, .int .u64 0, .int .u64 0, .slice none 0 0, .slice none 0 0] ∧ VarAt y (w.heap.size + 1 + 1 + 1) [.int .i64 0, .bool false, .int .i64 0, .int .u64 0, .slice none 0 0]) ⟨belA, by simp, VarAt.mk1 (by simp <;> omega), VarAt.mk4 (by simp <;> omega), VarAt.mk6 (by simp <;> omega), VarAt.mk5 (by simp <;> omega)⟩ ?_
 rintro y ⟨k0, k1, k2, k3, k4, k5⟩
 have K0 := Lib.hid k0
 have K1 := Lib.hid k1
 have K4 := Lib.hid k4
 have K5 := Lib.hid k5
 have HQ : ∀ g w1, y.heap.size ≤ g → Below y.heap.size y w1 → VarAt w1 g (tapeV A n cap true false (.int .i64 0) (.int .i64 0) (.int .u64 0) (.int .u64 0) (.slice none 0 0) (.slice none 0 0)) → Calls Tryz.prog 83 #[doV g, .pointer (some ⟨w.heap.size, 0, none⟩), .pointer (some ⟨w.heap.size + 1, 0, none⟩)] w1 (ProgE g er is M N false (.int .i64 0) (.int .i64 0) (.int .u64 0) (.int .u64 0) (.slice none 0 0) (.slice none 0 0) w1) :=
  fun g w1 hg hb hT => HP g w1 (by omega) (k0.trans (hb.mono (by omega))) hT (k2.below hb) (k3.below hb)
 clear HP k0 k1 k2 k3 k4 k5
 refine (runLv_yes A n cap w.heap.size (w.heap.size + 1) er is M N y HQ).mono ?_
 clear HQ
 rintro e w2 ⟨rfl, hb2⟩
 obtain ⟨m1, ⟨a0, a1, a2, a3, a4, a5⟩, b0, b1, b2, b3, b4, b5⟩ := (K4.out.below hb2).six
 obtain ⟨m2, ⟨r1, r2, r3, r4, r5⟩, s1, s2, s3, s4, s5⟩ := (K5.out.below hb2).five
 have HB2 := Lib.hid (K0.out.trans (hb2.mono K0.out.size))
 clear hb2
 go_wp2_with fail
 have hb := HB2.out
 exact bodyPost_ret (v := .tuple #[.agg #[.int .i64 0, .int .i64 0, .int .u64 0, .int .u64 0, .slice none 0 0, .slice none 0 0], .agg #[.int .i64 er, .bool is, .int .i64 M, .int .u64 N, .slice none 0 0], .bool true]) (by simp [results, Tryz.results43, go_sem, a0, a1, a2, a3, a4, a5, r1, r2, r3, r4, r5]) rfl ⟨rfl, belA⟩
end Go.Proofs.YtibpfkcackdbgaaGreatDoor
