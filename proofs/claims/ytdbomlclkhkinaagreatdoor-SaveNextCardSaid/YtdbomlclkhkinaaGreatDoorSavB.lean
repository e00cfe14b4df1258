/-
  Texts of one kind, one behind the other: SavCur, SavRef, SavRefB, SavRefNext.
-/
import Derived.Test.YtdbomlclkhkinaaGreatDoorSavSrv
import Derived.Test.YtdbomlclkhkinaaGreatDoorPolB
import Derived.Test.YtdbomlclkhkinaaGreatDoorSavA
import Derived.Test.YtdbomlclkhkinaaGreatDoorEntB
import Derived.Test.YtdbomlclkhkinaaGreatDoorFrmB
import Derived.Test.YtdbomlclkhkinaaGreatDoorLexFast
namespace Go.Proofs.YtdbomlclkhkinaaGreatDoor
open Go.ChangeShapes Go.WideShapes Go.ChangeAt Go.RowKit Go.BigFrame
set_option linter.unusedVariables false
set_option maxRecDepth 100000

def CurPostF (w : World) (g : Nat) (N : Nat) (fl : Bool) (T : List Value) (e : Ending) (w' : World) : Prop :=
  ∃ B b bc, e = .returned (.agg #[.int .u64 (N : Int), .slice B b bc, .bool fl]) ∧ VarAt w' g T ∧ But g w w'
set_option maxHeartbeats 1000000 in
theorem refDo_stopF (g : Nat) (A : Option Addr) (n cap : Nat) (q0 q1 q2 q3 q4 q5 : Value) (i : Int) (x : Acc) (D : Option Addr) (dc : Nat) (E : Option Addr) (ec : Nat) (w : World) (hT : Hid (VarAt w g (curV A n cap i true q0 q1 q2 q3 q4 q5))) :
    Calls Tryz.prog 65 #[.pointer (some ⟨g, 0, none⟩), .agg #[.int .i64 x.k, .int .i64 x.c, .int .u64 (x.a : Int), .int .u64 (x.b : Int), .slice D x.d.length dc, .slice E x.m ec]] w (CurPostF w g 0 false (curV A n cap i true q0 q1 q2 q3 q4 q5)) := by
  obtain ⟨hgz, ⟨c0, c1, c2, c3, c4, c5, c6, c7, c8⟩, f0, f1, f2, f3, f4, f5, f6, f7, f8⟩ := hT.out.nine
  have g1 : g < w.heap.size + 1 := by omega
  have g2 : g < w.heap.size + 1 + 1 := by omega
  have g3 : ¬ (g = w.heap.size) := by omega
  have g4 : ¬ (g = w.heap.size + 1) := by omega
  have g6 : ¬ (w.heap.size = g) := by omega
  have g7 : ¬ (w.heap.size + 1 = g) := by omega
  go_enter Tryz.func65, Tryz.ntmps65
  go_wp2_with fail
  exact bodyPost_ret (v := .agg #[.int .u64 0, .slice none 0 0, .bool false]) (by simp [results, Tryz.results65, go_sem]) rfl ⟨none, 0, 0, rfl, VarAt.mk9 (by simp; omega) (by go_simp) (by go_simp) (by go_simp) (by go_simp) (by go_simp) (by go_simp) (by go_simp) (by go_simp) (by go_simp) (by go_simp) (by go_simp) (by go_simp) (by go_simp) (by go_simp) (by go_simp) (by go_simp) (by go_simp) (by go_simp), (by repeat (first | with_reducible assumption | with_reducible exact But.refl _ _ | with_reducible refine But.drew ?_ | (with_reducible refine But.alloc ?_ _ (by omega)) | (with_reducible refine But.set ?_ _ _) | (with_reducible refine But.new ?_ _ _ _ (by omega) (by omega))))⟩
set_option maxHeartbeats 1000000 in
theorem refDo_leftF (g : Nat) (A : Option Addr) (n cap : Nat) (q0 q1 q2 q3 q4 q5 : Value) (hn : n ≤ 140737488355328) (x : Acc) (D : Option Addr) (dc : Nat) (E : Option Addr) (ec : Nat) (w : World) (hT : Hid (VarAt w g (curV A n cap (n : Int) false q0 q1 q2 q3 q4 q5))) :
    Calls Tryz.prog 65 #[.pointer (some ⟨g, 0, none⟩), .agg #[.int .i64 x.k, .int .i64 x.c, .int .u64 (x.a : Int), .int .u64 (x.b : Int), .slice D x.d.length dc, .slice E x.m ec]] w (CurPostF w g 0 false (curV A n cap (n : Int) true (.int .i64 x.k) (.int .i64 x.c) (.int .u64 (x.a : Int)) (.int .u64 (x.b : Int)) (.slice D x.d.length dc) (.slice E x.m ec))) := by
  obtain ⟨hgz, ⟨c0, c1, c2, c3, c4, c5, c6, c7, c8⟩, f0, f1, f2, f3, f4, f5, f6, f7, f8⟩ := hT.out.nine
  have g1 : g < w.heap.size + 1 := by omega
  have g2 : g < w.heap.size + 1 + 1 := by omega
  have g3 : ¬ (g = w.heap.size) := by omega
  have g4 : ¬ (g = w.heap.size + 1) := by omega
  have g6 : ¬ (w.heap.size = g) := by omega
  have g7 : ¬ (w.heap.size + 1 = g) := by omega
  have d1 : decide ((n : Int) < (n : Int)) = false := by rw [decide_eq_false_iff_not]; omega
  have d1' : decide (n < n) = false := by rw [decide_eq_false_iff_not]; omega
  go_enter Tryz.func65, Tryz.ntmps65
  go_wp2_with fail
  go_region
  all_goals
    go_wp2_with fail
    exact bodyPost_ret (v := .agg #[.int .u64 0, .slice none 0 0, .bool false]) (by simp [results, Tryz.results65, go_sem]) rfl ⟨none, 0, 0, rfl, VarAt.mk9 (by simp; omega) (by go_simp) (by go_simp) (by go_simp) (by go_simp) (by go_simp) (by go_simp) (by go_simp) (by go_simp) (by go_simp) (by go_simp) (by go_simp) (by go_simp) (by go_simp) (by go_simp) (by go_simp) (by go_simp) (by go_simp) (by go_simp), (by repeat (first | with_reducible assumption | with_reducible exact But.refl _ _ | with_reducible refine But.drew ?_ | (with_reducible refine But.alloc ?_ _ (by omega)) | (with_reducible refine But.set ?_ _ _) | (with_reducible refine But.new ?_ _ _ _ (by omega) (by omega))))⟩
set_option maxHeartbeats 1000000 in
theorem refDo_toldF (g : Nat) (A : Option Addr) (n cap : Nat) (q0 q1 q2 q3 q4 q5 : Value) (log : List Res) (j : Nat) (hj : j < n) (r : Res) (hr : log[j]? = some r) (x : Acc) (D : Option Addr) (dc : Nat) (E : Option Addr) (ec : Nat) (w0 w : World) (hL : Hid (LogAt w0 A n log)) (h0 : Hid (Below w0.heap.size w0 w)) (hg : w0.heap.size ≤ g) (hT : Hid (VarAt w g (curV A n cap (j : Int) false q0 q1 q2 q3 q4 q5))) :
    Calls Tryz.prog 65 #[.pointer (some ⟨g, 0, none⟩), .agg #[.int .i64 x.k, .int .i64 x.c, .int .u64 (x.a : Int), .int .u64 (x.b : Int), .slice D x.d.length dc, .slice E x.m ec]] w (CurPostF w g r.n r.fl (curV A n cap ((j + 1 : Nat) : Int) false q0 q1 q2 q3 q4 q5)) := by
  have hn := hL.out.2.1
  obtain ⟨gb, go, B, bc, rfl, hlt0, hcl0, hrp⟩ := hL.out.at_ j r hr
  have hlt := Nat.lt_of_lt_of_le hlt0 h0.out.size
  obtain ⟨z0, z1, z2⟩ := hcl0.below h0.out hlt0
  have hne1 : ¬ (gb = g) := by omega
  have hne2 : ¬ (g = gb) := by omega
  obtain ⟨hgz, ⟨c0, c1, c2, c3, c4, c5, c6, c7, c8⟩, f0, f1, f2, f3, f4, f5, f6, f7, f8⟩ := hT.out.nine
  have g1 : g < w.heap.size + 1 := by omega
  have g2 : g < w.heap.size + 1 + 1 := by omega
  have g3 : ¬ (g = w.heap.size) := by omega
  have g4 : ¬ (g = w.heap.size + 1) := by omega
  have g6 : ¬ (w.heap.size = g) := by omega
  have g7 : ¬ (w.heap.size + 1 = g) := by omega
  have d1 : decide ((j : Int) < (n : Int)) = true := by rw [decide_eq_true_iff]; omega
  have d1' : decide (j < n) = true := by rw [decide_eq_true_iff]; omega
  have i1 : (0 : Int) ≤ (j : Int) := by omega
  have i2 : (j : Int) < (n : Int) := by omega
  have e1 : IntKind.i64.wrap ((j : Int) + 1) = ((j + 1 : Nat) : Int) := by rw [IntKind.wrap_i64]; omega
  have e2 : IntKind.i64.wrap (((j + 1 : Nat) : Int) - 1) = (j : Int) := by rw [IntKind.wrap_i64]; omega
  obtain ⟨q, hq⟩ : ∃ q : Nat, j + 1 = q := ⟨_, rfl⟩
  rw [hq] at e1 e2 ⊢
  have HQ := Lib.hid hq
  clear hlt0 hcl0 hg hr hrp hq hn
  go_enter Tryz.func65, Tryz.ntmps65
  go_wp2_with fail
  go_region
  all_goals
    go_wp2_with fail
    go_region
    all_goals
      go_wp2_with fail
      exact bodyPost_ret (v := .agg #[.int .u64 (r.n : Int), .slice B r.b.length bc, .bool r.fl]) (by simp [results, Tryz.results65, go_sem]) rfl ⟨B, r.b.length, bc, rfl, VarAt.mk9 (by simp; omega) (by go_simp) (by go_simp) (by go_simp) (by go_simp) (by go_simp) (by go_simp) (by go_simp) (by go_simp) (by go_simp) (by go_simp) (by go_simp) (by go_simp) (by go_simp) (by go_simp) (by go_simp) (by go_simp) (by go_simp) (by go_simp), (by repeat (first | with_reducible assumption | with_reducible exact But.refl _ _ | with_reducible refine But.drew ?_ | (with_reducible refine But.alloc ?_ _ (by omega)) | (with_reducible refine But.set ?_ _ _) | (with_reducible refine But.new ?_ _ _ _ (by omega) (by omega))))⟩
theorem curAdd_of (g : Nat) (i : Int) (a : Nat) (N : Nat) (P : World → Prop) (hP : ∀ x y, P x → Below x.heap.size x y → P y) (w : World) (hgw : g < w.heap.size)
    (h : Calls Tryz.prog 65 #[.pointer (some ⟨g, 0, none⟩), .agg #[.int .i64 3, .int .i64 i, .int .u64 (a : Int), .int .u64 0, .slice none 0 0, .slice none 0 0]] w (fun e w' => (∃ B bn bc fl, e = .returned (.agg #[.int .u64 (N : Int), .slice B bn bc, .bool fl])) ∧ P w' ∧ But g w w')) :
    Calls Tryz.prog 34 #[.pointer (some ⟨g, 0, none⟩), .int .i64 i, .int .u64 (a : Int)] w (fun e w' => e = .returned (.int .u64 (N : Int)) ∧ P w' ∧ But g w w') := by
  have HG := Lib.hid hgw
  have hf := field_n
  clear hgw
  go_enter Tryz.func34, Tryz.ntmps34
  go_wp2_with fail
  (with_reducible refine h.mono ?_)
  rintro e w' ⟨⟨B, bn, bc, fl, rfl⟩, hp, hb⟩
  have HP := Lib.hid hp
  have HB := Lib.hid hb
  clear hp hb h
  go_wp2_with fail
  have hg := HG.out
  have hb := HB.out
  have hsz := hb.size
  go_ret
  exact ⟨rfl, hP _ _ HP.out (by repeat (first | with_reducible assumption | with_reducible exact Below.refl _ _ | with_reducible refine Below.drew ?_ | with_reducible refine below_al ?_ | (with_reducible refine below_set1 (by omega) _ ?_))), (by repeat (first | with_reducible assumption | with_reducible exact But.refl _ _ | with_reducible refine But.drew ?_ | (with_reducible refine But.alloc ?_ _ (by omega)) | (with_reducible refine But.set ?_ _ _) | (with_reducible refine But.new ?_ _ _ _ (by omega) (by omega))))⟩

def accC (k i : Int) (a b : Nat) (d : List Nat) : Acc := ⟨k, i, a, b, d, 0, fun _ => 0⟩
inductive CSD where
  | at (s : List Res)
  | stop (k i : Int) (a b : Nat) (d : List Nat)
def CSD.tell : CSD → Int → Int → Nat → Nat → List Nat → Nat × CSD
  | .at (r :: rest), k, _, _, _, _ => (toldR k r, .at rest)
  | .at [], k, i, a, b, d => (0, .stop k i a b d)
  | .stop k i a b d, _, _, _, _, _ => (0, .stop k i a b d)
def CSD.stops : CSD → Bool
  | .at _ => false
  | .stop _ _ _ _ _ => true
theorem CSD.small (c : CSD) (k i : Int) (a b : Nat) (d : List Nat) : (c.tell k i a b d).1 < 18446744073709551616 := by
  rcases c with (_ | ⟨r, s⟩) | ⟨_, _, _, _, _⟩
  · exact (by decide : 0 < 18446744073709551616)
  · exact toldR_lt k r
  · exact (by decide : 0 < 18446744073709551616)
namespace Prd
/-- Where it has stopped, it stays. -/
def runCD (p : Prd) : CSD → RanD (List Res)
  | .at s => p.run tapeTellD s
  | .stop k i a b d => .left k i a b d
theorem runCD_bind (p : Prd) (q : Nat → Prd) (c : CSD) : (p.bind q).runCD c = (p.runCD c).next fun d s => (q d).runCD (.at s) := by
  cases c with
  | «at» s => exact run_bind tapeTellD p q s
  | stop k i a b d => rfl
theorem runCD_ask (k i : Int) (a b : Nat) (d : List Nat) (f : Nat → Prd) (c : CSD) : (ask k i a b d f).runCD c = (f (c.tell k i a b d).1).runCD (c.tell k i a b d).2 := by
  rcases c with (_ | ⟨r, s⟩) | ⟨k', i', a', b', d'⟩ <;> rfl
theorem runCD_stop {p : Prd} {c : CSD} (h : c.stops = true) : ∀ q : Prd, p.runCD c = q.runCD c := by
  intro q
  cases c with
  | «at» s => cases h
  | stop k i a b d => rfl
end Prd
/-- The cursor has stopped at an access, whose bytes lie elsewhere, in memory from lo on. -/
def CurXD (lo g : Nat) (A : Option Addr) (n cap : Nat) (k i : Int) (a b : Nat) (d : List Nat) (x : World) : Prop :=
  ∃ D dc, VarAt x g (curV A n cap (n : Int) true (.int .i64 k) (.int .i64 i) (.int .u64 (a : Int)) (.int .u64 (b : Int)) (.slice D d.length dc) (.slice none 0 0)) ∧ AtB x D d.length d ∧ d.length ≤ dc ∧ OffW (fun c => c ≠ g ∧ lo ≤ c) D d.length ∧ d.length ≤ 100000
def CurVD (lo g : Nat) (A : Option Addr) (n cap : Nat) (log : List Res) (c : CSD) (w : World) : Prop := match c with | .at s => CurS g A n cap log s w | .stop k i a b d => CurXD lo g A n cap k i a b d w
/-- It has not stopped at an access with bytes. -/
def CSD.plain : CSD → Prop
  | .at _ => True
  | .stop _ _ _ _ d => d = []
structure CurID (g : Nat) (A : Option Addr) (n cap : Nat) (log : List Res) (w0 wb : World) (c : CSD) (w : World) : Prop where
  cur : CurVD wb.heap.size g A n cap log c w
  but : But g wb w
section
variable {lo g : Nat} {A : Option Addr} {n cap : Nat} {log : List Res} {w0 wb : World}
theorem CurVD.below {c : CSD} {x y : World} (h : CurVD lo g A n cap log c x) (hb : Below x.heap.size x y) : CurVD lo g A n cap log c y := by
  cases c with
  | «at» s => exact CurS.below g A n cap log h hb
  | stop k i a b d =>
    obtain ⟨D, dc, h1, h2, h3, h4, h5⟩ := h
    exact ⟨D, dc, h1.below hb, AtB.later (Lib.hid h2) hb, h3, h4, h5⟩
theorem CurVD.put {c : CSD} {x : World} (h : CurVD lo g A n cap log c x) {b' : Nat} (j : Nat) (v : Value) (hne : b' ≠ g) (hm : c.plain ∨ b' < lo) : CurVD lo g A n cap log c (x.setCell ⟨b', j, none⟩ v) := by
  cases c with
  | «at» s => obtain ⟨q, h1, h2, h3⟩ := h; exact ⟨q, h1, h2, h3.apart j v hne⟩
  | stop k i a b d =>
    obtain ⟨D, dc, h1, h2, h3, h4, h5⟩ := h
    have ho : OffW (fun c => c ≠ b') D d.length := by
      rcases hm with hm | hm
      · have e : d = [] := hm
        rw [e]
        exact OffW.nil _ _
      · exact h4.mono fun c hc => by omega
    exact ⟨D, dc, h1.apart j v hne, h2.svd (Q := fun c => c ≠ b') ((Svd.refl _ _).set b' j v (fun _ h => h rfl)) ho, h3, h4, h5⟩
theorem CurVD.lt {c : CSD} {w : World} (h : CurVD lo g A n cap log c w) : g < w.heap.size := by
  cases c with
  | «at» s => exact CurS.lt g A n cap log h
  | stop k i a b d => obtain ⟨D, dc, h1, _⟩ := h; exact h1.1
theorem CurID.lt {c : CSD} {w : World} (h : CurID g A n cap log w0 wb c w) : g < w.heap.size := h.cur.lt
theorem CurID.below {c : CSD} {x y : World} (h : CurID g A n cap log w0 wb c x) (hb : Below x.heap.size x y) : CurID g A n cap log w0 wb c y :=
  ⟨h.cur.below hb, h.but.later hb h.lt⟩
/-- A store into new memory. -/
theorem CurID.put {c : CSD} {x : World} (h : CurID g A n cap log w0 wb c x) {b' : Nat} (j : Nat) (v : Value) (hp : c.plain) (hg : g < wb.heap.size) (hb : wb.heap.size ≤ b') : CurID g A n cap log w0 wb c (x.setCell ⟨b', j, none⟩ v) :=
  ⟨h.cur.put j v (by omega) (.inl hp), h.but.new _ _ _ (by omega) hb⟩
theorem CurID.two {c : CSD} {w : World} (h : CurID g A n cap log w0 wb c w) : w.cell? ⟨g, 2, none⟩ = some (.bool c.stops) := by
  cases c with
  | «at» s => obtain ⟨j, h1, h2, h3⟩ := h.cur; exact h3.2.1 2 _ rfl
  | stop k i a b d => obtain ⟨D, dc, h1, _⟩ := h.cur; exact h1.2.1 2 _ rfl
theorem CSD.plain_tell {c : CSD} (h : c.plain) (k i : Int) (a b : Nat) : (c.tell k i a b []).2.plain := by
  rcases c with (_ | ⟨r, s⟩) | ⟨k', i', a', b', d'⟩
  · exact (rfl : ([] : List Nat) = [])
  · trivial
  · exact h
theorem curDoF (ok : CurOk g A n log w0 wb) (c : CSD) (k i : Int) (a b : Nat) (d : List Nat) (D : Option Addr) (dc : Nat) (w : World) (h : CurID g A n cap log w0 wb c w) (hd : AtB w D d.length d) (hl : d.length ≤ dc) (ho : OffW (fun c => c ≠ g ∧ wb.heap.size ≤ c) D d.length) (hm : d.length ≤ 100000) :
    Calls Tryz.prog 65 #[.pointer (some ⟨g, 0, none⟩), .agg #[.int .i64 k, .int .i64 i, .int .u64 (a : Int), .int .u64 (b : Int), .slice D d.length dc, .slice none 0 0]] w (fun e w' => (∃ (N : Nat) (B : Option Addr) (bn bc : Nat) (fl : Bool), e = .returned (.agg #[.int .u64 (N : Int), .slice B bn bc, .bool fl]) ∧ (k < 5 → N = (c.tell k i a b d).1) ∧ (5 ≤ k → fl = decide ((c.tell k i a b d).1 ≠ 0))) ∧ CurID g A n cap log w0 wb (c.tell k i a b d).2 w' ∧ But g w w') := by
  rcases c with (_ | ⟨r, s⟩) | ⟨k', i', a', b', d'⟩
  · obtain ⟨j, h1, h2, h3⟩ := h.cur
    have hj : j = n := by
      rw [List.drop_eq_nil_iff] at h2
      have := ok.log.1
      omega
    subst hj
    refine (refDo_leftF g A j cap (.int .i64 0) (.int .i64 0) (.int .u64 0) (.int .u64 0) (.slice none 0 0) (.slice none 0 0) ok.log.2.1 (accC k i a b d) D dc none 0 w (Lib.hid h3)).mono ?_
    rintro e w' ⟨B, bn, bc, rfl, hv, hb⟩
    exact ⟨⟨0, B, bn, bc, false, rfl, fun _ => rfl, fun _ => rfl⟩, ⟨⟨D, dc, hv, hd.but hb (ho.mono fun _ h => h.1), hl, ho, hm⟩, h.but.trans hb⟩, hb⟩
  · obtain ⟨j, h1, h2, h3⟩ := h.cur
    have hjl : j < log.length := by
      rcases Nat.lt_or_ge j log.length with h | h
      · exact h
      · rw [List.drop_of_length_le h] at h2; cases h2
    have hr : log[j]? = some r := by rw [← List.head?_drop, h2]; rfl
    have hj : j < n := by have := ok.log.1; omega
    obtain ⟨_, _, _, _, _, _, _, hrp⟩ := ok.log.at_ j r hr
    have hdr : log.drop (j + 1) = s := by rw [← List.drop_drop, h2]; rfl
    have hrn := hrp.n
    refine (refDo_toldF g A n cap (.int .i64 0) (.int .i64 0) (.int .u64 0) (.int .u64 0) (.slice none 0 0) (.slice none 0 0) log j hj r hr (accC k i a b d) D dc none 0 w0 w (Lib.hid ok.log) (Lib.hid (ok.below.trans (h.but.below.mono ok.old))) ok.old (Lib.hid h3)).mono ?_
    rintro e w' ⟨B, bn, bc, rfl, hv, hb⟩
    refine ⟨⟨r.n, B, bn, bc, r.fl, rfl, fun hk => ?_, fun hk => ?_⟩, ⟨⟨j + 1, by omega, hdr, hv⟩, h.but.trans hb⟩, hb⟩
    · show r.n = toldR k r
      unfold toldR
      rw [if_pos hk, Nat.mod_eq_of_lt hrn]
    · show r.fl = decide (toldR k r ≠ 0)
      unfold toldR
      rw [if_neg (by omega)]
      cases r.fl <;> rfl
  · obtain ⟨D', dc', h1, h2, h3, h4, h5⟩ := h.cur
    refine (refDo_stopF g A n cap _ _ _ _ _ _ (n : Int) (accC k i a b d) D dc none 0 w (Lib.hid h1)).mono ?_
    rintro e w' ⟨B, bn, bc, rfl, hv, hb⟩
    exact ⟨⟨0, B, bn, bc, false, rfl, fun _ => rfl, fun _ => rfl⟩, ⟨⟨D', dc', hv, h2.but hb (h4.mono fun _ h => h.1), h3, h4, h5⟩, h.but.trans hb⟩, hb⟩
theorem curDoM (ok : CurOk g A n log w0 wb) (c : CSD) (k i : Int) (a b : Nat) (hk : k < 5) (w : World) (h : CurID g A n cap log w0 wb c w) :
    Calls Tryz.prog 65 #[.pointer (some ⟨g, 0, none⟩), .agg #[.int .i64 k, .int .i64 i, .int .u64 (a : Int), .int .u64 (b : Int), .slice none 0 0, .slice none 0 0]] w (fun e w' => (∃ B bn bc fl, e = .returned (.agg #[.int .u64 (((c.tell k i a b []).1 : Nat) : Int), .slice B bn bc, .bool fl])) ∧ CurID g A n cap log w0 wb (c.tell k i a b []).2 w' ∧ But g w w') := by
  refine (curDoF ok c k i a b [] none 0 w h (AtB.nil _ _) (Nat.le_refl 0) (OffW.nil _ _) (by decide)).mono ?_
  rintro e w' ⟨⟨N, B, bn, bc, fl, rfl, h1, h2⟩, h3⟩
  exact ⟨⟨B, bn, bc, fl, by rw [h1 hk]⟩, h3⟩
/-- A call was told a number (or nothing, behind the end), and the rest runs to R. -/
def GoR (g : Nat) (A : Option Addr) (n cap : Nat) (log : List Res) (w0 wb w : World) (R : RanD (List Res)) (ret : Nat → Value) (q : Nat → Prd) (e : Ending) (w' : World) : Prop :=
  ∃ d c', e = .returned (ret d) ∧ d < 18446744073709551616 ∧ CurID g A n cap log w0 wb c' w' ∧ But g w w' ∧ (q d).runCD c' = R
/-- What a call of the document's own over a cursor ends with. -/
def RefD (g : Nat) (A : Option Addr) (n cap : Nat) (log : List Res) (w0 wb : World) (ret : Nat → Value) (R : RanD (List Res)) (e : Ending) (w' : World) : Prop :=
  ∃ d c', e = .returned (ret d) ∧ CurID g A n cap log w0 wb c' w' ∧ (Prd.ret d).runCD c' = R
section
variable (OK : Hid (CurOk g A n log w0 wb)) {R : RanD (List Res)} {f : Nat → Prd} {c : CSD}
include OK
theorem rLoadD {i : Int} (hR : (Prd.ask 0 i 0 0 [] f).runCD c = R) (w : World) (hI : CurID g A n cap log w0 wb c w) : Calls Tryz.prog 38 #[.pointer (some ⟨g, 0, none⟩), .int .i64 i] w (GoR g A n cap log w0 wb w R (fun n => .int .u64 (n : Int)) f) :=
  (curLoad_of g i _ _ (fun x y h hb => h.below hb) w hI.lt (curDoM OK.out c 0 i 0 0 (by decide) w hI)).mono fun e w' h => ⟨_, _, h.1, c.small _ _ _ _ _, h.2.1, h.2.2, by rw [← hR, Prd.runCD_ask]⟩
theorem rLoadDP {i : Int} (hp : c.plain) (hR : (Prd.ask 0 i 0 0 [] f).runCD c = R) (w : World) (hI : CurID g A n cap log w0 wb c w) : Calls Tryz.prog 38 #[.pointer (some ⟨g, 0, none⟩), .int .i64 i] w (fun e w' => ∃ d c', e = .returned (.int .u64 ((d : Nat) : Int)) ∧ d < 18446744073709551616 ∧ CurID g A n cap log w0 wb c' w' ∧ But g w w' ∧ (f d).runCD c' = R ∧ c'.plain) :=
  (curLoad_of g i _ _ (fun x y h hb => h.below hb) w hI.lt (curDoM OK.out c 0 i 0 0 (by decide) w hI)).mono fun e w' h => ⟨_, _, h.1, c.small _ _ _ _ _, h.2.1, h.2.2, by rw [← hR, Prd.runCD_ask], CSD.plain_tell hp _ _ _ _⟩
theorem rStoreD {i : Int} {a : Nat} (hR : (Prd.ask 1 i a 0 [] f).runCD c = R) (w : World) (hI : CurID g A n cap log w0 wb c w) : Calls Tryz.prog 35 #[.pointer (some ⟨g, 0, none⟩), .int .i64 i, .int .u64 (a : Int)] w (GoR g A n cap log w0 wb w R (fun _ => .tuple #[]) f) :=
  (curStore_of g i a (c.tell 1 i a 0 []).1 _ (fun x y h hb => h.below hb) w hI.lt (curDoM OK.out c 1 i a 0 (by decide) w hI)).mono fun e w' h => ⟨(c.tell 1 i a 0 []).1, _, h.1, c.small _ _ _ _ _, h.2.1, h.2.2, by rw [← hR, Prd.runCD_ask]⟩
theorem rCasD {i : Int} {a b : Nat} (hR : (Prd.ask 2 i a b [] f).runCD c = R) (w : World) (hI : CurID g A n cap log w0 wb c w) : Calls Tryz.prog 42 #[.pointer (some ⟨g, 0, none⟩), .int .i64 i, .int .u64 (a : Int), .int .u64 (b : Int)] w (GoR g A n cap log w0 wb w R (fun n => .bool ((n : Int) == 1)) f) :=
  (curCas_of g i a b _ _ (fun x y h hb => h.below hb) w hI.lt (curDoM OK.out c 2 i a b (by decide) w hI)).mono fun e w' h => ⟨_, _, h.1, c.small _ _ _ _ _, h.2.1, h.2.2, by rw [← hR, Prd.runCD_ask]⟩
theorem rAddD {i : Int} {a : Nat} (hR : (Prd.ask 3 i a 0 [] f).runCD c = R) (w : World) (hI : CurID g A n cap log w0 wb c w) : Calls Tryz.prog 34 #[.pointer (some ⟨g, 0, none⟩), .int .i64 i, .int .u64 (a : Int)] w (GoR g A n cap log w0 wb w R (fun n => .int .u64 (n : Int)) f) :=
  (curAdd_of g i a _ _ (fun x y h hb => h.below hb) w hI.lt (curDoM OK.out c 3 i a 0 (by decide) w hI)).mono fun e w' h => ⟨_, _, h.1, c.small _ _ _ _ _, h.2.1, h.2.2, by rw [← hR, Prd.runCD_ask]⟩
/-- An access of the disk: whether it failed. -/
def GoF (g : Nat) (A : Option Addr) (n cap : Nat) (log : List Res) (w0 wb w : World) (R : RanD (List Res)) (q : Nat → Prd) (e : Ending) (w' : World) : Prop :=
  ∃ N B bn bc d c', e = .returned (.agg #[.int .u64 ((N : Nat) : Int), .slice B bn bc, .bool (decide (d ≠ 0))]) ∧ CurID g A n cap log w0 wb c' w' ∧ But g w w' ∧ (q d).runCD c' = R
theorem rDiskD {k : Int} (hk : 5 ≤ k) {d : List Nat} (hR : (Prd.ask k 0 0 0 d f).runCD c = R) (D : Option Addr) (dc : Nat) (w : World) (hI : CurID g A n cap log w0 wb c w) (hd : AtB w D d.length d) (hl : d.length ≤ dc) (ho : OffW (fun c => c ≠ g ∧ wb.heap.size ≤ c) D d.length) (hm : d.length ≤ 100000) :
    Calls Tryz.prog 65 #[.pointer (some ⟨g, 0, none⟩), .agg #[.int .i64 k, .int .i64 0, .int .u64 0, .int .u64 0, .slice D d.length dc, .slice none 0 0]] w (GoF g A n cap log w0 wb w R f) := by
  refine (curDoF OK.out c k 0 0 0 d D dc w hI hd hl ho hm).mono ?_
  rintro e w' ⟨⟨N, B, bn, bc, fl, rfl, h1, h2⟩, h3, h4⟩
  exact ⟨N, B, bn, bc, (c.tell k 0 0 0 d).1, _, by rw [h2 hk], h3, h4, by rw [← hR, Prd.runCD_ask]⟩
end
theorem RefD.fin {R : RanD (List Res)} {d : Nat} {c : CSD} {w' : World} {ret : Nat → Value} (h : (Prd.ret d).runCD c = R) (hI : CurID g A n cap log w0 wb c w') : RefD g A n cap log w0 wb ret R (.returned (ret d)) w' := ⟨d, c, rfl, hI, h⟩
end
end Go.Proofs.YtdbomlclkhkinaaGreatDoor
namespace Go.Proofs.YtdbomlclkhkinaaGreatDoor
open Go.ChangeShapes Go.WideShapes Go.ChangeAt Go.RowKit Go.BigFrame Go.Deep
set_option linter.unusedVariables false
set_option maxRecDepth 100000
set_option linter.unusedSectionVars false

/-- A region's end: no panic, and this of what stands then. -/
def NormAt (F : Act → World → Prop) : Exit → Act → World → Prop
  | .normal, a, w => F a w
  | _, _, _ => False
theorem wp_one {P : Program} {c : Code} {Q : Exit → Act → World → Prop} {a : Act} {w : World} (B : Act) (F : World → Prop) (h : c.wp P (NormAt fun a' w' => a' = B ∧ F w') a w) (hk : ∀ w', F w' → Q .normal B w') : c.wp P Q a w :=
  wp_mono h fun e a' w' hn => by
    cases e with
    | normal => obtain ⟨rfl, hf⟩ := hn; exact hk _ hf
    | _ => exact hn.elim
section
variable {g : Nat} {A : Option Addr} {n cap : Nat} {log : List Res} {w0 wb : World} (OK : Hid (CurOk g A n log w0 wb))
include OK
set_option maxHeartbeats 4000000 in
set_option maxRecDepth 100000 in
theorem rMake_prg (t r : Nat) (ek : Int) (es y u v x m : Nat) (ht : t ≤ 64) (h1 : 1 ≤ r) (hr : r < 1048576) (c : CSD) (R : RanD (List Res)) (hR : (Prd.make t r y u v x m).runCD c = R) (w : World) (hI : CurID g A n cap log w0 wb c w) :
    Calls Tryz.prog 17 #[.pointer (some ⟨g, 0, none⟩), .int .i64 (t : Int), .int .i64 (r : Int), .agg #[.int .i64 ek, .int .u64 (es : Int), .int .u64 (y : Int), .int .u64 (u : Int), .int .u64 (v : Int), .int .u64 (x : Int)], .int .u64 (m : Int)] w (RefD g A n cap log w0 wb (fun d => .int .u64 (d : Int)) R) := by
  unfold Prd.make at hR
  have HK1 : ∀ w, Calls Tryz.prog 36 #[.int .i64 (t : Int), .int .i64 (r : Int), .int .i64 1] w fun e w' => e = .returned (.int .i64 (fieldN t r 1 : Nat)) ∧ w = w' := fun w => refField_any t r 1 (by omega) h1 (by omega) (by omega) w
  have HK2 : ∀ w, Calls Tryz.prog 36 #[.int .i64 (t : Int), .int .i64 (r : Int), .int .i64 2] w fun e w' => e = .returned (.int .i64 (fieldN t r 2 : Nat)) ∧ w = w' := fun w => refField_any t r 2 (by omega) h1 (by omega) (by omega) w
  have HK3 : ∀ w, Calls Tryz.prog 36 #[.int .i64 (t : Int), .int .i64 (r : Int), .int .i64 3] w fun e w' => e = .returned (.int .i64 (fieldN t r 3 : Nat)) ∧ w = w' := fun w => refField_any t r 3 (by omega) h1 (by omega) (by omega) w
  have HK4 : ∀ w, Calls Tryz.prog 36 #[.int .i64 (t : Int), .int .i64 (r : Int), .int .i64 4] w fun e w' => e = .returned (.int .i64 (fieldN t r 4 : Nat)) ∧ w = w' := fun w => refField_any t r 4 (by omega) h1 (by omega) (by omega) w
  have HK5 : ∀ w, Calls Tryz.prog 36 #[.int .i64 (t : Int), .int .i64 (r : Int), .int .i64 5] w fun e w' => e = .returned (.int .i64 (fieldN t r 5 : Nat)) ∧ w = w' := fun w => refField_any t r 5 (by omega) h1 (by omega) (by omega) w
  have HK6 : ∀ w, Calls Tryz.prog 36 #[.int .i64 (t : Int), .int .i64 (r : Int), .int .i64 6] w fun e w' => e = .returned (.int .i64 (fieldN t r 6 : Nat)) ∧ w = w' := fun w => refField_any t r 6 (by omega) h1 (by omega) (by omega) w
  generalize fieldN t r 1 = p1 at *
  generalize fieldN t r 2 = p2 at *
  generalize fieldN t r 3 = p3 at *
  generalize fieldN t r 4 = p4 at *
  generalize fieldN t r 5 = p5 at *
  generalize fieldN t r 6 = p6 at *
  have HL : ∀ w, CurID g A n cap log w0 wb c w → Calls Tryz.prog 34 #[.pointer (some ⟨g, 0, none⟩), .int .i64 2, .int .u64 1] w (GoR g A n cap log w0 wb w R (fun n => .int .u64 (n : Int)) _) := fun w h => rAddD OK (i := 2) (a := 1) hR w h
  have HI := Lib.hid hI
  have hgw := hI.lt
  have HOK := Lib.hid OK
  clear hI hR ht h1 hr
  go_enter Tryz.func17, Tryz.ntmps17
  go_wp2_with fail
  have hal := al_below w (.cells #[.int .i64 ek, .int .u64 (es : Int), .int .u64 (y : Int), .int .u64 (u : Int), .int .u64 (v : Int), .int .u64 (x : Int)] 71)
  have hbx := VarAt.made w #[.int .i64 ek, .int .u64 (es : Int), .int .u64 (y : Int), .int .u64 (u : Int), .int .u64 (v : Int), .int .u64 (x : Int)] 71
  generalize (w.alloc (.cells #[.int .i64 ek, .int .u64 (es : Int), .int .u64 (y : Int), .int .u64 (u : Int), .int .u64 (v : Int), .int .u64 (x : Int)] 71)) = z at hal hbx ⊢
  have HI1 := Lib.hid (HI.out.below hal)
  obtain ⟨bx, hbe⟩ : ∃ b, w.heap.size = b := ⟨_, rfl⟩
  rw [hbe] at hbx ⊢
  have HNE := Lib.hid (show bx ≠ g by omega)
  have HBX := Lib.hid hbx
  clear hal hbx hgw HI hbe
  (with_reducible refine (HL _ HI1.out).mono ?_)
  clear HL HI1
  rintro e w2 ⟨q, c2, rfl, hd, hi, hbt, hr⟩
  dsimp only at hr
  have hw : IntKind.u64.wrap ((q : Int) + 1) = (((q + 1) % 18446744073709551616 : Nat) : Int) := by rw [IntKind.wrap_u64]; omega
  have HFL : ∀ w, Calls Tryz.prog 37 #[.int .u64 (((q + 1) % 18446744073709551616 : Nat) : Int), .int .i64 0] w fun e w' => e = .returned (.int .u64 (flagN ((q + 1) % 18446744073709551616) 0 : Nat)) ∧ w = w' := fun w => refFlag_any ((q + 1) % 18446744073709551616) 0 w
  have HS := fun w h => rStoreD (cap := cap) (wb := wb) OK hr w h
  have HI2 := Lib.hid hi
  have HX2 := Lib.hid (HBX.out.but hbt HNE.out)
  clear hd hi hbt hr HBX
  generalize (q + 1) % 18446744073709551616 = st at *
  generalize flagN st 0 = fl at *
  go_wp2_with (first | (go_at_call 36; (with_reducible refine (HK2 _).mono ?_); rintro e w' ⟨rfl, rfl⟩) | (go_at_call 37; (with_reducible refine (HFL _).mono ?_); rintro e w' ⟨rfl, rfl⟩))
  (with_reducible refine (HS _ HI2.out).mono ?_)
  clear HS HI2
  rintro e w3 ⟨q3, c3, rfl, hd, hi, hbt, hr⟩
  dsimp only at hr
  have HS := fun w h => rStoreD (cap := cap) (wb := wb) OK hr w h
  have HX3 := Lib.hid (HX2.out.but hbt HNE.out)
  have HI3 := Lib.hid (hi.below (Below.refl w3.heap.size w3).drew)
  obtain ⟨_, ⟨a0, a1, a2, a3, a4, a5⟩, _⟩ := HX3.out.six
  clear hd hi hbt hr HX2
  go_upto_region 3 with fail
  apply wp_one (F := fun w' => ∃ c', CurID g A n cap log w0 wb c' w' ∧ VarAt w' bx [.int .i64 ek, .int .u64 (es : Int), .int .u64 (y : Int), .int .u64 (u : Int), .int .u64 (v : Int), .int .u64 (x : Int)] ∧ (Prd.ask 1 ((p3 : Nat) : Int) m 0 [] fun _ => Prd.ask 1 ((p4 : Nat) : Int) u 0 [] fun _ => Prd.ask 1 ((p5 : Nat) : Int) v 0 [] fun _ => Prd.ask 1 ((p6 : Nat) : Int) x 0 [] fun _ => Prd.ret st).runCD c' = R)
  case h =>
    go_region_with (first | (go_at_call 36; (with_reducible refine (HK1 _).mono ?_); rintro e w' ⟨rfl, rfl⟩) | (go_at_call 35; (with_reducible refine (HS _ HI3.out).mono ?_); rintro e w4 ⟨q4, c4, rfl, hd, hi, hbt, hr⟩))
    all_goals exact ⟨rfl, c4, hi, ((HX3.out.drewN 1).but hbt HNE.out), hr⟩
  rintro w4 ⟨c4, hi, hx, hr⟩
  have HX4 := Lib.hid hx
  clear hx HS HI3 HX3 a0 a1 a2 a3 a4 a5
  have HS := fun w h => rStoreD (cap := cap) (wb := wb) OK hr w h
  have HI4 := Lib.hid hi
  clear hi hr
  go_wp2_with (go_at_call 36; (with_reducible refine (HK3 _).mono ?_); rintro e w' ⟨rfl, rfl⟩)
  (with_reducible refine (HS _ HI4.out).mono ?_)
  clear HS HI4
  rintro e w5 ⟨q5, c5, rfl, hd, hi, hbt, hr⟩
  dsimp only at hr
  have HS := fun w h => rStoreD (cap := cap) (wb := wb) OK hr w h
  have HX5 := Lib.hid (HX4.out.but hbt HNE.out)
  have HI5 := Lib.hid (hi.below (Below.refl w5.heap.size w5).drew)
  obtain ⟨_, ⟨a0, a1, a2, a3, a4, a5⟩, _⟩ := HX5.out.six
  clear hd hi hbt hr HX4
  go_upto_region 5 with fail
  apply wp_one (F := fun w' => ∃ c', CurID g A n cap log w0 wb c' w' ∧ VarAt w' bx [.int .i64 ek, .int .u64 (es : Int), .int .u64 (y : Int), .int .u64 (u : Int), .int .u64 (v : Int), .int .u64 (x : Int)] ∧ (Prd.ask 1 ((p5 : Nat) : Int) v 0 [] fun _ => Prd.ask 1 ((p6 : Nat) : Int) x 0 [] fun _ => Prd.ret st).runCD c' = R)
  case h =>
    go_region_with (first | (go_at_call 36; (with_reducible refine (HK4 _).mono ?_); rintro e w' ⟨rfl, rfl⟩) | (go_at_call 35; (with_reducible refine (HS _ HI5.out).mono ?_); rintro e w6 ⟨q6, c6, rfl, hd, hi, hbt, hr⟩))
    all_goals exact ⟨rfl, c6, hi, ((HX5.out.drewN 1).but hbt HNE.out), hr⟩
  rintro w6 ⟨c6, hi, hx, hr⟩
  have HX6 := Lib.hid hx
  clear hx HS HI5 HX5 a0 a1 a2 a3 a4 a5
  have HX5 := HX6
  have hbt := But.refl g w6
  have hd : True := trivial
  have HS := fun w h => rStoreD (cap := cap) (wb := wb) OK hr w h
  have HX6 := Lib.hid (HX5.out.but hbt HNE.out)
  have HI6 := Lib.hid (hi.below (Below.refl w6.heap.size w6).drew)
  obtain ⟨_, ⟨a0, a1, a2, a3, a4, a5⟩, _⟩ := HX6.out.six
  clear hd hi hbt hr HX5
  go_upto_region 6 with fail
  apply wp_one (F := fun w' => ∃ c', CurID g A n cap log w0 wb c' w' ∧ VarAt w' bx [.int .i64 ek, .int .u64 (es : Int), .int .u64 (y : Int), .int .u64 (u : Int), .int .u64 (v : Int), .int .u64 (x : Int)] ∧ (Prd.ask 1 ((p6 : Nat) : Int) x 0 [] fun _ => Prd.ret st).runCD c' = R)
  case h =>
    go_region_with (first | (go_at_call 36; (with_reducible refine (HK5 _).mono ?_); rintro e w' ⟨rfl, rfl⟩) | (go_at_call 35; (with_reducible refine (HS _ HI6.out).mono ?_); rintro e w7 ⟨q7, c7, rfl, hd, hi, hbt, hr⟩))
    all_goals exact ⟨rfl, c7, hi, ((HX6.out.drewN 1).but hbt HNE.out), hr⟩
  rintro w7 ⟨c7, hi, hx, hr⟩
  have HX7 := Lib.hid hx
  clear hx HS HI6 HX6 a0 a1 a2 a3 a4 a5
  have HX6 := HX7
  have hbt := But.refl g w7
  have hd : True := trivial
  have HS := fun w h => rStoreD (cap := cap) (wb := wb) OK hr w h
  have HX7 := Lib.hid (HX6.out.but hbt HNE.out)
  have HI7 := Lib.hid (hi.below (Below.refl w7.heap.size w7).drew)
  obtain ⟨_, ⟨a0, a1, a2, a3, a4, a5⟩, _⟩ := HX7.out.six
  clear hd hi hbt hr HX6
  go_upto_region 7 with fail
  apply wp_one (F := fun w' => ∃ c', CurID g A n cap log w0 wb c' w' ∧ VarAt w' bx [.int .i64 ek, .int .u64 (es : Int), .int .u64 (y : Int), .int .u64 (u : Int), .int .u64 (v : Int), .int .u64 (x : Int)] ∧ (Prd.ret st).runCD c' = R)
  case h =>
    go_region_with (first | (go_at_call 36; (with_reducible refine (HK6 _).mono ?_); rintro e w' ⟨rfl, rfl⟩) | (go_at_call 35; (with_reducible refine (HS _ HI7.out).mono ?_); rintro e w8 ⟨q8, c8, rfl, hd, hi, hbt, hr⟩))
    all_goals exact ⟨rfl, c8, hi, ((HX7.out.drewN 1).but hbt HNE.out), hr⟩
  rintro w8 ⟨c8, hi, hx, hr⟩
  have HX8 := Lib.hid hx
  clear hx HS HI7 HX7 a0 a1 a2 a3 a4 a5
  have HE := Lib.hid (RefD.fin (ret := fun d => .int .u64 (d : Int)) hr hi)
  clear hi hr
  go_wp2_with fail
  go_ret
  exact HE.out

/-! ### Alive, with -/
set_option maxHeartbeats 1000000 in
theorem rAlive_prg (t r x : Nat) (ht : t ≤ 64) (h1 : 1 ≤ r) (hr : r < 1048576) (c : CSD) (R : RanD (List Res)) (hR : (Prd.alive t r x).runCD c = R) (w : World) (hI : CurID g A n cap log w0 wb c w) :
    Calls Tryz.prog 18 #[.pointer (some ⟨g, 0, none⟩), .int .i64 (t : Int), .int .i64 (r : Int), .int .u64 (x : Int)] w (RefD g A n cap log w0 wb (fun d => .bool ((d : Int) == 1)) R) := by
  unfold Prd.alive at hR
  have HK0 : ∀ w, Calls Tryz.prog 36 #[.int .i64 (t : Int), .int .i64 (r : Int), .int .i64 0] w fun e w' => e = .returned (.int .i64 (fieldN t r 0 : Nat)) ∧ w = w' := fun w => refField_any t r 0 (by omega) h1 (by omega) (by omega) w
  have HK2 : ∀ w, Calls Tryz.prog 36 #[.int .i64 (t : Int), .int .i64 (r : Int), .int .i64 2] w fun e w' => e = .returned (.int .i64 (fieldN t r 2 : Nat)) ∧ w = w' := fun w => refField_any t r 2 (by omega) h1 (by omega) (by omega) w
  have HL := fun w h => rLoadD (cap := cap) (wb := wb) OK hR w h
  have HI := Lib.hid hI
  clear hI hR ht h1 hr
  generalize fieldN t r 0 = p0 at *
  generalize fieldN t r 2 = p2 at *
  go_enter Tryz.func18, Tryz.ntmps18
  go_wp2_with (go_at_call 36; (with_reducible refine (HK0 _).mono ?_); rintro e w' ⟨rfl, rfl⟩)
  (with_reducible refine (HL _ HI.out).mono ?_)
  clear HL HI
  rintro e w2 ⟨n2, c2, rfl, hn, hi, hbt, hr⟩
  dsimp only at hr
  have HL := fun w h => rLoadD (cap := cap) (wb := wb) OK hr w h
  have HM := fun w => refMark_any n2 hn w
  have HI2 := Lib.hid hi
  clear hn hi hbt hr
  go_wp2_with (go_at_call 36; (with_reducible refine (HK2 _).mono ?_); rintro e w' ⟨rfl, rfl⟩)
  (with_reducible refine (HL _ HI2.out).mono ?_)
  clear HL HI2
  rintro e w3 ⟨m, c3, rfl, hn, hi, hbt, hr⟩
  dsimp only at hr
  have HT := fun w => refStamp_any m hn w
  have HE := Lib.hid (RefD.fin (ret := fun d => .bool ((d : Int) == 1)) hr hi)
  clear hn hi hbt hr
  by_cases hx : stampN m = x
  · have dx : (((stampN m : Nat) : Int) == (x : Int)) = true := by rw [beq_iff_eq]; omega
    cases hm : markB n2 with
    | true =>
      rw [hm] at HM HE
      rw [if_neg (by simp)] at HE
      clear hx hm
      generalize stampN m = y at *
      go_wp2_with (first | (go_at_call 39; (with_reducible refine (HT _).mono ?_); rintro e w' ⟨rfl, rfl⟩) | (go_at_call 40; (with_reducible refine (HM _).mono ?_); rintro e w' ⟨rfl, rfl⟩))
      go_ret
      exact HE.out
    | false =>
      rw [hm] at HM HE
      rw [if_pos ⟨hx, rfl⟩] at HE
      clear hx hm
      generalize stampN m = y at *
      go_wp2_with (first | (go_at_call 39; (with_reducible refine (HT _).mono ?_); rintro e w' ⟨rfl, rfl⟩) | (go_at_call 40; (with_reducible refine (HM _).mono ?_); rintro e w' ⟨rfl, rfl⟩))
      go_ret
      exact HE.out
  · have dx : (((stampN m : Nat) : Int) == (x : Int)) = false := by rw [beq_eq_false_iff_ne]; omega
    rw [if_neg (fun h => hx h.1)] at HE
    clear hx
    generalize stampN m = y at *
    go_wp2_with (first | (go_at_call 39; (with_reducible refine (HT _).mono ?_); rintro e w' ⟨rfl, rfl⟩) | (go_at_call 40; (with_reducible refine (HM _).mono ?_); rintro e w' ⟨rfl, rfl⟩))
    go_ret
    exact HE.out
omit OK in
theorem rWith_any (f b : Nat) (hf : f < 18446744073709551616) (hb : b = 1 ∨ b = 2) (h : hasF f (b : Int) = false) (w : World) :
    Calls Tryz.prog 43 #[.int .u64 (f : Int), .int .i64 (b : Int)] w fun e w' => e = .returned (.int .u64 ((f + b : Nat) : Int)) ∧ w = w' := by
  have HH := fun w => refHas_any f (b : Int) hf w
  have hlt := (or_bit hf hb h).2
  rw [h] at HH
  have hc : IntKind.u64.wrap (b : Int) = (b : Int) := by rw [IntKind.wrap_u64]; omega
  have hw : IntKind.u64.wrap ((f : Int) + (b : Int)) = ((f + b : Nat) : Int) := by rw [IntKind.wrap_u64]; omega
  clear h hb hf
  generalize f + b = q at *
  go_enter Tryz.func43, Tryz.ntmps43
  go_wp2_with (go_at_call 41; (with_reducible refine (HH _).mono ?_); rintro e w' ⟨rfl, rfl⟩)
  go_ret
  exact ⟨rfl, rfl⟩

/-! ### Set -/
set_option maxHeartbeats 4000000 in
theorem rSet_prg (t r b m : Nat) (ht : t ≤ 64) (h1 : 1 ≤ r) (hr : r < 1048576) (hbit : b = 1 ∨ b = 2) (c : CSD) (R : RanD (List Res)) (hb : R ≠ .bad) (hR : (Prd.set t r b m).runCD c = R) (w : World) (hI : CurID g A n cap log w0 wb c w) :
    Calls Tryz.prog 19 #[.pointer (some ⟨g, 0, none⟩), .int .i64 (t : Int), .int .i64 (r : Int), .int .i64 (b : Int)] w (RefD g A n cap log w0 wb (fun _ => .tuple #[]) R) := by
  unfold Prd.set at hR
  have HK2 : ∀ w, Calls Tryz.prog 36 #[.int .i64 (t : Int), .int .i64 (r : Int), .int .i64 2] w fun e w' => e = .returned (.int .i64 (fieldN t r 2 : Nat)) ∧ w = w' := fun w => refField_any t r 2 (by omega) h1 (by omega) (by omega) w
  have HB := Lib.hid hb
  have HBI := Lib.hid hbit
  generalize fieldN t r 2 = p at *
  obtain ⟨J, hJ⟩ : ∃ J : Nat → World → Prop, J = fun m wr => ∃ c, CurID g A n cap log w0 wb c wr ∧ (Prd.raise p b (fun g => hasF g (b : Int)) m).runCD c = R := ⟨_, rfl⟩
  have HJ : ∀ m wr, J m wr ↔ ∃ c, CurID g A n cap log w0 wb c wr ∧ (Prd.raise p b (fun g => hasF g (b : Int)) m).runCD c = R := fun m wr => by rw [hJ]
  have HJ0 := Lib.hid (show ∃ m, J m w from ⟨m, (HJ _ _).2 ⟨c, hI, hR⟩⟩)
  have HJH := Lib.hid HJ
  clear hJ hI hR HJ ht h1 hr hb hbit
  go_enter Tryz.func19, Tryz.ntmps19
  go_wp2_with fail
  go_loopw [8, 9, 10] (fun _ _ _ wr => ∃ m, J m wr) (fun _ _ _ wr => cnt J wr)
  case atStart => exact HJ0.out
  case round =>
    clear HJ0
    have hj := cnt_spec hrel
    clear hrel
    generalize hm : cnt J wr = m' at *
    have HM := Lib.hid hm
    clear hm
    obtain ⟨c3, hS, hr⟩ := (HJH.out _ _).1 hj
    clear hj
    have c2' := hS.two
    have hgw := hS.lt
    by_cases hst : c3.stops = true
    · rw [hst] at c2'
      have HE := Lib.hid (RefD.fin (ret := fun _ => .tuple #[]) (d := 0) ((Prd.runCD_stop hst _).trans hr) hS)
      clear hS hst hr
      go_wp2_with fail
      go_end0
      exact HE.out
    have hst' : c3.stops = false := by simpa using hst
    rw [hst'] at c2'
    cases m' with
    | zero =>
      cases c3 with
      | «at» s => exact absurd hr.symm HB.out
      | stop k i a b d => exact absurd rfl hst
    | succ m' =>
    have hr1 : (Prd.ask 0 ((p : Nat) : Int) 0 0 [] fun g => if hasF g (b : Int) = true then Prd.ret 0 else Prd.ask 2 ((p : Nat) : Int) g (g + b) [] fun d => if d = 1 then Prd.ret 0 else Prd.raise p b (fun g => hasF g (b : Int)) m').runCD c3 = R := hr
    have HL := rLoadD (cap := cap) (wb := wb) OK hr1
    have HI3 := Lib.hid hS
    clear hS hr hr1 hst hst'
    go_wp2_with (go_at_call 36; (with_reducible refine (HK2 _).mono ?_); rintro e w' ⟨rfl, rfl⟩)
    (with_reducible refine (HL _ HI3.out).mono ?_)
    clear HL HI3 c2' hgw
    rintro e w4 ⟨f, c4, rfl, hn, hi, hbt, hr⟩
    dsimp only at hr
    have HH := fun w => refHas_any f (b : Int) hn w
    have HI4 := Lib.hid hi
    clear hi hbt
    cases hf : hasF f (b : Int) with
    | true =>
      rw [hf] at HH
      rw [if_pos hf] at hr
      have HE := Lib.hid (RefD.fin (ret := fun _ => .tuple #[]) hr HI4.out)
      clear hr hf
      go_wp2_with (go_at_call 41; (with_reducible refine (HH _).mono ?_); rintro e w' ⟨rfl, rfl⟩)
      exact bodyPost_ret (v := .tuple #[]) (by simp [results, Tryz.results19, go_sem]) rfl HE.out
    | false =>
      rw [hf] at HH
      rw [if_neg (by rw [hf]; decide)] at hr
      have HW := fun w => rWith_any f b hn HBI.out hf w
      have HC := rCasD (cap := cap) (wb := wb) OK hr
      clear hr hf hn
      generalize f + b = fb at *
      go_wp2_with (first | (go_at_call 41; (with_reducible refine (HH _).mono ?_); rintro e w' ⟨rfl, rfl⟩) | (go_at_call 36; (with_reducible refine (HK2 _).mono ?_); rintro e w' ⟨rfl, rfl⟩) | (go_at_call 43; (with_reducible refine (HW _).mono ?_); rintro e w' ⟨rfl, rfl⟩))
      (with_reducible refine (HC _ HI4.out).mono ?_)
      clear HC HI4
      rintro e w6 ⟨d, c6, rfl, hn, hi, hbt, hr⟩
      dsimp only at hr
      by_cases hd : d = 1
      · rw [if_pos hd] at hr
        have dd := eq1 hd
        have HE := Lib.hid (RefD.fin (ret := fun _ => .tuple #[]) hr hi)
        clear hr hd hi hbt hn
        go_wp2_with fail
        exact bodyPost_ret (v := .tuple #[]) (by simp [results, Tryz.results19, go_sem]) rfl HE.out
      · rw [if_neg hd] at hr
        have dd := ne1 hd
        have hj : J m' w6 := (HJH.out _ _).2 ⟨c6, hi, hr⟩
        have HJ6 := Lib.hid hj
        clear hr hd hi hj hbt hn
        go_wp2_with fail
        go_roundw
        case rel => exact ⟨m', HJ6.out⟩
        case measure => exact cnt_lt HJ6.out (Nat.lt_succ_self m')
end
end Go.Proofs.YtdbomlclkhkinaaGreatDoor
namespace Go.Proofs.YtdbomlclkhkinaaGreatDoor
open Go.ChangeShapes Go.WideShapes Go.ChangeAt Go.RowKit Go.BigFrame Go.Deep
set_option linter.unusedVariables false
set_option maxRecDepth 100000
set_option linter.unusedSectionVars false

/-! ### Bytes -/
theorem rBytes_any (k : Int) (s y u v x : Nat) (hf : (Ent.mk k s y u v x).fit) (w : World) :
    Calls Tryz.prog 66 #[.agg #[.int .i64 k, .int .u64 (s : Int), .int .u64 (y : Int), .int .u64 (u : Int), .int .u64 (v : Int), .int .u64 (x : Int)]] w (DataPost w (dataN ⟨k, s, y, u, v, x⟩)) := by
  unfold DataPost
  by_cases h : (Ent.mk k s y u v x).mayB = true
  · have hd : dataN ⟨k, s, y, u, v, x⟩ = frameN (Ent.mk k s y u v x).bytes := by unfold dataN; rw [if_pos h]
    have hp := Ent.bytes_pos (Ent.mk k s y u v x)
    have hfl := frame_length (Ent.mk k s y u v x).bytes
    have HEN := fun w => refEncode_yes k s y u v x hf h _ _ rfl rfl w
    rw [hd, hfl]
    clear h hd hfl hf
    generalize (Ent.mk k s y u v x).bytes = ys at *
    generalize ys.length = n at *
    go_enter Tryz.func66, Tryz.ntmps66
    go_wp2_with fail
    (with_reducible refine (HEN _).mono ?_)
    clear HEN
    rintro e w3 ⟨v3, rfl, hO3, hb3⟩
    obtain ⟨A3, k3, rfl, hk3, hat3⟩ := hO3.at_ (by omega)
    have hb0 := al_below w (.cells #[.int .i64 k, .int .u64 (s : Int), .int .u64 (y : Int), .int .u64 (u : Int), .int .u64 (v : Int), .int .u64 (x : Int)] 71)
    have HB3 : Hid (Below w.heap.size w w3) := Lib.hid (hb0.trans (hb3.mono hb0.size))
    have HA3 := Lib.hid hat3
    clear hb3 hO3 hat3 hb0
    go_wp2_with fail
    (with_reducible refine (refPut_at A3 n k3 ys hp.1 (by omega) w3 HA3).mono ?_)
    rintro e w4 ⟨v4, rfl, hO4, hb4⟩
    have HB4 : Hid (Below w.heap.size w w4) := Lib.hid (HB3.out.trans (hb4.mono HB3.out.size))
    have HO4 := Lib.hid (hO4.lower HB3.out.size)
    clear hb4 hO4 HA3
    go_wp2_with fail
    go_ret
    exact ⟨v4, rfl, HO4.out, HB4.out⟩
  · have h' : (Ent.mk k s y u v x).mayB = false := by simpa using h
    have hd : dataN ⟨k, s, y, u, v, x⟩ = [] := by unfold dataN; rw [if_neg h]
    have HEN := fun w => refEncode_no k s y u v x hf.2.1 h' w
    rw [hd]
    clear h h' hd hf
    go_enter Tryz.func66, Tryz.ntmps66
    go_wp2_with fail
    (with_reducible refine (HEN _).mono ?_)
    clear HEN
    rintro e w3 ⟨rfl, hb3⟩
    have hb0 := al_below w (.cells #[.int .i64 k, .int .u64 (s : Int), .int .u64 (y : Int), .int .u64 (u : Int), .int .u64 (v : Int), .int .u64 (x : Int)] 71)
    have HB3 : Hid (Below w.heap.size w w3) := Lib.hid (hb0.trans (hb3.mono hb0.size))
    clear hb3 hb0
    go_wp2_with fail
    go_ret
    exact ⟨_, rfl, Own.none _ _, HB3.out⟩

section
variable {g : Nat} {A : Option Addr} {n cap : Nat} {log : List Res} {w0 wb : World} (OK : Hid (CurOk g A n log w0 wb))
include OK
/-- What stands behind the entry: the cursor, and the entry in its box. -/
structure RestE (g : Nat) (A : Option Addr) (n cap : Nat) (log : List Res) (w0 wb : World) (bx : Nat) (en : Ent) (c : CSD) (w : World) : Prop where
  cur : CurID g A n cap log w0 wb c w
  box : VarAt w bx [.int .i64 en.k, .int .u64 (en.s : Int), .int .u64 (en.y : Int), .int .u64 (en.u : Int), .int .u64 (en.v : Int), .int .u64 (en.x : Int)]
set_option maxHeartbeats 8000000 in
set_option maxRecDepth 100000 in
theorem rRest_prg (hgb : g < wb.heap.size) (t r b f m : Nat) (ht : t ≤ 64) (h1 : 1 ≤ r) (hr : r < 1048576) (hbit : b = 1 ∨ b = 2) (hf : f < 18446744073709551616) (c : CSD) (hpl : c.plain) (R : RanD (List Res)) (hb : R ≠ .bad) (hR : (Prd.rest t r b f m).runCD c = R) (w : World) (hI : CurID g A n cap log w0 wb c w) :
    Calls Tryz.prog 44 #[.pointer (some ⟨g, 0, none⟩), .int .i64 (t : Int), .int .i64 (r : Int), .int .i64 (b : Int), .int .u64 (f : Int)] w (RefD g A n cap log w0 wb (fun d => .bool ((d : Int) == 1)) R) := by
  have HH := fun w => refHas_any f (b : Int) hf w
  have HS := fun w => refStamp_any f hf w
  unfold Prd.rest at hR
  have HK1 : ∀ w, Calls Tryz.prog 36 #[.int .i64 (t : Int), .int .i64 (r : Int), .int .i64 1] w fun e w' => e = .returned (.int .i64 (fieldN t r 1 : Nat)) ∧ w = w' := fun w => refField_any t r 1 (by omega) h1 (by omega) (by omega) w
  have HK2 : ∀ w, Calls Tryz.prog 36 #[.int .i64 (t : Int), .int .i64 (r : Int), .int .i64 2] w fun e w' => e = .returned (.int .i64 (fieldN t r 2 : Nat)) ∧ w = w' := fun w => refField_any t r 2 (by omega) h1 (by omega) (by omega) w
  have HK4 : ∀ w, Calls Tryz.prog 36 #[.int .i64 (t : Int), .int .i64 (r : Int), .int .i64 4] w fun e w' => e = .returned (.int .i64 (fieldN t r 4 : Nat)) ∧ w = w' := fun w => refField_any t r 4 (by omega) h1 (by omega) (by omega) w
  have HK5 : ∀ w, Calls Tryz.prog 36 #[.int .i64 (t : Int), .int .i64 (r : Int), .int .i64 5] w fun e w' => e = .returned (.int .i64 (fieldN t r 5 : Nat)) ∧ w = w' := fun w => refField_any t r 5 (by omega) h1 (by omega) (by omega) w
  have HK6 : ∀ w, Calls Tryz.prog 36 #[.int .i64 (t : Int), .int .i64 (r : Int), .int .i64 6] w fun e w' => e = .returned (.int .i64 (fieldN t r 6 : Nat)) ∧ w = w' := fun w => refField_any t r 6 (by omega) h1 (by omega) (by omega) w
  have HB := Lib.hid hb
  have hgw := hI.lt
  have hbw := hI.but.size
  cases hh : hasF f (b : Int) with
  | true =>
    rw [hh] at HH
    rw [if_pos hh] at hR
    have HE := Lib.hid (RefD.fin (ret := fun d => .bool ((d : Int) == 1)) hR hI)
    clear hI hR ht h1 hr hb hh hf hgw hbw HK1 HK2 HK4 HK5 HK6 HB HS hpl
    go_enter Tryz.func44, Tryz.ntmps44
    go_wp2_with (go_at_call 41; (with_reducible refine (HH _).mono ?_); rintro e w' ⟨rfl, rfl⟩)
    go_ret
    exact HE.out
  | false =>
    rw [hh] at HH
    rw [if_neg (by rw [hh]; decide)] at hR
    have hst : stampN f < 18446744073709551616 := by unfold stampN; omega
    have HBIT := Lib.hid hbit
    have HGB := Lib.hid hgb
    have HST := Lib.hid hst
    have HPL := Lib.hid hpl
    have HI := Lib.hid hI
    obtain ⟨bx, hbe⟩ : ∃ b, w.heap.size = b := ⟨_, rfl⟩
    have HNE := Lib.hid (show bx ≠ g by omega)
    have HBW := Lib.hid (show wb.heap.size ≤ bx by omega)
    have HBE := Lib.hid hbe
    rcases hbit with hb1 | hb2
    · rw [if_neg (by omega)] at hR
      have db : ((b : Int) == 1) = true := by rw [beq_iff_eq]; omega
      have HL := fun w h => rLoadDP (cap := cap) (wb := wb) OK hpl hR w h
      clear hI hR ht h1 hr hb hh hf hgw hbw hpl hst hgb hbe hb1
      generalize stampN f = st at *
      go_enter Tryz.func44, Tryz.ntmps44
      go_upto_region 7 with (first | (go_at_call 41; (with_reducible refine (HH _).mono ?_); rintro e w' ⟨rfl, rfl⟩) | (go_at_call 39; (with_reducible refine (HS _).mono ?_); rintro e w' ⟨rfl, rfl⟩))
      rw [HBE.out]
      refine gen_w (P := fun W => Code.wp _ _ _ _ W) (fun q => CurID g A n cap log w0 wb c q ∧ VarAt q bx [.int .i64 1, .int .u64 (st : Int), .int .u64 0, .int .u64 0, .int .u64 0, .int .u64 0]) ⟨by first | exact HI.out.below (by repeat (first | with_reducible assumption | with_reducible exact Below.refl _ _ | with_reducible refine Below.drew ?_ | with_reducible refine below_al ?_ | (with_reducible refine below_set1 (by omega) _ ?_))) | exact (HI.out.below (al_below w _)).put _ _ HPL.out HGB.out HBW.out, by rw [← HBE.out]; first | exact VarAt.made w #[.int .i64 1, .int .u64 (st : Int), .int .u64 0, .int .u64 0, .int .u64 0, .int .u64 0] 71 | exact (VarAt.made w #[.int .i64 2, .int .u64 (st : Int), .int .u64 0, .int .u64 0, .int .u64 0, .int .u64 0] 71).setAt 0 (.int .i64 1) (by simp)⟩ ?_
      rintro z0 ⟨hi, hx⟩
      have HI0 := Lib.hid hi
      have HX0 := Lib.hid hx
      clear hi hx HI
      go_wp2_with (go_at_call 36; (with_reducible refine (HK1 _).mono ?_); rintro e w' ⟨rfl, rfl⟩)
      (with_reducible refine (HL _ HI0.out).mono ?_)
      clear HL HI0
      rintro e w1' ⟨ny, c1, rfl, hn, hi, hbt, hr, hp⟩
      try dsimp only at hr
      have HN0 := Lib.hid hn
      have hx := HX0.out.but hbt HNE.out
      have HII := Lib.hid hi
      have HXX := Lib.hid hx
      have HPP := Lib.hid hp
      obtain ⟨zz, ⟨e0, e1, e2, e3, e4, e5⟩, f0, f1, f2, f3, f4, f5⟩ := hx.six
      have HL := fun w h => rLoadDP (cap := cap) (wb := wb) OK hp hr w h
      clear hn hi hbt hr hp hx HX0
      go_upto_region 8 with fail
      refine gen_w (P := fun W => Code.wp _ _ _ _ W) (fun q => CurID g A n cap log w0 wb c1 q ∧ VarAt q bx [.int .i64 1, .int .u64 (st : Int), .int .u64 (ny : Int), .int .u64 0, .int .u64 0, .int .u64 0]) ⟨HII.out.put _ _ HPP.out HGB.out HBW.out, HXX.out.setAt 2 _ (by simp)⟩ ?_
      clear zz e0 e1 e2 e3 e4 e5 f0 f1 f2 f3 f4 f5 HII HXX HPP
      rintro z1 ⟨hi, hx⟩
      have HI1 := Lib.hid hi
      have HX1 := Lib.hid hx
      clear hi hx
      go_wp2_with (go_at_call 36; (with_reducible refine (HK4 _).mono ?_); rintro e w' ⟨rfl, rfl⟩)
      (with_reducible refine (HL _ HI1.out).mono ?_)
      clear HL HI1
      rintro e w2' ⟨nu, c2, rfl, hn, hi, hbt, hr, hp⟩
      try dsimp only at hr
      have HN1 := Lib.hid hn
      have hx := HX1.out.but hbt HNE.out
      have HII := Lib.hid hi
      have HXX := Lib.hid hx
      have HPP := Lib.hid hp
      obtain ⟨zz, ⟨e0, e1, e2, e3, e4, e5⟩, f0, f1, f2, f3, f4, f5⟩ := hx.six
      have HL := fun w h => rLoadDP (cap := cap) (wb := wb) OK hp hr w h
      clear hn hi hbt hr hp hx HX1
      go_upto_region 9 with fail
      refine gen_w (P := fun W => Code.wp _ _ _ _ W) (fun q => CurID g A n cap log w0 wb c2 q ∧ VarAt q bx [.int .i64 1, .int .u64 (st : Int), .int .u64 (ny : Int), .int .u64 (nu : Int), .int .u64 0, .int .u64 0]) ⟨HII.out.put _ _ HPP.out HGB.out HBW.out, HXX.out.setAt 3 _ (by simp)⟩ ?_
      clear zz e0 e1 e2 e3 e4 e5 f0 f1 f2 f3 f4 f5 HII HXX HPP
      rintro z2 ⟨hi, hx⟩
      have HI2 := Lib.hid hi
      have HX2 := Lib.hid hx
      clear hi hx
      go_wp2_with (go_at_call 36; (with_reducible refine (HK5 _).mono ?_); rintro e w' ⟨rfl, rfl⟩)
      (with_reducible refine (HL _ HI2.out).mono ?_)
      clear HL HI2
      rintro e w3' ⟨nv, c3, rfl, hn, hi, hbt, hr, hp⟩
      try dsimp only at hr
      have HN2 := Lib.hid hn
      have hx := HX2.out.but hbt HNE.out
      have HII := Lib.hid hi
      have HXX := Lib.hid hx
      have HPP := Lib.hid hp
      obtain ⟨zz, ⟨e0, e1, e2, e3, e4, e5⟩, f0, f1, f2, f3, f4, f5⟩ := hx.six
      have HL := fun w h => rLoadDP (cap := cap) (wb := wb) OK hp hr w h
      clear hn hi hbt hr hp hx HX2
      go_upto_region 10 with fail
      refine gen_w (P := fun W => Code.wp _ _ _ _ W) (fun q => CurID g A n cap log w0 wb c3 q ∧ VarAt q bx [.int .i64 1, .int .u64 (st : Int), .int .u64 (ny : Int), .int .u64 (nu : Int), .int .u64 (nv : Int), .int .u64 0]) ⟨HII.out.put _ _ HPP.out HGB.out HBW.out, HXX.out.setAt 4 _ (by simp)⟩ ?_
      clear zz e0 e1 e2 e3 e4 e5 f0 f1 f2 f3 f4 f5 HII HXX HPP
      rintro z3 ⟨hi, hx⟩
      have HI3 := Lib.hid hi
      have HX3 := Lib.hid hx
      clear hi hx
      go_wp2_with (go_at_call 36; (with_reducible refine (HK6 _).mono ?_); rintro e w' ⟨rfl, rfl⟩)
      (with_reducible refine (HL _ HI3.out).mono ?_)
      clear HL HI3
      rintro e w4' ⟨nx, c4, rfl, hn, hi, hbt, hr, hp⟩
      try dsimp only at hr
      have HN3 := Lib.hid hn
      have hx := HX3.out.but hbt HNE.out
      have HII := Lib.hid hi
      have HXX := Lib.hid hx
      have HPP := Lib.hid hp
      obtain ⟨zz, ⟨e0, e1, e2, e3, e4, e5⟩, f0, f1, f2, f3, f4, f5⟩ := hx.six
      have HR := Lib.hid hr
      clear hn hi hbt hr hp hx HX3
      go_upto_region 11 with fail
      refine gen_w (P := fun W => Code.wp _ _ _ _ W) (fun q => CurID g A n cap log w0 wb c4 q ∧ VarAt q bx [.int .i64 1, .int .u64 (st : Int), .int .u64 (ny : Int), .int .u64 (nu : Int), .int .u64 (nv : Int), .int .u64 (nx : Int)]) ⟨HII.out.put _ _ HPP.out HGB.out HBW.out, HXX.out.setAt 5 _ (by simp)⟩ ?_
      clear zz e0 e1 e2 e3 e4 e5 f0 f1 f2 f3 f4 f5 HII HXX HPP
      rintro z ⟨hcur, hbox⟩
      have hr := HR.out
      obtain ⟨zc, ⟨e0, e1, e2, e3, e4, e5⟩, _⟩ := hbox.six
      have HBY : ∀ w, Calls Tryz.prog 66 #[.agg #[.int .i64 1, .int .u64 (st : Int), .int .u64 (ny : Int), .int .u64 (nu : Int), .int .u64 (nv : Int), .int .u64 (nx : Int)]] w (DataPost w (dataN ⟨1, st, ny, nu, nv, nx⟩)) := fun w => rBytes_any 1 st ny nu nv nx ⟨HST.out, HN0.out, HN1.out, HN2.out, HN3.out⟩ w
      have hdl := data_len ⟨1, st, ny, nu, nv, nx⟩
      have HC1 := Lib.hid hcur
      have HBX1 := Lib.hid hbox
      have HR1 := Lib.hid hr
      clear hcur hbox hr
      generalize dataN ⟨1, st, ny, nu, nv, nx⟩ = dd at *
      go_wp2_with fail
      (with_reducible refine (HBY _).mono ?_)
      clear HBY
      rintro e w3 ⟨v3, rfl, hown, hb3⟩
      obtain ⟨D, dc, rfl, hdc, hat⟩ := hown.at_ (by omega)
      have hlt1 := HC1.out.lt
      have HOF : Hid (OffW (fun c => c ≠ g ∧ wb.heap.size ≤ c) D dd.length) := Lib.hid (hown.off.mono fun c hc => ⟨by omega, by have := HC1.out.but.size; omega⟩)
      have HC3 := Lib.hid (HC1.out.below hb3)
      have HBX3 := Lib.hid (HBX1.out.below hb3)
      have HAT := Lib.hid hat
      have hr2 : (Prd.ask 5 0 0 0 dd fun x => (if x = 0 then Prd.sync else .ret 0).bind fun x => if x = 1 then (Prd.raise (fieldN t r 2) b (Prd.over st b) m).bind fun _ => .ret 1 else .ret 0).runCD c4 = R := HR1.out
      have HD := rDiskD OK (by decide) hr2 D dc w3 HC3.out hat hdc HOF.out (by omega)
      clear hown hb3 hat hlt1 HC1 HBX1 HR1 hr2 hdl hdc
      obtain ⟨nd, hnd⟩ : ∃ q, dd.length = q := ⟨_, rfl⟩
      rw [hnd] at HD ⊢
      have HND := Lib.hid hnd
      clear hnd HAT HOF HC3 e0 e1 e2 e3 e4 e5 zc
      go_wp2_with fail
      (with_reducible refine HD.mono ?_)
      clear HD
      rintro e w4 ⟨N4, B4, bn4, bc4, d4, c4, rfl, hi, hbt, hr⟩
      dsimp only at hr
      have HBX4 := Lib.hid (HBX3.out.but hbt HNE.out)
      clear HBX3 hbt
      by_cases h4 : d4 = 0
      · subst h4
        rw [if_pos rfl] at hr
        have hr2 : (Prd.ask 6 0 0 0 [] fun y => (if y = 0 then Prd.ret 1 else .ret 0).bind fun x => if x = 1 then (Prd.raise (fieldN t r 2) b (Prd.over st b) m).bind fun _ => .ret 1 else .ret 0).runCD c4 = R := hr
        have dd4 : decide ((0 : Nat) ≠ 0) = false := by decide
        rw [dd4]
        clear dd4 hr
        have HC4 := Lib.hid hi
        have HR4 := Lib.hid hr2
        clear hi hr2
        go_wp2_with fail
        refine gen_w (P := fun W => Calls _ _ _ W _) (fun y => CurID g A n cap log w0 wb c4 y ∧ VarAt y bx [.int .i64 1, .int .u64 (st : Int), .int .u64 (ny : Int), .int .u64 (nu : Int), .int .u64 (nv : Int), .int .u64 (nx : Int)]) ⟨HC4.out.below (by repeat (first | with_reducible assumption | with_reducible exact Below.refl _ _ | with_reducible refine Below.drew ?_ | with_reducible refine below_al ?_ | (with_reducible refine below_set1 (by omega) _ ?_))), HBX4.out.below (by repeat (first | with_reducible assumption | with_reducible exact Below.refl _ _ | with_reducible refine Below.drew ?_ | with_reducible refine below_al ?_ | (with_reducible refine below_set1 (by omega) _ ?_)))⟩ ?_
        rintro z5 ⟨hi5, hx5⟩
        have HX5 := Lib.hid hx5
        have HD : Calls Tryz.prog 65 #[.pointer (some ⟨g, 0, none⟩), .agg #[.int .i64 6, .int .i64 0, .int .u64 0, .int .u64 0, .slice none 0 0, .slice none 0 0]] z5 _ := rDiskD OK (by decide) HR4.out none 0 z5 hi5 (AtB.nil _ _) (Nat.le_refl 0) (OffW.nil _ _) (by decide)
        clear hx5 hi5 HC4 HBX4 HR4
        (with_reducible refine HD.mono ?_)
        clear HD
        rintro e w6 ⟨N6, B6, bn6, bc6, d6, c6, rfl, hi, hbt, hr⟩
        try dsimp only at hr
        have HBX6 := Lib.hid (HX5.out.but hbt HNE.out)
        clear HX5 hbt
        by_cases h6 : d6 = 0
        · subst h6
          rw [if_pos rfl] at hr
          have hr3 : ((Prd.raise (fieldN t r 2) b (Prd.over st b) m).bind fun _ => .ret 1).runCD c6 = R := hr
          have dd6 : decide ((0 : Nat) ≠ 0) = false := by decide
          rw [dd6]
          clear dd6 hr
          have HC6 := Lib.hid hi
          have HR6 := Lib.hid hr3
          clear hi hr3
          go_upto_region 17 with fail
          refine gen_w (P := fun W => Code.wp _ _ _ _ W) (fun y => CurID g A n cap log w0 wb c6 y ∧ VarAt y bx [.int .i64 1, .int .u64 (st : Int), .int .u64 (ny : Int), .int .u64 (nu : Int), .int .u64 (nv : Int), .int .u64 (nx : Int)]) ⟨HC6.out.below (by repeat (first | with_reducible assumption | with_reducible exact Below.refl _ _ | with_reducible refine Below.drew ?_ | with_reducible refine below_al ?_ | (with_reducible refine below_set1 (by omega) _ ?_))), HBX6.out.below (by repeat (first | with_reducible assumption | with_reducible exact Below.refl _ _ | with_reducible refine Below.drew ?_ | with_reducible refine below_al ?_ | (with_reducible refine below_set1 (by omega) _ ?_)))⟩ ?_
          rintro z7 ⟨hi7, hx7⟩
          have HX7 := Lib.hid hx7
          obtain ⟨J, hJ⟩ : ∃ J : Nat → World → Prop, J = fun m wr => ∃ c, CurID g A n cap log w0 wb c wr ∧ VarAt wr bx [.int .i64 1, .int .u64 (st : Int), .int .u64 (ny : Int), .int .u64 (nu : Int), .int .u64 (nv : Int), .int .u64 (nx : Int)] ∧ ((Prd.raise (fieldN t r 2) b (Prd.over st b) m).bind fun _ => .ret 1).runCD c = R := ⟨_, rfl⟩
          have HJ : ∀ m wr, J m wr ↔ ∃ c, CurID g A n cap log w0 wb c wr ∧ VarAt wr bx [.int .i64 1, .int .u64 (st : Int), .int .u64 (ny : Int), .int .u64 (nu : Int), .int .u64 (nv : Int), .int .u64 (nx : Int)] ∧ ((Prd.raise (fieldN t r 2) b (Prd.over st b) m).bind fun _ => .ret 1).runCD c = R := fun m wr => by rw [hJ]
          have HJ0 := Lib.hid (show ∃ m, J m z7 from ⟨m, (HJ _ _).2 ⟨c6, hi7, hx7, HR6.out⟩⟩)
          have HJH := Lib.hid HJ
          clear hJ hi7 hx7 HJ HX7 HC6 HR6 HBX6
          generalize hp2 : fieldN t r 2 = p2 at *
          clear hp2
          go_wp2_with fail
          go_loopw [15, 16, 17] (fun _ _ _ wr => ∃ m, J m wr) (fun _ _ _ wr => cnt J wr)
          case atStart => exact HJ0.out
          case round =>
            clear HJ0
            have hj := cnt_spec hrel
            clear hrel
            generalize hm : cnt J wr = m' at *
            have HM := Lib.hid hm
            clear hm
            obtain ⟨c8, hS, hx, hr⟩ := (HJH.out _ _).1 hj
            clear hj
            have c2' := hS.two
            have hgw := hS.lt
            by_cases hst : c8.stops = true
            · rw [hst] at c2'
              have HE := Lib.hid (RefD.fin (ret := fun d => .bool ((d : Int) == 1)) (d := 1) ((Prd.runCD_stop hst _).trans hr) hS)
              clear hS hst hr hx
              go_wp2_with fail
              go_ret
              exact HE.out
            have hst' : c8.stops = false := by simpa using hst
            rw [hst'] at c2'
            cases m' with
            | zero =>
              cases c8 with
              | «at» s => exact absurd hr.symm HB.out
              | stop k i a b d => exact absurd rfl hst
            | succ m' =>
            have hr1 : (Prd.ask 0 ((p2 : Nat) : Int) 0 0 [] fun g => (if Prd.over st b g = true then Prd.ret 0 else Prd.ask 2 ((p2 : Nat) : Int) g (g + b) [] fun d => if d = 1 then Prd.ret 0 else Prd.raise p2 b (Prd.over st b) m').bind fun _ => .ret 1).runCD c8 = R := hr
            have HL := rLoadD (cap := cap) (wb := wb) OK hr1
            have HI3 := Lib.hid hS
            have HX8 := Lib.hid hx
            clear hS hr hr1 hst hst' hx
            go_wp2_with (go_at_call 36; (with_reducible refine (HK2 _).mono ?_); rintro e w' ⟨rfl, rfl⟩)
            (with_reducible refine (HL _ HI3.out).mono ?_)
            clear HL HI3 c2' hgw
            rintro e w9 ⟨f, c9, rfl, hn, hi, hbt, hr⟩
            try dsimp only at hr
            have HH := fun w => refHas_any f (b : Int) hn w
            have HT := fun w => refStamp_any f hn w
            have hx9 := HX8.out.but hbt HNE.out
            have HX9 := Lib.hid hx9
            have HI9 := Lib.hid hi
            obtain ⟨zc, ⟨e0, e1, e2, e3, e4, e5⟩, _⟩ := hx9.six
            clear hi hbt HX8 hx9
            have hDN : ∀ q, CurID g A n cap log w0 wb c9 (w9.drewN q) ∧ VarAt (w9.drewN q) bx [.int .i64 1, .int .u64 (st : Int), .int .u64 (ny : Int), .int .u64 (nu : Int), .int .u64 (nv : Int), .int .u64 (nx : Int)] := fun q => ⟨HI9.out.below (below_draw (Below.refl _ _) q), HX9.out.below (below_draw (Below.refl _ _) q)⟩
            have HDN := Lib.hid hDN
            clear hDN
            cases hf : hasF f (b : Int) with
            | true =>
              have hov : Prd.over st b f = true := by unfold Prd.over; rw [hf]; simp
              rw [if_pos hov] at hr
              have hr2 : (Prd.ret 1).runCD c9 = R := hr
              have HR9 := Lib.hid hr2
              rw [hf] at HH
              clear hr hr2 hf hov hn
              generalize stampN f = sf at *
              go_wp2_with (first | (go_at_call 41; (with_reducible refine (HH _).mono ?_); rintro e w' ⟨rfl, rfl⟩))
              go_quiet (first | (go_at_call 39; with_reducible exact quiet_call (HT _)))
              go_wp2_with fail
              go_ret
              exact RefD.fin (ret := fun d => .bool ((d : Int) == 1)) HR9.out (HDN.out _).1
            | false =>
              rw [hf] at HH
              by_cases hs : stampN f = st
              · have hov : ¬ (Prd.over st b f = true) := by unfold Prd.over; rw [hf, hs]; simp
                rw [if_neg hov] at hr
                have hr2 : (Prd.ask 2 ((p2 : Nat) : Int) f (f + b) [] fun d => (if d = 1 then Prd.ret 0 else Prd.raise p2 b (Prd.over st b) m').bind fun _ => .ret 1).runCD c9 = R := hr
                have HW := fun w => rWith_any f b hn HBIT.out hf w
                have HC := rCasD (cap := cap) (wb := wb) OK hr2
                have ds : (((stampN f : Nat) : Int) != (st : Int)) = false := by rw [bne_eq_false_iff_eq]; omega
                clear hr hr2 hf hov hn hs
                generalize stampN f = sf at *
                generalize f + b = fb at *
                go_wp2_with (first | (go_at_call 41; (with_reducible refine (HH _).mono ?_); rintro e w' ⟨rfl, rfl⟩))
                go_quiet (first | (go_at_call 39; with_reducible exact quiet_call (HT _)))
                go_wp2_with (first | (go_at_call 36; (with_reducible refine (HK2 _).mono ?_); rintro e w' ⟨rfl, rfl⟩) | (go_at_call 43; (with_reducible refine (HW _).mono ?_); rintro e w' ⟨rfl, rfl⟩))
                (with_reducible refine (HC _ (HDN.out _).1).mono ?_)
                clear HC
                rintro e w10 ⟨d, c10, rfl, hn, hi, hbt, hr⟩
                dsimp only at hr
                have HX10 := Lib.hid ((HDN.out _).2.but hbt HNE.out)
                clear hbt
                by_cases hd : d = 1
                · rw [if_pos hd] at hr
                  have dd := eq1 hd
                  have hr2 : (Prd.ret 1).runCD c10 = R := hr
                  have HE := Lib.hid (RefD.fin (ret := fun d => .bool ((d : Int) == 1)) hr2 hi)
                  clear hr hd hi hn hr2
                  go_wp2_with fail
                  go_ret
                  exact HE.out
                · rw [if_neg hd] at hr
                  have dd := ne1 hd
                  have hr2 : ((Prd.raise p2 b (Prd.over st b) m').bind fun _ => .ret 1).runCD c10 = R := hr
                  have hj : J m' w10 := (HJH.out _ _).2 ⟨c10, hi, HX10.out, hr2⟩
                  have HJ6 := Lib.hid hj
                  clear hr hd hi hj hn hr2
                  go_wp2_with fail
                  go_roundw
                  case rel => exact ⟨m', HJ6.out⟩
                  case measure => exact cnt_lt HJ6.out (Nat.lt_succ_self m')
              · have hov : Prd.over st b f = true := by unfold Prd.over; simp [hs]
                rw [if_pos hov] at hr
                have hr2 : (Prd.ret 1).runCD c9 = R := hr
                have HR9 := Lib.hid hr2
                have ds : (((stampN f : Nat) : Int) != (st : Int)) = true := by rw [bne_iff_ne]; omega
                clear hr hr2 hf hov hn hs
                generalize stampN f = sf at *
                go_wp2_with (first | (go_at_call 41; (with_reducible refine (HH _).mono ?_); rintro e w' ⟨rfl, rfl⟩))
                go_quiet (first | (go_at_call 39; with_reducible exact quiet_call (HT _)))
                go_wp2_with fail
                go_ret
                exact RefD.fin (ret := fun d => .bool ((d : Int) == 1)) HR9.out (HDN.out _).1
        · have dd6 : decide (d6 ≠ 0) = true := by simpa using h6
          rw [dd6]
          rw [if_neg h6] at hr
          have HE := Lib.hid (RefD.fin (ret := fun d => .bool ((d : Int) == 1)) (d := 0) hr (hi.below (al_below w6 (.cells #[.int .u64 (N6 : Int), .slice B6 bn6 bc6, .bool true] 82))))
          clear h6 dd6 hr hi
          go_wp2_with fail
          go_ret
          exact HE.out
      · have dd4 : decide (d4 ≠ 0) = true := by simpa using h4
        rw [dd4]
        rw [if_neg h4] at hr
        have HE := Lib.hid (RefD.fin (ret := fun d => .bool ((d : Int) == 1)) (d := 0) hr (hi.below (al_below w4 (.cells #[.int .u64 (N4 : Int), .slice B4 bn4 bc4, .bool true] 82))))
        clear h4 dd4 hr hi
        go_wp2_with fail
        go_ret
        exact HE.out
    · rw [if_pos hb2] at hR
      have db : ((b : Int) == 1) = false := by rw [beq_eq_false_iff_ne]; omega
      clear hb2
      have HR := Lib.hid hR
      clear hI hR ht h1 hr hb hh hf hgw hbw hpl hst hgb hbe
      generalize stampN f = st at *
      go_enter Tryz.func44, Tryz.ntmps44
      go_upto_region 11 with (first | (go_at_call 41; (with_reducible refine (HH _).mono ?_); rintro e w' ⟨rfl, rfl⟩) | (go_at_call 39; (with_reducible refine (HS _).mono ?_); rintro e w' ⟨rfl, rfl⟩))
      rw [HBE.out]
      refine gen_w (P := fun W => Code.wp _ _ _ _ W) (fun q => CurID g A n cap log w0 wb c q ∧ VarAt q bx [.int .i64 2, .int .u64 (st : Int), .int .u64 0, .int .u64 0, .int .u64 0, .int .u64 0]) ⟨HI.out.below (by repeat (first | with_reducible assumption | with_reducible exact Below.refl _ _ | with_reducible refine Below.drew ?_ | with_reducible refine below_al ?_ | (with_reducible refine below_set1 (by omega) _ ?_))), by rw [← HBE.out]; exact VarAt.made w #[.int .i64 2, .int .u64 (st : Int), .int .u64 0, .int .u64 0, .int .u64 0, .int .u64 0] 71⟩ ?_
      rintro z ⟨hcur, hbox⟩
      have hr := HR.out
      clear HI
      obtain ⟨zc, ⟨e0, e1, e2, e3, e4, e5⟩, _⟩ := hbox.six
      have HBY : ∀ w, Calls Tryz.prog 66 #[.agg #[.int .i64 2, .int .u64 (st : Int), .int .u64 0, .int .u64 0, .int .u64 0, .int .u64 0]] w (DataPost w (dataN ⟨2, st, 0, 0, 0, 0⟩)) := fun w => rBytes_any 2 st 0 0 0 0 ⟨HST.out, (show (0 : Nat) < _ by decide), (show (0 : Nat) < _ by decide), (show (0 : Nat) < _ by decide), (show (0 : Nat) < _ by decide)⟩ w
      have hdl := data_len ⟨2, st, 0, 0, 0, 0⟩
      have HC1 := Lib.hid hcur
      have HBX1 := Lib.hid hbox
      have HR1 := Lib.hid hr
      clear hcur hbox hr
      generalize dataN ⟨2, st, 0, 0, 0, 0⟩ = dd at *
      go_wp2_with fail
      (with_reducible refine (HBY _).mono ?_)
      clear HBY
      rintro e w3 ⟨v3, rfl, hown, hb3⟩
      obtain ⟨D, dc, rfl, hdc, hat⟩ := hown.at_ (by omega)
      have hlt1 := HC1.out.lt
      have HOF : Hid (OffW (fun c => c ≠ g ∧ wb.heap.size ≤ c) D dd.length) := Lib.hid (hown.off.mono fun c hc => ⟨by omega, by have := HC1.out.but.size; omega⟩)
      have HC3 := Lib.hid (HC1.out.below hb3)
      have HBX3 := Lib.hid (HBX1.out.below hb3)
      have HAT := Lib.hid hat
      have hr2 : (Prd.ask 5 0 0 0 dd fun x => (if x = 0 then Prd.sync else .ret 0).bind fun x => if x = 1 then (Prd.raise (fieldN t r 2) b (Prd.over st b) m).bind fun _ => .ret 1 else .ret 0).runCD c = R := HR1.out
      have HD := rDiskD OK (by decide) hr2 D dc w3 HC3.out hat hdc HOF.out (by omega)
      clear hown hb3 hat hlt1 HC1 HBX1 HR1 hr2 hdl hdc
      obtain ⟨nd, hnd⟩ : ∃ q, dd.length = q := ⟨_, rfl⟩
      rw [hnd] at HD ⊢
      have HND := Lib.hid hnd
      clear hnd HAT HOF HC3 e0 e1 e2 e3 e4 e5 zc
      go_wp2_with fail
      (with_reducible refine HD.mono ?_)
      clear HD
      rintro e w4 ⟨N4, B4, bn4, bc4, d4, c4, rfl, hi, hbt, hr⟩
      dsimp only at hr
      have HBX4 := Lib.hid (HBX3.out.but hbt HNE.out)
      clear HBX3 hbt
      by_cases h4 : d4 = 0
      · subst h4
        rw [if_pos rfl] at hr
        have hr2 : (Prd.ask 6 0 0 0 [] fun y => (if y = 0 then Prd.ret 1 else .ret 0).bind fun x => if x = 1 then (Prd.raise (fieldN t r 2) b (Prd.over st b) m).bind fun _ => .ret 1 else .ret 0).runCD c4 = R := hr
        have dd4 : decide ((0 : Nat) ≠ 0) = false := by decide
        rw [dd4]
        clear dd4 hr
        have HC4 := Lib.hid hi
        have HR4 := Lib.hid hr2
        clear hi hr2
        go_wp2_with fail
        refine gen_w (P := fun W => Calls _ _ _ W _) (fun y => CurID g A n cap log w0 wb c4 y ∧ VarAt y bx [.int .i64 2, .int .u64 (st : Int), .int .u64 0, .int .u64 0, .int .u64 0, .int .u64 0]) ⟨HC4.out.below (by repeat (first | with_reducible assumption | with_reducible exact Below.refl _ _ | with_reducible refine Below.drew ?_ | with_reducible refine below_al ?_ | (with_reducible refine below_set1 (by omega) _ ?_))), HBX4.out.below (by repeat (first | with_reducible assumption | with_reducible exact Below.refl _ _ | with_reducible refine Below.drew ?_ | with_reducible refine below_al ?_ | (with_reducible refine below_set1 (by omega) _ ?_)))⟩ ?_
        rintro z5 ⟨hi5, hx5⟩
        have HX5 := Lib.hid hx5
        have HD : Calls Tryz.prog 65 #[.pointer (some ⟨g, 0, none⟩), .agg #[.int .i64 6, .int .i64 0, .int .u64 0, .int .u64 0, .slice none 0 0, .slice none 0 0]] z5 _ := rDiskD OK (by decide) HR4.out none 0 z5 hi5 (AtB.nil _ _) (Nat.le_refl 0) (OffW.nil _ _) (by decide)
        clear hx5 hi5 HC4 HBX4 HR4
        (with_reducible refine HD.mono ?_)
        clear HD
        rintro e w6 ⟨N6, B6, bn6, bc6, d6, c6, rfl, hi, hbt, hr⟩
        try dsimp only at hr
        have HBX6 := Lib.hid (HX5.out.but hbt HNE.out)
        clear HX5 hbt
        by_cases h6 : d6 = 0
        · subst h6
          rw [if_pos rfl] at hr
          have hr3 : ((Prd.raise (fieldN t r 2) b (Prd.over st b) m).bind fun _ => .ret 1).runCD c6 = R := hr
          have dd6 : decide ((0 : Nat) ≠ 0) = false := by decide
          rw [dd6]
          clear dd6 hr
          have HC6 := Lib.hid hi
          have HR6 := Lib.hid hr3
          clear hi hr3
          go_upto_region 17 with fail
          refine gen_w (P := fun W => Code.wp _ _ _ _ W) (fun y => CurID g A n cap log w0 wb c6 y ∧ VarAt y bx [.int .i64 2, .int .u64 (st : Int), .int .u64 0, .int .u64 0, .int .u64 0, .int .u64 0]) ⟨HC6.out.below (by repeat (first | with_reducible assumption | with_reducible exact Below.refl _ _ | with_reducible refine Below.drew ?_ | with_reducible refine below_al ?_ | (with_reducible refine below_set1 (by omega) _ ?_))), HBX6.out.below (by repeat (first | with_reducible assumption | with_reducible exact Below.refl _ _ | with_reducible refine Below.drew ?_ | with_reducible refine below_al ?_ | (with_reducible refine below_set1 (by omega) _ ?_)))⟩ ?_
          rintro z7 ⟨hi7, hx7⟩
          have HX7 := Lib.hid hx7
          obtain ⟨J, hJ⟩ : ∃ J : Nat → World → Prop, J = fun m wr => ∃ c, CurID g A n cap log w0 wb c wr ∧ VarAt wr bx [.int .i64 2, .int .u64 (st : Int), .int .u64 0, .int .u64 0, .int .u64 0, .int .u64 0] ∧ ((Prd.raise (fieldN t r 2) b (Prd.over st b) m).bind fun _ => .ret 1).runCD c = R := ⟨_, rfl⟩
          have HJ : ∀ m wr, J m wr ↔ ∃ c, CurID g A n cap log w0 wb c wr ∧ VarAt wr bx [.int .i64 2, .int .u64 (st : Int), .int .u64 0, .int .u64 0, .int .u64 0, .int .u64 0] ∧ ((Prd.raise (fieldN t r 2) b (Prd.over st b) m).bind fun _ => .ret 1).runCD c = R := fun m wr => by rw [hJ]
          have HJ0 := Lib.hid (show ∃ m, J m z7 from ⟨m, (HJ _ _).2 ⟨c6, hi7, hx7, HR6.out⟩⟩)
          have HJH := Lib.hid HJ
          clear hJ hi7 hx7 HJ HX7 HC6 HR6 HBX6
          generalize hp2 : fieldN t r 2 = p2 at *
          clear hp2
          go_wp2_with fail
          go_loopw [15, 16, 17] (fun _ _ _ wr => ∃ m, J m wr) (fun _ _ _ wr => cnt J wr)
          case atStart => exact HJ0.out
          case round =>
            clear HJ0
            have hj := cnt_spec hrel
            clear hrel
            generalize hm : cnt J wr = m' at *
            have HM := Lib.hid hm
            clear hm
            obtain ⟨c8, hS, hx, hr⟩ := (HJH.out _ _).1 hj
            clear hj
            have c2' := hS.two
            have hgw := hS.lt
            by_cases hst : c8.stops = true
            · rw [hst] at c2'
              have HE := Lib.hid (RefD.fin (ret := fun d => .bool ((d : Int) == 1)) (d := 1) ((Prd.runCD_stop hst _).trans hr) hS)
              clear hS hst hr hx
              go_wp2_with fail
              go_ret
              exact HE.out
            have hst' : c8.stops = false := by simpa using hst
            rw [hst'] at c2'
            cases m' with
            | zero =>
              cases c8 with
              | «at» s => exact absurd hr.symm HB.out
              | stop k i a b d => exact absurd rfl hst
            | succ m' =>
            have hr1 : (Prd.ask 0 ((p2 : Nat) : Int) 0 0 [] fun g => (if Prd.over st b g = true then Prd.ret 0 else Prd.ask 2 ((p2 : Nat) : Int) g (g + b) [] fun d => if d = 1 then Prd.ret 0 else Prd.raise p2 b (Prd.over st b) m').bind fun _ => .ret 1).runCD c8 = R := hr
            have HL := rLoadD (cap := cap) (wb := wb) OK hr1
            have HI3 := Lib.hid hS
            have HX8 := Lib.hid hx
            clear hS hr hr1 hst hst' hx
            go_wp2_with (go_at_call 36; (with_reducible refine (HK2 _).mono ?_); rintro e w' ⟨rfl, rfl⟩)
            (with_reducible refine (HL _ HI3.out).mono ?_)
            clear HL HI3 c2' hgw
            rintro e w9 ⟨f, c9, rfl, hn, hi, hbt, hr⟩
            try dsimp only at hr
            have HH := fun w => refHas_any f (b : Int) hn w
            have HT := fun w => refStamp_any f hn w
            have hx9 := HX8.out.but hbt HNE.out
            have HX9 := Lib.hid hx9
            have HI9 := Lib.hid hi
            obtain ⟨zc, ⟨e0, e1, e2, e3, e4, e5⟩, _⟩ := hx9.six
            clear hi hbt HX8 hx9
            have hDN : ∀ q, CurID g A n cap log w0 wb c9 (w9.drewN q) ∧ VarAt (w9.drewN q) bx [.int .i64 2, .int .u64 (st : Int), .int .u64 0, .int .u64 0, .int .u64 0, .int .u64 0] := fun q => ⟨HI9.out.below (below_draw (Below.refl _ _) q), HX9.out.below (below_draw (Below.refl _ _) q)⟩
            have HDN := Lib.hid hDN
            clear hDN
            cases hf : hasF f (b : Int) with
            | true =>
              have hov : Prd.over st b f = true := by unfold Prd.over; rw [hf]; simp
              rw [if_pos hov] at hr
              have hr2 : (Prd.ret 1).runCD c9 = R := hr
              have HR9 := Lib.hid hr2
              rw [hf] at HH
              clear hr hr2 hf hov hn
              generalize stampN f = sf at *
              go_wp2_with (first | (go_at_call 41; (with_reducible refine (HH _).mono ?_); rintro e w' ⟨rfl, rfl⟩))
              go_quiet (first | (go_at_call 39; with_reducible exact quiet_call (HT _)))
              go_wp2_with fail
              go_ret
              exact RefD.fin (ret := fun d => .bool ((d : Int) == 1)) HR9.out (HDN.out _).1
            | false =>
              rw [hf] at HH
              by_cases hs : stampN f = st
              · have hov : ¬ (Prd.over st b f = true) := by unfold Prd.over; rw [hf, hs]; simp
                rw [if_neg hov] at hr
                have hr2 : (Prd.ask 2 ((p2 : Nat) : Int) f (f + b) [] fun d => (if d = 1 then Prd.ret 0 else Prd.raise p2 b (Prd.over st b) m').bind fun _ => .ret 1).runCD c9 = R := hr
                have HW := fun w => rWith_any f b hn HBIT.out hf w
                have HC := rCasD (cap := cap) (wb := wb) OK hr2
                have ds : (((stampN f : Nat) : Int) != (st : Int)) = false := by rw [bne_eq_false_iff_eq]; omega
                clear hr hr2 hf hov hn hs
                generalize stampN f = sf at *
                generalize f + b = fb at *
                go_wp2_with (first | (go_at_call 41; (with_reducible refine (HH _).mono ?_); rintro e w' ⟨rfl, rfl⟩))
                go_quiet (first | (go_at_call 39; with_reducible exact quiet_call (HT _)))
                go_wp2_with (first | (go_at_call 36; (with_reducible refine (HK2 _).mono ?_); rintro e w' ⟨rfl, rfl⟩) | (go_at_call 43; (with_reducible refine (HW _).mono ?_); rintro e w' ⟨rfl, rfl⟩))
                (with_reducible refine (HC _ (HDN.out _).1).mono ?_)
                clear HC
                rintro e w10 ⟨d, c10, rfl, hn, hi, hbt, hr⟩
                dsimp only at hr
                have HX10 := Lib.hid ((HDN.out _).2.but hbt HNE.out)
                clear hbt
                by_cases hd : d = 1
                · rw [if_pos hd] at hr
                  have dd := eq1 hd
                  have hr2 : (Prd.ret 1).runCD c10 = R := hr
                  have HE := Lib.hid (RefD.fin (ret := fun d => .bool ((d : Int) == 1)) hr2 hi)
                  clear hr hd hi hn hr2
                  go_wp2_with fail
                  go_ret
                  exact HE.out
                · rw [if_neg hd] at hr
                  have dd := ne1 hd
                  have hr2 : ((Prd.raise p2 b (Prd.over st b) m').bind fun _ => .ret 1).runCD c10 = R := hr
                  have hj : J m' w10 := (HJH.out _ _).2 ⟨c10, hi, HX10.out, hr2⟩
                  have HJ6 := Lib.hid hj
                  clear hr hd hi hj hn hr2
                  go_wp2_with fail
                  go_roundw
                  case rel => exact ⟨m', HJ6.out⟩
                  case measure => exact cnt_lt HJ6.out (Nat.lt_succ_self m')
              · have hov : Prd.over st b f = true := by unfold Prd.over; simp [hs]
                rw [if_pos hov] at hr
                have hr2 : (Prd.ret 1).runCD c9 = R := hr
                have HR9 := Lib.hid hr2
                have ds : (((stampN f : Nat) : Int) != (st : Int)) = true := by rw [bne_iff_ne]; omega
                clear hr hr2 hf hov hn hs
                generalize stampN f = sf at *
                go_wp2_with (first | (go_at_call 41; (with_reducible refine (HH _).mono ?_); rintro e w' ⟨rfl, rfl⟩))
                go_quiet (first | (go_at_call 39; with_reducible exact quiet_call (HT _)))
                go_wp2_with fail
                go_ret
                exact RefD.fin (ret := fun d => .bool ((d : Int) == 1)) HR9.out (HDN.out _).1
        · have dd6 : decide (d6 ≠ 0) = true := by simpa using h6
          rw [dd6]
          rw [if_neg h6] at hr
          have HE := Lib.hid (RefD.fin (ret := fun d => .bool ((d : Int) == 1)) (d := 0) hr (hi.below (al_below w6 (.cells #[.int .u64 (N6 : Int), .slice B6 bn6 bc6, .bool true] 82))))
          clear h6 dd6 hr hi
          go_wp2_with fail
          go_ret
          exact HE.out
      · have dd4 : decide (d4 ≠ 0) = true := by simpa using h4
        rw [dd4]
        rw [if_neg h4] at hr
        have HE := Lib.hid (RefD.fin (ret := fun d => .bool ((d : Int) == 1)) (d := 0) hr (hi.below (al_below w4 (.cells #[.int .u64 (N4 : Int), .slice B4 bn4 bc4, .bool true] 82))))
        clear h4 dd4 hr hi
        go_wp2_with fail
        go_ret
        exact HE.out
/-! ### Save, Dead -/
set_option maxHeartbeats 1000000 in
theorem rSave_prg (hgb : g < wb.heap.size) (t r b m : Nat) (ht : t ≤ 64) (h1 : 1 ≤ r) (hr : r < 1048576) (hbit : b = 1 ∨ b = 2) (c : CSD) (hpl : c.plain) (R : RanD (List Res)) (hb : R ≠ .bad) (hR : (Prd.save t r b m).runCD c = R) (w : World) (hI : CurID g A n cap log w0 wb c w) :
    Calls Tryz.prog 20 #[.pointer (some ⟨g, 0, none⟩), .int .i64 (t : Int), .int .i64 (r : Int), .int .i64 (b : Int)] w (RefD g A n cap log w0 wb (fun d => .bool ((d : Int) == 1)) R) := by
  unfold Prd.save at hR
  have HK2 : ∀ w, Calls Tryz.prog 36 #[.int .i64 (t : Int), .int .i64 (r : Int), .int .i64 2] w fun e w' => e = .returned (.int .i64 (fieldN t r 2 : Nat)) ∧ w = w' := fun w => refField_any t r 2 (by omega) h1 (by omega) (by omega) w
  have HL := fun w h => rLoadDP (cap := cap) (wb := wb) OK hpl hR w h
  have HX := Lib.hid (And.intro hgb (And.intro ht (And.intro h1 (And.intro hr (And.intro hbit hb)))))
  have HI := Lib.hid hI
  clear hI hR hgb ht h1 hr hbit hb hpl
  generalize hp : fieldN t r 2 = p at *
  clear hp
  go_enter Tryz.func20, Tryz.ntmps20
  go_wp2_with (go_at_call 36; (with_reducible refine (HK2 _).mono ?_); rintro e w' ⟨rfl, rfl⟩)
  (with_reducible refine (HL _ HI.out).mono ?_)
  clear HL HI
  rintro e w2 ⟨f, c2, rfl, hn, hi, hbt, hr, hp⟩
  try dsimp only at hr
  have HS := rRest_prg OK HX.out.1 t r b f m HX.out.2.1 HX.out.2.2.1 HX.out.2.2.2.1 HX.out.2.2.2.2.1 hn c2 hp R HX.out.2.2.2.2.2 hr w2 hi
  clear hn hi hbt hr hp
  go_wp2_with fail
  (with_reducible refine HS.mono ?_)
  clear HS
  rintro e w3 ⟨d, c3, rfl, hi, hr⟩
  have HE := Lib.hid (And.intro hi hr)
  clear hi hr
  go_wp2_with fail
  go_ret
  exact ⟨d, c3, rfl, HE.out.1, HE.out.2⟩
set_option maxHeartbeats 1000000 in
theorem rDead_prg (hgb : g < wb.heap.size) (t r x m : Nat) (ht : t ≤ 64) (h1 : 1 ≤ r) (hr : r < 1048576) (c : CSD) (hpl : c.plain) (R : RanD (List Res)) (hb : R ≠ .bad) (hR : (Prd.dead t r x m).runCD c = R) (w : World) (hI : CurID g A n cap log w0 wb c w) :
    Calls Tryz.prog 21 #[.pointer (some ⟨g, 0, none⟩), .int .i64 (t : Int), .int .i64 (r : Int), .int .u64 (x : Int)] w (RefD g A n cap log w0 wb (fun d => .bool ((d : Int) == 1)) R) := by
  unfold Prd.dead at hR
  have HK2 : ∀ w, Calls Tryz.prog 36 #[.int .i64 (t : Int), .int .i64 (r : Int), .int .i64 2] w fun e w' => e = .returned (.int .i64 (fieldN t r 2 : Nat)) ∧ w = w' := fun w => refField_any t r 2 (by omega) h1 (by omega) (by omega) w
  have HL := fun w h => rLoadDP (cap := cap) (wb := wb) OK hpl hR w h
  have HX := Lib.hid (And.intro hgb (And.intro ht (And.intro h1 (And.intro hr hb))))
  have HI := Lib.hid hI
  clear hI hR hgb ht h1 hr hb hpl
  generalize hp : fieldN t r 2 = p at *
  clear hp
  go_enter Tryz.func21, Tryz.ntmps21
  go_wp2_with (go_at_call 36; (with_reducible refine (HK2 _).mono ?_); rintro e w' ⟨rfl, rfl⟩)
  (with_reducible refine (HL _ HI.out).mono ?_)
  clear HL HI
  rintro e w2 ⟨f, c2, rfl, hn, hi, hbt, hr, hp⟩
  try dsimp only at hr
  have HT := fun w => refStamp_any f hn w
  by_cases hx : stampN f = x
  · have dx : (((stampN f : Nat) : Int) != (x : Int)) = false := by rw [bne_eq_false_iff_eq]; omega
    rw [if_pos hx] at hr
    have HS : Calls Tryz.prog 44 #[.pointer (some ⟨g, 0, none⟩), .int .i64 (t : Int), .int .i64 (r : Int), .int .i64 2, .int .u64 (f : Int)] w2 _ := rRest_prg OK HX.out.1 t r 2 f m HX.out.2.1 HX.out.2.2.1 HX.out.2.2.2.1 (.inr rfl) hn c2 hp R HX.out.2.2.2.2 hr w2 hi
    clear hn hi hbt hr hp hx
    generalize stampN f = sf at *
    go_wp2_with (go_at_call 39; (with_reducible refine (HT _).mono ?_); rintro e w' ⟨rfl, rfl⟩)
    (with_reducible refine HS.mono ?_)
    clear HS
    rintro e w3 ⟨d, c3, rfl, hi, hr⟩
    have HE := Lib.hid (And.intro hi hr)
    clear hi hr
    go_wp2_with fail
    go_ret
    exact ⟨d, c3, rfl, HE.out.1, HE.out.2⟩
  · have dx : (((stampN f : Nat) : Int) != (x : Int)) = true := by rw [bne_iff_ne]; omega
    rw [if_neg hx] at hr
    have HE := Lib.hid (RefD.fin (ret := fun d => .bool ((d : Int) == 1)) hr hi)
    clear hn hi hbt hr hp hx
    generalize stampN f = sf at *
    go_wp2_with (go_at_call 39; (with_reducible refine (HT _).mono ?_); rintro e w' ⟨rfl, rfl⟩)
    go_ret
    exact HE.out
end
end Go.Proofs.YtdbomlclkhkinaaGreatDoor
namespace Go.Proofs.YtdbomlclkhkinaaGreatDoor
open Go.ChangeShapes Go.WideShapes Go.ChangeAt Go.RowKit Go.BigFrame Go.Deep
set_option linter.unusedVariables false
set_option maxRecDepth 100000

/-- What is told behind a run. -/
structure ToldS where
  k : Int
  i : Int
  a : Nat
  b : Nat
  d : List Nat
  er : Int
  oi : Bool
  w : Nat
  is : Bool
def toldS (k : Int) (d : Nat) : CSD → ToldS
  | .at _ => ⟨0, 0, 0, 0, [], sErr k, sIs k d, sW k d, true⟩
  | .stop k i a b d => ⟨k, i, a, b, d, 0, false, 0, false⟩
def sTell (k : Int) : RanD (List Res) → ToldS
  | .done d _ => ⟨0, 0, 0, 0, [], sErr k, sIs k d, sW k d, true⟩
  | .left k i a b d => ⟨k, i, a, b, d, 0, false, 0, false⟩
  | .bad => ⟨0, 0, 0, 0, [], 0, false, 0, false⟩
theorem sTell_of {k : Int} {d : Nat} {c : CSD} {R : RanD (List Res)} (h : (Prd.ret d).runCD c = R) : sTell k R = toldS k d c := by
  subst h
  cases c <;> rfl
def ToldS.val (v : ToldS) (D : Option Addr) (dc : Nat) : Value := .tuple #[.agg #[.int .i64 v.k, .int .i64 v.i, .int .u64 (v.a : Int), .int .u64 (v.b : Int), .slice D v.d.length dc, .slice none 0 0], .agg #[.int .i64 v.er, .bool v.oi, .int .i64 0, .int .u64 (v.w : Int), .slice none 0 0], .bool v.is]
def TellS (lo : Nat) (w : World) (v : ToldS) (e : Ending) (w' : World) : Prop := ∃ D dc, e = .returned (v.val D dc) ∧ AtB w' D v.d.length v.d ∧ v.d.length ≤ dc ∧ v.d.length ≤ 100000 ∧ OffW (fun c => lo ≤ c) D v.d.length ∧ Below w.heap.size w w'
theorem toldCS {lo g : Nat} {A : Option Addr} {n cap : Nat} {log : List Res} {c : CSD} {w : World} (h : CurVD lo g A n cap log c w) (k : Int) (d : Nat) :
    Calls Tryz.prog 22 #[.pointer (some ⟨g, 0, none⟩), sOut k d] w (TellS lo w (toldS k d c)) := by
  cases c with
  | «at» s =>
    obtain ⟨j, h1, h2, h3⟩ := h
    refine (toldE_yes g A n cap _ _ _ _ _ _ (j : Int) (sErr k) (sIs k d) 0 (sW k d : Int) w (Lib.hid h3)).mono ?_
    rintro e w' ⟨rfl, hb⟩
    exact ⟨none, 0, rfl, AtB.nil _ _, Nat.le_refl 0, Nat.zero_le _, OffW.nil _ _, hb⟩
  | stop k' i a b dd =>
    obtain ⟨D, dc, h1, h2, h3, h4, h5⟩ := h
    refine (toldE_no g A n cap (n : Int) (accC k' i a b dd) D dc none 0 (sErr k) (sIs k d) 0 (sW k d : Int) w (Lib.hid h1)).mono ?_
    rintro e w' ⟨rfl, hb⟩
    exact ⟨D, dc, rfl, AtB.later (Lib.hid h2) hb, h3, h5, h4.mono fun _ h => h.2, hb⟩
set_option maxHeartbeats 8000000 in
set_option maxRecDepth 100000 in
theorem sRefNext_at (t : Nat) (ht : t ≤ 64) (k u v : Int) (x : Nat) (hop : SOp k u v) (A : Option Addr) (n cap : Nat) (log : List Res) (hc : n ≤ cap) (w : World) (hl : Hid (LogAt w A n log)) :
    Calls Tryz.prog 8 #[.int .i64 (t : Int), .agg #[.int .i64 k, .int .i64 u, .int .i64 v, .int .u64 (x : Int)], .slice A n cap] w (TellS (w.heap.size + 1 + 1 + 1 + 1 + 1) w (sTell k (sNextR t k u v x log))) := by
  have hbb := sNextR_ok t k u v x log
  unfold sNextR at *
  by_cases h20 : k = 20
  · subst h20
    obtain ⟨u1, u2⟩ := hop.1 (by omega)
    obtain ⟨ur, rfl⟩ : ∃ ur : Nat, u = (ur : Int) := ⟨u.toNat, by omega⟩
    have hut : ((ur : Int)).toNat = ur := Int.toNat_natCast ur
    have HU := Lib.hid (show 1 ≤ ur ∧ ur < 1048576 by omega)
    have hp : sPrg t 20 (ur : Int) v x (log.length + 1) = Prd.make t ur x 0 0 0 0 := by unfold sPrg; rw [hut]; rfl
    rw [hp] at hbb ⊢
    obtain ⟨R, hR⟩ : ∃ R, (Prd.make t ur x 0 0 0 0).run tapeTellD log = R := ⟨_, rfl⟩
    have hRC : (Prd.make t ur x 0 0 0 0).runCD (.at log) = R := hR
    rw [hR] at hbb ⊢
    have HBR := Lib.hid hbb
    have HRC := Lib.hid hRC
    have HT := Lib.hid ht
    clear ht hop hc hbb hp hR hRC hut u1 u2
    go_enter Tryz.func8, Tryz.ntmps8
    go_wp2_with fail
    refine gen_w (P := fun W => Calls _ _ _ W _) (fun y => Below w.heap.size w y ∧ y.heap.size = w.heap.size + 1 + 1 + 1 + 1 + 1 ∧ VarAt y (w.heap.size + 1) [.int .i64 0, .int .i64 0, .int .u64 0, .int .u64 0, .slice none 0 0, .slice none 0 0] ∧ VarAt y (w.heap.size + 1 + 1) [.int .i64 0, .bool false, .int .i64 0, .int .u64 0, .slice none 0 0] ∧ VarAt y (w.heap.size + 1 + 1 + 1) (curV A n cap 0 false (.int .i64 0) (.int .i64 0) (.int .u64 0) (.int .u64 0) (.slice none 0 0) (.slice none 0 0)) ∧ VarAt y (w.heap.size + 1 + 1 + 1 + 1) [.int .i64 0, .bool false, .int .i64 0, .int .u64 0, .slice none 0 0]) ⟨(by repeat (first | with_reducible assumption | with_reducible exact Below.refl _ _ | with_reducible refine Below.drew ?_ | with_reducible refine below_al ?_ | (with_reducible refine below_set1 (by omega) _ ?_))), by simp, VarAt.mk6 (by simp <;> omega) (by go_simp) (by go_simp) (by go_simp) (by go_simp) (by go_simp) (by go_simp) (by go_simp) (by go_simp) (by go_simp) (by go_simp) (by go_simp) (by go_simp), VarAt.mk5 (by simp <;> omega) (by go_simp) (by go_simp) (by go_simp) (by go_simp) (by go_simp) (by go_simp) (by go_simp) (by go_simp) (by go_simp) (by go_simp), VarAt.mk9 (by simp <;> omega) (by go_simp) (by go_simp) (by go_simp) (by go_simp) (by go_simp) (by go_simp) (by go_simp) (by go_simp) (by go_simp) (by go_simp) (by go_simp) (by go_simp) (by go_simp) (by go_simp) (by go_simp) (by go_simp) (by go_simp) (by go_simp), VarAt.mk5 (by simp <;> omega) (by go_simp) (by go_simp) (by go_simp) (by go_simp) (by go_simp) (by go_simp) (by go_simp) (by go_simp) (by go_simp) (by go_simp)⟩ ?_
    rintro y ⟨k0, k1, k2, k3, k4, k5⟩
    obtain ⟨g, hg⟩ : ∃ g, w.heap.size + 1 + 1 + 1 = g := ⟨_, rfl⟩
    rw [hg] at k4 k5 ⊢
    have HG := Lib.hid hg
    obtain ⟨lo, hlo⟩ : ∃ lo, w.heap.size + 1 + 1 + 1 + 1 + 1 = lo := ⟨_, rfl⟩
    have HLO := Lib.hid hlo
    have hok : CurOk g A n log w y := ⟨hl.out, by omega, k0⟩
    have hcur : CurID g A n cap log w y (.at log) y := ⟨⟨0, Nat.zero_le _, rfl, k4⟩, But.refl _ _⟩
    have K0 := Lib.hid k0
    have K1 := Lib.hid k1
    have K2 := Lib.hid k2
    have K3 := Lib.hid k3
    have K5 := Lib.hid k5
    have HOK := Lib.hid hok
    have HCON : Calls Tryz.prog 17 #[.pointer (some ⟨g, 0, none⟩), .int .i64 (t : Int), .int .i64 (ur : Int), .agg #[.int .i64 0, .int .u64 0, .int .u64 (x : Int), .int .u64 0, .int .u64 0, .int .u64 0], .int .u64 0] y (RefD g A n cap log w y (fun d => .int .u64 (d : Int)) R) := rMake_prg HOK t ur 0 0 x 0 0 0 0 HT.out HU.out.1 HU.out.2 (.at log) R HRC.out y hcur
    (with_reducible refine HCON.mono ?_)
    clear HCON hcur k0 k1 k2 k3 k4 k5 hok hg hlo
    rintro e w2 ⟨d, c, rfl, hc, hrd⟩
    have HTE := Lib.hid (sTell_of (k := 20) hrd)
    have hgg := HG.out
    have hyz := K1.out
    have hlo := HLO.out
    have hbt := hc.but
    have HCV : Hid (CurVD lo g A n cap log c w2) := Lib.hid (by have h := hc.cur; rw [hyz, hlo] at h; exact h)
    have HV1 := Lib.hid (K2.out.but hbt (by omega))
    have HV2 := Lib.hid (K3.out.but hbt (by omega))
    have HV5 := Lib.hid (K5.out.but hbt (by omega))
    obtain ⟨_, ⟨o1, o2, o3, o4, o5⟩, p1, p2, p3, p4, p5⟩ := HV5.out.five
    have hsz := hbt.size
    have m3 : g + 1 < w2.heap.size := by omega
    have HBW : Hid (Below w.heap.size w w2) := Lib.hid (K0.out.trans (hbt.below.mono (by omega)))
    clear hc hbt hyz hgg hlo K0 K1 K2 K3 K5 HOK hrd HRC HBR
    go_upto_region 15 with fail
    have hgg := HG.out
    have hlo := HLO.out
    have hbw := HBW.out
    refine gen_w (P := fun W => Code.wp _ _ _ _ W) (fun x => Below w.heap.size w x ∧ VarAt x (w.heap.size + 1) [.int .i64 0, .int .i64 0, .int .u64 0, .int .u64 0, .slice none 0 0, .slice none 0 0] ∧ VarAt x (w.heap.size + 1 + 1) [.int .i64 0, .bool false, .int .i64 0, .int .u64 0, .slice none 0 0] ∧ VarAt x (g + 1) [.int .i64 0, .bool false, .int .i64 0, .int .u64 (d : Int), .slice none 0 0] ∧ CurVD lo g A n cap log c x) ⟨(by repeat (first | with_reducible assumption | with_reducible exact Below.refl _ _ | with_reducible refine Below.drew ?_ | with_reducible refine below_al ?_ | (with_reducible refine below_set1 (by omega) _ ?_))), (HV1.out.apart _ _ (by omega)), (HV2.out.apart _ _ (by omega)), VarAt.mk5 (by simp; omega) (by go_simp) (by go_simp) (by go_simp) (by go_simp) (by go_simp) (by go_simp) (by go_simp) (by go_simp) (by go_simp) (by go_simp), HCV.out.put _ _ (by omega) (.inr (by omega))⟩ ?_
    rintro z ⟨k0, k1, k2, k3, k4⟩
    have hg := HG.out
    rw [hlo]
    clear o1 o2 o3 o4 o5 p1 p2 p3 p4 p5 m3 hsz hbw hgg hlo HBW HV1 HV2 HV5 HCV
    have Z0 := Lib.hid k0
    have Z1 := Lib.hid k1
    have Z2 := Lib.hid k2
    have hsz := k3.1
    obtain ⟨_, ⟨o1, o2, o3, o4, o5⟩, _⟩ := k3.five
    have HTC : Calls Tryz.prog 22 #[.pointer (some ⟨g, 0, none⟩), .agg #[.int .i64 0, .bool false, .int .i64 0, .int .u64 (d : Int), .slice none 0 0]] z (TellS lo z (toldS 20 d c)) := toldCS k4 20 d
    clear k0 k1 k2 k3 k4
    generalize toldS 20 d c = V at *
    obtain ⟨vk, vi, va, vb, vd, ve, vo, vw, vis⟩ := V
    unfold TellS ToldS.val at HTC
    simp only at HTC
    obtain ⟨vn, hvn⟩ : ∃ q, vd.length = q := ⟨_, rfl⟩
    rw [hvn] at HTC
    have HVN := Lib.hid hvn
    clear hvn
    go_wp2_with fail
    (with_reducible refine HTC.mono ?_)
    clear HTC
    rintro e w3 ⟨D, dc, rfl, hat, hdc, hdl, hof, hb3⟩
    have HAT := Lib.hid (And.intro hat (And.intro hdc (And.intro hdl hof)))
    obtain ⟨m1, ⟨a0, a1, a2, a3, a4, a5⟩, b0, b1, b2, b3, b4, b5⟩ := (Z1.out.below hb3).six
    obtain ⟨m2, ⟨r1, r2, r3, r4, r5⟩, s1, s2, s3, s4, s5⟩ := (Z2.out.below hb3).five
    have HB3 := Lib.hid (Z0.out.trans (hb3.mono Z0.out.size))
    clear hb3 hat hdc hdl hof
    go_wp2_with fail
    have hb := HB3.out
    have hlo := HLO.out
    have hgo := HG.out
    have hlo2 : g + 1 + 1 = lo := by omega
    clear hgo
    refine bodyPost_ret (v := .tuple #[.agg #[.int .i64 vk, .int .i64 vi, .int .u64 (va : Int), .int .u64 (vb : Int), .slice D vn dc, .slice none 0 0], .agg #[.int .i64 ve, .bool vo, .int .i64 0, .int .u64 (vw : Int), .slice none 0 0], .bool vis]) (by simp [results, Tryz.results8, go_sem, a0, a1, a2, a3, a4, a5, r1, r2, r3, r4, r5]) rfl ?_
    rw [HTE.out]
    unfold TellS ToldS.val
    simp only []
    rw [HVN.out]
    exact ⟨D, dc, rfl, AtB.svd (Q := fun c => lo ≤ c) HAT.out.1 (by repeat (first | with_reducible exact Svd.refl _ _ | with_reducible refine Svd.drew ?_ | (with_reducible refine Svd.set ?_ _ _ _ (by omega)))) HAT.out.2.2.2, HAT.out.2.1, HAT.out.2.2.1, by first | (rw [hlo]; exact HAT.out.2.2.2) | (rw [hlo2]; exact HAT.out.2.2.2), (by repeat (first | with_reducible assumption | with_reducible exact Below.refl _ _ | with_reducible refine Below.drew ?_ | with_reducible refine below_al ?_ | (with_reducible refine below_set1 (by omega) _ ?_)))⟩
  by_cases h22 : k = 22
  · subst h22
    obtain ⟨u1, u2⟩ := hop.1 (by omega)
    obtain ⟨ur, rfl⟩ : ∃ ur : Nat, u = (ur : Int) := ⟨u.toNat, by omega⟩
    have hut : ((ur : Int)).toNat = ur := Int.toNat_natCast ur
    have HU := Lib.hid (show 1 ≤ ur ∧ ur < 1048576 by omega)
    have hp : sPrg t 22 (ur : Int) v x (log.length + 1) = Prd.alive t ur x := by unfold sPrg; rw [hut]; rfl
    rw [hp] at hbb ⊢
    obtain ⟨R, hR⟩ : ∃ R, (Prd.alive t ur x).run tapeTellD log = R := ⟨_, rfl⟩
    have hRC : (Prd.alive t ur x).runCD (.at log) = R := hR
    rw [hR] at hbb ⊢
    have HBR := Lib.hid hbb
    have HRC := Lib.hid hRC
    have HT := Lib.hid ht
    clear ht hop hc hbb hp hR hRC hut u1 u2
    go_enter Tryz.func8, Tryz.ntmps8
    go_wp2_with fail
    refine gen_w (P := fun W => Calls _ _ _ W _) (fun y => Below w.heap.size w y ∧ y.heap.size = w.heap.size + 1 + 1 + 1 + 1 + 1 ∧ VarAt y (w.heap.size + 1) [.int .i64 0, .int .i64 0, .int .u64 0, .int .u64 0, .slice none 0 0, .slice none 0 0] ∧ VarAt y (w.heap.size + 1 + 1) [.int .i64 0, .bool false, .int .i64 0, .int .u64 0, .slice none 0 0] ∧ VarAt y (w.heap.size + 1 + 1 + 1) (curV A n cap 0 false (.int .i64 0) (.int .i64 0) (.int .u64 0) (.int .u64 0) (.slice none 0 0) (.slice none 0 0)) ∧ VarAt y (w.heap.size + 1 + 1 + 1 + 1) [.int .i64 0, .bool false, .int .i64 0, .int .u64 0, .slice none 0 0]) ⟨(by repeat (first | with_reducible assumption | with_reducible exact Below.refl _ _ | with_reducible refine Below.drew ?_ | with_reducible refine below_al ?_ | (with_reducible refine below_set1 (by omega) _ ?_))), by simp, VarAt.mk6 (by simp <;> omega) (by go_simp) (by go_simp) (by go_simp) (by go_simp) (by go_simp) (by go_simp) (by go_simp) (by go_simp) (by go_simp) (by go_simp) (by go_simp) (by go_simp), VarAt.mk5 (by simp <;> omega) (by go_simp) (by go_simp) (by go_simp) (by go_simp) (by go_simp) (by go_simp) (by go_simp) (by go_simp) (by go_simp) (by go_simp), VarAt.mk9 (by simp <;> omega) (by go_simp) (by go_simp) (by go_simp) (by go_simp) (by go_simp) (by go_simp) (by go_simp) (by go_simp) (by go_simp) (by go_simp) (by go_simp) (by go_simp) (by go_simp) (by go_simp) (by go_simp) (by go_simp) (by go_simp) (by go_simp), VarAt.mk5 (by simp <;> omega) (by go_simp) (by go_simp) (by go_simp) (by go_simp) (by go_simp) (by go_simp) (by go_simp) (by go_simp) (by go_simp) (by go_simp)⟩ ?_
    rintro y ⟨k0, k1, k2, k3, k4, k5⟩
    obtain ⟨g, hg⟩ : ∃ g, w.heap.size + 1 + 1 + 1 = g := ⟨_, rfl⟩
    rw [hg] at k4 k5 ⊢
    have HG := Lib.hid hg
    obtain ⟨lo, hlo⟩ : ∃ lo, w.heap.size + 1 + 1 + 1 + 1 + 1 = lo := ⟨_, rfl⟩
    have HLO := Lib.hid hlo
    have hok : CurOk g A n log w y := ⟨hl.out, by omega, k0⟩
    have hcur : CurID g A n cap log w y (.at log) y := ⟨⟨0, Nat.zero_le _, rfl, k4⟩, But.refl _ _⟩
    have K0 := Lib.hid k0
    have K1 := Lib.hid k1
    have K2 := Lib.hid k2
    have K3 := Lib.hid k3
    have K5 := Lib.hid k5
    have HOK := Lib.hid hok
    have HCON : Calls Tryz.prog 18 #[.pointer (some ⟨g, 0, none⟩), .int .i64 (t : Int), .int .i64 (ur : Int), .int .u64 (x : Int)] y (RefD g A n cap log w y (fun d => .bool ((d : Int) == 1)) R) := rAlive_prg HOK t ur x HT.out HU.out.1 HU.out.2 (.at log) R HRC.out y hcur
    (with_reducible refine HCON.mono ?_)
    clear HCON hcur k0 k1 k2 k3 k4 k5 hok hg hlo
    rintro e w2 ⟨d, c, rfl, hc, hrd⟩
    have HTE := Lib.hid (sTell_of (k := 22) hrd)
    have hgg := HG.out
    have hyz := K1.out
    have hlo := HLO.out
    have hbt := hc.but
    have HCV : Hid (CurVD lo g A n cap log c w2) := Lib.hid (by have h := hc.cur; rw [hyz, hlo] at h; exact h)
    have HV1 := Lib.hid (K2.out.but hbt (by omega))
    have HV2 := Lib.hid (K3.out.but hbt (by omega))
    have HV5 := Lib.hid (K5.out.but hbt (by omega))
    obtain ⟨_, ⟨o1, o2, o3, o4, o5⟩, p1, p2, p3, p4, p5⟩ := HV5.out.five
    have hsz := hbt.size
    have m3 : g + 1 < w2.heap.size := by omega
    have HBW : Hid (Below w.heap.size w w2) := Lib.hid (K0.out.trans (hbt.below.mono (by omega)))
    clear hc hbt hyz hgg hlo K0 K1 K2 K3 K5 HOK hrd HRC HBR
    go_upto_region 15 with fail
    have hgg := HG.out
    have hlo := HLO.out
    have hbw := HBW.out
    refine gen_w (P := fun W => Code.wp _ _ _ _ W) (fun x => Below w.heap.size w x ∧ VarAt x (w.heap.size + 1) [.int .i64 0, .int .i64 0, .int .u64 0, .int .u64 0, .slice none 0 0, .slice none 0 0] ∧ VarAt x (w.heap.size + 1 + 1) [.int .i64 0, .bool false, .int .i64 0, .int .u64 0, .slice none 0 0] ∧ VarAt x (g + 1) [.int .i64 0, .bool ((d : Int) == 1), .int .i64 0, .int .u64 0, .slice none 0 0] ∧ CurVD lo g A n cap log c x) ⟨(by repeat (first | with_reducible assumption | with_reducible exact Below.refl _ _ | with_reducible refine Below.drew ?_ | with_reducible refine below_al ?_ | (with_reducible refine below_set1 (by omega) _ ?_))), (HV1.out.apart _ _ (by omega)), (HV2.out.apart _ _ (by omega)), VarAt.mk5 (by simp; omega) (by go_simp) (by go_simp) (by go_simp) (by go_simp) (by go_simp) (by go_simp) (by go_simp) (by go_simp) (by go_simp) (by go_simp), HCV.out.put _ _ (by omega) (.inr (by omega))⟩ ?_
    rintro z ⟨k0, k1, k2, k3, k4⟩
    have hg := HG.out
    rw [hlo]
    clear o1 o2 o3 o4 o5 p1 p2 p3 p4 p5 m3 hsz hbw hgg hlo HBW HV1 HV2 HV5 HCV
    have Z0 := Lib.hid k0
    have Z1 := Lib.hid k1
    have Z2 := Lib.hid k2
    have hsz := k3.1
    obtain ⟨_, ⟨o1, o2, o3, o4, o5⟩, _⟩ := k3.five
    have HTC : Calls Tryz.prog 22 #[.pointer (some ⟨g, 0, none⟩), .agg #[.int .i64 0, .bool ((d : Int) == 1), .int .i64 0, .int .u64 0, .slice none 0 0]] z (TellS lo z (toldS 22 d c)) := toldCS k4 22 d
    clear k0 k1 k2 k3 k4
    generalize toldS 22 d c = V at *
    obtain ⟨vk, vi, va, vb, vd, ve, vo, vw, vis⟩ := V
    unfold TellS ToldS.val at HTC
    simp only at HTC
    obtain ⟨vn, hvn⟩ : ∃ q, vd.length = q := ⟨_, rfl⟩
    rw [hvn] at HTC
    have HVN := Lib.hid hvn
    clear hvn
    go_wp2_with fail
    (with_reducible refine HTC.mono ?_)
    clear HTC
    rintro e w3 ⟨D, dc, rfl, hat, hdc, hdl, hof, hb3⟩
    have HAT := Lib.hid (And.intro hat (And.intro hdc (And.intro hdl hof)))
    obtain ⟨m1, ⟨a0, a1, a2, a3, a4, a5⟩, b0, b1, b2, b3, b4, b5⟩ := (Z1.out.below hb3).six
    obtain ⟨m2, ⟨r1, r2, r3, r4, r5⟩, s1, s2, s3, s4, s5⟩ := (Z2.out.below hb3).five
    have HB3 := Lib.hid (Z0.out.trans (hb3.mono Z0.out.size))
    clear hb3 hat hdc hdl hof
    go_wp2_with fail
    have hb := HB3.out
    have hlo := HLO.out
    have hgo := HG.out
    have hlo2 : g + 1 + 1 = lo := by omega
    clear hgo
    refine bodyPost_ret (v := .tuple #[.agg #[.int .i64 vk, .int .i64 vi, .int .u64 (va : Int), .int .u64 (vb : Int), .slice D vn dc, .slice none 0 0], .agg #[.int .i64 ve, .bool vo, .int .i64 0, .int .u64 (vw : Int), .slice none 0 0], .bool vis]) (by simp [results, Tryz.results8, go_sem, a0, a1, a2, a3, a4, a5, r1, r2, r3, r4, r5]) rfl ?_
    rw [HTE.out]
    unfold TellS ToldS.val
    simp only []
    rw [HVN.out]
    exact ⟨D, dc, rfl, AtB.svd (Q := fun c => lo ≤ c) HAT.out.1 (by repeat (first | with_reducible exact Svd.refl _ _ | with_reducible refine Svd.drew ?_ | (with_reducible refine Svd.set ?_ _ _ _ (by omega)))) HAT.out.2.2.2, HAT.out.2.1, HAT.out.2.2.1, by first | (rw [hlo]; exact HAT.out.2.2.2) | (rw [hlo2]; exact HAT.out.2.2.2), (by repeat (first | with_reducible assumption | with_reducible exact Below.refl _ _ | with_reducible refine Below.drew ?_ | with_reducible refine below_al ?_ | (with_reducible refine below_set1 (by omega) _ ?_)))⟩
  by_cases h23 : k = 23
  · subst h23
    obtain ⟨u1, u2⟩ := hop.1 (by omega)
    obtain ⟨ur, rfl⟩ : ∃ ur : Nat, u = (ur : Int) := ⟨u.toNat, by omega⟩
    have hut : ((ur : Int)).toNat = ur := Int.toNat_natCast ur
    have HU := Lib.hid (show 1 ≤ ur ∧ ur < 1048576 by omega)
    have hv0 := hop.2 (by omega)
    obtain ⟨vr, rfl⟩ : ∃ vr : Nat, v = (vr : Int) := ⟨v.toNat, by omega⟩
    have hvt : ((vr : Int)).toNat = vr := Int.toNat_natCast vr
    have HVR := Lib.hid (show vr = 1 ∨ vr = 2 by omega)
    have hp : sPrg t 23 (ur : Int) (vr : Int) x (log.length + 1) = Prd.set t ur vr (log.length + 1) := by unfold sPrg; rw [hut, hvt]; rfl
    rw [hp] at hbb ⊢
    obtain ⟨R, hR⟩ : ∃ R, (Prd.set t ur vr (log.length + 1)).run tapeTellD log = R := ⟨_, rfl⟩
    have hRC : (Prd.set t ur vr (log.length + 1)).runCD (.at log) = R := hR
    rw [hR] at hbb ⊢
    have HBR := Lib.hid hbb
    have HRC := Lib.hid hRC
    have HT := Lib.hid ht
    clear ht hop hc hbb hp hR hRC hut u1 u2 hv0 hvt
    go_enter Tryz.func8, Tryz.ntmps8
    go_wp2_with fail
    refine gen_w (P := fun W => Calls _ _ _ W _) (fun y => Below w.heap.size w y ∧ y.heap.size = w.heap.size + 1 + 1 + 1 + 1 + 1 ∧ VarAt y (w.heap.size + 1) [.int .i64 0, .int .i64 0, .int .u64 0, .int .u64 0, .slice none 0 0, .slice none 0 0] ∧ VarAt y (w.heap.size + 1 + 1) [.int .i64 0, .bool false, .int .i64 0, .int .u64 0, .slice none 0 0] ∧ VarAt y (w.heap.size + 1 + 1 + 1) (curV A n cap 0 false (.int .i64 0) (.int .i64 0) (.int .u64 0) (.int .u64 0) (.slice none 0 0) (.slice none 0 0)) ∧ VarAt y (w.heap.size + 1 + 1 + 1 + 1) [.int .i64 0, .bool false, .int .i64 0, .int .u64 0, .slice none 0 0]) ⟨(by repeat (first | with_reducible assumption | with_reducible exact Below.refl _ _ | with_reducible refine Below.drew ?_ | with_reducible refine below_al ?_ | (with_reducible refine below_set1 (by omega) _ ?_))), by simp, VarAt.mk6 (by simp <;> omega) (by go_simp) (by go_simp) (by go_simp) (by go_simp) (by go_simp) (by go_simp) (by go_simp) (by go_simp) (by go_simp) (by go_simp) (by go_simp) (by go_simp), VarAt.mk5 (by simp <;> omega) (by go_simp) (by go_simp) (by go_simp) (by go_simp) (by go_simp) (by go_simp) (by go_simp) (by go_simp) (by go_simp) (by go_simp), VarAt.mk9 (by simp <;> omega) (by go_simp) (by go_simp) (by go_simp) (by go_simp) (by go_simp) (by go_simp) (by go_simp) (by go_simp) (by go_simp) (by go_simp) (by go_simp) (by go_simp) (by go_simp) (by go_simp) (by go_simp) (by go_simp) (by go_simp) (by go_simp), VarAt.mk5 (by simp <;> omega) (by go_simp) (by go_simp) (by go_simp) (by go_simp) (by go_simp) (by go_simp) (by go_simp) (by go_simp) (by go_simp) (by go_simp)⟩ ?_
    rintro y ⟨k0, k1, k2, k3, k4, k5⟩
    obtain ⟨g, hg⟩ : ∃ g, w.heap.size + 1 + 1 + 1 = g := ⟨_, rfl⟩
    rw [hg] at k4 k5 ⊢
    have HG := Lib.hid hg
    obtain ⟨lo, hlo⟩ : ∃ lo, w.heap.size + 1 + 1 + 1 + 1 + 1 = lo := ⟨_, rfl⟩
    have HLO := Lib.hid hlo
    have hok : CurOk g A n log w y := ⟨hl.out, by omega, k0⟩
    have hcur : CurID g A n cap log w y (.at log) y := ⟨⟨0, Nat.zero_le _, rfl, k4⟩, But.refl _ _⟩
    have K0 := Lib.hid k0
    have K1 := Lib.hid k1
    have K2 := Lib.hid k2
    have K3 := Lib.hid k3
    have K5 := Lib.hid k5
    have HOK := Lib.hid hok
    have HCON : Calls Tryz.prog 19 #[.pointer (some ⟨g, 0, none⟩), .int .i64 (t : Int), .int .i64 (ur : Int), .int .i64 (vr : Int)] y (RefD g A n cap log w y (fun _ => .tuple #[]) R) := rSet_prg HOK t ur vr (log.length + 1) HT.out HU.out.1 HU.out.2 HVR.out (.at log) R HBR.out HRC.out y hcur
    (with_reducible refine HCON.mono ?_)
    clear HCON hcur k0 k1 k2 k3 k4 k5 hok hg hlo
    rintro e w2 ⟨d, c, rfl, hc, hrd⟩
    have HTE := Lib.hid (sTell_of (k := 23) hrd)
    have hgg := HG.out
    have hyz := K1.out
    have hlo := HLO.out
    have hbt := hc.but
    have HCV : Hid (CurVD lo g A n cap log c w2) := Lib.hid (by have h := hc.cur; rw [hyz, hlo] at h; exact h)
    have HV1 := Lib.hid (K2.out.but hbt (by omega))
    have HV2 := Lib.hid (K3.out.but hbt (by omega))
    have HV5 := Lib.hid (K5.out.but hbt (by omega))
    obtain ⟨_, ⟨o1, o2, o3, o4, o5⟩, p1, p2, p3, p4, p5⟩ := HV5.out.five
    have hsz := hbt.size
    have m3 : g + 1 < w2.heap.size := by omega
    have HBW : Hid (Below w.heap.size w w2) := Lib.hid (K0.out.trans (hbt.below.mono (by omega)))
    clear hc hbt hyz hgg hlo K0 K1 K2 K3 K5 HOK hrd HRC HBR
    go_upto_region 15 with fail
    have hgg := HG.out
    have hlo := HLO.out
    have hbw := HBW.out
    refine gen_w (P := fun W => Code.wp _ _ _ _ W) (fun x => Below w.heap.size w x ∧ VarAt x (w.heap.size + 1) [.int .i64 0, .int .i64 0, .int .u64 0, .int .u64 0, .slice none 0 0, .slice none 0 0] ∧ VarAt x (w.heap.size + 1 + 1) [.int .i64 0, .bool false, .int .i64 0, .int .u64 0, .slice none 0 0] ∧ VarAt x (g + 1) [.int .i64 0, .bool false, .int .i64 0, .int .u64 0, .slice none 0 0] ∧ CurVD lo g A n cap log c x) ⟨hbw, HV1.out, HV2.out, HV5.out, HCV.out⟩ ?_
    rintro z ⟨k0, k1, k2, k3, k4⟩
    have hg := HG.out
    rw [hlo]
    clear o1 o2 o3 o4 o5 p1 p2 p3 p4 p5 m3 hsz hbw hgg hlo HBW HV1 HV2 HV5 HCV
    have Z0 := Lib.hid k0
    have Z1 := Lib.hid k1
    have Z2 := Lib.hid k2
    have hsz := k3.1
    obtain ⟨_, ⟨o1, o2, o3, o4, o5⟩, _⟩ := k3.five
    have HTC : Calls Tryz.prog 22 #[.pointer (some ⟨g, 0, none⟩), .agg #[.int .i64 0, .bool false, .int .i64 0, .int .u64 0, .slice none 0 0]] z (TellS lo z (toldS 23 d c)) := toldCS k4 23 d
    clear k0 k1 k2 k3 k4
    generalize toldS 23 d c = V at *
    obtain ⟨vk, vi, va, vb, vd, ve, vo, vw, vis⟩ := V
    unfold TellS ToldS.val at HTC
    simp only at HTC
    obtain ⟨vn, hvn⟩ : ∃ q, vd.length = q := ⟨_, rfl⟩
    rw [hvn] at HTC
    have HVN := Lib.hid hvn
    clear hvn
    go_wp2_with fail
    (with_reducible refine HTC.mono ?_)
    clear HTC
    rintro e w3 ⟨D, dc, rfl, hat, hdc, hdl, hof, hb3⟩
    have HAT := Lib.hid (And.intro hat (And.intro hdc (And.intro hdl hof)))
    obtain ⟨m1, ⟨a0, a1, a2, a3, a4, a5⟩, b0, b1, b2, b3, b4, b5⟩ := (Z1.out.below hb3).six
    obtain ⟨m2, ⟨r1, r2, r3, r4, r5⟩, s1, s2, s3, s4, s5⟩ := (Z2.out.below hb3).five
    have HB3 := Lib.hid (Z0.out.trans (hb3.mono Z0.out.size))
    clear hb3 hat hdc hdl hof
    go_wp2_with fail
    have hb := HB3.out
    have hlo := HLO.out
    have hgo := HG.out
    have hlo2 : g + 1 + 1 = lo := by omega
    clear hgo
    refine bodyPost_ret (v := .tuple #[.agg #[.int .i64 vk, .int .i64 vi, .int .u64 (va : Int), .int .u64 (vb : Int), .slice D vn dc, .slice none 0 0], .agg #[.int .i64 ve, .bool vo, .int .i64 0, .int .u64 (vw : Int), .slice none 0 0], .bool vis]) (by simp [results, Tryz.results8, go_sem, a0, a1, a2, a3, a4, a5, r1, r2, r3, r4, r5]) rfl ?_
    rw [HTE.out]
    unfold TellS ToldS.val
    simp only []
    rw [HVN.out]
    exact ⟨D, dc, rfl, AtB.svd (Q := fun c => lo ≤ c) HAT.out.1 (by repeat (first | with_reducible exact Svd.refl _ _ | with_reducible refine Svd.drew ?_ | (with_reducible refine Svd.set ?_ _ _ _ (by omega)))) HAT.out.2.2.2, HAT.out.2.1, HAT.out.2.2.1, by first | (rw [hlo]; exact HAT.out.2.2.2) | (rw [hlo2]; exact HAT.out.2.2.2), (by repeat (first | with_reducible assumption | with_reducible exact Below.refl _ _ | with_reducible refine Below.drew ?_ | with_reducible refine below_al ?_ | (with_reducible refine below_set1 (by omega) _ ?_)))⟩
  by_cases h7 : k = 7
  · subst h7
    obtain ⟨u1, u2⟩ := hop.1 (by omega)
    obtain ⟨ur, rfl⟩ : ∃ ur : Nat, u = (ur : Int) := ⟨u.toNat, by omega⟩
    have hut : ((ur : Int)).toNat = ur := Int.toNat_natCast ur
    have HU := Lib.hid (show 1 ≤ ur ∧ ur < 1048576 by omega)
    have hv0 := hop.2 (by omega)
    obtain ⟨vr, rfl⟩ : ∃ vr : Nat, v = (vr : Int) := ⟨v.toNat, by omega⟩
    have hvt : ((vr : Int)).toNat = vr := Int.toNat_natCast vr
    have HVR := Lib.hid (show vr = 1 ∨ vr = 2 by omega)
    have hp : sPrg t 7 (ur : Int) (vr : Int) x (log.length + 1) = Prd.save t ur vr (log.length + 1) := by unfold sPrg; rw [hut, hvt]; rfl
    rw [hp] at hbb ⊢
    obtain ⟨R, hR⟩ : ∃ R, (Prd.save t ur vr (log.length + 1)).run tapeTellD log = R := ⟨_, rfl⟩
    have hRC : (Prd.save t ur vr (log.length + 1)).runCD (.at log) = R := hR
    rw [hR] at hbb ⊢
    have HBR := Lib.hid hbb
    have HRC := Lib.hid hRC
    have HT := Lib.hid ht
    clear ht hop hc hbb hp hR hRC hut u1 u2 hv0 hvt
    go_enter Tryz.func8, Tryz.ntmps8
    go_wp2_with fail
    refine gen_w (P := fun W => Calls _ _ _ W _) (fun y => Below w.heap.size w y ∧ y.heap.size = w.heap.size + 1 + 1 + 1 + 1 + 1 ∧ VarAt y (w.heap.size + 1) [.int .i64 0, .int .i64 0, .int .u64 0, .int .u64 0, .slice none 0 0, .slice none 0 0] ∧ VarAt y (w.heap.size + 1 + 1) [.int .i64 0, .bool false, .int .i64 0, .int .u64 0, .slice none 0 0] ∧ VarAt y (w.heap.size + 1 + 1 + 1) (curV A n cap 0 false (.int .i64 0) (.int .i64 0) (.int .u64 0) (.int .u64 0) (.slice none 0 0) (.slice none 0 0)) ∧ VarAt y (w.heap.size + 1 + 1 + 1 + 1) [.int .i64 0, .bool false, .int .i64 0, .int .u64 0, .slice none 0 0]) ⟨(by repeat (first | with_reducible assumption | with_reducible exact Below.refl _ _ | with_reducible refine Below.drew ?_ | with_reducible refine below_al ?_ | (with_reducible refine below_set1 (by omega) _ ?_))), by simp, VarAt.mk6 (by simp <;> omega) (by go_simp) (by go_simp) (by go_simp) (by go_simp) (by go_simp) (by go_simp) (by go_simp) (by go_simp) (by go_simp) (by go_simp) (by go_simp) (by go_simp), VarAt.mk5 (by simp <;> omega) (by go_simp) (by go_simp) (by go_simp) (by go_simp) (by go_simp) (by go_simp) (by go_simp) (by go_simp) (by go_simp) (by go_simp), VarAt.mk9 (by simp <;> omega) (by go_simp) (by go_simp) (by go_simp) (by go_simp) (by go_simp) (by go_simp) (by go_simp) (by go_simp) (by go_simp) (by go_simp) (by go_simp) (by go_simp) (by go_simp) (by go_simp) (by go_simp) (by go_simp) (by go_simp) (by go_simp), VarAt.mk5 (by simp <;> omega) (by go_simp) (by go_simp) (by go_simp) (by go_simp) (by go_simp) (by go_simp) (by go_simp) (by go_simp) (by go_simp) (by go_simp)⟩ ?_
    rintro y ⟨k0, k1, k2, k3, k4, k5⟩
    obtain ⟨g, hg⟩ : ∃ g, w.heap.size + 1 + 1 + 1 = g := ⟨_, rfl⟩
    rw [hg] at k4 k5 ⊢
    have HG := Lib.hid hg
    obtain ⟨lo, hlo⟩ : ∃ lo, w.heap.size + 1 + 1 + 1 + 1 + 1 = lo := ⟨_, rfl⟩
    have HLO := Lib.hid hlo
    have hok : CurOk g A n log w y := ⟨hl.out, by omega, k0⟩
    have hcur : CurID g A n cap log w y (.at log) y := ⟨⟨0, Nat.zero_le _, rfl, k4⟩, But.refl _ _⟩
    have K0 := Lib.hid k0
    have K1 := Lib.hid k1
    have K2 := Lib.hid k2
    have K3 := Lib.hid k3
    have K5 := Lib.hid k5
    have HOK := Lib.hid hok
    have HCON : Calls Tryz.prog 20 #[.pointer (some ⟨g, 0, none⟩), .int .i64 (t : Int), .int .i64 (ur : Int), .int .i64 (vr : Int)] y (RefD g A n cap log w y (fun d => .bool ((d : Int) == 1)) R) := rSave_prg HOK (by omega) t ur vr (log.length + 1) HT.out HU.out.1 HU.out.2 HVR.out (.at log) trivial R HBR.out HRC.out y hcur
    (with_reducible refine HCON.mono ?_)
    clear HCON hcur k0 k1 k2 k3 k4 k5 hok hg hlo
    rintro e w2 ⟨d, c, rfl, hc, hrd⟩
    have HTE := Lib.hid (sTell_of (k := 7) hrd)
    have hgg := HG.out
    have hyz := K1.out
    have hlo := HLO.out
    have hbt := hc.but
    have HCV : Hid (CurVD lo g A n cap log c w2) := Lib.hid (by have h := hc.cur; rw [hyz, hlo] at h; exact h)
    have HV1 := Lib.hid (K2.out.but hbt (by omega))
    have HV2 := Lib.hid (K3.out.but hbt (by omega))
    have HV5 := Lib.hid (K5.out.but hbt (by omega))
    obtain ⟨_, ⟨o1, o2, o3, o4, o5⟩, p1, p2, p3, p4, p5⟩ := HV5.out.five
    have hsz := hbt.size
    have m3 : g + 1 < w2.heap.size := by omega
    have HBW : Hid (Below w.heap.size w w2) := Lib.hid (K0.out.trans (hbt.below.mono (by omega)))
    clear hc hbt hyz hgg hlo K0 K1 K2 K3 K5 HOK hrd HRC HBR
    go_upto_region 15 with fail
    have hgg := HG.out
    have hlo := HLO.out
    have hbw := HBW.out
    refine gen_w (P := fun W => Code.wp _ _ _ _ W) (fun x => Below w.heap.size w x ∧ VarAt x (w.heap.size + 1) [.int .i64 0, .int .i64 0, .int .u64 0, .int .u64 0, .slice none 0 0, .slice none 0 0] ∧ VarAt x (w.heap.size + 1 + 1) [.int .i64 0, .bool false, .int .i64 0, .int .u64 0, .slice none 0 0] ∧ VarAt x (g + 1) [.int .i64 0, .bool ((d : Int) == 1), .int .i64 0, .int .u64 0, .slice none 0 0] ∧ CurVD lo g A n cap log c x) ⟨(by repeat (first | with_reducible assumption | with_reducible exact Below.refl _ _ | with_reducible refine Below.drew ?_ | with_reducible refine below_al ?_ | (with_reducible refine below_set1 (by omega) _ ?_))), (HV1.out.apart _ _ (by omega)), (HV2.out.apart _ _ (by omega)), VarAt.mk5 (by simp; omega) (by go_simp) (by go_simp) (by go_simp) (by go_simp) (by go_simp) (by go_simp) (by go_simp) (by go_simp) (by go_simp) (by go_simp), HCV.out.put _ _ (by omega) (.inr (by omega))⟩ ?_
    rintro z ⟨k0, k1, k2, k3, k4⟩
    have hg := HG.out
    rw [hlo]
    clear o1 o2 o3 o4 o5 p1 p2 p3 p4 p5 m3 hsz hbw hgg hlo HBW HV1 HV2 HV5 HCV
    have Z0 := Lib.hid k0
    have Z1 := Lib.hid k1
    have Z2 := Lib.hid k2
    have hsz := k3.1
    obtain ⟨_, ⟨o1, o2, o3, o4, o5⟩, _⟩ := k3.five
    have HTC : Calls Tryz.prog 22 #[.pointer (some ⟨g, 0, none⟩), .agg #[.int .i64 0, .bool ((d : Int) == 1), .int .i64 0, .int .u64 0, .slice none 0 0]] z (TellS lo z (toldS 7 d c)) := toldCS k4 7 d
    clear k0 k1 k2 k3 k4
    generalize toldS 7 d c = V at *
    obtain ⟨vk, vi, va, vb, vd, ve, vo, vw, vis⟩ := V
    unfold TellS ToldS.val at HTC
    simp only at HTC
    obtain ⟨vn, hvn⟩ : ∃ q, vd.length = q := ⟨_, rfl⟩
    rw [hvn] at HTC
    have HVN := Lib.hid hvn
    clear hvn
    go_wp2_with fail
    (with_reducible refine HTC.mono ?_)
    clear HTC
    rintro e w3 ⟨D, dc, rfl, hat, hdc, hdl, hof, hb3⟩
    have HAT := Lib.hid (And.intro hat (And.intro hdc (And.intro hdl hof)))
    obtain ⟨m1, ⟨a0, a1, a2, a3, a4, a5⟩, b0, b1, b2, b3, b4, b5⟩ := (Z1.out.below hb3).six
    obtain ⟨m2, ⟨r1, r2, r3, r4, r5⟩, s1, s2, s3, s4, s5⟩ := (Z2.out.below hb3).five
    have HB3 := Lib.hid (Z0.out.trans (hb3.mono Z0.out.size))
    clear hb3 hat hdc hdl hof
    go_wp2_with fail
    have hb := HB3.out
    have hlo := HLO.out
    have hgo := HG.out
    have hlo2 : g + 1 + 1 = lo := by omega
    clear hgo
    refine bodyPost_ret (v := .tuple #[.agg #[.int .i64 vk, .int .i64 vi, .int .u64 (va : Int), .int .u64 (vb : Int), .slice D vn dc, .slice none 0 0], .agg #[.int .i64 ve, .bool vo, .int .i64 0, .int .u64 (vw : Int), .slice none 0 0], .bool vis]) (by simp [results, Tryz.results8, go_sem, a0, a1, a2, a3, a4, a5, r1, r2, r3, r4, r5]) rfl ?_
    rw [HTE.out]
    unfold TellS ToldS.val
    simp only []
    rw [HVN.out]
    exact ⟨D, dc, rfl, AtB.svd (Q := fun c => lo ≤ c) HAT.out.1 (by repeat (first | with_reducible exact Svd.refl _ _ | with_reducible refine Svd.drew ?_ | (with_reducible refine Svd.set ?_ _ _ _ (by omega)))) HAT.out.2.2.2, HAT.out.2.1, HAT.out.2.2.1, by first | (rw [hlo]; exact HAT.out.2.2.2) | (rw [hlo2]; exact HAT.out.2.2.2), (by repeat (first | with_reducible assumption | with_reducible exact Below.refl _ _ | with_reducible refine Below.drew ?_ | with_reducible refine below_al ?_ | (with_reducible refine below_set1 (by omega) _ ?_)))⟩
  by_cases h21 : k = 21
  · subst h21
    obtain ⟨u1, u2⟩ := hop.1 (by omega)
    obtain ⟨ur, rfl⟩ : ∃ ur : Nat, u = (ur : Int) := ⟨u.toNat, by omega⟩
    have hut : ((ur : Int)).toNat = ur := Int.toNat_natCast ur
    have HU := Lib.hid (show 1 ≤ ur ∧ ur < 1048576 by omega)
    have hp : sPrg t 21 (ur : Int) v x (log.length + 1) = Prd.dead t ur x (log.length + 1) := by unfold sPrg; rw [hut]; rfl
    rw [hp] at hbb ⊢
    obtain ⟨R, hR⟩ : ∃ R, (Prd.dead t ur x (log.length + 1)).run tapeTellD log = R := ⟨_, rfl⟩
    have hRC : (Prd.dead t ur x (log.length + 1)).runCD (.at log) = R := hR
    rw [hR] at hbb ⊢
    have HBR := Lib.hid hbb
    have HRC := Lib.hid hRC
    have HT := Lib.hid ht
    clear ht hop hc hbb hp hR hRC hut u1 u2
    go_enter Tryz.func8, Tryz.ntmps8
    go_wp2_with fail
    refine gen_w (P := fun W => Calls _ _ _ W _) (fun y => Below w.heap.size w y ∧ y.heap.size = w.heap.size + 1 + 1 + 1 + 1 + 1 ∧ VarAt y (w.heap.size + 1) [.int .i64 0, .int .i64 0, .int .u64 0, .int .u64 0, .slice none 0 0, .slice none 0 0] ∧ VarAt y (w.heap.size + 1 + 1) [.int .i64 0, .bool false, .int .i64 0, .int .u64 0, .slice none 0 0] ∧ VarAt y (w.heap.size + 1 + 1 + 1) (curV A n cap 0 false (.int .i64 0) (.int .i64 0) (.int .u64 0) (.int .u64 0) (.slice none 0 0) (.slice none 0 0)) ∧ VarAt y (w.heap.size + 1 + 1 + 1 + 1) [.int .i64 0, .bool false, .int .i64 0, .int .u64 0, .slice none 0 0]) ⟨(by repeat (first | with_reducible assumption | with_reducible exact Below.refl _ _ | with_reducible refine Below.drew ?_ | with_reducible refine below_al ?_ | (with_reducible refine below_set1 (by omega) _ ?_))), by simp, VarAt.mk6 (by simp <;> omega) (by go_simp) (by go_simp) (by go_simp) (by go_simp) (by go_simp) (by go_simp) (by go_simp) (by go_simp) (by go_simp) (by go_simp) (by go_simp) (by go_simp), VarAt.mk5 (by simp <;> omega) (by go_simp) (by go_simp) (by go_simp) (by go_simp) (by go_simp) (by go_simp) (by go_simp) (by go_simp) (by go_simp) (by go_simp), VarAt.mk9 (by simp <;> omega) (by go_simp) (by go_simp) (by go_simp) (by go_simp) (by go_simp) (by go_simp) (by go_simp) (by go_simp) (by go_simp) (by go_simp) (by go_simp) (by go_simp) (by go_simp) (by go_simp) (by go_simp) (by go_simp) (by go_simp) (by go_simp), VarAt.mk5 (by simp <;> omega) (by go_simp) (by go_simp) (by go_simp) (by go_simp) (by go_simp) (by go_simp) (by go_simp) (by go_simp) (by go_simp) (by go_simp)⟩ ?_
    rintro y ⟨k0, k1, k2, k3, k4, k5⟩
    obtain ⟨g, hg⟩ : ∃ g, w.heap.size + 1 + 1 + 1 = g := ⟨_, rfl⟩
    rw [hg] at k4 k5 ⊢
    have HG := Lib.hid hg
    obtain ⟨lo, hlo⟩ : ∃ lo, w.heap.size + 1 + 1 + 1 + 1 + 1 = lo := ⟨_, rfl⟩
    have HLO := Lib.hid hlo
    have hok : CurOk g A n log w y := ⟨hl.out, by omega, k0⟩
    have hcur : CurID g A n cap log w y (.at log) y := ⟨⟨0, Nat.zero_le _, rfl, k4⟩, But.refl _ _⟩
    have K0 := Lib.hid k0
    have K1 := Lib.hid k1
    have K2 := Lib.hid k2
    have K3 := Lib.hid k3
    have K5 := Lib.hid k5
    have HOK := Lib.hid hok
    have HCON : Calls Tryz.prog 21 #[.pointer (some ⟨g, 0, none⟩), .int .i64 (t : Int), .int .i64 (ur : Int), .int .u64 (x : Int)] y (RefD g A n cap log w y (fun d => .bool ((d : Int) == 1)) R) := rDead_prg HOK (by omega) t ur x (log.length + 1) HT.out HU.out.1 HU.out.2 (.at log) trivial R HBR.out HRC.out y hcur
    (with_reducible refine HCON.mono ?_)
    clear HCON hcur k0 k1 k2 k3 k4 k5 hok hg hlo
    rintro e w2 ⟨d, c, rfl, hc, hrd⟩
    have HTE := Lib.hid (sTell_of (k := 21) hrd)
    have hgg := HG.out
    have hyz := K1.out
    have hlo := HLO.out
    have hbt := hc.but
    have HCV : Hid (CurVD lo g A n cap log c w2) := Lib.hid (by have h := hc.cur; rw [hyz, hlo] at h; exact h)
    have HV1 := Lib.hid (K2.out.but hbt (by omega))
    have HV2 := Lib.hid (K3.out.but hbt (by omega))
    have HV5 := Lib.hid (K5.out.but hbt (by omega))
    obtain ⟨_, ⟨o1, o2, o3, o4, o5⟩, p1, p2, p3, p4, p5⟩ := HV5.out.five
    have hsz := hbt.size
    have m3 : g + 1 < w2.heap.size := by omega
    have HBW : Hid (Below w.heap.size w w2) := Lib.hid (K0.out.trans (hbt.below.mono (by omega)))
    clear hc hbt hyz hgg hlo K0 K1 K2 K3 K5 HOK hrd HRC HBR
    go_upto_region 15 with fail
    have hgg := HG.out
    have hlo := HLO.out
    have hbw := HBW.out
    refine gen_w (P := fun W => Code.wp _ _ _ _ W) (fun x => Below w.heap.size w x ∧ VarAt x (w.heap.size + 1) [.int .i64 0, .int .i64 0, .int .u64 0, .int .u64 0, .slice none 0 0, .slice none 0 0] ∧ VarAt x (w.heap.size + 1 + 1) [.int .i64 0, .bool false, .int .i64 0, .int .u64 0, .slice none 0 0] ∧ VarAt x (g + 1) [.int .i64 0, .bool ((d : Int) == 1), .int .i64 0, .int .u64 0, .slice none 0 0] ∧ CurVD lo g A n cap log c x) ⟨(by repeat (first | with_reducible assumption | with_reducible exact Below.refl _ _ | with_reducible refine Below.drew ?_ | with_reducible refine below_al ?_ | (with_reducible refine below_set1 (by omega) _ ?_))), (HV1.out.apart _ _ (by omega)), (HV2.out.apart _ _ (by omega)), VarAt.mk5 (by simp; omega) (by go_simp) (by go_simp) (by go_simp) (by go_simp) (by go_simp) (by go_simp) (by go_simp) (by go_simp) (by go_simp) (by go_simp), HCV.out.put _ _ (by omega) (.inr (by omega))⟩ ?_
    rintro z ⟨k0, k1, k2, k3, k4⟩
    have hg := HG.out
    rw [hlo]
    clear o1 o2 o3 o4 o5 p1 p2 p3 p4 p5 m3 hsz hbw hgg hlo HBW HV1 HV2 HV5 HCV
    have Z0 := Lib.hid k0
    have Z1 := Lib.hid k1
    have Z2 := Lib.hid k2
    have hsz := k3.1
    obtain ⟨_, ⟨o1, o2, o3, o4, o5⟩, _⟩ := k3.five
    have HTC : Calls Tryz.prog 22 #[.pointer (some ⟨g, 0, none⟩), .agg #[.int .i64 0, .bool ((d : Int) == 1), .int .i64 0, .int .u64 0, .slice none 0 0]] z (TellS lo z (toldS 21 d c)) := toldCS k4 21 d
    clear k0 k1 k2 k3 k4
    generalize toldS 21 d c = V at *
    obtain ⟨vk, vi, va, vb, vd, ve, vo, vw, vis⟩ := V
    unfold TellS ToldS.val at HTC
    simp only at HTC
    obtain ⟨vn, hvn⟩ : ∃ q, vd.length = q := ⟨_, rfl⟩
    rw [hvn] at HTC
    have HVN := Lib.hid hvn
    clear hvn
    go_wp2_with fail
    (with_reducible refine HTC.mono ?_)
    clear HTC
    rintro e w3 ⟨D, dc, rfl, hat, hdc, hdl, hof, hb3⟩
    have HAT := Lib.hid (And.intro hat (And.intro hdc (And.intro hdl hof)))
    obtain ⟨m1, ⟨a0, a1, a2, a3, a4, a5⟩, b0, b1, b2, b3, b4, b5⟩ := (Z1.out.below hb3).six
    obtain ⟨m2, ⟨r1, r2, r3, r4, r5⟩, s1, s2, s3, s4, s5⟩ := (Z2.out.below hb3).five
    have HB3 := Lib.hid (Z0.out.trans (hb3.mono Z0.out.size))
    clear hb3 hat hdc hdl hof
    go_wp2_with fail
    have hb := HB3.out
    have hlo := HLO.out
    have hgo := HG.out
    have hlo2 : g + 1 + 1 = lo := by omega
    clear hgo
    refine bodyPost_ret (v := .tuple #[.agg #[.int .i64 vk, .int .i64 vi, .int .u64 (va : Int), .int .u64 (vb : Int), .slice D vn dc, .slice none 0 0], .agg #[.int .i64 ve, .bool vo, .int .i64 0, .int .u64 (vw : Int), .slice none 0 0], .bool vis]) (by simp [results, Tryz.results8, go_sem, a0, a1, a2, a3, a4, a5, r1, r2, r3, r4, r5]) rfl ?_
    rw [HTE.out]
    unfold TellS ToldS.val
    simp only []
    rw [HVN.out]
    exact ⟨D, dc, rfl, AtB.svd (Q := fun c => lo ≤ c) HAT.out.1 (by repeat (first | with_reducible exact Svd.refl _ _ | with_reducible refine Svd.drew ?_ | (with_reducible refine Svd.set ?_ _ _ _ (by omega)))) HAT.out.2.2.2, HAT.out.2.1, HAT.out.2.2.1, by first | (rw [hlo]; exact HAT.out.2.2.2) | (rw [hlo2]; exact HAT.out.2.2.2), (by repeat (first | with_reducible assumption | with_reducible exact Below.refl _ _ | with_reducible refine Below.drew ?_ | with_reducible refine below_al ?_ | (with_reducible refine below_set1 (by omega) _ ?_)))⟩
  have hp : sPrg t k u v x (log.length + 1) = .ret 0 := by unfold sPrg; rw [if_neg h20, if_neg h22, if_neg h23, if_neg h7, if_neg h21]
  rw [hp]
  have hee : sOut k 0 = .agg #[.int .i64 1, .bool false, .int .i64 0, .int .u64 0, .slice none 0 0] := by unfold sOut sErr sIs sW; rw [if_neg (by omega), if_neg (by omega), if_neg h20]; rfl
  have e20 : ((k : Int) == 20) = false := by rw [beq_eq_false_iff_ne]; exact h20
  have e22 : ((k : Int) == 22) = false := by rw [beq_eq_false_iff_ne]; exact h22
  have e23 : ((k : Int) == 23) = false := by rw [beq_eq_false_iff_ne]; exact h23
  have e7 : ((k : Int) == 7) = false := by rw [beq_eq_false_iff_ne]; exact h7
  have e21 : ((k : Int) == 21) = false := by rw [beq_eq_false_iff_ne]; exact h21
  have ht0 : sTell k ((Prd.ret 0).run tapeTellD log) = toldS k 0 (.at log) := rfl
  rw [ht0]
  obtain ⟨c, hcc⟩ : ∃ c, CSD.at log = c := ⟨_, rfl⟩
  rw [hcc]
  have HCC := Lib.hid hcc
  have HEE := Lib.hid hee
  clear ht hop h20 h22 h23 h7 h21 hc hcc hp hbb hee ht0
  go_enter Tryz.func8, Tryz.ntmps8
  go_upto_region 15 with fail
  refine gen_w (P := fun W => Code.wp _ _ _ _ W) (fun y => Below w.heap.size w y ∧ y.heap.size = w.heap.size + 1 + 1 + 1 + 1 + 1 ∧ VarAt y (w.heap.size + 1) [.int .i64 0, .int .i64 0, .int .u64 0, .int .u64 0, .slice none 0 0, .slice none 0 0] ∧ VarAt y (w.heap.size + 1 + 1) [.int .i64 0, .bool false, .int .i64 0, .int .u64 0, .slice none 0 0] ∧ VarAt y (w.heap.size + 1 + 1 + 1) (curV A n cap 0 false (.int .i64 0) (.int .i64 0) (.int .u64 0) (.int .u64 0) (.slice none 0 0) (.slice none 0 0)) ∧ VarAt y (w.heap.size + 1 + 1 + 1 + 1) [.int .i64 1, .bool false, .int .i64 0, .int .u64 0, .slice none 0 0]) ⟨(by repeat (first | with_reducible assumption | with_reducible exact Below.refl _ _ | with_reducible refine Below.drew ?_ | with_reducible refine below_al ?_ | (with_reducible refine below_set1 (by omega) _ ?_))), by simp, VarAt.mk6 (by simp <;> omega) (by go_simp) (by go_simp) (by go_simp) (by go_simp) (by go_simp) (by go_simp) (by go_simp) (by go_simp) (by go_simp) (by go_simp) (by go_simp) (by go_simp), VarAt.mk5 (by simp <;> omega) (by go_simp) (by go_simp) (by go_simp) (by go_simp) (by go_simp) (by go_simp) (by go_simp) (by go_simp) (by go_simp) (by go_simp), VarAt.mk9 (by simp <;> omega) (by go_simp) (by go_simp) (by go_simp) (by go_simp) (by go_simp) (by go_simp) (by go_simp) (by go_simp) (by go_simp) (by go_simp) (by go_simp) (by go_simp) (by go_simp) (by go_simp) (by go_simp) (by go_simp) (by go_simp) (by go_simp), VarAt.mk5 (by simp <;> omega) (by go_simp) (by go_simp) (by go_simp) (by go_simp) (by go_simp) (by go_simp) (by go_simp) (by go_simp) (by go_simp) (by go_simp)⟩ ?_
  rintro z ⟨k0, k1, k2, k3, k4', k5⟩
  obtain ⟨g, hg⟩ : ∃ g, w.heap.size + 1 + 1 + 1 = g := ⟨_, rfl⟩
  obtain ⟨lo, hlo⟩ : ∃ lo, w.heap.size + 1 + 1 + 1 + 1 + 1 = lo := ⟨_, rfl⟩
  have HLO := Lib.hid hlo
  have HTE : Hid (toldS k 0 c = toldS k 0 c) := Lib.hid rfl
  rw [hg] at k4' k5 ⊢
  have HG := Lib.hid hg
  have k4 : CurVD lo g A n cap log c z := by rw [← HCC.out]; exact ⟨0, Nat.zero_le _, rfl, k4'⟩
  have q1 := k2
  have q2 := k3
  have q3 := k5
  clear k1 k2 k3 k4' k5 hlo
  have k1 := q1
  have k2 := q2
  have k3 := q3
  clear q1 q2 q3
  have Z0 := Lib.hid k0
  have Z1 := Lib.hid k1
  have Z2 := Lib.hid k2
  have hsz := k3.1
  obtain ⟨_, ⟨o1, o2, o3, o4, o5⟩, _⟩ := k3.five
  have HTC : Calls Tryz.prog 22 #[.pointer (some ⟨g, 0, none⟩), .agg #[.int .i64 1, .bool false, .int .i64 0, .int .u64 0, .slice none 0 0]] z (TellS lo z (toldS k 0 c)) := (by have := toldCS k4 k 0; rwa [HEE.out] at this)
  clear k0 k1 k2 k3 k4
  generalize toldS k 0 c = V at *
  obtain ⟨vk, vi, va, vb, vd, ve, vo, vw, vis⟩ := V
  unfold TellS ToldS.val at HTC
  simp only at HTC
  obtain ⟨vn, hvn⟩ : ∃ q, vd.length = q := ⟨_, rfl⟩
  rw [hvn] at HTC
  have HVN := Lib.hid hvn
  clear hvn
  go_wp2_with fail
  (with_reducible refine HTC.mono ?_)
  clear HTC
  rintro e w3 ⟨D, dc, rfl, hat, hdc, hdl, hof, hb3⟩
  have HAT := Lib.hid (And.intro hat (And.intro hdc (And.intro hdl hof)))
  obtain ⟨m1, ⟨a0, a1, a2, a3, a4, a5⟩, b0, b1, b2, b3, b4, b5⟩ := (Z1.out.below hb3).six
  obtain ⟨m2, ⟨r1, r2, r3, r4, r5⟩, s1, s2, s3, s4, s5⟩ := (Z2.out.below hb3).five
  have HB3 := Lib.hid (Z0.out.trans (hb3.mono Z0.out.size))
  clear hb3 hat hdc hdl hof
  go_wp2_with fail
  have hb := HB3.out
  have hlo := HLO.out
  have hgo := HG.out
  have hlo2 : g + 1 + 1 = lo := by omega
  clear hgo
  refine bodyPost_ret (v := .tuple #[.agg #[.int .i64 vk, .int .i64 vi, .int .u64 (va : Int), .int .u64 (vb : Int), .slice D vn dc, .slice none 0 0], .agg #[.int .i64 ve, .bool vo, .int .i64 0, .int .u64 (vw : Int), .slice none 0 0], .bool vis]) (by simp [results, Tryz.results8, go_sem, a0, a1, a2, a3, a4, a5, r1, r2, r3, r4, r5]) rfl ?_
  unfold TellS ToldS.val
  simp only []
  rw [HVN.out]
  exact ⟨D, dc, rfl, AtB.svd (Q := fun c => lo ≤ c) HAT.out.1 (by repeat (first | with_reducible exact Svd.refl _ _ | with_reducible refine Svd.drew ?_ | (with_reducible refine Svd.set ?_ _ _ _ (by omega)))) HAT.out.2.2.2, HAT.out.2.1, HAT.out.2.2.1, by first | (rw [hlo]; exact HAT.out.2.2.2) | (rw [hlo2]; exact HAT.out.2.2.2), (by repeat (first | with_reducible assumption | with_reducible exact Below.refl _ _ | with_reducible refine Below.drew ?_ | with_reducible refine below_al ?_ | (with_reducible refine below_set1 (by omega) _ ?_)))⟩
end Go.Proofs.YtdbomlclkhkinaaGreatDoor
