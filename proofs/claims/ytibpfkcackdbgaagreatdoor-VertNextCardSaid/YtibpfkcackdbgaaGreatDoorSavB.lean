/- SavB -/
import Derived.Test.YtibpfkcackdbgaaGreatDoorSavSrv
import Derived.Test.YtibpfkcackdbgaaGreatDoorPolB
import Derived.Test.YtibpfkcackdbgaaGreatDoorSavA
import Derived.Test.YtibpfkcackdbgaaGreatDoorEntB
import Derived.Test.YtibpfkcackdbgaaGreatDoorFrmB
import Derived.Test.YtibpfkcackdbgaaGreatDoorSmal
namespace Go.Proofs.YtibpfkcackdbgaaGreatDoor
open Go.ChangeShapes Go.WideShapes Go.ChangeAt Go.RowKit Go.BigFrame
set_option linter.unusedVariables false
set_option maxRecDepth 100000
def CurPostF (w : World) (g : Nat) (N : Nat) (fl : Bool) (T : List Value) (e : Ending) (w' : World) : Prop :=
 ∃ B b bc, e = .returned (.agg #[.int .u64 (N : Int), .slice B b bc, .bool fl]) ∧ VarAt w' g T ∧ But g w w'
set_option maxHeartbeats 1000000 in
theorem refDo_stopF (g : Nat) (A : Option Addr) (n cap : Nat) (q0 q1 q2 q3 q4 q5 : Value) (i : Int) (x : Acc) (D : Option Addr) (dc : Nat) (E : Option Addr) (ec : Nat) (w : World) (hT : Hid (VarAt w g (curV A n cap i true q0 q1 q2 q3 q4 q5))) :
  Calls Tryz.prog 151 #[.pointer (some ⟨g, 0, none⟩), .agg #[.int .i64 x.k, .int .i64 x.c, .int .u64 (x.a : Int), .int .u64 (x.b : Int), .slice D x.d.length dc, .slice E x.m ec]] w (CurPostF w g 0 false (curV A n cap i true q0 q1 q2 q3 q4 q5)) := by
 obtain ⟨hgz, ⟨c0, c1, c2, c3, c4, c5, c6, c7, c8⟩, f0, f1, f2, f3, f4, f5, f6, f7, f8⟩ := hT.out.nine
 have g1 : g < w.heap.size + 1 := by omega
 have g2 : g < w.heap.size + 1 + 1 := by omega
 have g3 : ¬ (g = w.heap.size) := by omega
 have g4 : ¬ (g = w.heap.size + 1) := by omega
 have g6 : ¬ (w.heap.size = g) := by omega
 have g7 : ¬ (w.heap.size + 1 = g) := by omega
 go_enter Tryz.func151, Tryz.ntmps151
 go_wp2_with fail
 exact bodyPost_ret (v := .agg #[.int .u64 0, .slice none 0 0, .bool false]) (by simp [results, Tryz.results151, go_sem]) rfl ⟨none, 0, 0, rfl, VarAt.mk9 (by simp; omega), butA⟩
set_option maxHeartbeats 1000000 in
theorem refDo_leftF (g : Nat) (A : Option Addr) (n cap : Nat) (q0 q1 q2 q3 q4 q5 : Value) (hn : n ≤ 140737488355328) (x : Acc) (D : Option Addr) (dc : Nat) (E : Option Addr) (ec : Nat) (w : World) (hT : Hid (VarAt w g (curV A n cap (n : Int) false q0 q1 q2 q3 q4 q5))) :
  Calls Tryz.prog 151 #[.pointer (some ⟨g, 0, none⟩), .agg #[.int .i64 x.k, .int .i64 x.c, .int .u64 (x.a : Int), .int .u64 (x.b : Int), .slice D x.d.length dc, .slice E x.m ec]] w (CurPostF w g 0 false (curV A n cap (n : Int) true (.int .i64 x.k) (.int .i64 x.c) (.int .u64 (x.a : Int)) (.int .u64 (x.b : Int)) (.slice D x.d.length dc) (.slice E x.m ec))) := by
 obtain ⟨hgz, ⟨c0, c1, c2, c3, c4, c5, c6, c7, c8⟩, f0, f1, f2, f3, f4, f5, f6, f7, f8⟩ := hT.out.nine
 have g1 : g < w.heap.size + 1 := by omega
 have g2 : g < w.heap.size + 1 + 1 := by omega
 have g3 : ¬ (g = w.heap.size) := by omega
 have g4 : ¬ (g = w.heap.size + 1) := by omega
 have g6 : ¬ (w.heap.size = g) := by omega
 have g7 : ¬ (w.heap.size + 1 = g) := by omega
 have d1 : decide ((n : Int) < (n : Int)) = false := by rw [decide_eq_false_iff_not]; omega
 have d1' : decide (n < n) = false := by rw [decide_eq_false_iff_not]; omega
 go_enter Tryz.func151, Tryz.ntmps151
 go_wp2_with fail
 go_region
 all_goals
  go_wp2_with fail
  exact bodyPost_ret (v := .agg #[.int .u64 0, .slice none 0 0, .bool false]) (by simp [results, Tryz.results151, go_sem]) rfl ⟨none, 0, 0, rfl, VarAt.mk9 (by simp; omega), butA⟩
set_option maxHeartbeats 1000000 in
theorem refDo_toldF (g : Nat) (A : Option Addr) (n cap : Nat) (q0 q1 q2 q3 q4 q5 : Value) (log : List Res) (j : Nat) (hj : j < n) (r : Res) (hr : log[j]? = some r) (x : Acc) (D : Option Addr) (dc : Nat) (E : Option Addr) (ec : Nat) (w0 w : World) (hL : Hid (LogAt w0 A n log)) (h0 : Hid (Below w0.heap.size w0 w)) (hg : w0.heap.size ≤ g) (hT : Hid (VarAt w g (curV A n cap (j : Int) false q0 q1 q2 q3 q4 q5))) :
  Calls Tryz.prog 151 #[.pointer (some ⟨g, 0, none⟩), .agg #[.int .i64 x.k, .int .i64 x.c, .int .u64 (x.a : Int), .int .u64 (x.b : Int), .slice D x.d.length dc, .slice E x.m ec]] w (CurPostF w g r.n r.fl (curV A n cap ((j + 1 : Nat) : Int) false q0 q1 q2 q3 q4 q5)) := by
 have hn := hL.out.2.1
 obtain ⟨gb, go, B, bc, rfl, hlt0, hcl0, hrp⟩ := hL.out.at_ j r hr
 have hlt := Nat.lt_of_lt_of_le hlt0 h0.out.size
 obtain ⟨z0, z1, z2⟩ := hcl0.below h0.out hlt0
 have hne1 : ¬ (gb = g) := by omega
 have hne2 : ¬ (g = gb) := by omega
 obtain ⟨hgz, ⟨c0, c1, c2, c3, c4, c5, c6, c7, c8⟩, f0, f1, f2, f3, f4, f5, f6, f7, f8⟩ := hT.out.nine
 have g1 : g < w.heap.size + 1 := by omega
 have g2 : g < w.heap.size + 1 + 1 := by omega
 have g3 : ¬ (g = w.heap.size) := by omega
 have g4 : ¬ (g = w.heap.size + 1) := by omega
 have g6 : ¬ (w.heap.size = g) := by omega
 have g7 : ¬ (w.heap.size + 1 = g) := by omega
 have d1 : decide ((j : Int) < (n : Int)) = true := by rw [decide_eq_true_iff]; omega
 have d1' : decide (j < n) = true := by rw [decide_eq_true_iff]; omega
 have i1 : (0 : Int) ≤ (j : Int) := by omega
 have i2 : (j : Int) < (n : Int) := by omega
 have e1 : IntKind.i64.wrap ((j : Int) + 1) = ((j + 1 : Nat) : Int) := by rw [IntKind.wrap_i64]; omega
 have e2 : IntKind.i64.wrap (((j + 1 : Nat) : Int) - 1) = (j : Int) := by rw [IntKind.wrap_i64]; omega
 obtain ⟨q, hq⟩ : ∃ q : Nat, j + 1 = q := ⟨_, rfl⟩
 rw [hq] at e1 e2 ⊢
 have HQ := Lib.hid hq
 clear hlt0 hcl0 hg hr hrp hq hn
 go_enter Tryz.func151, Tryz.ntmps151
 go_wp2_with fail
 go_region
 all_goals
  go_wp2_with fail
  go_region
  all_goals
   go_wp2_with fail
   exact bodyPost_ret (v := .agg #[.int .u64 (r.n : Int), .slice B r.b.length bc, .bool r.fl]) (by simp [results, Tryz.results151, go_sem]) rfl ⟨B, r.b.length, bc, rfl, VarAt.mk9 (by simp; omega), butA⟩
theorem curAdd_of (g : Nat) (i : Int) (a : Nat) (N : Nat) (P : World → Prop) (hP : ∀ x y, P x → Below x.heap.size x y → P y) (w : World) (hgw : g < w.heap.size)
  (h : Calls Tryz.prog 151 #[.pointer (some ⟨g, 0, none⟩), .agg #[.int .i64 3, .int .i64 i, .int .u64 (a : Int), .int .u64 0, .slice none 0 0, .slice none 0 0]] w (fun e w' => (∃ B bn bc fl, e = .returned (.agg #[.int .u64 (N : Int), .slice B bn bc, .bool fl])) ∧ P w' ∧ But g w w')) :
  Calls Tryz.prog 157 #[.pointer (some ⟨g, 0, none⟩), .int .i64 i, .int .u64 (a : Int)] w (fun e w' => e = .returned (.int .u64 (N : Int)) ∧ P w' ∧ But g w w') := by
 have HG := Lib.hid hgw
 have hf := field_n
 clear hgw
 go_enter Tryz.func157, Tryz.ntmps157
 go_wp2_with fail
 (with_reducible refine h.mono ?_)
 rintro e w' ⟨⟨B, bn, bc, fl, rfl⟩, hp, hb⟩
 have HP := Lib.hid hp
 have HB := Lib.hid hb
 clear hp hb h
 go_wp2_with fail
 have hg := HG.out
 have hb := HB.out
 have hsz := hb.size
 go_ret
 exact ⟨rfl, hP _ _ HP.out belA, butA⟩
def accC (k i : Int) (a b : Nat) (d : List Nat) : Acc := ⟨k, i, a, b, d, 0, fun _ => 0⟩
inductive CSD where
 | at (s : List Res)
 | stop (k i : Int) (a b : Nat) (d : List Nat)
def CSD.tell : CSD → Int → Int → Nat → Nat → List Nat → Nat × CSD
 | .at (r :: rest), k, _, _, _, _ => (toldR k r, .at rest)
 | .at [], k, i, a, b, d => (0, .stop k i a b d)
 | .stop k i a b d, _, _, _, _, _ => (0, .stop k i a b d)
def CSD.stops : CSD → Bool
 | .at _ => false
 | .stop _ _ _ _ _ => true
theorem CSD.small (c : CSD) (k i : Int) (a b : Nat) (d : List Nat) : (c.tell k i a b d).1 < 18446744073709551616 := by
 rcases c with (_ | ⟨r, s⟩) | ⟨_, _, _, _, _⟩
 ·exact (by decide : 0 < 18446744073709551616)
 ·exact toldR_lt k r
 ·exact (by decide : 0 < 18446744073709551616)
namespace Prd
def runCD (p : Prd) : CSD → RanD (List Res)
 | .at s => p.run tapeTellD s
 | .stop k i a b d => .left k i a b d
theorem runCD_bind (p : Prd) (q : Nat → Prd) (c : CSD) : (p.bind q).runCD c = (p.runCD c).next fun d s => (q d).runCD (.at s) := by
 cases c with
 | «at» s => exact run_bind tapeTellD p q s
 | stop k i a b d => rfl
theorem runCD_ask (k i : Int) (a b : Nat) (d : List Nat) (f : Nat → Prd) (c : CSD) : (ask k i a b d f).runCD c = (f (c.tell k i a b d).1).runCD (c.tell k i a b d).2 := by
 rcases c with (_ | ⟨r, s⟩) | ⟨k', i', a', b', d'⟩ <;> rfl
theorem runCD_stop {p : Prd} {c : CSD} (h : c.stops = true) : ∀ q : Prd, p.runCD c = q.runCD c := by
 intro q
 cases c with
 | «at» s => cases h
 | stop k i a b d => rfl
end Prd
def CurXD (lo g : Nat) (A : Option Addr) (n cap : Nat) (k i : Int) (a b : Nat) (d : List Nat) (x : World) : Prop :=
 ∃ D dc, VarAt x g (curV A n cap (n : Int) true (.int .i64 k) (.int .i64 i) (.int .u64 (a : Int)) (.int .u64 (b : Int)) (.slice D d.length dc) (.slice none 0 0)) ∧ AtB x D d.length d ∧ d.length ≤ dc ∧ OffW (fun c => c ≠ g ∧ lo ≤ c) D d.length ∧ d.length ≤ 100000
def CurVD (lo g : Nat) (A : Option Addr) (n cap : Nat) (log : List Res) (c : CSD) (w : World) : Prop := match c with | .at s => CurS g A n cap log s w | .stop k i a b d => CurXD lo g A n cap k i a b d w
def CSD.plain : CSD → Prop
 | .at _ => True
 | .stop _ _ _ _ d => d = []
structure CurID (g : Nat) (A : Option Addr) (n cap : Nat) (log : List Res) (w0 wb : World) (c : CSD) (w : World) : Prop where
 cur : CurVD wb.heap.size g A n cap log c w
 but : But g wb w
section
variable {lo g : Nat} {A : Option Addr} {n cap : Nat} {log : List Res} {w0 wb : World}
theorem CurVD.below {c : CSD} {x y : World} (h : CurVD lo g A n cap log c x) (hb : Below x.heap.size x y) : CurVD lo g A n cap log c y := by
 cases c with
 | «at» s => exact CurS.below g A n cap log h hb
 | stop k i a b d =>
  obtain ⟨D, dc, h1, h2, h3, h4, h5⟩ := h
  exact ⟨D, dc, h1.below hb, AtB.later (Lib.hid h2) hb, h3, h4, h5⟩
theorem CurVD.put {c : CSD} {x : World} (h : CurVD lo g A n cap log c x) {b' : Nat} (j : Nat) (v : Value) (hne : b' ≠ g) (hm : c.plain ∨ b' < lo) : CurVD lo g A n cap log c (x.setCell ⟨b', j, none⟩ v) := by
 cases c with
 | «at» s => obtain ⟨q, h1, h2, h3⟩ := h; exact ⟨q, h1, h2, h3.apart j v hne⟩
 | stop k i a b d =>
  obtain ⟨D, dc, h1, h2, h3, h4, h5⟩ := h
  have ho : OffW (fun c => c ≠ b') D d.length := by
   rcases hm with hm | hm
   ·have e : d = [] := hm
    rw [e]
    exact OffW.nil _ _
   ·exact h4.mono fun c hc => by omega
  exact ⟨D, dc, h1.apart j v hne, h2.svd (Q := fun c => c ≠ b') ((Svd.refl _ _).set b' j v (fun _ h => h rfl)) ho, h3, h4, h5⟩
theorem CurVD.lt {c : CSD} {w : World} (h : CurVD lo g A n cap log c w) : g < w.heap.size := by
 cases c with
 | «at» s => exact CurS.lt g A n cap log h
 | stop k i a b d => obtain ⟨D, dc, h1, _⟩ := h; exact h1.1
theorem CurID.lt {c : CSD} {w : World} (h : CurID g A n cap log w0 wb c w) : g < w.heap.size := h.cur.lt
theorem CurID.below {c : CSD} {x y : World} (h : CurID g A n cap log w0 wb c x) (hb : Below x.heap.size x y) : CurID g A n cap log w0 wb c y :=
 ⟨h.cur.below hb, h.but.later hb h.lt⟩
theorem CurID.put {c : CSD} {x : World} (h : CurID g A n cap log w0 wb c x) {b' : Nat} (j : Nat) (v : Value) (hp : c.plain) (hg : g < wb.heap.size) (hb : wb.heap.size ≤ b') : CurID g A n cap log w0 wb c (x.setCell ⟨b', j, none⟩ v) :=
 ⟨h.cur.put j v (by omega) (.inl hp), h.but.new _ _ _ (by omega) hb⟩
theorem CurID.two {c : CSD} {w : World} (h : CurID g A n cap log w0 wb c w) : w.cell? ⟨g, 2, none⟩ = some (.bool c.stops) := by
 cases c with
 | «at» s => obtain ⟨j, h1, h2, h3⟩ := h.cur; exact h3.2.1 2 _ rfl
 | stop k i a b d => obtain ⟨D, dc, h1, _⟩ := h.cur; exact h1.2.1 2 _ rfl
theorem CSD.plain_tell {c : CSD} (h : c.plain) (k i : Int) (a b : Nat) : (c.tell k i a b []).2.plain := by
 rcases c with (_ | ⟨r, s⟩) | ⟨k', i', a', b', d'⟩
 ·exact (rfl : ([] : List Nat) = [])
 ·trivial
 ·exact h
theorem curDoF (ok : CurOk g A n log w0 wb) (c : CSD) (k i : Int) (a b : Nat) (d : List Nat) (D : Option Addr) (dc : Nat) (w : World) (h : CurID g A n cap log w0 wb c w) (hd : AtB w D d.length d) (hl : d.length ≤ dc) (ho : OffW (fun c => c ≠ g ∧ wb.heap.size ≤ c) D d.length) (hm : d.length ≤ 100000) :
  Calls Tryz.prog 151 #[.pointer (some ⟨g, 0, none⟩), .agg #[.int .i64 k, .int .i64 i, .int .u64 (a : Int), .int .u64 (b : Int), .slice D d.length dc, .slice none 0 0]] w (fun e w' => (∃ (N : Nat) (B : Option Addr) (bn bc : Nat) (fl : Bool), e = .returned (.agg #[.int .u64 (N : Int), .slice B bn bc, .bool fl]) ∧ (k < 5 → N = (c.tell k i a b d).1) ∧ (5 ≤ k → fl = decide ((c.tell k i a b d).1 ≠ 0))) ∧ CurID g A n cap log w0 wb (c.tell k i a b d).2 w' ∧ But g w w') := by
 rcases c with (_ | ⟨r, s⟩) | ⟨k', i', a', b', d'⟩
 ·obtain ⟨j, h1, h2, h3⟩ := h.cur
  have hj : j = n := by
   rw [List.drop_eq_nil_iff] at h2
   have := ok.log.1
   omega
  subst hj
  refine (refDo_leftF g A j cap (.int .i64 0) (.int .i64 0) (.int .u64 0) (.int .u64 0) (.slice none 0 0) (.slice none 0 0) ok.log.2.1 (accC k i a b d) D dc none 0 w (Lib.hid h3)).mono ?_
  rintro e w' ⟨B, bn, bc, rfl, hv, hb⟩
  exact ⟨⟨0, B, bn, bc, false, rfl, fun _ => rfl, fun _ => rfl⟩, ⟨⟨D, dc, hv, hd.but hb (ho.mono fun _ h => h.1), hl, ho, hm⟩, h.but.trans hb⟩, hb⟩
 ·obtain ⟨j, h1, h2, h3⟩ := h.cur
  have hjl : j < log.length := by
   rcases Nat.lt_or_ge j log.length with h | h
   ·exact h
   ·rw [List.drop_of_length_le h] at h2; cases h2
  have hr : log[j]? = some r := by rw [← List.head?_drop, h2]; rfl
  have hj : j < n := by have := ok.log.1; omega
  obtain ⟨_, _, _, _, _, _, _, hrp⟩ := ok.log.at_ j r hr
  have hdr : log.drop (j + 1) = s := by rw [← List.drop_drop, h2]; rfl
  have hrn := hrp.n
  refine (refDo_toldF g A n cap (.int .i64 0) (.int .i64 0) (.int .u64 0) (.int .u64 0) (.slice none 0 0) (.slice none 0 0) log j hj r hr (accC k i a b d) D dc none 0 w0 w (Lib.hid ok.log) (Lib.hid (ok.below.trans (h.but.below.mono ok.old))) ok.old (Lib.hid h3)).mono ?_
  rintro e w' ⟨B, bn, bc, rfl, hv, hb⟩
  refine ⟨⟨r.n, B, bn, bc, r.fl, rfl, fun hk => ?_, fun hk => ?_⟩, ⟨⟨j + 1, by omega, hdr, hv⟩, h.but.trans hb⟩, hb⟩
  ·show r.n = toldR k r
   unfold toldR
   rw [if_pos hk, Nat.mod_eq_of_lt hrn]
  ·show r.fl = decide (toldR k r ≠ 0)
   unfold toldR
   rw [if_neg (by omega)]
   cases r.fl <;> rfl
 ·obtain ⟨D', dc', h1, h2, h3, h4, h5⟩ := h.cur
  refine (refDo_stopF g A n cap _ _ _ _ _ _ (n : Int) (accC k i a b d) D dc none 0 w (Lib.hid h1)).mono ?_
  rintro e w' ⟨B, bn, bc, rfl, hv, hb⟩
  exact ⟨⟨0, B, bn, bc, false, rfl, fun _ => rfl, fun _ => rfl⟩, ⟨⟨D', dc', hv, h2.but hb (h4.mono fun _ h => h.1), h3, h4, h5⟩, h.but.trans hb⟩, hb⟩
theorem curDoM (ok : CurOk g A n log w0 wb) (c : CSD) (k i : Int) (a b : Nat) (hk : k < 5) (w : World) (h : CurID g A n cap log w0 wb c w) :
  Calls Tryz.prog 151 #[.pointer (some ⟨g, 0, none⟩), .agg #[.int .i64 k, .int .i64 i, .int .u64 (a : Int), .int .u64 (b : Int), .slice none 0 0, .slice none 0 0]] w (fun e w' => (∃ B bn bc fl, e = .returned (.agg #[.int .u64 (((c.tell k i a b []).1 : Nat) : Int), .slice B bn bc, .bool fl])) ∧ CurID g A n cap log w0 wb (c.tell k i a b []).2 w' ∧ But g w w') := by
 refine (curDoF ok c k i a b [] none 0 w h (AtB.nil _ _) (Nat.le_refl 0) (OffW.nil _ _) (by decide)).mono ?_
 rintro e w' ⟨⟨N, B, bn, bc, fl, rfl, h1, h2⟩, h3⟩
 exact ⟨⟨B, bn, bc, fl, by rw [h1 hk]⟩, h3⟩
def GoR (g : Nat) (A : Option Addr) (n cap : Nat) (log : List Res) (w0 wb w : World) (R : RanD (List Res)) (ret : Nat → Value) (q : Nat → Prd) (e : Ending) (w' : World) : Prop :=
 ∃ d c', e = .returned (ret d) ∧ d < 18446744073709551616 ∧ CurID g A n cap log w0 wb c' w' ∧ But g w w' ∧ (q d).runCD c' = R
def RefD (g : Nat) (A : Option Addr) (n cap : Nat) (log : List Res) (w0 wb : World) (ret : Nat → Value) (R : RanD (List Res)) (e : Ending) (w' : World) : Prop :=
 ∃ d c', e = .returned (ret d) ∧ CurID g A n cap log w0 wb c' w' ∧ (Prd.ret d).runCD c' = R
section
variable (OK : Hid (CurOk g A n log w0 wb)) {R : RanD (List Res)} {f : Nat → Prd} {c : CSD}
include OK
theorem rLoadD {i : Int} (hR : (Prd.ask 0 i 0 0 [] f).runCD c = R) (w : World) (hI : CurID g A n cap log w0 wb c w) : Calls Tryz.prog 106 #[.pointer (some ⟨g, 0, none⟩), .int .i64 i] w (GoR g A n cap log w0 wb w R (fun n => .int .u64 (n : Int)) f) :=
 (curLoad_of g i _ _ (fun x y h hb => h.below hb) w hI.lt (curDoM OK.out c 0 i 0 0 (by decide) w hI)).mono fun e w' h => ⟨_, _, h.1, c.small _ _ _ _ _, h.2.1, h.2.2, by rw [← hR, Prd.runCD_ask]⟩
theorem rLoadDP {i : Int} (hp : c.plain) (hR : (Prd.ask 0 i 0 0 [] f).runCD c = R) (w : World) (hI : CurID g A n cap log w0 wb c w) : Calls Tryz.prog 106 #[.pointer (some ⟨g, 0, none⟩), .int .i64 i] w (fun e w' => ∃ d c', e = .returned (.int .u64 ((d : Nat) : Int)) ∧ d < 18446744073709551616 ∧ CurID g A n cap log w0 wb c' w' ∧ But g w w' ∧ (f d).runCD c' = R ∧ c'.plain) :=
 (curLoad_of g i _ _ (fun x y h hb => h.below hb) w hI.lt (curDoM OK.out c 0 i 0 0 (by decide) w hI)).mono fun e w' h => ⟨_, _, h.1, c.small _ _ _ _ _, h.2.1, h.2.2, by rw [← hR, Prd.runCD_ask], CSD.plain_tell hp _ _ _ _⟩
theorem rStoreD {i : Int} {a : Nat} (hR : (Prd.ask 1 i a 0 [] f).runCD c = R) (w : World) (hI : CurID g A n cap log w0 wb c w) : Calls Tryz.prog 119 #[.pointer (some ⟨g, 0, none⟩), .int .i64 i, .int .u64 (a : Int)] w (GoR g A n cap log w0 wb w R (fun _ => .tuple #[]) f) :=
 (curStore_of g i a (c.tell 1 i a 0 []).1 _ (fun x y h hb => h.below hb) w hI.lt (curDoM OK.out c 1 i a 0 (by decide) w hI)).mono fun e w' h => ⟨(c.tell 1 i a 0 []).1, _, h.1, c.small _ _ _ _ _, h.2.1, h.2.2, by rw [← hR, Prd.runCD_ask]⟩
theorem rCasD {i : Int} {a b : Nat} (hR : (Prd.ask 2 i a b [] f).runCD c = R) (w : World) (hI : CurID g A n cap log w0 wb c w) : Calls Tryz.prog 160 #[.pointer (some ⟨g, 0, none⟩), .int .i64 i, .int .u64 (a : Int), .int .u64 (b : Int)] w (GoR g A n cap log w0 wb w R (fun n => .bool ((n : Int) == 1)) f) :=
 (curCas_of g i a b _ _ (fun x y h hb => h.below hb) w hI.lt (curDoM OK.out c 2 i a b (by decide) w hI)).mono fun e w' h => ⟨_, _, h.1, c.small _ _ _ _ _, h.2.1, h.2.2, by rw [← hR, Prd.runCD_ask]⟩
theorem rAddD {i : Int} {a : Nat} (hR : (Prd.ask 3 i a 0 [] f).runCD c = R) (w : World) (hI : CurID g A n cap log w0 wb c w) : Calls Tryz.prog 157 #[.pointer (some ⟨g, 0, none⟩), .int .i64 i, .int .u64 (a : Int)] w (GoR g A n cap log w0 wb w R (fun n => .int .u64 (n : Int)) f) :=
 (curAdd_of g i a _ _ (fun x y h hb => h.below hb) w hI.lt (curDoM OK.out c 3 i a 0 (by decide) w hI)).mono fun e w' h => ⟨_, _, h.1, c.small _ _ _ _ _, h.2.1, h.2.2, by rw [← hR, Prd.runCD_ask]⟩
def GoF (g : Nat) (A : Option Addr) (n cap : Nat) (log : List Res) (w0 wb w : World) (R : RanD (List Res)) (q : Nat → Prd) (e : Ending) (w' : World) : Prop :=
 ∃ N B bn bc d c', e = .returned (.agg #[.int .u64 ((N : Nat) : Int), .slice B bn bc, .bool (decide (d ≠ 0))]) ∧ CurID g A n cap log w0 wb c' w' ∧ But g w w' ∧ (q d).runCD c' = R
theorem rDiskD {k : Int} (hk : 5 ≤ k) {d : List Nat} (hR : (Prd.ask k 0 0 0 d f).runCD c = R) (D : Option Addr) (dc : Nat) (w : World) (hI : CurID g A n cap log w0 wb c w) (hd : AtB w D d.length d) (hl : d.length ≤ dc) (ho : OffW (fun c => c ≠ g ∧ wb.heap.size ≤ c) D d.length) (hm : d.length ≤ 100000) :
  Calls Tryz.prog 151 #[.pointer (some ⟨g, 0, none⟩), .agg #[.int .i64 k, .int .i64 0, .int .u64 0, .int .u64 0, .slice D d.length dc, .slice none 0 0]] w (GoF g A n cap log w0 wb w R f) := by
 refine (curDoF OK.out c k 0 0 0 d D dc w hI hd hl ho hm).mono ?_
 rintro e w' ⟨⟨N, B, bn, bc, fl, rfl, h1, h2⟩, h3, h4⟩
 exact ⟨N, B, bn, bc, (c.tell k 0 0 0 d).1, _, by rw [h2 hk], h3, h4, by rw [← hR, Prd.runCD_ask]⟩
end
theorem RefD.fin {R : RanD (List Res)} {d : Nat} {c : CSD} {w' : World} {ret : Nat → Value} (h : (Prd.ret d).runCD c = R) (hI : CurID g A n cap log w0 wb c w') : RefD g A n cap log w0 wb ret R (.returned (ret d)) w' := ⟨d, c, rfl, hI, h⟩
end
end Go.Proofs.YtibpfkcackdbgaaGreatDoor
namespace Go.Proofs.YtibpfkcackdbgaaGreatDoor
open Go.ChangeShapes Go.WideShapes Go.ChangeAt Go.RowKit Go.BigFrame Go.Deep
set_option linter.unusedVariables false
set_option maxRecDepth 100000
set_option linter.unusedSectionVars false
def NormAt (F : Act → World → Prop) : Exit → Act → World → Prop
 | .normal, a, w => F a w
 | _, _, _ => False
theorem wp_one {P : Program} {c : Code} {Q : Exit → Act → World → Prop} {a : Act} {w : World} (B : Act) (F : World → Prop) (h : c.wp P (NormAt fun a' w' => a' = B ∧ F w') a w) (hk : ∀ w', F w' → Q .normal B w') : c.wp P Q a w :=
 wp_mono h fun e a' w' hn => by
  cases e with
  | normal => obtain ⟨rfl, hf⟩ := hn; exact hk _ hf
  | _ => exact hn.elim
section
variable {g : Nat} {A : Option Addr} {n cap : Nat} {log : List Res} {w0 wb : World} (OK : Hid (CurOk g A n log w0 wb))
include OK
set_option maxHeartbeats 4000000 in
set_option maxRecDepth 100000 in
theorem rMake_prg (t r : Nat) (ek : Int) (es y u v x m : Nat) (ht : t ≤ 64) (h1 : 1 ≤ r) (hr : r < 1048576) (c : CSD) (R : RanD (List Res)) (hR : (Prd.make t r y u v x m).runCD c = R) (w : World) (hI : CurID g A n cap log w0 wb c w) :
  Calls Tryz.prog 111 #[.pointer (some ⟨g, 0, none⟩), .int .i64 (t : Int), .int .i64 (r : Int), .agg #[.int .i64 ek, .int .u64 (es : Int), .int .u64 (y : Int), .int .u64 (u : Int), .int .u64 (v : Int), .int .u64 (x : Int)], .int .u64 (m : Int)] w (RefD g A n cap log w0 wb (fun d => .int .u64 (d : Int)) R) := by
 unfold Prd.make at hR
 have HK1 : ∀ w, Calls Tryz.prog 15 #[.int .i64 (t : Int), .int .i64 (r : Int), .int .i64 1] w fun e w' => e = .returned (.int .i64 (fieldN t r 1 : Nat)) ∧ w = w' := fun w => refField_any t r 1 (by omega) h1 (by omega) (by omega) w
 have HK2 : ∀ w, Calls Tryz.prog 15 #[.int .i64 (t : Int), .int .i64 (r : Int), .int .i64 2] w fun e w' => e = .returned (.int .i64 (fieldN t r 2 : Nat)) ∧ w = w' := fun w => refField_any t r 2 (by omega) h1 (by omega) (by omega) w
 have HK3 : ∀ w, Calls Tryz.prog 15 #[.int .i64 (t : Int), .int .i64 (r : Int), .int .i64 3] w fun e w' => e = .returned (.int .i64 (fieldN t r 3 : Nat)) ∧ w = w' := fun w => refField_any t r 3 (by omega) h1 (by omega) (by omega) w
 have HK4 : ∀ w, Calls Tryz.prog 15 #[.int .i64 (t : Int), .int .i64 (r : Int), .int .i64 4] w fun e w' => e = .returned (.int .i64 (fieldN t r 4 : Nat)) ∧ w = w' := fun w => refField_any t r 4 (by omega) h1 (by omega) (by omega) w
 have HK5 : ∀ w, Calls Tryz.prog 15 #[.int .i64 (t : Int), .int .i64 (r : Int), .int .i64 5] w fun e w' => e = .returned (.int .i64 (fieldN t r 5 : Nat)) ∧ w = w' := fun w => refField_any t r 5 (by omega) h1 (by omega) (by omega) w
 have HK6 : ∀ w, Calls Tryz.prog 15 #[.int .i64 (t : Int), .int .i64 (r : Int), .int .i64 6] w fun e w' => e = .returned (.int .i64 (fieldN t r 6 : Nat)) ∧ w = w' := fun w => refField_any t r 6 (by omega) h1 (by omega) (by omega) w
 generalize fieldN t r 1 = p1 at *
 generalize fieldN t r 2 = p2 at *
 generalize fieldN t r 3 = p3 at *
 generalize fieldN t r 4 = p4 at *
 generalize fieldN t r 5 = p5 at *
 generalize fieldN t r 6 = p6 at *
 have HL : ∀ w, CurID g A n cap log w0 wb c w → Calls Tryz.prog 157 #[.pointer (some ⟨g, 0, none⟩), .int .i64 2, .int .u64 1] w (GoR g A n cap log w0 wb w R (fun n => .int .u64 (n : Int)) _) := fun w h => rAddD OK (i := 2) (a := 1) hR w h
 have HI := Lib.hid hI
 have hgw := hI.lt
 have HOK := Lib.hid OK
 clear hI hR ht h1 hr
 go_enter Tryz.func111, Tryz.ntmps111
 go_wp2_with fail
 have hal := al_below w (.cells #[.int .i64 ek, .int .u64 (es : Int), .int .u64 (y : Int), .int .u64 (u : Int), .int .u64 (v : Int), .int .u64 (x : Int)] 95)
 have hbx := VarAt.made w #[.int .i64 ek, .int .u64 (es : Int), .int .u64 (y : Int), .int .u64 (u : Int), .int .u64 (v : Int), .int .u64 (x : Int)] 95
 generalize (w.alloc (.cells #[.int .i64 ek, .int .u64 (es : Int), .int .u64 (y : Int), .int .u64 (u : Int), .int .u64 (v : Int), .int .u64 (x : Int)] 95)) = z at hal hbx ⊢
 have HI1 := Lib.hid (HI.out.below hal)
 obtain ⟨bx, hbe⟩ : ∃ b, w.heap.size = b := ⟨_, rfl⟩
 rw [hbe] at hbx ⊢
 have HNE := Lib.hid (show bx ≠ g by omega)
 have HBX := Lib.hid hbx
 clear hal hbx hgw HI hbe
 (with_reducible refine (HL _ HI1.out).mono ?_)
 clear HL HI1
 rintro e w2 ⟨q, c2, rfl, hd, hi, hbt, hr⟩
 dsimp only at hr
 have hw : IntKind.u64.wrap ((q : Int) + 1) = (((q + 1) % 18446744073709551616 : Nat) : Int) := by rw [IntKind.wrap_u64]; omega
 have HFL : ∀ w, Calls Tryz.prog 158 #[.int .u64 (((q + 1) % 18446744073709551616 : Nat) : Int), .int .i64 0] w fun e w' => e = .returned (.int .u64 (flagN ((q + 1) % 18446744073709551616) 0 : Nat)) ∧ w = w' := fun w => refFlag_any ((q + 1) % 18446744073709551616) 0 w
 have HS := fun w h => rStoreD (cap := cap) (wb := wb) OK hr w h
 have HI2 := Lib.hid hi
 have HX2 := Lib.hid (HBX.out.but hbt HNE.out)
 clear hd hi hbt hr HBX
 generalize (q + 1) % 18446744073709551616 = st at *
 generalize flagN st 0 = fl at *
 go_wp2_with (first | (go_at_call 15; (with_reducible refine (HK2 _).mono ?_); rintro e w' ⟨rfl, rfl⟩) | (go_at_call 158; (with_reducible refine (HFL _).mono ?_); rintro e w' ⟨rfl, rfl⟩))
 (with_reducible refine (HS _ HI2.out).mono ?_)
 clear HS HI2
 rintro e w3 ⟨q3, c3, rfl, hd, hi, hbt, hr⟩
 dsimp only at hr
 have HS := fun w h => rStoreD (cap := cap) (wb := wb) OK hr w h
 have HX3 := Lib.hid (HX2.out.but hbt HNE.out)
 have HI3 := Lib.hid (hi.below (Below.refl w3.heap.size w3).drew)
 obtain ⟨_, ⟨a0, a1, a2, a3, a4, a5⟩, _⟩ := HX3.out.six
 clear hd hi hbt hr HX2
 go_upto_region 3 with fail
 apply wp_one (F := fun w' => ∃ c', CurID g A n cap log w0 wb c' w' ∧ VarAt w' bx [.int .i64 ek, .int .u64 (es : Int), .int .u64 (y : Int), .int .u64 (u : Int), .int .u64 (v : Int), .int .u64 (x : Int)] ∧ (Prd.ask 1 ((p3 : Nat) : Int) m 0 [] fun _ => Prd.ask 1 ((p4 : Nat) : Int) u 0 [] fun _ => Prd.ask 1 ((p5 : Nat) : Int) v 0 [] fun _ => Prd.ask 1 ((p6 : Nat) : Int) x 0 [] fun _ => Prd.ret st).runCD c' = R)
 case h =>
  go_region_with (first | (go_at_call 15; (with_reducible refine (HK1 _).mono ?_); rintro e w' ⟨rfl, rfl⟩) | (go_at_call 119; (with_reducible refine (HS _ HI3.out).mono ?_); rintro e w4 ⟨q4, c4, rfl, hd, hi, hbt, hr⟩))
  all_goals exact ⟨rfl, c4, hi, ((HX3.out.drewN 1).but hbt HNE.out), hr⟩
 rintro w4 ⟨c4, hi, hx, hr⟩
 have HX4 := Lib.hid hx
 clear hx HS HI3 HX3 a0 a1 a2 a3 a4 a5
 have HS := fun w h => rStoreD (cap := cap) (wb := wb) OK hr w h
 have HI4 := Lib.hid hi
 clear hi hr
 go_wp2_with (go_at_call 15; (with_reducible refine (HK3 _).mono ?_); rintro e w' ⟨rfl, rfl⟩)
 (with_reducible refine (HS _ HI4.out).mono ?_)
 clear HS HI4
 rintro e w5 ⟨q5, c5, rfl, hd, hi, hbt, hr⟩
 dsimp only at hr
 have HS := fun w h => rStoreD (cap := cap) (wb := wb) OK hr w h
 have HX5 := Lib.hid (HX4.out.but hbt HNE.out)
 have HI5 := Lib.hid (hi.below (Below.refl w5.heap.size w5).drew)
 obtain ⟨_, ⟨a0, a1, a2, a3, a4, a5⟩, _⟩ := HX5.out.six
 clear hd hi hbt hr HX4
 go_upto_region 5 with fail
 apply wp_one (F := fun w' => ∃ c', CurID g A n cap log w0 wb c' w' ∧ VarAt w' bx [.int .i64 ek, .int .u64 (es : Int), .int .u64 (y : Int), .int .u64 (u : Int), .int .u64 (v : Int), .int .u64 (x : Int)] ∧ (Prd.ask 1 ((p5 : Nat) : Int) v 0 [] fun _ => Prd.ask 1 ((p6 : Nat) : Int) x 0 [] fun _ => Prd.ret st).runCD c' = R)
 case h =>
  go_region_with (first | (go_at_call 15; (with_reducible refine (HK4 _).mono ?_); rintro e w' ⟨rfl, rfl⟩) | (go_at_call 119; (with_reducible refine (HS _ HI5.out).mono ?_); rintro e w6 ⟨q6, c6, rfl, hd, hi, hbt, hr⟩))
  all_goals exact ⟨rfl, c6, hi, ((HX5.out.drewN 1).but hbt HNE.out), hr⟩
 rintro w6 ⟨c6, hi, hx, hr⟩
 have HX6 := Lib.hid hx
 clear hx HS HI5 HX5 a0 a1 a2 a3 a4 a5
 have HX5 := HX6
 have hbt := But.refl g w6
 have hd : True := trivial
 have HS := fun w h => rStoreD (cap := cap) (wb := wb) OK hr w h
 have HX6 := Lib.hid (HX5.out.but hbt HNE.out)
 have HI6 := Lib.hid (hi.below (Below.refl w6.heap.size w6).drew)
 obtain ⟨_, ⟨a0, a1, a2, a3, a4, a5⟩, _⟩ := HX6.out.six
 clear hd hi hbt hr HX5
 go_upto_region 6 with fail
 apply wp_one (F := fun w' => ∃ c', CurID g A n cap log w0 wb c' w' ∧ VarAt w' bx [.int .i64 ek, .int .u64 (es : Int), .int .u64 (y : Int), .int .u64 (u : Int), .int .u64 (v : Int), .int .u64 (x : Int)] ∧ (Prd.ask 1 ((p6 : Nat) : Int) x 0 [] fun _ => Prd.ret st).runCD c' = R)
 case h =>
  go_region_with (first | (go_at_call 15; (with_reducible refine (HK5 _).mono ?_); rintro e w' ⟨rfl, rfl⟩) | (go_at_call 119; (with_reducible refine (HS _ HI6.out).mono ?_); rintro e w7 ⟨q7, c7, rfl, hd, hi, hbt, hr⟩))
  all_goals exact ⟨rfl, c7, hi, ((HX6.out.drewN 1).but hbt HNE.out), hr⟩
 rintro w7 ⟨c7, hi, hx, hr⟩
 have HX7 := Lib.hid hx
 clear hx HS HI6 HX6 a0 a1 a2 a3 a4 a5
 have HX6 := HX7
 have hbt := But.refl g w7
 have hd : True := trivial
 have HS := fun w h => rStoreD (cap := cap) (wb := wb) OK hr w h
 have HX7 := Lib.hid (HX6.out.but hbt HNE.out)
 have HI7 := Lib.hid (hi.below (Below.refl w7.heap.size w7).drew)
 obtain ⟨_, ⟨a0, a1, a2, a3, a4, a5⟩, _⟩ := HX7.out.six
 clear hd hi hbt hr HX6
 go_upto_region 7 with fail
 apply wp_one (F := fun w' => ∃ c', CurID g A n cap log w0 wb c' w' ∧ VarAt w' bx [.int .i64 ek, .int .u64 (es : Int), .int .u64 (y : Int), .int .u64 (u : Int), .int .u64 (v : Int), .int .u64 (x : Int)] ∧ (Prd.ret st).runCD c' = R)
 case h =>
  go_region_with (first | (go_at_call 15; (with_reducible refine (HK6 _).mono ?_); rintro e w' ⟨rfl, rfl⟩) | (go_at_call 119; (with_reducible refine (HS _ HI7.out).mono ?_); rintro e w8 ⟨q8, c8, rfl, hd, hi, hbt, hr⟩))
  all_goals exact ⟨rfl, c8, hi, ((HX7.out.drewN 1).but hbt HNE.out), hr⟩
 rintro w8 ⟨c8, hi, hx, hr⟩
 have HX8 := Lib.hid hx
 clear hx HS HI7 HX7 a0 a1 a2 a3 a4 a5
 have HE := Lib.hid (RefD.fin (ret := fun d => .int .u64 (d : Int)) hr hi)
 clear hi hr
 go_wp2_with fail
 go_ret
 exact HE.out
omit OK in
theorem rWith_any (f b : Nat) (hf : f < 18446744073709551616) (hb : b = 1 ∨ b = 2) (h : hasF f (b : Int) = false) (w : World) :
  Calls Tryz.prog 189 #[.int .u64 (f : Int), .int .i64 (b : Int)] w fun e w' => e = .returned (.int .u64 ((f + b : Nat) : Int)) ∧ w = w' := by
 have HH := fun w => refHas_any f (b : Int) hf w
 have hlt := (or_bit hf hb h).2
 rw [h] at HH
 have hc : IntKind.u64.wrap (b : Int) = (b : Int) := by rw [IntKind.wrap_u64]; omega
 have hw : IntKind.u64.wrap ((f : Int) + (b : Int)) = ((f + b : Nat) : Int) := by rw [IntKind.wrap_u64]; omega
 clear h hb hf
 generalize f + b = q at *
 go_enter Tryz.func189, Tryz.ntmps189
 go_wp2_with (go_at_call 19; (with_reducible refine (HH _).mono ?_); rintro e w' ⟨rfl, rfl⟩)
 go_ret
 exact ⟨rfl, rfl⟩
set_option maxHeartbeats 4000000 in
theorem rSet_prg (t r b m : Nat) (ht : t ≤ 64) (h1 : 1 ≤ r) (hr : r < 1048576) (hbit : b = 1 ∨ b = 2) (c : CSD) (R : RanD (List Res)) (hb : R ≠ .bad) (hR : (Prd.set t r b m).runCD c = R) (w : World) (hI : CurID g A n cap log w0 wb c w) :
  Calls Tryz.prog 164 #[.pointer (some ⟨g, 0, none⟩), .int .i64 (t : Int), .int .i64 (r : Int), .int .i64 (b : Int)] w (RefD g A n cap log w0 wb (fun _ => .tuple #[]) R) := by
 unfold Prd.set at hR
 have HK2 : ∀ w, Calls Tryz.prog 15 #[.int .i64 (t : Int), .int .i64 (r : Int), .int .i64 2] w fun e w' => e = .returned (.int .i64 (fieldN t r 2 : Nat)) ∧ w = w' := fun w => refField_any t r 2 (by omega) h1 (by omega) (by omega) w
 have HB := Lib.hid hb
 have HBI := Lib.hid hbit
 generalize fieldN t r 2 = p at *
 obtain ⟨J, hJ⟩ : ∃ J : Nat → World → Prop, J = fun m wr => ∃ c, CurID g A n cap log w0 wb c wr ∧ (Prd.raise p b (fun g => hasF g (b : Int)) m).runCD c = R := ⟨_, rfl⟩
 have HJ : ∀ m wr, J m wr ↔ ∃ c, CurID g A n cap log w0 wb c wr ∧ (Prd.raise p b (fun g => hasF g (b : Int)) m).runCD c = R := fun m wr => by rw [hJ]
 have HJ0 := Lib.hid (show ∃ m, J m w from ⟨m, (HJ _ _).2 ⟨c, hI, hR⟩⟩)
 have HJH := Lib.hid HJ
 clear hJ hI hR HJ ht h1 hr hb hbit
 go_enter Tryz.func164, Tryz.ntmps164
 go_wp2_with fail
 go_loopw [8, 9, 10] (fun _ _ _ wr => ∃ m, J m wr) (fun _ _ _ wr => cnt J wr)
 case atStart => exact HJ0.out
 case round =>
  clear HJ0
  have hj := cnt_spec hrel
  clear hrel
  generalize hm : cnt J wr = m' at *
  have HM := Lib.hid hm
  clear hm
  obtain ⟨c3, hS, hr⟩ := (HJH.out _ _).1 hj
  clear hj
  have c2' := hS.two
  have hgw := hS.lt
  by_cases hst : c3.stops = true
  ·rw [hst] at c2'
   have HE := Lib.hid (RefD.fin (ret := fun _ => .tuple #[]) (d := 0) ((Prd.runCD_stop hst _).trans hr) hS)
   clear hS hst hr
   go_wp2_with fail
   go_end0
   exact HE.out
  have hst' : c3.stops = false := by simpa using hst
  rw [hst'] at c2'
  cases m' with
  | zero =>
   cases c3 with
   | «at» s => exact absurd hr.symm HB.out
   | stop k i a b d => exact absurd rfl hst
  | succ m' =>
  have hr1 : (Prd.ask 0 ((p : Nat) : Int) 0 0 [] fun g => if hasF g (b : Int) = true then Prd.ret 0 else Prd.ask 2 ((p : Nat) : Int) g (g + b) [] fun d => if d = 1 then Prd.ret 0 else Prd.raise p b (fun g => hasF g (b : Int)) m').runCD c3 = R := hr
  have HL := rLoadD (cap := cap) (wb := wb) OK hr1
  have HI3 := Lib.hid hS
  clear hS hr hr1 hst hst'
  go_wp2_with (go_at_call 15; (with_reducible refine (HK2 _).mono ?_); rintro e w' ⟨rfl, rfl⟩)
  (with_reducible refine (HL _ HI3.out).mono ?_)
  clear HL HI3 c2' hgw
  rintro e w4 ⟨f, c4, rfl, hn, hi, hbt, hr⟩
  dsimp only at hr
  have HH := fun w => refHas_any f (b : Int) hn w
  have HI4 := Lib.hid hi
  clear hi hbt
  cases hf : hasF f (b : Int) with
  | true =>
   rw [hf] at HH
   rw [if_pos hf] at hr
   have HE := Lib.hid (RefD.fin (ret := fun _ => .tuple #[]) hr HI4.out)
   clear hr hf
   go_wp2_with (go_at_call 19; (with_reducible refine (HH _).mono ?_); rintro e w' ⟨rfl, rfl⟩)
   exact bodyPost_ret (v := .tuple #[]) (by simp [results, Tryz.results164, go_sem]) rfl HE.out
  | false =>
   rw [hf] at HH
   rw [if_neg (by rw [hf]; decide)] at hr
   have HW := fun w => rWith_any f b hn HBI.out hf w
   have HC := rCasD (cap := cap) (wb := wb) OK hr
   clear hr hf hn
   generalize f + b = fb at *
   go_wp2_with (first | (go_at_call 19; (with_reducible refine (HH _).mono ?_); rintro e w' ⟨rfl, rfl⟩) | (go_at_call 15; (with_reducible refine (HK2 _).mono ?_); rintro e w' ⟨rfl, rfl⟩) | (go_at_call 189; (with_reducible refine (HW _).mono ?_); rintro e w' ⟨rfl, rfl⟩))
   (with_reducible refine (HC _ HI4.out).mono ?_)
   clear HC HI4
   rintro e w6 ⟨d, c6, rfl, hn, hi, hbt, hr⟩
   dsimp only at hr
   by_cases hd : d = 1
   ·rw [if_pos hd] at hr
    have dd := eq1 hd
    have HE := Lib.hid (RefD.fin (ret := fun _ => .tuple #[]) hr hi)
    clear hr hd hi hbt hn
    go_wp2_with fail
    exact bodyPost_ret (v := .tuple #[]) (by simp [results, Tryz.results164, go_sem]) rfl HE.out
   ·rw [if_neg hd] at hr
    have dd := ne1 hd
    have hj : J m' w6 := (HJH.out _ _).2 ⟨c6, hi, hr⟩
    have HJ6 := Lib.hid hj
    clear hr hd hi hj hbt hn
    go_wp2_with fail
    go_roundw
    case rel => exact ⟨m', HJ6.out⟩
    case measure => exact cnt_lt HJ6.out (Nat.lt_succ_self m')
end
end Go.Proofs.YtibpfkcackdbgaaGreatDoor
namespace Go.Proofs.YtibpfkcackdbgaaGreatDoor
open Go.ChangeShapes Go.WideShapes Go.ChangeAt Go.RowKit Go.BigFrame Go.Deep
set_option linter.unusedVariables false
set_option maxRecDepth 100000
set_option linter.unusedSectionVars false
theorem rBytes_any (k : Int) (s y u v x : Nat) (hf : (Ent.mk k s y u v x).fit) (w : World) :
  Calls Tryz.prog 188 #[.agg #[.int .i64 k, .int .u64 (s : Int), .int .u64 (y : Int), .int .u64 (u : Int), .int .u64 (v : Int), .int .u64 (x : Int)]] w (DataPost w (dataN ⟨k, s, y, u, v, x⟩)) := by
 unfold DataPost
 by_cases h : (Ent.mk k s y u v x).mayB = true
 ·have hd : dataN ⟨k, s, y, u, v, x⟩ = frameN (Ent.mk k s y u v x).bytes := by unfold dataN; rw [if_pos h]
  have hp := Ent.bytes_pos (Ent.mk k s y u v x)
  have hfl := frame_length (Ent.mk k s y u v x).bytes
  have HEN := fun w => refEncode_yes k s y u v x hf h _ _ rfl rfl w
  rw [hd, hfl]
  clear h hd hfl hf
  generalize (Ent.mk k s y u v x).bytes = ys at *
  generalize ys.length = n at *
  go_enter Tryz.func188, Tryz.ntmps188
  go_wp2_with fail
  (with_reducible refine (HEN _).mono ?_)
  clear HEN
  rintro e w3 ⟨v3, rfl, hO3, hb3⟩
  obtain ⟨A3, k3, rfl, hk3, hat3⟩ := hO3.at_ (by omega)
  have hb0 := al_below w (.cells #[.int .i64 k, .int .u64 (s : Int), .int .u64 (y : Int), .int .u64 (u : Int), .int .u64 (v : Int), .int .u64 (x : Int)] 95)
  have HB3 : Hid (Below w.heap.size w w3) := Lib.hid (hb0.trans (hb3.mono hb0.size))
  have HA3 := Lib.hid hat3
  clear hb3 hO3 hat3 hb0
  go_wp2_with fail
  (with_reducible refine (refPut_at A3 n k3 ys hp.1 (by omega) w3 HA3).mono ?_)
  rintro e w4 ⟨v4, rfl, hO4, hb4⟩
  have HB4 : Hid (Below w.heap.size w w4) := Lib.hid (HB3.out.trans (hb4.mono HB3.out.size))
  have HO4 := Lib.hid (hO4.lower HB3.out.size)
  clear hb4 hO4 HA3
  go_wp2_with fail
  go_ret
  exact ⟨v4, rfl, HO4.out, HB4.out⟩
 ·have h' : (Ent.mk k s y u v x).mayB = false := by simpa using h
  have hd : dataN ⟨k, s, y, u, v, x⟩ = [] := by unfold dataN; rw [if_neg h]
  have HEN := fun w => refEncode_no k s y u v x hf.2.1 h' w
  rw [hd]
  clear h h' hd hf
  go_enter Tryz.func188, Tryz.ntmps188
  go_wp2_with fail
  (with_reducible refine (HEN _).mono ?_)
  clear HEN
  rintro e w3 ⟨rfl, hb3⟩
  have hb0 := al_below w (.cells #[.int .i64 k, .int .u64 (s : Int), .int .u64 (y : Int), .int .u64 (u : Int), .int .u64 (v : Int), .int .u64 (x : Int)] 95)
  have HB3 : Hid (Below w.heap.size w w3) := Lib.hid (hb0.trans (hb3.mono hb0.size))
  clear hb3 hb0
  go_wp2_with fail
  go_ret
  exact ⟨_, rfl, Own.none _ _, HB3.out⟩
section
variable {g : Nat} {A : Option Addr} {n cap : Nat} {log : List Res} {w0 wb : World} (OK : Hid (CurOk g A n log w0 wb))
include OK
set_option maxHeartbeats 8000000 in
set_option maxRecDepth 100000 in
theorem rRest_prg (hgb : g < wb.heap.size) (t r b f m : Nat) (ht : t ≤ 64) (h1 : 1 ≤ r) (hr : r < 1048576) (hbit : b = 1 ∨ b = 2) (hf : f < 18446744073709551616) (c : CSD) (hpl : c.plain) (R : RanD (List Res)) (hb : R ≠ .bad) (hR : (Prd.rest t r b f m).runCD c = R) (w : World) (hI : CurID g A n cap log w0 wb c w) :
  Calls Tryz.prog 154 #[.pointer (some ⟨g, 0, none⟩), .int .i64 (t : Int), .int .i64 (r : Int), .int .i64 (b : Int), .int .u64 (f : Int)] w (RefD g A n cap log w0 wb (fun d => .bool ((d : Int) == 1)) R) := by
 have HH := fun w => refHas_any f (b : Int) hf w
 have HS := fun w => refStamp_any f hf w
 unfold Prd.rest at hR
 have HK1 : ∀ w, Calls Tryz.prog 15 #[.int .i64 (t : Int), .int .i64 (r : Int), .int .i64 1] w fun e w' => e = .returned (.int .i64 (fieldN t r 1 : Nat)) ∧ w = w' := fun w => refField_any t r 1 (by omega) h1 (by omega) (by omega) w
 have HK2 : ∀ w, Calls Tryz.prog 15 #[.int .i64 (t : Int), .int .i64 (r : Int), .int .i64 2] w fun e w' => e = .returned (.int .i64 (fieldN t r 2 : Nat)) ∧ w = w' := fun w => refField_any t r 2 (by omega) h1 (by omega) (by omega) w
 have HK4 : ∀ w, Calls Tryz.prog 15 #[.int .i64 (t : Int), .int .i64 (r : Int), .int .i64 4] w fun e w' => e = .returned (.int .i64 (fieldN t r 4 : Nat)) ∧ w = w' := fun w => refField_any t r 4 (by omega) h1 (by omega) (by omega) w
 have HK5 : ∀ w, Calls Tryz.prog 15 #[.int .i64 (t : Int), .int .i64 (r : Int), .int .i64 5] w fun e w' => e = .returned (.int .i64 (fieldN t r 5 : Nat)) ∧ w = w' := fun w => refField_any t r 5 (by omega) h1 (by omega) (by omega) w
 have HK6 : ∀ w, Calls Tryz.prog 15 #[.int .i64 (t : Int), .int .i64 (r : Int), .int .i64 6] w fun e w' => e = .returned (.int .i64 (fieldN t r 6 : Nat)) ∧ w = w' := fun w => refField_any t r 6 (by omega) h1 (by omega) (by omega) w
 have HB := Lib.hid hb
 have hgw := hI.lt
 have hbw := hI.but.size
 cases hh : hasF f (b : Int) with
 | true =>
  rw [hh] at HH
  rw [if_pos hh] at hR
  have HE := Lib.hid (RefD.fin (ret := fun d => .bool ((d : Int) == 1)) hR hI)
  clear hI hR ht h1 hr hb hh hf hgw hbw HK1 HK2 HK4 HK5 HK6 HB HS hpl
  go_enter Tryz.func154, Tryz.ntmps154
  go_wp2_with (go_at_call 19; (with_reducible refine (HH _).mono ?_); rintro e w' ⟨rfl, rfl⟩)
  go_ret
  exact HE.out
 | false =>
  rw [hh] at HH
  rw [if_neg (by rw [hh]; decide)] at hR
  have hst : stampN f < 18446744073709551616 := by unfold stampN; omega
  have HBIT := Lib.hid hbit
  have HGB := Lib.hid hgb
  have HST := Lib.hid hst
  have HPL := Lib.hid hpl
  have HI := Lib.hid hI
  obtain ⟨bx, hbe⟩ : ∃ b, w.heap.size = b := ⟨_, rfl⟩
  have HNE := Lib.hid (show bx ≠ g by omega)
  have HBW := Lib.hid (show wb.heap.size ≤ bx by omega)
  have HBE := Lib.hid hbe
  rcases hbit with hb1 | hb2
  ·rw [if_neg (by omega)] at hR
   have db : ((b : Int) == 1) = true := by rw [beq_iff_eq]; omega
   have HL := fun w h => rLoadDP (cap := cap) (wb := wb) OK hpl hR w h
   clear hI hR ht h1 hr hb hh hf hgw hbw hpl hst hgb hbe hb1
   generalize stampN f = st at *
   go_enter Tryz.func154, Tryz.ntmps154
   go_upto_region 7 with (first | (go_at_call 19; (with_reducible refine (HH _).mono ?_); rintro e w' ⟨rfl, rfl⟩) | (go_at_call 115; (with_reducible refine (HS _).mono ?_); rintro e w' ⟨rfl, rfl⟩))
   rw [HBE.out]
   refine gen_w (P := fun W => Code.wp _ _ _ _ W) (fun q => CurID g A n cap log w0 wb c q ∧ VarAt q bx [.int .i64 1, .int .u64 (st : Int), .int .u64 0, .int .u64 0, .int .u64 0, .int .u64 0]) ⟨by first | exact HI.out.below belA | exact (HI.out.below (al_below w _)).put _ _ HPL.out HGB.out HBW.out, by rw [← HBE.out]; first | exact VarAt.made w #[.int .i64 1, .int .u64 (st : Int), .int .u64 0, .int .u64 0, .int .u64 0, .int .u64 0] 95 | exact (VarAt.made w #[.int .i64 2, .int .u64 (st : Int), .int .u64 0, .int .u64 0, .int .u64 0, .int .u64 0] 95).setAt 0 (.int .i64 1) (by simp)⟩ ?_
   rintro z0 ⟨hi, hx⟩
   have HI0 := Lib.hid hi
   have HX0 := Lib.hid hx
   clear hi hx HI
   go_wp2_with (go_at_call 15; (with_reducible refine (HK1 _).mono ?_); rintro e w' ⟨rfl, rfl⟩)
   (with_reducible refine (HL _ HI0.out).mono ?_)
   clear HL HI0
   rintro e w1' ⟨ny, c1, rfl, hn, hi, hbt, hr, hp⟩
   try dsimp only at hr
   have HN0 := Lib.hid hn
   have hx := HX0.out.but hbt HNE.out
   have HII := Lib.hid hi
   have HXX := Lib.hid hx
   have HPP := Lib.hid hp
   obtain ⟨zz, ⟨e0, e1, e2, e3, e4, e5⟩, f0, f1, f2, f3, f4, f5⟩ := hx.six
   have HL := fun w h => rLoadDP (cap := cap) (wb := wb) OK hp hr w h
   clear hn hi hbt hr hp hx HX0
   go_upto_region 8 with fail
   refine gen_w (P := fun W => Code.wp _ _ _ _ W) (fun q => CurID g A n cap log w0 wb c1 q ∧ VarAt q bx [.int .i64 1, .int .u64 (st : Int), .int .u64 (ny : Int), .int .u64 0, .int .u64 0, .int .u64 0]) ⟨HII.out.put _ _ HPP.out HGB.out HBW.out, HXX.out.setAt 2 _ (by simp)⟩ ?_
   clear zz e0 e1 e2 e3 e4 e5 f0 f1 f2 f3 f4 f5 HII HXX HPP
   rintro z1 ⟨hi, hx⟩
   have HI1 := Lib.hid hi
   have HX1 := Lib.hid hx
   clear hi hx
   go_wp2_with (go_at_call 15; (with_reducible refine (HK4 _).mono ?_); rintro e w' ⟨rfl, rfl⟩)
   (with_reducible refine (HL _ HI1.out).mono ?_)
   clear HL HI1
   rintro e w2' ⟨nu, c2, rfl, hn, hi, hbt, hr, hp⟩
   try dsimp only at hr
   have HN1 := Lib.hid hn
   have hx := HX1.out.but hbt HNE.out
   have HII := Lib.hid hi
   have HXX := Lib.hid hx
   have HPP := Lib.hid hp
   obtain ⟨zz, ⟨e0, e1, e2, e3, e4, e5⟩, f0, f1, f2, f3, f4, f5⟩ := hx.six
   have HL := fun w h => rLoadDP (cap := cap) (wb := wb) OK hp hr w h
   clear hn hi hbt hr hp hx HX1
   go_upto_region 9 with fail
   refine gen_w (P := fun W => Code.wp _ _ _ _ W) (fun q => CurID g A n cap log w0 wb c2 q ∧ VarAt q bx [.int .i64 1, .int .u64 (st : Int), .int .u64 (ny : Int), .int .u64 (nu : Int), .int .u64 0, .int .u64 0]) ⟨HII.out.put _ _ HPP.out HGB.out HBW.out, HXX.out.setAt 3 _ (by simp)⟩ ?_
   clear zz e0 e1 e2 e3 e4 e5 f0 f1 f2 f3 f4 f5 HII HXX HPP
   rintro z2 ⟨hi, hx⟩
   have HI2 := Lib.hid hi
   have HX2 := Lib.hid hx
   clear hi hx
   go_wp2_with (go_at_call 15; (with_reducible refine (HK5 _).mono ?_); rintro e w' ⟨rfl, rfl⟩)
   (with_reducible refine (HL _ HI2.out).mono ?_)
   clear HL HI2
   rintro e w3' ⟨nv, c3, rfl, hn, hi, hbt, hr, hp⟩
   try dsimp only at hr
   have HN2 := Lib.hid hn
   have hx := HX2.out.but hbt HNE.out
   have HII := Lib.hid hi
   have HXX := Lib.hid hx
   have HPP := Lib.hid hp
   obtain ⟨zz, ⟨e0, e1, e2, e3, e4, e5⟩, f0, f1, f2, f3, f4, f5⟩ := hx.six
   have HL := fun w h => rLoadDP (cap := cap) (wb := wb) OK hp hr w h
   clear hn hi hbt hr hp hx HX2
   go_upto_region 10 with fail
   refine gen_w (P := fun W => Code.wp _ _ _ _ W) (fun q => CurID g A n cap log w0 wb c3 q ∧ VarAt q bx [.int .i64 1, .int .u64 (st : Int), .int .u64 (ny : Int), .int .u64 (nu : Int), .int .u64 (nv : Int), .int .u64 0]) ⟨HII.out.put _ _ HPP.out HGB.out HBW.out, HXX.out.setAt 4 _ (by simp)⟩ ?_
   clear zz e0 e1 e2 e3 e4 e5 f0 f1 f2 f3 f4 f5 HII HXX HPP
   rintro z3 ⟨hi, hx⟩
   have HI3 := Lib.hid hi
   have HX3 := Lib.hid hx
   clear hi hx
   go_wp2_with (go_at_call 15; (with_reducible refine (HK6 _).mono ?_); rintro e w' ⟨rfl, rfl⟩)
   (with_reducible refine (HL _ HI3.out).mono ?_)
   clear HL HI3
   rintro e w4' ⟨nx, c4, rfl, hn, hi, hbt, hr, hp⟩
   try dsimp only at hr
   have HN3 := Lib.hid hn
   have hx := HX3.out.but hbt HNE.out
   have HII := Lib.hid hi
   have HXX := Lib.hid hx
   have HPP := Lib.hid hp
   obtain ⟨zz, ⟨e0, e1, e2, e3, e4, e5⟩, f0, f1, f2, f3, f4, f5⟩ := hx.six
   have HR := Lib.hid hr
   clear hn hi hbt hr hp hx HX3
   go_upto_region 11 with fail
   refine gen_w (P := fun W => Code.wp _ _ _ _ W) (fun q => CurID g A n cap log w0 wb c4 q ∧ VarAt q bx [.int .i64 1, .int .u64 (st : Int), .int .u64 (ny : Int), .int .u64 (nu : Int), .int .u64 (nv : Int), .int .u64 (nx : Int)]) ⟨HII.out.put _ _ HPP.out HGB.out HBW.out, HXX.out.setAt 5 _ (by simp)⟩ ?_
   clear zz e0 e1 e2 e3 e4 e5 f0 f1 f2 f3 f4 f5 HII HXX HPP
   rintro z ⟨hcur, hbox⟩
   have hr := HR.out
   obtain ⟨zc, ⟨e0, e1, e2, e3, e4, e5⟩, _⟩ := hbox.six
   have HBY : ∀ w, Calls Tryz.prog 188 #[.agg #[.int .i64 1, .int .u64 (st : Int), .int .u64 (ny : Int), .int .u64 (nu : Int), .int .u64 (nv : Int), .int .u64 (nx : Int)]] w (DataPost w (dataN ⟨1, st, ny, nu, nv, nx⟩)) := fun w => rBytes_any 1 st ny nu nv nx ⟨HST.out, HN0.out, HN1.out, HN2.out, HN3.out⟩ w
   have hdl := data_len ⟨1, st, ny, nu, nv, nx⟩
   have HC1 := Lib.hid hcur
   have HBX1 := Lib.hid hbox
   have HR1 := Lib.hid hr
   clear hcur hbox hr
   generalize dataN ⟨1, st, ny, nu, nv, nx⟩ = dd at *
   go_wp2_with fail
   (with_reducible refine (HBY _).mono ?_)
   clear HBY
   rintro e w3 ⟨v3, rfl, hown, hb3⟩
   obtain ⟨D, dc, rfl, hdc, hat⟩ := hown.at_ (by omega)
   have hlt1 := HC1.out.lt
   have HOF : Hid (OffW (fun c => c ≠ g ∧ wb.heap.size ≤ c) D dd.length) := Lib.hid (hown.off.mono fun c hc => ⟨by omega, by have := HC1.out.but.size; omega⟩)
   have HC3 := Lib.hid (HC1.out.below hb3)
   have HBX3 := Lib.hid (HBX1.out.below hb3)
   have HAT := Lib.hid hat
   have hr2 : (Prd.ask 5 0 0 0 dd fun x => (if x = 0 then Prd.sync else .ret 0).bind fun x => if x = 1 then (Prd.raise (fieldN t r 2) b (Prd.over st b) m).bind fun _ => .ret 1 else .ret 0).runCD c4 = R := HR1.out
   have HD := rDiskD OK (by decide) hr2 D dc w3 HC3.out hat hdc HOF.out (by omega)
   clear hown hb3 hat hlt1 HC1 HBX1 HR1 hr2 hdl hdc
   obtain ⟨nd, hnd⟩ : ∃ q, dd.length = q := ⟨_, rfl⟩
   rw [hnd] at HD ⊢
   have HND := Lib.hid hnd
   clear hnd HAT HOF HC3 e0 e1 e2 e3 e4 e5 zc
   go_wp2_with fail
   (with_reducible refine HD.mono ?_)
   clear HD
   rintro e w4 ⟨N4, B4, bn4, bc4, d4, c4, rfl, hi, hbt, hr⟩
   dsimp only at hr
   have HBX4 := Lib.hid (HBX3.out.but hbt HNE.out)
   clear HBX3 hbt
   by_cases h4 : d4 = 0
   ·subst h4
    rw [if_pos rfl] at hr
    have hr2 : (Prd.ask 6 0 0 0 [] fun y => (if y = 0 then Prd.ret 1 else .ret 0).bind fun x => if x = 1 then (Prd.raise (fieldN t r 2) b (Prd.over st b) m).bind fun _ => .ret 1 else .ret 0).runCD c4 = R := hr
    have dd4 : decide ((0 : Nat) ≠ 0) = false := by decide
    rw [dd4]
    clear dd4 hr
    have HC4 := Lib.hid hi
    have HR4 := Lib.hid hr2
    clear hi hr2
    go_wp2_with fail
    refine gen_w (P := fun W => Calls _ _ _ W _) (fun y => CurID g A n cap log w0 wb c4 y ∧ VarAt y bx [.int .i64 1, .int .u64 (st : Int), .int .u64 (ny : Int), .int .u64 (nu : Int), .int .u64 (nv : Int), .int .u64 (nx : Int)]) ⟨HC4.out.below belA, HBX4.out.below belA⟩ ?_
    rintro z5 ⟨hi5, hx5⟩
    have HX5 := Lib.hid hx5
    have HD : Calls Tryz.prog 151 #[.pointer (some ⟨g, 0, none⟩), .agg #[.int .i64 6, .int .i64 0, .int .u64 0, .int .u64 0, .slice none 0 0, .slice none 0 0]] z5 _ := rDiskD OK (by decide) HR4.out none 0 z5 hi5 (AtB.nil _ _) (Nat.le_refl 0) (OffW.nil _ _) (by decide)
    clear hx5 hi5 HC4 HBX4 HR4
    (with_reducible refine HD.mono ?_)
    clear HD
    rintro e w6 ⟨N6, B6, bn6, bc6, d6, c6, rfl, hi, hbt, hr⟩
    try dsimp only at hr
    have HBX6 := Lib.hid (HX5.out.but hbt HNE.out)
    clear HX5 hbt
    by_cases h6 : d6 = 0
    ·subst h6
     rw [if_pos rfl] at hr
     have hr3 : ((Prd.raise (fieldN t r 2) b (Prd.over st b) m).bind fun _ => .ret 1).runCD c6 = R := hr
     have dd6 : decide ((0 : Nat) ≠ 0) = false := by decide
     rw [dd6]
     clear dd6 hr
     have HC6 := Lib.hid hi
     have HR6 := Lib.hid hr3
     clear hi hr3
     go_upto_region 17 with fail
     refine gen_w (P := fun W => Code.wp _ _ _ _ W) (fun y => CurID g A n cap log w0 wb c6 y ∧ VarAt y bx [.int .i64 1, .int .u64 (st : Int), .int .u64 (ny : Int), .int .u64 (nu : Int), .int .u64 (nv : Int), .int .u64 (nx : Int)]) ⟨HC6.out.below belA, HBX6.out.below belA⟩ ?_
     rintro z7 ⟨hi7, hx7⟩
     have HX7 := Lib.hid hx7
     obtain ⟨J, hJ⟩ : ∃ J : Nat → World → Prop, J = fun m wr => ∃ c, CurID g A n cap log w0 wb c wr ∧ VarAt wr bx [.int .i64 1, .int .u64 (st : Int), .int .u64 (ny : Int), .int .u64 (nu : Int), .int .u64 (nv : Int), .int .u64 (nx : Int)] ∧ ((Prd.raise (fieldN t r 2) b (Prd.over st b) m).bind fun _ => .ret 1).runCD c = R := ⟨_, rfl⟩
     have HJ : ∀ m wr, J m wr ↔ ∃ c, CurID g A n cap log w0 wb c wr ∧ VarAt wr bx [.int .i64 1, .int .u64 (st : Int), .int .u64 (ny : Int), .int .u64 (nu : Int), .int .u64 (nv : Int), .int .u64 (nx : Int)] ∧ ((Prd.raise (fieldN t r 2) b (Prd.over st b) m).bind fun _ => .ret 1).runCD c = R := fun m wr => by rw [hJ]
     have HJ0 := Lib.hid (show ∃ m, J m z7 from ⟨m, (HJ _ _).2 ⟨c6, hi7, hx7, HR6.out⟩⟩)
     have HJH := Lib.hid HJ
     clear hJ hi7 hx7 HJ HX7 HC6 HR6 HBX6
     generalize hp2 : fieldN t r 2 = p2 at *
     clear hp2
     go_wp2_with fail
     go_loopw [15, 16, 17] (fun _ _ _ wr => ∃ m, J m wr) (fun _ _ _ wr => cnt J wr)
     case atStart => exact HJ0.out
     case round =>
      clear HJ0
      have hj := cnt_spec hrel
      clear hrel
      generalize hm : cnt J wr = m' at *
      have HM := Lib.hid hm
      clear hm
      obtain ⟨c8, hS, hx, hr⟩ := (HJH.out _ _).1 hj
      clear hj
      have c2' := hS.two
      have hgw := hS.lt
      by_cases hst : c8.stops = true
      ·rw [hst] at c2'
       have HE := Lib.hid (RefD.fin (ret := fun d => .bool ((d : Int) == 1)) (d := 1) ((Prd.runCD_stop hst _).trans hr) hS)
       clear hS hst hr hx
       go_wp2_with fail
       go_ret
       exact HE.out
      have hst' : c8.stops = false := by simpa using hst
      rw [hst'] at c2'
      cases m' with
      | zero =>
       cases c8 with
       | «at» s => exact absurd hr.symm HB.out
       | stop k i a b d => exact absurd rfl hst
      | succ m' =>
      have hr1 : (Prd.ask 0 ((p2 : Nat) : Int) 0 0 [] fun g => (if Prd.over st b g = true then Prd.ret 0 else Prd.ask 2 ((p2 : Nat) : Int) g (g + b) [] fun d => if d = 1 then Prd.ret 0 else Prd.raise p2 b (Prd.over st b) m').bind fun _ => .ret 1).runCD c8 = R := hr
      have HL := rLoadD (cap := cap) (wb := wb) OK hr1
      have HI3 := Lib.hid hS
      have HX8 := Lib.hid hx
      clear hS hr hr1 hst hst' hx
      go_wp2_with (go_at_call 15; (with_reducible refine (HK2 _).mono ?_); rintro e w' ⟨rfl, rfl⟩)
      (with_reducible refine (HL _ HI3.out).mono ?_)
      clear HL HI3 c2' hgw
      rintro e w9 ⟨f, c9, rfl, hn, hi, hbt, hr⟩
      try dsimp only at hr
      have HH := fun w => refHas_any f (b : Int) hn w
      have HT := fun w => refStamp_any f hn w
      have hx9 := HX8.out.but hbt HNE.out
      have HX9 := Lib.hid hx9
      have HI9 := Lib.hid hi
      obtain ⟨zc, ⟨e0, e1, e2, e3, e4, e5⟩, _⟩ := hx9.six
      clear hi hbt HX8 hx9
      have hDN : ∀ q, CurID g A n cap log w0 wb c9 (w9.drewN q) ∧ VarAt (w9.drewN q) bx [.int .i64 1, .int .u64 (st : Int), .int .u64 (ny : Int), .int .u64 (nu : Int), .int .u64 (nv : Int), .int .u64 (nx : Int)] := fun q => ⟨HI9.out.below (below_draw (Below.refl _ _) q), HX9.out.below (below_draw (Below.refl _ _) q)⟩
      have HDN := Lib.hid hDN
      clear hDN
      cases hf : hasF f (b : Int) with
      | true =>
       have hov : Prd.over st b f = true := by unfold Prd.over; rw [hf]; simp
       rw [if_pos hov] at hr
       have hr2 : (Prd.ret 1).runCD c9 = R := hr
       have HR9 := Lib.hid hr2
       rw [hf] at HH
       clear hr hr2 hf hov hn
       generalize stampN f = sf at *
       go_wp2_with (first | (go_at_call 19; (with_reducible refine (HH _).mono ?_); rintro e w' ⟨rfl, rfl⟩))
       go_quiet (first | (go_at_call 115; with_reducible exact quiet_call (HT _)))
       go_wp2_with fail
       go_ret
       exact RefD.fin (ret := fun d => .bool ((d : Int) == 1)) HR9.out (HDN.out _).1
      | false =>
       rw [hf] at HH
       by_cases hs : stampN f = st
       ·have hov : ¬ (Prd.over st b f = true) := by unfold Prd.over; rw [hf, hs]; simp
        rw [if_neg hov] at hr
        have hr2 : (Prd.ask 2 ((p2 : Nat) : Int) f (f + b) [] fun d => (if d = 1 then Prd.ret 0 else Prd.raise p2 b (Prd.over st b) m').bind fun _ => .ret 1).runCD c9 = R := hr
        have HW := fun w => rWith_any f b hn HBIT.out hf w
        have HC := rCasD (cap := cap) (wb := wb) OK hr2
        have ds : (((stampN f : Nat) : Int) != (st : Int)) = false := by rw [bne_eq_false_iff_eq]; omega
        clear hr hr2 hf hov hn hs
        generalize stampN f = sf at *
        generalize f + b = fb at *
        go_wp2_with (first | (go_at_call 19; (with_reducible refine (HH _).mono ?_); rintro e w' ⟨rfl, rfl⟩))
        go_quiet (first | (go_at_call 115; with_reducible exact quiet_call (HT _)))
        go_wp2_with (first | (go_at_call 15; (with_reducible refine (HK2 _).mono ?_); rintro e w' ⟨rfl, rfl⟩) | (go_at_call 189; (with_reducible refine (HW _).mono ?_); rintro e w' ⟨rfl, rfl⟩))
        (with_reducible refine (HC _ (HDN.out _).1).mono ?_)
        clear HC
        rintro e w10 ⟨d, c10, rfl, hn, hi, hbt, hr⟩
        dsimp only at hr
        have HX10 := Lib.hid ((HDN.out _).2.but hbt HNE.out)
        clear hbt
        by_cases hd : d = 1
        ·rw [if_pos hd] at hr
         have dd := eq1 hd
         have hr2 : (Prd.ret 1).runCD c10 = R := hr
         have HE := Lib.hid (RefD.fin (ret := fun d => .bool ((d : Int) == 1)) hr2 hi)
         clear hr hd hi hn hr2
         go_wp2_with fail
         go_ret
         exact HE.out
        ·rw [if_neg hd] at hr
         have dd := ne1 hd
         have hr2 : ((Prd.raise p2 b (Prd.over st b) m').bind fun _ => .ret 1).runCD c10 = R := hr
         have hj : J m' w10 := (HJH.out _ _).2 ⟨c10, hi, HX10.out, hr2⟩
         have HJ6 := Lib.hid hj
         clear hr hd hi hj hn hr2
         go_wp2_with fail
         go_roundw
         case rel => exact ⟨m', HJ6.out⟩
         case measure => exact cnt_lt HJ6.out (Nat.lt_succ_self m')
       ·have hov : Prd.over st b f = true := by unfold Prd.over; simp [hs]
        rw [if_pos hov] at hr
        have hr2 : (Prd.ret 1).runCD c9 = R := hr
        have HR9 := Lib.hid hr2
        have ds : (((stampN f : Nat) : Int) != (st : Int)) = true := by rw [bne_iff_ne]; omega
        clear hr hr2 hf hov hn hs
        generalize stampN f = sf at *
        go_wp2_with (first | (go_at_call 19; (with_reducible refine (HH _).mono ?_); rintro e w' ⟨rfl, rfl⟩))
        go_quiet (first | (go_at_call 115; with_reducible exact quiet_call (HT _)))
        go_wp2_with fail
        go_ret
        exact RefD.fin (ret := fun d => .bool ((d : Int) == 1)) HR9.out (HDN.out _).1
    ·have dd6 : decide (d6 ≠ 0) = true := by simpa using h6
     rw [dd6]
     rw [if_neg h6] at hr
     have HE := Lib.hid (RefD.fin (ret := fun d => .bool ((d : Int) == 1)) (d := 0) hr (hi.below (al_below w6 (.cells #[.int .u64 (N6 : Int), .slice B6 bn6 bc6, .bool true] 81))))
     clear h6 dd6 hr hi
     go_wp2_with fail
     go_ret
     exact HE.out
   ·have dd4 : decide (d4 ≠ 0) = true := by simpa using h4
    rw [dd4]
    rw [if_neg h4] at hr
    have HE := Lib.hid (RefD.fin (ret := fun d => .bool ((d : Int) == 1)) (d := 0) hr (hi.below (al_below w4 (.cells #[.int .u64 (N4 : Int), .slice B4 bn4 bc4, .bool true] 81))))
    clear h4 dd4 hr hi
    go_wp2_with fail
    go_ret
    exact HE.out
  ·rw [if_pos hb2] at hR
   have db : ((b : Int) == 1) = false := by rw [beq_eq_false_iff_ne]; omega
   clear hb2
   have HR := Lib.hid hR
   clear hI hR ht h1 hr hb hh hf hgw hbw hpl hst hgb hbe
   generalize stampN f = st at *
   go_enter Tryz.func154, Tryz.ntmps154
   go_upto_region 11 with (first | (go_at_call 19; (with_reducible refine (HH _).mono ?_); rintro e w' ⟨rfl, rfl⟩) | (go_at_call 115; (with_reducible refine (HS _).mono ?_); rintro e w' ⟨rfl, rfl⟩))
   rw [HBE.out]
   refine gen_w (P := fun W => Code.wp _ _ _ _ W) (fun q => CurID g A n cap log w0 wb c q ∧ VarAt q bx [.int .i64 2, .int .u64 (st : Int), .int .u64 0, .int .u64 0, .int .u64 0, .int .u64 0]) ⟨HI.out.below belA, by rw [← HBE.out]; exact VarAt.made w #[.int .i64 2, .int .u64 (st : Int), .int .u64 0, .int .u64 0, .int .u64 0, .int .u64 0] 95⟩ ?_
   rintro z ⟨hcur, hbox⟩
   have hr := HR.out
   clear HI
   obtain ⟨zc, ⟨e0, e1, e2, e3, e4, e5⟩, _⟩ := hbox.six
   have HBY : ∀ w, Calls Tryz.prog 188 #[.agg #[.int .i64 2, .int .u64 (st : Int), .int .u64 0, .int .u64 0, .int .u64 0, .int .u64 0]] w (DataPost w (dataN ⟨2, st, 0, 0, 0, 0⟩)) := fun w => rBytes_any 2 st 0 0 0 0 ⟨HST.out, (show (0 : Nat) < _ by decide), (show (0 : Nat) < _ by decide), (show (0 : Nat) < _ by decide), (show (0 : Nat) < _ by decide)⟩ w
   have hdl := data_len ⟨2, st, 0, 0, 0, 0⟩
   have HC1 := Lib.hid hcur
   have HBX1 := Lib.hid hbox
   have HR1 := Lib.hid hr
   clear hcur hbox hr
   generalize dataN ⟨2, st, 0, 0, 0, 0⟩ = dd at *
   go_wp2_with fail
   (with_reducible refine (HBY _).mono ?_)
   clear HBY
   rintro e w3 ⟨v3, rfl, hown, hb3⟩
   obtain ⟨D, dc, rfl, hdc, hat⟩ := hown.at_ (by omega)
   have hlt1 := HC1.out.lt
   have HOF : Hid (OffW (fun c => c ≠ g ∧ wb.heap.size ≤ c) D dd.length) := Lib.hid (hown.off.mono fun c hc => ⟨by omega, by have := HC1.out.but.size; omega⟩)
   have HC3 := Lib.hid (HC1.out.below hb3)
   have HBX3 := Lib.hid (HBX1.out.below hb3)
   have HAT := Lib.hid hat
   have hr2 : (Prd.ask 5 0 0 0 dd fun x => (if x = 0 then Prd.sync else .ret 0).bind fun x => if x = 1 then (Prd.raise (fieldN t r 2) b (Prd.over st b) m).bind fun _ => .ret 1 else .ret 0).runCD c = R := HR1.out
   have HD := rDiskD OK (by decide) hr2 D dc w3 HC3.out hat hdc HOF.out (by omega)
   clear hown hb3 hat hlt1 HC1 HBX1 HR1 hr2 hdl hdc
   obtain ⟨nd, hnd⟩ : ∃ q, dd.length = q := ⟨_, rfl⟩
   rw [hnd] at HD ⊢
   have HND := Lib.hid hnd
   clear hnd HAT HOF HC3 e0 e1 e2 e3 e4 e5 zc
   go_wp2_with fail
   (with_reducible refine HD.mono ?_)
   clear HD
   rintro e w4 ⟨N4, B4, bn4, bc4, d4, c4, rfl, hi, hbt, hr⟩
   dsimp only at hr
   have HBX4 := Lib.hid (HBX3.out.but hbt HNE.out)
   clear HBX3 hbt
   by_cases h4 : d4 = 0
   ·subst h4
    rw [if_pos rfl] at hr
    have hr2 : (Prd.ask 6 0 0 0 [] fun y => (if y = 0 then Prd.ret 1 else .ret 0).bind fun x => if x = 1 then (Prd.raise (fieldN t r 2) b (Prd.over st b) m).bind fun _ => .ret 1 else .ret 0).runCD c4 = R := hr
    have dd4 : decide ((0 : Nat) ≠ 0) = false := by decide
    rw [dd4]
    clear dd4 hr
    have HC4 := Lib.hid hi
    have HR4 := Lib.hid hr2
    clear hi hr2
    go_wp2_with fail
    refine gen_w (P := fun W => Calls _ _ _ W _) (fun y => CurID g A n cap log w0 wb c4 y ∧ VarAt y bx [.int .i64 2, .int .u64 (st : Int), .int .u64 0, .int .u64 0, .int .u64 0, .int .u64 0]) ⟨HC4.out.below belA, HBX4.out.below belA⟩ ?_
    rintro z5 ⟨hi5, hx5⟩
    have HX5 := Lib.hid hx5
    have HD : Calls Tryz.prog 151 #[.pointer (some ⟨g, 0, none⟩), .agg #[.int .i64 6, .int .i64 0, .int .u64 0, .int .u64 0, .slice none 0 0, .slice none 0 0]] z5 _ := rDiskD OK (by decide) HR4.out none 0 z5 hi5 (AtB.nil _ _) (Nat.le_refl 0) (OffW.nil _ _) (by decide)
    clear hx5 hi5 HC4 HBX4 HR4
    (with_reducible refine HD.mono ?_)
    clear HD
    rintro e w6 ⟨N6, B6, bn6, bc6, d6, c6, rfl, hi, hbt, hr⟩
    try dsimp only at hr
    have HBX6 := Lib.hid (HX5.out.but hbt HNE.out)
    clear HX5 hbt
    by_cases h6 : d6 = 0
    ·subst h6
     rw [if_pos rfl] at hr
     have hr3 : ((Prd.raise (fieldN t r 2) b (Prd.over st b) m).bind fun _ => .ret 1).runCD c6 = R := hr
     have dd6 : decide ((0 : Nat) ≠ 0) = false := by decide
     rw [dd6]
     clear dd6 hr
     have HC6 := Lib.hid hi
     have HR6 := Lib.hid hr3
     clear hi hr3
     go_upto_region 17 with fail
     refine gen_w (P := fun W => Code.wp _ _ _ _ W) (fun y => CurID g A n cap log w0 wb c6 y ∧ VarAt y bx [.int .i64 2, .int .u64 (st : Int), .int .u64 0, .int .u64 0, .int .u64 0, .int .u64 0]) ⟨HC6.out.below belA, HBX6.out.below belA⟩ ?_
     rintro z7 ⟨hi7, hx7⟩
     have HX7 := Lib.hid hx7
     obtain ⟨J, hJ⟩ : ∃ J : Nat → World → Prop, J = fun m wr => ∃ c, CurID g A n cap log w0 wb c wr ∧ VarAt wr bx [.int .i64 2, .int .u64 (st : Int), .int .u64 0, .int .u64 0, .int .u64 0, .int .u64 0] ∧ ((Prd.raise (fieldN t r 2) b (Prd.over st b) m).bind fun _ => .ret 1).runCD c = R := ⟨_, rfl⟩
     have HJ : ∀ m wr, J m wr ↔ ∃ c, CurID g A n cap log w0 wb c wr ∧ VarAt wr bx [.int .i64 2, .int .u64 (st : Int), .int .u64 0, .int .u64 0, .int .u64 0, .int .u64 0] ∧ ((Prd.raise (fieldN t r 2) b (Prd.over st b) m).bind fun _ => .ret 1).runCD c = R := fun m wr => by rw [hJ]
     have HJ0 := Lib.hid (show ∃ m, J m z7 from ⟨m, (HJ _ _).2 ⟨c6, hi7, hx7, HR6.out⟩⟩)
     have HJH := Lib.hid HJ
     clear hJ hi7 hx7 HJ HX7 HC6 HR6 HBX6
     generalize hp2 : fieldN t r 2 = p2 at *
     clear hp2
     go_wp2_with fail
     go_loopw [15, 16, 17] (fun _ _ _ wr => ∃ m, J m wr) (fun _ _ _ wr => cnt J wr)
     case atStart => exact HJ0.out
     case round =>
      clear HJ0
      have hj := cnt_spec hrel
      clear hrel
      generalize hm : cnt J wr = m' at *
      have HM := Lib.hid hm
      clear hm
      obtain ⟨c8, hS, hx, hr⟩ := (HJH.out _ _).1 hj
      clear hj
      have c2' := hS.two
      have hgw := hS.lt
      by_cases hst : c8.stops = true
      ·rw [hst] at c2'
       have HE := Lib.hid (RefD.fin (ret := fun d => .bool ((d : Int) == 1)) (d := 1) ((Prd.runCD_stop hst _).trans hr) hS)
       clear hS hst hr hx
       go_wp2_with fail
       go_ret
       exact HE.out
      have hst' : c8.stops = false := by simpa using hst
      rw [hst'] at c2'
      cases m' with
      | zero =>
       cases c8 with
       | «at» s => exact absurd hr.symm HB.out
       | stop k i a b d => exact absurd rfl hst
      | succ m' =>
      have hr1 : (Prd.ask 0 ((p2 : Nat) : Int) 0 0 [] fun g => (if Prd.over st b g = true then Prd.ret 0 else Prd.ask 2 ((p2 : Nat) : Int) g (g + b) [] fun d => if d = 1 then Prd.ret 0 else Prd.raise p2 b (Prd.over st b) m').bind fun _ => .ret 1).runCD c8 = R := hr
      have HL := rLoadD (cap := cap) (wb := wb) OK hr1
      have HI3 := Lib.hid hS
      have HX8 := Lib.hid hx
      clear hS hr hr1 hst hst' hx
      go_wp2_with (go_at_call 15; (with_reducible refine (HK2 _).mono ?_); rintro e w' ⟨rfl, rfl⟩)
      (with_reducible refine (HL _ HI3.out).mono ?_)
      clear HL HI3 c2' hgw
      rintro e w9 ⟨f, c9, rfl, hn, hi, hbt, hr⟩
      try dsimp only at hr
      have HH := fun w => refHas_any f (b : Int) hn w
      have HT := fun w => refStamp_any f hn w
      have hx9 := HX8.out.but hbt HNE.out
      have HX9 := Lib.hid hx9
      have HI9 := Lib.hid hi
      obtain ⟨zc, ⟨e0, e1, e2, e3, e4, e5⟩, _⟩ := hx9.six
      clear hi hbt HX8 hx9
      have hDN : ∀ q, CurID g A n cap log w0 wb c9 (w9.drewN q) ∧ VarAt (w9.drewN q) bx [.int .i64 2, .int .u64 (st : Int), .int .u64 0, .int .u64 0, .int .u64 0, .int .u64 0] := fun q => ⟨HI9.out.below (below_draw (Below.refl _ _) q), HX9.out.below (below_draw (Below.refl _ _) q)⟩
      have HDN := Lib.hid hDN
      clear hDN
      cases hf : hasF f (b : Int) with
      | true =>
       have hov : Prd.over st b f = true := by unfold Prd.over; rw [hf]; simp
       rw [if_pos hov] at hr
       have hr2 : (Prd.ret 1).runCD c9 = R := hr
       have HR9 := Lib.hid hr2
       rw [hf] at HH
       clear hr hr2 hf hov hn
       generalize stampN f = sf at *
       go_wp2_with (first | (go_at_call 19; (with_reducible refine (HH _).mono ?_); rintro e w' ⟨rfl, rfl⟩))
       go_quiet (first | (go_at_call 115; with_reducible exact quiet_call (HT _)))
       go_wp2_with fail
       go_ret
       exact RefD.fin (ret := fun d => .bool ((d : Int) == 1)) HR9.out (HDN.out _).1
      | false =>
       rw [hf] at HH
       by_cases hs : stampN f = st
       ·have hov : ¬ (Prd.over st b f = true) := by unfold Prd.over; rw [hf, hs]; simp
        rw [if_neg hov] at hr
        have hr2 : (Prd.ask 2 ((p2 : Nat) : Int) f (f + b) [] fun d => (if d = 1 then Prd.ret 0 else Prd.raise p2 b (Prd.over st b) m').bind fun _ => .ret 1).runCD c9 = R := hr
        have HW := fun w => rWith_any f b hn HBIT.out hf w
        have HC := rCasD (cap := cap) (wb := wb) OK hr2
        have ds : (((stampN f : Nat) : Int) != (st : Int)) = false := by rw [bne_eq_false_iff_eq]; omega
        clear hr hr2 hf hov hn hs
        generalize stampN f = sf at *
        generalize f + b = fb at *
        go_wp2_with (first | (go_at_call 19; (with_reducible refine (HH _).mono ?_); rintro e w' ⟨rfl, rfl⟩))
        go_quiet (first | (go_at_call 115; with_reducible exact quiet_call (HT _)))
        go_wp2_with (first | (go_at_call 15; (with_reducible refine (HK2 _).mono ?_); rintro e w' ⟨rfl, rfl⟩) | (go_at_call 189; (with_reducible refine (HW _).mono ?_); rintro e w' ⟨rfl, rfl⟩))
        (with_reducible refine (HC _ (HDN.out _).1).mono ?_)
        clear HC
        rintro e w10 ⟨d, c10, rfl, hn, hi, hbt, hr⟩
        dsimp only at hr
        have HX10 := Lib.hid ((HDN.out _).2.but hbt HNE.out)
        clear hbt
        by_cases hd : d = 1
        ·rw [if_pos hd] at hr
         have dd := eq1 hd
         have hr2 : (Prd.ret 1).runCD c10 = R := hr
         have HE := Lib.hid (RefD.fin (ret := fun d => .bool ((d : Int) == 1)) hr2 hi)
         clear hr hd hi hn hr2
         go_wp2_with fail
         go_ret
         exact HE.out
        ·rw [if_neg hd] at hr
         have dd := ne1 hd
         have hr2 : ((Prd.raise p2 b (Prd.over st b) m').bind fun _ => .ret 1).runCD c10 = R := hr
         have hj : J m' w10 := (HJH.out _ _).2 ⟨c10, hi, HX10.out, hr2⟩
         have HJ6 := Lib.hid hj
         clear hr hd hi hj hn hr2
         go_wp2_with fail
         go_roundw
         case rel => exact ⟨m', HJ6.out⟩
         case measure => exact cnt_lt HJ6.out (Nat.lt_succ_self m')
       ·have hov : Prd.over st b f = true := by unfold Prd.over; simp [hs]
        rw [if_pos hov] at hr
        have hr2 : (Prd.ret 1).runCD c9 = R := hr
        have HR9 := Lib.hid hr2
        have ds : (((stampN f : Nat) : Int) != (st : Int)) = true := by rw [bne_iff_ne]; omega
        clear hr hr2 hf hov hn hs
        generalize stampN f = sf at *
        go_wp2_with (first | (go_at_call 19; (with_reducible refine (HH _).mono ?_); rintro e w' ⟨rfl, rfl⟩))
        go_quiet (first | (go_at_call 115; with_reducible exact quiet_call (HT _)))
        go_wp2_with fail
        go_ret
        exact RefD.fin (ret := fun d => .bool ((d : Int) == 1)) HR9.out (HDN.out _).1
    ·have dd6 : decide (d6 ≠ 0) = true := by simpa using h6
     rw [dd6]
     rw [if_neg h6] at hr
     have HE := Lib.hid (RefD.fin (ret := fun d => .bool ((d : Int) == 1)) (d := 0) hr (hi.below (al_below w6 (.cells #[.int .u64 (N6 : Int), .slice B6 bn6 bc6, .bool true] 81))))
     clear h6 dd6 hr hi
     go_wp2_with fail
     go_ret
     exact HE.out
   ·have dd4 : decide (d4 ≠ 0) = true := by simpa using h4
    rw [dd4]
    rw [if_neg h4] at hr
    have HE := Lib.hid (RefD.fin (ret := fun d => .bool ((d : Int) == 1)) (d := 0) hr (hi.below (al_below w4 (.cells #[.int .u64 (N4 : Int), .slice B4 bn4 bc4, .bool true] 81))))
    clear h4 dd4 hr hi
    go_wp2_with fail
    go_ret
    exact HE.out
set_option maxHeartbeats 1000000 in
theorem rSave_prg (hgb : g < wb.heap.size) (t r b m : Nat) (ht : t ≤ 64) (h1 : 1 ≤ r) (hr : r < 1048576) (hbit : b = 1 ∨ b = 2) (c : CSD) (hpl : c.plain) (R : RanD (List Res)) (hb : R ≠ .bad) (hR : (Prd.save t r b m).runCD c = R) (w : World) (hI : CurID g A n cap log w0 wb c w) :
  Calls Tryz.prog 109 #[.pointer (some ⟨g, 0, none⟩), .int .i64 (t : Int), .int .i64 (r : Int), .int .i64 (b : Int)] w (RefD g A n cap log w0 wb (fun d => .bool ((d : Int) == 1)) R) := by
 unfold Prd.save at hR
 have HK2 : ∀ w, Calls Tryz.prog 15 #[.int .i64 (t : Int), .int .i64 (r : Int), .int .i64 2] w fun e w' => e = .returned (.int .i64 (fieldN t r 2 : Nat)) ∧ w = w' := fun w => refField_any t r 2 (by omega) h1 (by omega) (by omega) w
 have HL := fun w h => rLoadDP (cap := cap) (wb := wb) OK hpl hR w h
 have HX := Lib.hid (And.intro hgb (And.intro ht (And.intro h1 (And.intro hr (And.intro hbit hb)))))
 have HI := Lib.hid hI
 clear hI hR hgb ht h1 hr hbit hb hpl
 generalize hp : fieldN t r 2 = p at *
 clear hp
 go_enter Tryz.func109, Tryz.ntmps109
 go_wp2_with (go_at_call 15; (with_reducible refine (HK2 _).mono ?_); rintro e w' ⟨rfl, rfl⟩)
 (with_reducible refine (HL _ HI.out).mono ?_)
 clear HL HI
 rintro e w2 ⟨f, c2, rfl, hn, hi, hbt, hr, hp⟩
 try dsimp only at hr
 have HS := rRest_prg OK HX.out.1 t r b f m HX.out.2.1 HX.out.2.2.1 HX.out.2.2.2.1 HX.out.2.2.2.2.1 hn c2 hp R HX.out.2.2.2.2.2 hr w2 hi
 clear hn hi hbt hr hp
 go_wp2_with fail
 (with_reducible refine HS.mono ?_)
 clear HS
 rintro e w3 ⟨d, c3, rfl, hi, hr⟩
 have HE := Lib.hid (And.intro hi hr)
 clear hi hr
 go_wp2_with fail
 go_ret
 exact ⟨d, c3, rfl, HE.out.1, HE.out.2⟩
end
end Go.Proofs.YtibpfkcackdbgaaGreatDoor
