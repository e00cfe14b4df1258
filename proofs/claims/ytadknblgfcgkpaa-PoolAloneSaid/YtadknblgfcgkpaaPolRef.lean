/-
  wealdref12.Next, the document's own, for every log: it runs to the same as pool.Next.
-/
import Derived.Test.YtadknblgfcgkpaaPolNext
import Derived.Test.YtadknblgfcgkpaaPlyRef
import Derived.Test.YtadknblgfcgkpaaWrdRef
namespace Go.Proofs.Ytadknblgfcgkpaa
open Go.ChangeShapes Go.WideShapes Go.ChangeAt Go.RowKit Go.BigFrame
set_option linter.unusedVariables false
set_option maxRecDepth 100000
set_option linter.unusedSectionVars false

set_option maxHeartbeats 1000000 in
theorem toldE_yes (g : Nat) (A : Option Addr) (n cap : Nat) (q0 q1 q2 q3 q4 q5 : Value) (i : Int) (er : Int) (is : Bool) (N S : Int) (w : World) (hT : Hid (VarAt w g (curV A n cap i false q0 q1 q2 q3 q4 q5))) :
    Calls Try.prog 27 #[.pointer (some ⟨g, 0, none⟩), .agg #[.int .i64 er, .bool is, .int .i64 N, .int .u64 S, .slice none 0 0]] w (Kept w (.tuple #[.agg #[.int .i64 0, .int .i64 0, .int .u64 0, .int .u64 0, .slice none 0 0, .slice none 0 0], .agg #[.int .i64 er, .bool is, .int .i64 N, .int .u64 S, .slice none 0 0], .bool true])) := by
  obtain ⟨hgz, ⟨c0, c1, c2, c3, c4, c5, c6, c7, c8⟩, f0, f1, f2, f3, f4, f5, f6, f7, f8⟩ := hT.out.nine
  have g1 : g < w.heap.size + 1 := by omega
  have g2 : g < w.heap.size + 1 + 1 := by omega
  have g3 : ¬ (g = w.heap.size) := by omega
  have g4 : ¬ (g = w.heap.size + 1) := by omega
  have g6 : ¬ (w.heap.size = g) := by omega
  have g7 : ¬ (w.heap.size + 1 = g) := by omega
  have g8 : g < w.heap.size + 1 + 1 + 1 := by omega
  have g9 : ¬ (g = w.heap.size + 1 + 1) := by omega
  go_enter Try.func27, Try.ntmps27
  go_wp2_with fail
  go_region
  all_goals
    go_wp2_with fail
    exact bodyPost_ret (v := .tuple #[.agg #[.int .i64 0, .int .i64 0, .int .u64 0, .int .u64 0, .slice none 0 0, .slice none 0 0], .agg #[.int .i64 er, .bool is, .int .i64 N, .int .u64 S, .slice none 0 0], .bool true]) (by simp [results, Try.results27, go_sem]) rfl ⟨rfl, (by repeat (first | with_reducible assumption | with_reducible exact Below.refl _ _ | with_reducible refine Below.drew ?_ | with_reducible refine below_al ?_ | (with_reducible refine below_set1 (by omega) _ ?_)))⟩
set_option maxHeartbeats 1000000 in
theorem toldE_no (g : Nat) (A : Option Addr) (n cap : Nat) (i : Int) (x : Acc) (D : Option Addr) (dc : Nat) (E : Option Addr) (ec : Nat) (er : Int) (is : Bool) (N S : Int) (w : World) (hT : Hid (VarAt w g (curV A n cap i true (.int .i64 x.k) (.int .i64 x.c) (.int .u64 (x.a : Int)) (.int .u64 (x.b : Int)) (.slice D x.d.length dc) (.slice E x.m ec)))) :
    Calls Try.prog 27 #[.pointer (some ⟨g, 0, none⟩), .agg #[.int .i64 er, .bool is, .int .i64 N, .int .u64 S, .slice none 0 0]] w (Kept w (.tuple #[.agg #[.int .i64 x.k, .int .i64 x.c, .int .u64 (x.a : Int), .int .u64 (x.b : Int), .slice D x.d.length dc, .slice E x.m ec], .agg #[.int .i64 0, .bool false, .int .i64 0, .int .u64 0, .slice none 0 0], .bool false])) := by
  obtain ⟨hgz, ⟨c0, c1, c2, c3, c4, c5, c6, c7, c8⟩, f0, f1, f2, f3, f4, f5, f6, f7, f8⟩ := hT.out.nine
  have g1 : g < w.heap.size + 1 := by omega
  have g2 : g < w.heap.size + 1 + 1 := by omega
  have g3 : ¬ (g = w.heap.size) := by omega
  have g4 : ¬ (g = w.heap.size + 1) := by omega
  have g6 : ¬ (w.heap.size = g) := by omega
  have g7 : ¬ (w.heap.size + 1 = g) := by omega
  have g8 : g < w.heap.size + 1 + 1 + 1 := by omega
  have g9 : ¬ (g = w.heap.size + 1 + 1) := by omega
  go_enter Try.func27, Try.ntmps27
  go_wp2_with fail
  exact bodyPost_ret (v := .tuple #[.agg #[.int .i64 x.k, .int .i64 x.c, .int .u64 (x.a : Int), .int .u64 (x.b : Int), .slice D x.d.length dc, .slice E x.m ec], .agg #[.int .i64 0, .bool false, .int .i64 0, .int .u64 0, .slice none 0 0], .bool false]) (by simp [results, Try.results27, go_sem]) rfl ⟨rfl, (by repeat (first | with_reducible assumption | with_reducible exact Below.refl _ _ | with_reducible refine Below.drew ?_ | with_reducible refine below_al ?_ | (with_reducible refine below_set1 (by omega) _ ?_)))⟩


/-! ### The cursor -/
/-- It stands ahead of what is left of the log. -/
def CurS (g : Nat) (A : Option Addr) (n cap : Nat) (log s : List Res) (x : World) : Prop := ∃ j : Nat, j ≤ n ∧ log.drop j = s ∧ VarAt x g (curV A n cap (j : Int) false (.int .i64 0) (.int .i64 0) (.int .u64 0) (.int .u64 0) (.slice none 0 0) (.slice none 0 0))
/-- It stopped at an access. -/
def CurX (g : Nat) (A : Option Addr) (n cap : Nat) (k i : Int) (a b : Nat) (x : World) : Prop := VarAt x g (curV A n cap (n : Int) true (.int .i64 k) (.int .i64 i) (.int .u64 (a : Int)) (.int .u64 (b : Int)) (.slice none 0 0) (.slice none 0 0))
section
variable (g : Nat) (A : Option Addr) (n cap : Nat) (log : List Res) (w0 : World)
theorem CurS.below {s : List Res} {x y : World} (h : CurS g A n cap log s x) (hb : Below x.heap.size x y) : CurS g A n cap log s y := by
  obtain ⟨j, h1, h2, h3⟩ := h
  exact ⟨j, h1, h2, h3.below hb⟩
theorem CurX.below {k i : Int} {a b : Nat} {x y : World} (h : CurX g A n cap k i a b x) (hb : Below x.heap.size x y) : CurX g A n cap k i a b y := VarAt.below h hb
theorem CurS.lt {s : List Res} {x : World} (h : CurS g A n cap log s x) : g < x.heap.size := by
  obtain ⟨j, h1, h2, h3⟩ := h
  exact h3.1
theorem curDo_told (hL : LogAt w0 A n log) (hg : w0.heap.size ≤ g) {r : Res} {rest : List Res} {k i : Int} {a b : Nat} (w : World) (h0 : Below w0.heap.size w0 w) (h : CurS g A n cap log (r :: rest) w) :
    Calls Try.prog 60 #[.pointer (some ⟨g, 0, none⟩), .agg #[.int .i64 k, .int .i64 i, .int .u64 (a : Int), .int .u64 (b : Int), .slice none 0 0, .slice none 0 0]] w (fun e w' => (∃ B bn bc fl, e = .returned (.agg #[.int .u64 ((r.n % 18446744073709551616 : Nat) : Int), .slice B bn bc, .bool fl])) ∧ CurS g A n cap log rest w' ∧ But g w w') := by
  obtain ⟨j, h1, h2, h3⟩ := h
  have hjl : j < log.length := by
    rcases Nat.lt_or_ge j log.length with h | h
    · exact h
    · rw [List.drop_of_length_le h] at h2; cases h2
  have hr : log[j]? = some r := by rw [← List.head?_drop, h2]; rfl
  have hj : j < n := by have := hL.1; omega
  obtain ⟨_, _, _, _, _, _, _, hrp⟩ := hL.at_ j r hr
  have hd : log.drop (j + 1) = rest := by rw [← List.drop_drop, h2]; rfl
  refine (refDo_told g A n cap (.int .i64 0) (.int .i64 0) (.int .u64 0) (.int .u64 0) (.slice none 0 0) (.slice none 0 0) log j hj r hr (accK k i a b) none 0 none 0 w0 w (Lib.hid hL) (Lib.hid h0) hg (Lib.hid h3)).mono ?_
  rintro e w' ⟨B, bn, bc, fl, rfl, hv, hb⟩
  exact ⟨⟨B, bn, bc, fl, by rw [Nat.mod_eq_of_lt hrp.n]⟩, ⟨j + 1, by omega, hd, hv⟩, hb⟩
theorem curDo_left (hL : LogAt w0 A n log) {k i : Int} {a b : Nat} (w : World) (h : CurS g A n cap log [] w) :
    Calls Try.prog 60 #[.pointer (some ⟨g, 0, none⟩), .agg #[.int .i64 k, .int .i64 i, .int .u64 (a : Int), .int .u64 (b : Int), .slice none 0 0, .slice none 0 0]] w (fun e w' => (∃ B bn bc fl, e = .returned (.agg #[.int .u64 ((0 : Nat) : Int), .slice B bn bc, .bool fl])) ∧ CurX g A n cap k i a b w' ∧ But g w w') := by
  obtain ⟨j, h1, h2, h3⟩ := h
  have hj : j = n := by
    rw [List.drop_eq_nil_iff] at h2
    have := hL.1
    omega
  subst hj
  refine (refDo_left g A j cap (.int .i64 0) (.int .i64 0) (.int .u64 0) (.int .u64 0) (.slice none 0 0) (.slice none 0 0) hL.2.1 (accK k i a b) none 0 none 0 w (Lib.hid h3)).mono ?_
  rintro e w' ⟨B, bn, bc, fl, rfl, hv, hb⟩
  exact ⟨⟨B, bn, bc, fl, rfl⟩, hv, hb⟩
theorem curDo_stop {k i k' i' : Int} {a b a' b' : Nat} (w : World) (h : CurX g A n cap k' i' a' b' w) :
    Calls Try.prog 60 #[.pointer (some ⟨g, 0, none⟩), .agg #[.int .i64 k, .int .i64 i, .int .u64 (a : Int), .int .u64 (b : Int), .slice none 0 0, .slice none 0 0]] w (fun e w' => (∃ B bn bc fl, e = .returned (.agg #[.int .u64 ((0 : Nat) : Int), .slice B bn bc, .bool fl])) ∧ CurX g A n cap k' i' a' b' w' ∧ But g w w') := by
  refine (refDo_stop g A n cap _ _ _ _ _ _ (n : Int) (accK k i a b) none 0 none 0 w (Lib.hid h)).mono ?_
  rintro e w' ⟨B, bn, bc, fl, rfl, hv, hb⟩
  exact ⟨⟨B, bn, bc, fl, rfl⟩, hv, hb⟩
end
theorem curLoad_of (g : Nat) (i : Int) (N : Nat) (P : World → Prop) (hP : ∀ x y, P x → Below x.heap.size x y → P y) (w : World) (hgw : g < w.heap.size)
    (h : Calls Try.prog 60 #[.pointer (some ⟨g, 0, none⟩), .agg #[.int .i64 0, .int .i64 i, .int .u64 0, .int .u64 0, .slice none 0 0, .slice none 0 0]] w (fun e w' => (∃ B bn bc fl, e = .returned (.agg #[.int .u64 (N : Int), .slice B bn bc, .bool fl])) ∧ P w' ∧ But g w w')) :
    Calls Try.prog 43 #[.pointer (some ⟨g, 0, none⟩), .int .i64 i] w (fun e w' => e = .returned (.int .u64 (N : Int)) ∧ P w' ∧ But g w w') := by
  have HG := Lib.hid hgw
  have hf := field_n
  clear hgw
  go_enter Try.func43, Try.ntmps43
  go_wp2_with fail
  (with_reducible refine h.mono ?_)
  rintro e w' ⟨⟨B, bn, bc, fl, rfl⟩, hp, hb⟩
  have HP := Lib.hid hp
  have HB := Lib.hid hb
  clear hp hb h
  go_wp2_with fail
  have hg := HG.out
  have hb := HB.out
  have hsz := hb.size
  go_ret
  exact ⟨rfl, hP _ _ HP.out (by repeat (first | with_reducible assumption | with_reducible exact Below.refl _ _ | with_reducible refine Below.drew ?_ | with_reducible refine below_al ?_ | (with_reducible refine below_set1 (by omega) _ ?_))), (by repeat (first | with_reducible assumption | with_reducible exact But.refl _ _ | with_reducible refine But.drew ?_ | (with_reducible refine But.alloc ?_ _ (by omega)) | (with_reducible refine But.set ?_ _ _) | (with_reducible refine But.new ?_ _ _ _ (by omega) (by omega))))⟩
theorem curStore_of (g : Nat) (i : Int) (a : Nat) (N : Nat) (P : World → Prop) (hP : ∀ x y, P x → Below x.heap.size x y → P y) (w : World) (hgw : g < w.heap.size)
    (h : Calls Try.prog 60 #[.pointer (some ⟨g, 0, none⟩), .agg #[.int .i64 1, .int .i64 i, .int .u64 (a : Int), .int .u64 0, .slice none 0 0, .slice none 0 0]] w (fun e w' => (∃ B bn bc fl, e = .returned (.agg #[.int .u64 (N : Int), .slice B bn bc, .bool fl])) ∧ P w' ∧ But g w w')) :
    Calls Try.prog 46 #[.pointer (some ⟨g, 0, none⟩), .int .i64 i, .int .u64 (a : Int)] w (fun e w' => e = .returned (.tuple #[]) ∧ P w' ∧ But g w w') := by
  have HG := Lib.hid hgw
  have hf := field_n
  clear hgw
  go_enter Try.func46, Try.ntmps46
  go_wp2_with fail
  (with_reducible refine h.mono ?_)
  rintro e w' ⟨⟨B, bn, bc, fl, rfl⟩, hp, hb⟩
  have HP := Lib.hid hp
  have HB := Lib.hid hb
  clear hp hb h
  go_wp2_with fail
  have hg := HG.out
  have hb := HB.out
  have hsz := hb.size
  go_end0
  exact ⟨rfl, hP _ _ HP.out (by repeat (first | with_reducible assumption | with_reducible exact Below.refl _ _ | with_reducible refine Below.drew ?_ | with_reducible refine below_al ?_ | (with_reducible refine below_set1 (by omega) _ ?_))), (by repeat (first | with_reducible assumption | with_reducible exact But.refl _ _ | with_reducible refine But.drew ?_ | (with_reducible refine But.alloc ?_ _ (by omega)) | (with_reducible refine But.set ?_ _ _) | (with_reducible refine But.new ?_ _ _ _ (by omega) (by omega))))⟩
theorem curCas_of (g : Nat) (i : Int) (a b : Nat) (N : Nat) (P : World → Prop) (hP : ∀ x y, P x → Below x.heap.size x y → P y) (w : World) (hgw : g < w.heap.size)
    (h : Calls Try.prog 60 #[.pointer (some ⟨g, 0, none⟩), .agg #[.int .i64 2, .int .i64 i, .int .u64 (a : Int), .int .u64 (b : Int), .slice none 0 0, .slice none 0 0]] w (fun e w' => (∃ B bn bc fl, e = .returned (.agg #[.int .u64 (N : Int), .slice B bn bc, .bool fl])) ∧ P w' ∧ But g w w')) :
    Calls Try.prog 44 #[.pointer (some ⟨g, 0, none⟩), .int .i64 i, .int .u64 (a : Int), .int .u64 (b : Int)] w (fun e w' => e = .returned (.bool ((N : Int) == 1)) ∧ P w' ∧ But g w w') := by
  have HG := Lib.hid hgw
  have hf := field_n
  clear hgw
  go_enter Try.func44, Try.ntmps44
  go_wp2_with fail
  (with_reducible refine h.mono ?_)
  rintro e w' ⟨⟨B, bn, bc, fl, rfl⟩, hp, hb⟩
  have HP := Lib.hid hp
  have HB := Lib.hid hb
  clear hp hb h
  go_wp2_with fail
  have hg := HG.out
  have hb := HB.out
  have hsz := hb.size
  go_ret
  exact ⟨rfl, hP _ _ HP.out (by repeat (first | with_reducible assumption | with_reducible exact Below.refl _ _ | with_reducible refine Below.drew ?_ | with_reducible refine below_al ?_ | (with_reducible refine below_set1 (by omega) _ ?_))), (by repeat (first | with_reducible assumption | with_reducible exact But.refl _ _ | with_reducible refine But.drew ?_ | (with_reducible refine But.alloc ?_ _ (by omega)) | (with_reducible refine But.set ?_ _ _) | (with_reducible refine But.new ?_ _ _ _ (by omega) (by omega))))⟩


/-! ### The cursor, as who tells accesses: it never leaves the program -/
inductive CS where
  | at (s : List Res)
  | stop (k i : Int) (a b : Nat)
def CS.tell : CS → Int → Int → Nat → Nat → Nat × CS
  | .at (r :: rest), _, _, _, _ => (r.n % 18446744073709551616, .at rest)
  | .at [], k, i, a, b => (0, .stop k i a b)
  | .stop k i a b, _, _, _, _ => (0, .stop k i a b)
def CS.stops : CS → Bool
  | .at _ => false
  | .stop _ _ _ _ => true
theorem CS.small (c : CS) (k i : Int) (a b : Nat) : (c.tell k i a b).1 < 18446744073709551616 := by
  rcases c with (_ | ⟨r, s⟩) | ⟨_, _, _, _⟩
  · exact (by decide : 0 < 18446744073709551616)
  · exact Nat.mod_lt _ (by decide)
  · exact (by decide : 0 < 18446744073709551616)
/-- The cursor stands so; its log lies there; but for it all is as it was. -/
structure CurI (g : Nat) (A : Option Addr) (n cap : Nat) (log : List Res) (w0 wb : World) (c : CS) (w : World) : Prop where
  cur : match c with | .at s => CurS g A n cap log s w | .stop k i a b => CurX g A n cap k i a b w
  but : But g wb w
section
variable {g : Nat} {A : Option Addr} {n cap : Nat} {log : List Res} {w0 wb : World}
theorem CurI.lt {c : CS} {w : World} (h : CurI g A n cap log w0 wb c w) : g < w.heap.size := by
  cases c with
  | «at» s => exact CurS.lt g A n cap log h.cur
  | stop k i a b => exact And.left h.cur
theorem CurI.below {c : CS} {x y : World} (h : CurI g A n cap log w0 wb c x) (hb : Below x.heap.size x y) : CurI g A n cap log w0 wb c y := by
  refine ⟨?_, h.but.later hb h.lt⟩
  cases c with
  | «at» s => exact CurS.below g A n cap log h.cur hb
  | stop k i a b => exact CurX.below g A n cap h.cur hb
theorem CurI.two {c : CS} {w : World} (h : CurI g A n cap log w0 wb c w) : w.cell? ⟨g, 2, none⟩ = some (.bool c.stops) := by
  cases c with
  | «at» s => obtain ⟨j, h1, h2, h3⟩ := h.cur; exact h3.2.1 2 _ rfl
  | stop k i a b => exact And.left (And.right h.cur) 2 _ rfl
/-- What the log of a cursor is. -/
structure CurOk (g : Nat) (A : Option Addr) (n : Nat) (log : List Res) (w0 wb : World) : Prop where
  log : LogAt w0 A n log
  old : w0.heap.size ≤ g
  below : Below w0.heap.size w0 wb
theorem curDo_at (ok : CurOk g A n log w0 wb) (c : CS) (k i : Int) (a b : Nat) (w : World) (h : CurI g A n cap log w0 wb c w) :
    Calls Try.prog 60 #[.pointer (some ⟨g, 0, none⟩), .agg #[.int .i64 k, .int .i64 i, .int .u64 (a : Int), .int .u64 (b : Int), .slice none 0 0, .slice none 0 0]] w (fun e w' => (∃ B bn bc fl, e = .returned (.agg #[.int .u64 (((c.tell k i a b).1 : Nat) : Int), .slice B bn bc, .bool fl])) ∧ CurI g A n cap log w0 wb (c.tell k i a b).2 w' ∧ But g w w') := by
  rcases c with (_ | ⟨r, s⟩) | ⟨k', i', a', b'⟩
  · refine (curDo_left g A n cap log w0 ok.log (k := k) (i := i) (a := a) (b := b) w h.cur).mono ?_
    rintro e w' ⟨he, h1, h2⟩
    exact ⟨he, ⟨h1, h.but.trans h2⟩, h2⟩
  · refine (curDo_told g A n cap log w0 ok.log ok.old (k := k) (i := i) (a := a) (b := b) w (ok.below.trans (h.but.below.mono ok.old)) h.cur).mono ?_
    rintro e w' ⟨he, h1, h2⟩
    exact ⟨he, ⟨h1, h.but.trans h2⟩, h2⟩
  · refine (curDo_stop g A n cap (k := k) (i := i) (a := a) (b := b) w h.cur).mono ?_
    rintro e w' ⟨he, h1, h2⟩
    exact ⟨he, ⟨h1, h.but.trans h2⟩, h2⟩
theorem cLoad (ok : CurOk g A n log w0 wb) (c : CS) (i : Int) (w : World) (h : CurI g A n cap log w0 wb c w) :
    Calls Try.prog 43 #[.pointer (some ⟨g, 0, none⟩), .int .i64 i] w (fun e w' => e = .returned (.int .u64 (((c.tell 0 i 0 0).1 : Nat) : Int)) ∧ CurI g A n cap log w0 wb (c.tell 0 i 0 0).2 w' ∧ But g w w') :=
  curLoad_of g i _ _ (fun x y h hb => h.below hb) w h.lt (curDo_at ok c 0 i 0 0 w h)
theorem cStore (ok : CurOk g A n log w0 wb) (c : CS) (i : Int) (a : Nat) (w : World) (h : CurI g A n cap log w0 wb c w) :
    Calls Try.prog 46 #[.pointer (some ⟨g, 0, none⟩), .int .i64 i, .int .u64 (a : Int)] w (fun e w' => e = .returned (.tuple #[]) ∧ CurI g A n cap log w0 wb (c.tell 1 i a 0).2 w' ∧ But g w w') :=
  curStore_of g i a (c.tell 1 i a 0).1 _ (fun x y h hb => h.below hb) w h.lt (curDo_at ok c 1 i a 0 w h)
theorem cCas (ok : CurOk g A n log w0 wb) (c : CS) (i : Int) (a b : Nat) (w : World) (h : CurI g A n cap log w0 wb c w) :
    Calls Try.prog 44 #[.pointer (some ⟨g, 0, none⟩), .int .i64 i, .int .u64 (a : Int), .int .u64 (b : Int)] w (fun e w' => e = .returned (.bool ((((c.tell 2 i a b).1 : Nat) : Int) == 1)) ∧ CurI g A n cap log w0 wb (c.tell 2 i a b).2 w' ∧ But g w w') :=
  curCas_of g i a b _ _ (fun x y h hb => h.below hb) w h.lt (curDo_at ok c 2 i a b w h)
end

/-! ### A loop's count that no slot holds -/
noncomputable def cnt (J : Nat → World → Prop) (w : World) : Nat := by
  classical
  exact if h : ∃ n, J n w then Classical.choose (least_of h) else 0
theorem cnt_spec {J : Nat → World → Prop} {w : World} (h : ∃ n, J n w) : J (cnt J w) w := by
  unfold cnt
  rw [dif_pos h]
  exact (Classical.choose_spec (least_of h)).1
theorem cnt_lt {J : Nat → World → Prop} {w : World} {m n : Nat} (h : J m w) (hm : m < n) : cnt J w < n := by
  have hx : ∃ n, J n w := ⟨m, h⟩
  unfold cnt
  rw [dif_pos hx]
  exact Nat.lt_of_le_of_lt ((Classical.choose_spec (least_of hx)).2 m h) hm

/-! ### The document's own Pop and Push, plain -/
def refPopRun (t : Nat) : Nat → CS → Option (Nat × CS)
  | 0, _ => none
  | n + 1, c =>
    if c.stops = true then some (0, c) else
    if firstN (c.tell 0 1 0 0).1 = 0 then some (0, (c.tell 0 1 0 0).2) else
    if ((((c.tell 0 1 0 0).2.tell 0 ((fieldN t (firstN (c.tell 0 1 0 0).1) 7 : Nat) : Int) 0 0).2.tell 2 1 (c.tell 0 1 0 0).1 (topN (firstN ((c.tell 0 1 0 0).2.tell 0 ((fieldN t (firstN (c.tell 0 1 0 0).1) 7 : Nat) : Int) 0 0).1) (tagN (c.tell 0 1 0 0).1 + 1))).1 = 1) then
      some (firstN (c.tell 0 1 0 0).1, (((c.tell 0 1 0 0).2.tell 0 ((fieldN t (firstN (c.tell 0 1 0 0).1) 7 : Nat) : Int) 0 0).2.tell 2 1 (c.tell 0 1 0 0).1 (topN (firstN ((c.tell 0 1 0 0).2.tell 0 ((fieldN t (firstN (c.tell 0 1 0 0).1) 7 : Nat) : Int) 0 0).1) (tagN (c.tell 0 1 0 0).1 + 1))).2)
    else refPopRun t n (((c.tell 0 1 0 0).2.tell 0 ((fieldN t (firstN (c.tell 0 1 0 0).1) 7 : Nat) : Int) 0 0).2.tell 2 1 (c.tell 0 1 0 0).1 (topN (firstN ((c.tell 0 1 0 0).2.tell 0 ((fieldN t (firstN (c.tell 0 1 0 0).1) 7 : Nat) : Int) 0 0).1) (tagN (c.tell 0 1 0 0).1 + 1))).2
def refPushRun (t r : Nat) : Nat → CS → Option (Nat × CS)
  | 0, _ => none
  | n + 1, c =>
    if c.stops = true then some (0, c) else
    if (((c.tell 0 1 0 0).2.tell 1 ((fieldN t r 7 : Nat) : Int) (firstN (c.tell 0 1 0 0).1) 0).2.tell 2 1 (c.tell 0 1 0 0).1 (topN r (tagN (c.tell 0 1 0 0).1 + 1))).1 = 1 then
      some (0, (((c.tell 0 1 0 0).2.tell 1 ((fieldN t r 7 : Nat) : Int) (firstN (c.tell 0 1 0 0).1) 0).2.tell 2 1 (c.tell 0 1 0 0).1 (topN r (tagN (c.tell 0 1 0 0).1 + 1))).2)
    else refPushRun t r n (((c.tell 0 1 0 0).2.tell 1 ((fieldN t r 7 : Nat) : Int) (firstN (c.tell 0 1 0 0).1) 0).2.tell 2 1 (c.tell 0 1 0 0).1 (topN r (tagN (c.tell 0 1 0 0).1 + 1))).2
def csEnd : Ran (List Res) → Nat × CS
  | .done r s => (r, .at s)
  | .left k i a b => (0, .stop k i a b)
  | .bad => (0, .at [])
theorem refPop_run (t : Nat) : ∀ (n : Nat) (s : List Res), popRun tapeTell t n s ≠ .bad → refPopRun t (n + 1) (.at s) = some (csEnd (popRun tapeTell t n s))
  | 0, s, h => absurd rfl h
  | n + 1, s, h => by
    unfold refPopRun popRun
    rcases s with _ | ⟨r1, _ | ⟨r2, _ | ⟨r3, s⟩⟩⟩
    · simp [tapeTell, CS.stops, CS.tell, firstN, csEnd]
    · by_cases hf : firstN (r1.n % 18446744073709551616) = 0
      · simp [tapeTell, CS.stops, CS.tell, hf, csEnd]
      · simp [tapeTell, CS.stops, CS.tell, hf, csEnd, refPopRun]
    · by_cases hf : firstN (r1.n % 18446744073709551616) = 0
      · simp [tapeTell, CS.stops, CS.tell, hf, csEnd]
      · simp [tapeTell, CS.stops, CS.tell, hf, csEnd, refPopRun]
    · by_cases hf : firstN (r1.n % 18446744073709551616) = 0
      · simp [tapeTell, CS.stops, CS.tell, hf, csEnd]
      · by_cases hd : r3.n % 18446744073709551616 = 1
        · simp [tapeTell, CS.stops, CS.tell, hf, hd, csEnd]
        · have ih := refPop_run t n s (by
            unfold popRun at h
            simpa [tapeTell, hf, hd] using h)
          simp [tapeTell, CS.stops, CS.tell, hf, hd, ih]
theorem refPush_run (t r : Nat) : ∀ (n : Nat) (s : List Res), pushRun tapeTell t r n s ≠ .bad → refPushRun t r (n + 1) (.at s) = some (csEnd (pushRun tapeTell t r n s))
  | 0, s, h => absurd rfl h
  | n + 1, s, h => by
    unfold refPushRun pushRun
    rcases s with _ | ⟨r1, _ | ⟨r2, _ | ⟨r3, s⟩⟩⟩
    · simp [tapeTell, CS.stops, CS.tell, firstN, csEnd, refPushRun, tagN]
    · simp [tapeTell, CS.stops, CS.tell, csEnd, refPushRun]
    · simp [tapeTell, CS.stops, CS.tell, csEnd, refPushRun]
    · by_cases hd : r3.n % 18446744073709551616 = 1
      · simp [tapeTell, CS.stops, CS.tell, hd, csEnd]
      · have ih := refPush_run t r n s (by
          unfold pushRun at h
          simpa [tapeTell, hd] using h)
        simp [tapeTell, CS.stops, CS.tell, hd, ih]

set_option maxHeartbeats 4000000 in
set_option maxRecDepth 100000 in
theorem refPop_at {g : Nat} {A : Option Addr} {n cap : Nat} {log : List Res} {w0 wb : World} (OK : Hid (CurOk g A n log w0 wb)) (t : Nat) (ht : t ≤ 64) (m : Nat) (c : CS) (d : Nat) (c' : CS) (hR : refPopRun t m c = some (d, c')) (w : World) (hS : CurI g A n cap log w0 wb c w) :
    Calls Try.prog 25 #[.pointer (some ⟨g, 0, none⟩), .int .i64 (t : Int)] w (fun e w' => e = .returned (.int .i64 (d : Int)) ∧ CurI g A n cap log w0 wb c' w') := by
  have HS0 := Lib.hid hS
  have HR := Lib.hid hR
  have HT := Lib.hid ht
  obtain ⟨J, hJ⟩ : ∃ J : Nat → World → Prop, J = fun m wr => ∃ c, CurI g A n cap log w0 wb c wr ∧ refPopRun t m c = some (d, c') := ⟨_, rfl⟩
  have HJ : ∀ m wr, J m wr ↔ ∃ c, CurI g A n cap log w0 wb c wr ∧ refPopRun t m c = some (d, c') := fun m wr => by rw [hJ]
  clear hS hR ht hJ
  go_enter Try.func25, Try.ntmps25
  go_wp2_with fail
  go_loopw [5] (fun _ wr => ∃ m, J m wr) (fun _ wr => cnt J wr)
  case atStart => exact ⟨m, (HJ m w).2 ⟨c, HS0.out, HR.out⟩⟩
  case round =>
    clear HS0 HR
    clear m c
    obtain ⟨c, hS, hR⟩ := (HJ _ _).1 (cnt_spec hrel)
    clear hrel
    have HJJ := Lib.hid HJ
    generalize hm : cnt J wr = m at *
    have HM := Lib.hid hm
    clear hm HJ
    have c2 := hS.two
    have hgw := hS.lt
    cases m with
    | zero => cases hR
    | succ m =>
    unfold refPopRun at hR
    by_cases hst : c.stops = true
    · rw [if_pos hst] at hR
      rw [hst] at c2
      cases hR
      have HS := Lib.hid hS
      clear hS hst
      go_wp2_with fail
      go_ret
      exact ⟨rfl, HS.out⟩
    have hst' : c.stops = false := by simpa using hst
    rw [hst'] at c2
    rw [if_neg hst] at hR
    clear hst hst'
    have hx := c.small 0 1 0 0
    have HL1 := cLoad OK.out c 1 wr hS
    generalize (c.tell 0 1 0 0).1 = x at *
    generalize (c.tell 0 1 0 0).2 = c1 at *
    have HF1 := fun w => refFirst_any x hx w
    have HTG := fun w => refTag_any x hx w
    have hxl := first_lt x
    have htl := tagN_lt hx
    have hw : IntKind.u64.wrap (((tagN x : Nat) : Int) + 1) = ((tagN x + 1 : Nat) : Int) := by rw [IntKind.wrap_u64]; omega
    by_cases hf : firstN x = 0
    · have d1 := eq0 hf
      rw [if_pos hf] at hR
      cases hR
      clear hx hxl htl hw hS
      generalize firstN x = f at *
      subst hf
      go_wp2_with (first | (go_at_call 43; (with_reducible refine HL1.mono ?_); clear HL1; rintro e w2 ⟨rfl, hs, hbt⟩; have HS1 := Lib.hid hs; clear hs hbt) | (go_at_call 31; (with_reducible refine (HF1 _).mono ?_); rintro e w' ⟨rfl, rfl⟩))
      go_ret
      exact ⟨rfl, HS1.out⟩
    have d1 := ne0 hf
    rw [if_neg hf] at hR
    have HK : ∀ w, Calls Try.prog 32 #[.int .i64 (t : Int), .int .i64 ((firstN x : Nat) : Int), .int .i64 7] w fun e w' => e = .returned (.int .i64 (fieldN t (firstN x) 7 : Nat)) ∧ w = w' := fun w => refField_any t (firstN x) 7 (by have := HT.out; omega) (by omega) (by omega) (by omega) w
    have HL2 := fun w h => cLoad OK.out (wb := wb) (cap := cap) c1 ((fieldN t (firstN x) 7 : Nat) : Int) w h
    have hy := c1.small 0 ((fieldN t (firstN x) 7 : Nat) : Int) 0 0
    generalize fieldN t (firstN x) 7 = fl at *
    generalize (c1.tell 0 ((fl : Nat) : Int) 0 0).1 = y at *
    generalize (c1.tell 0 ((fl : Nat) : Int) 0 0).2 = c2' at *
    have HF2 := fun w => refFirst_any y hy w
    have hyl := first_lt y
    have HTP := fun w => refTop_any (firstN y) (tagN x + 1) hyl w
    obtain ⟨T1, hT1⟩ : ∃ T, tagN x + 1 = T := ⟨_, rfl⟩
    rw [hT1] at hw HTP hR
    have HC := fun w h => cCas OK.out (wb := wb) (cap := cap) c2' 1 x (topN (firstN y) T1) w h
    generalize topN (firstN y) T1 = tp at *
    generalize (c2'.tell 2 1 x tp).1 = q at *
    generalize (c2'.tell 2 1 x tp).2 = c3 at *
    clear hT1 hx hxl htl hS
    clear hy hyl hf
    generalize firstN y = fy at *
    generalize firstN x = f at *
    generalize tagN x = tg at *
    by_cases hd : q = 1
    · have dd := eq1 hd
      rw [if_pos hd] at hR
      cases hR
      clear hd
      go_wp2_with (first | (go_at_call 43; (with_reducible refine HL1.mono ?_); clear HL1; rintro e w2 ⟨rfl, hs, hbt⟩; have HS1 := Lib.hid hs; clear hs hbt) | (go_at_call 31; (with_reducible refine (HF1 _).mono ?_); rintro e w' ⟨rfl, rfl⟩) | (go_at_call 32; (with_reducible refine (HK _).mono ?_); rintro e w' ⟨rfl, rfl⟩) | (go_at_call 43; (with_reducible refine (HL2 _ HS1.out).mono ?_); clear HL2; rintro e w3 ⟨rfl, hs, hbt⟩; have HS2 := Lib.hid hs; clear hs hbt) | (go_at_call 31; (with_reducible refine (HF2 _).mono ?_); rintro e w' ⟨rfl, rfl⟩) | (go_at_call 17; (with_reducible refine (HTG _).mono ?_); rintro e w' ⟨rfl, rfl⟩) | (go_at_call 45; (with_reducible refine (HTP _).mono ?_); rintro e w' ⟨rfl, rfl⟩) | (go_at_call 44; (with_reducible refine (HC _ HS2.out).mono ?_); clear HC; rintro e w4 ⟨rfl, hs, hbt⟩; have HS3 := Lib.hid hs; clear hs hbt))
      go_ret
      exact ⟨rfl, HS3.out⟩
    · have dd := ne1 hd
      rw [if_neg hd] at hR
      have HR := Lib.hid hR
      clear hd hR
      go_wp2_with (first | (go_at_call 43; (with_reducible refine HL1.mono ?_); clear HL1; rintro e w2 ⟨rfl, hs, hbt⟩; have HS1 := Lib.hid hs; clear hs hbt) | (go_at_call 31; (with_reducible refine (HF1 _).mono ?_); rintro e w' ⟨rfl, rfl⟩) | (go_at_call 32; (with_reducible refine (HK _).mono ?_); rintro e w' ⟨rfl, rfl⟩) | (go_at_call 43; (with_reducible refine (HL2 _ HS1.out).mono ?_); clear HL2; rintro e w3 ⟨rfl, hs, hbt⟩; have HS2 := Lib.hid hs; clear hs hbt) | (go_at_call 31; (with_reducible refine (HF2 _).mono ?_); rintro e w' ⟨rfl, rfl⟩) | (go_at_call 17; (with_reducible refine (HTG _).mono ?_); rintro e w' ⟨rfl, rfl⟩) | (go_at_call 45; (with_reducible refine (HTP _).mono ?_); rintro e w' ⟨rfl, rfl⟩) | (go_at_call 44; (with_reducible refine (HC _ HS2.out).mono ?_); clear HC; rintro e w4 ⟨rfl, hs, hbt⟩; have HS3 := Lib.hid hs; clear hs hbt))
      go_roundw
      case rel => exact ⟨m, (HJJ.out _ _).2 ⟨c3, HS3.out, HR.out⟩⟩
      case measure => exact cnt_lt ((HJJ.out _ _).2 ⟨c3, HS3.out, HR.out⟩) (Nat.lt_succ_self _)

set_option maxHeartbeats 4000000 in
set_option maxRecDepth 100000 in
theorem refPush_at {g : Nat} {A : Option Addr} {n cap : Nat} {log : List Res} {w0 wb : World} (OK : Hid (CurOk g A n log w0 wb)) (t : Nat) (ht : t ≤ 64) (r : Nat) (hr1 : 1 ≤ r) (hr : r < 1048576) (m : Nat) (c : CS) (d : Nat) (c' : CS) (hR : refPushRun t r m c = some (d, c')) (w : World) (hS : CurI g A n cap log w0 wb c w) :
    Calls Try.prog 26 #[.pointer (some ⟨g, 0, none⟩), .int .i64 (t : Int), .int .i64 (r : Int)] w (fun e w' => e = .returned (.tuple #[]) ∧ CurI g A n cap log w0 wb c' w') := by
  have HS0 := Lib.hid hS
  have HR := Lib.hid hR
  have HT := Lib.hid ht
  have HK0 := fun w => refField_any t r 7 (by omega) hr1 (by omega) (by omega) w
  have HK : ∀ w, Calls Try.prog 32 #[.int .i64 (t : Int), .int .i64 (r : Int), .int .i64 7] w fun e w' => e = .returned (.int .i64 (fieldN t r 7 : Nat)) ∧ w = w' := HK0
  have HTP0 := fun T w => refTop_any r T hr w
  clear hr1 hr HK0
  obtain ⟨J, hJ⟩ : ∃ J : Nat → World → Prop, J = fun m wr => ∃ c, CurI g A n cap log w0 wb c wr ∧ refPushRun t r m c = some (d, c') := ⟨_, rfl⟩
  have HJ : ∀ m wr, J m wr ↔ ∃ c, CurI g A n cap log w0 wb c wr ∧ refPushRun t r m c = some (d, c') := fun m wr => by rw [hJ]
  clear hS hR ht hJ
  go_enter Try.func26, Try.ntmps26
  go_wp2_with fail
  go_loopw [6] (fun _ wr => ∃ m, J m wr) (fun _ wr => cnt J wr)
  case atStart => exact ⟨m, (HJ m w).2 ⟨c, HS0.out, HR.out⟩⟩
  case round =>
    clear HS0 HR
    clear m c
    obtain ⟨c, hS, hR⟩ := (HJ _ _).1 (cnt_spec hrel)
    clear hrel
    have HJJ := Lib.hid HJ
    generalize hm : cnt J wr = m at *
    have HM := Lib.hid hm
    clear hm HJ
    have c2 := hS.two
    have hgw := hS.lt
    cases m with
    | zero => cases hR
    | succ m =>
    unfold refPushRun at hR
    by_cases hst : c.stops = true
    · rw [if_pos hst] at hR
      rw [hst] at c2
      cases hR
      have HS := Lib.hid hS
      clear hS hst
      go_wp2_with fail
      go_end0
      exact ⟨rfl, HS.out⟩
    have hst' : c.stops = false := by simpa using hst
    rw [hst'] at c2
    rw [if_neg hst] at hR
    clear hst hst'
    have hx := c.small 0 1 0 0
    have HL1 := cLoad OK.out c 1 wr hS
    generalize (c.tell 0 1 0 0).1 = x at *
    generalize (c.tell 0 1 0 0).2 = c1 at *
    have HF1 := fun w => refFirst_any x hx w
    have HTG := fun w => refTag_any x hx w
    have hxl := first_lt x
    have htl := tagN_lt hx
    have hw : IntKind.u64.wrap (((tagN x : Nat) : Int) + 1) = ((tagN x + 1 : Nat) : Int) := by rw [IntKind.wrap_u64]; omega
    have HTP := HTP0 (tagN x + 1)
    have hcv : IntKind.u64.wrap ((firstN x : Nat) : Int) = ((firstN x : Nat) : Int) := by rw [IntKind.wrap_u64]; omega
    have HL2 := fun w h => cStore OK.out (wb := wb) (cap := cap) c1 ((fieldN t r 7 : Nat) : Int) (firstN x) w h
    clear HTP0
    generalize fieldN t r 7 = fl at *
    generalize (c1.tell 1 ((fl : Nat) : Int) (firstN x) 0).2 = c2' at *
    obtain ⟨T1, hT1⟩ : ∃ T, tagN x + 1 = T := ⟨_, rfl⟩
    rw [hT1] at hw HTP hR
    have HC := fun w h => cCas OK.out (wb := wb) (cap := cap) c2' 1 x (topN r T1) w h
    generalize topN r T1 = tp at *
    generalize (c2'.tell 2 1 x tp).1 = q at *
    generalize (c2'.tell 2 1 x tp).2 = c3 at *
    clear hT1 hx hxl htl hS
    generalize firstN x = f at *
    generalize tagN x = tg at *
    by_cases hd : q = 1
    · have dd := eq1 hd
      rw [if_pos hd] at hR
      cases hR
      clear hd
      go_wp2_with (first | (go_at_call 43; (with_reducible refine HL1.mono ?_); clear HL1; rintro e w2 ⟨rfl, hs, hbt⟩; have HS1 := Lib.hid hs; clear hs hbt) | (go_at_call 31; (with_reducible refine (HF1 _).mono ?_); rintro e w' ⟨rfl, rfl⟩) | (go_at_call 32; (with_reducible refine (HK _).mono ?_); rintro e w' ⟨rfl, rfl⟩) | (go_at_call 46; (with_reducible refine (HL2 _ HS1.out).mono ?_); clear HL2; rintro e w3 ⟨rfl, hs, hbt⟩; have HS2 := Lib.hid hs; clear hs hbt) | (go_at_call 17; (with_reducible refine (HTG _).mono ?_); rintro e w' ⟨rfl, rfl⟩) | (go_at_call 45; (with_reducible refine (HTP _).mono ?_); rintro e w' ⟨rfl, rfl⟩) | (go_at_call 44; (with_reducible refine (HC _ HS2.out).mono ?_); clear HC; rintro e w4 ⟨rfl, hs, hbt⟩; have HS3 := Lib.hid hs; clear hs hbt))
      exact bodyPost_ret (v := .tuple #[]) (by simp [results, Try.results26, go_sem]) rfl ⟨rfl, HS3.out⟩
    · have dd := ne1 hd
      rw [if_neg hd] at hR
      have HR := Lib.hid hR
      clear hd hR
      go_wp2_with (first | (go_at_call 43; (with_reducible refine HL1.mono ?_); clear HL1; rintro e w2 ⟨rfl, hs, hbt⟩; have HS1 := Lib.hid hs; clear hs hbt) | (go_at_call 31; (with_reducible refine (HF1 _).mono ?_); rintro e w' ⟨rfl, rfl⟩) | (go_at_call 32; (with_reducible refine (HK _).mono ?_); rintro e w' ⟨rfl, rfl⟩) | (go_at_call 46; (with_reducible refine (HL2 _ HS1.out).mono ?_); clear HL2; rintro e w3 ⟨rfl, hs, hbt⟩; have HS2 := Lib.hid hs; clear hs hbt) | (go_at_call 17; (with_reducible refine (HTG _).mono ?_); rintro e w' ⟨rfl, rfl⟩) | (go_at_call 45; (with_reducible refine (HTP _).mono ?_); rintro e w' ⟨rfl, rfl⟩) | (go_at_call 44; (with_reducible refine (HC _ HS2.out).mono ?_); clear HC; rintro e w4 ⟨rfl, hs, hbt⟩; have HS3 := Lib.hid hs; clear hs hbt))
      go_roundw
      case rel => exact ⟨m, (HJJ.out _ _).2 ⟨c3, HS3.out, HR.out⟩⟩
      case measure => exact cnt_lt ((HJJ.out _ _).2 ⟨c3, HS3.out, HR.out⟩) (Nat.lt_succ_self _)

/-! ### Told, and Next -/
def CurV (g : Nat) (A : Option Addr) (n cap : Nat) (log : List Res) (c : CS) (w : World) : Prop := match c with | .at s => CurS g A n cap log s w | .stop k i a b => CurX g A n cap k i a b w
theorem CurV.below {g : Nat} {A : Option Addr} {n cap : Nat} {log : List Res} {c : CS} {x y : World} (h : CurV g A n cap log c x) (hb : Below x.heap.size x y) : CurV g A n cap log c y := by
  cases c with
  | «at» s => exact CurS.below g A n cap log h hb
  | stop k i a b => exact CurX.below g A n cap h hb
theorem CurV.apart {g : Nat} {A : Option Addr} {n cap : Nat} {log : List Res} {c : CS} {x : World} (h : CurV g A n cap log c x) {b' : Nat} (j : Nat) (v : Value) (hne : b' ≠ g) : CurV g A n cap log c (x.setCell ⟨b', j, none⟩ v) := by
  cases c with
  | «at» s => obtain ⟨i, h1, h2, h3⟩ := h; exact ⟨i, h1, h2, h3.apart j v hne⟩
  | stop k i a b => exact VarAt.apart h j v hne
/-- What is told behind a run. -/
structure ToldV where
  k : Int
  i : Int
  a : Nat
  b : Nat
  er : Int
  n : Int
  is : Bool
def toldV (er : Int) (d : Nat) : CS → ToldV
  | .at _ => ⟨0, 0, 0, 0, er, d, true⟩
  | .stop k i a b => ⟨k, i, a, b, 0, 0, false⟩
def ToldV.val (v : ToldV) : Value := .tuple #[.agg #[.int .i64 v.k, .int .i64 v.i, .int .u64 (v.a : Int), .int .u64 (v.b : Int), .slice none 0 0, .slice none 0 0], .agg #[.int .i64 v.er, .bool false, .int .i64 v.n, .int .u64 0, .slice none 0 0], .bool v.is]
theorem toldC {g : Nat} {A : Option Addr} {n cap : Nat} {log : List Res} {c : CS} {w : World} (h : CurV g A n cap log c w) (er : Int) (d : Nat) :
    Calls Try.prog 27 #[.pointer (some ⟨g, 0, none⟩), .agg #[.int .i64 er, .bool false, .int .i64 (d : Int), .int .u64 0, .slice none 0 0]] w (Kept w (toldV er d c).val) := by
  cases c with
  | «at» s =>
    obtain ⟨j, h1, h2, h3⟩ := h
    exact toldE_yes g A n cap _ _ _ _ _ _ (j : Int) er false (d : Int) 0 w (Lib.hid h3)
  | stop k i a b => exact toldE_no g A n cap (n : Int) (accK k i a b) none 0 none 0 er false (d : Int) 0 w (Lib.hid h)
def refR (t : Nat) (k u : Int) (log : List Res) : ToldV := toldV (ansE k) (csEnd (nextR t k u log)).1 (csEnd (nextR t k u log)).2
set_option maxHeartbeats 4000000 in
set_option maxRecDepth 100000 in
theorem refNext_at (t : Nat) (ht : t ≤ 64) (k u v : Int) (x : Nat) (hu : k = 2 → 1 ≤ u ∧ u < 1048576) (A : Option Addr) (n cap : Nat) (log : List Res) (hc : n ≤ cap) (w : World) (hl : Hid (LogAt w A n log)) :
    Calls Try.prog 11 #[.int .i64 (t : Int), .agg #[.int .i64 k, .int .i64 u, .int .i64 v, .int .u64 (x : Int)], .slice A n cap] w (Kept w (refR t k u log).val) := by
  unfold refR nextR ansRun
  by_cases h1 : k = 1
  · subst h1
    rw [if_pos rfl]
    have he : ansE 1 = 0 := rfl
    rw [he]
    have hrun := refPop_run t (log.length + 1) log (popTape t _ _ (Nat.lt_succ_self _))
    generalize csEnd (popRun tapeTell t (log.length + 1) log) = dc at *
    obtain ⟨d, c⟩ := dc
    have HT := Lib.hid ht
    have HRUN := Lib.hid hrun
    clear ht hu he hrun hc
    go_enter Try.func11, Try.ntmps11
    go_wp2_with fail
    refine gen_w (P := fun W => Calls _ _ _ W _) (fun y => Below w.heap.size w y ∧ y.heap.size = w.heap.size + 1 + 1 + 1 + 1 + 1 ∧ VarAt y (w.heap.size + 1) [.int .i64 0, .int .i64 0, .int .u64 0, .int .u64 0, .slice none 0 0, .slice none 0 0] ∧ VarAt y (w.heap.size + 1 + 1) [.int .i64 0, .bool false, .int .i64 0, .int .u64 0, .slice none 0 0] ∧ VarAt y (w.heap.size + 1 + 1 + 1) (curV A n cap 0 false (.int .i64 0) (.int .i64 0) (.int .u64 0) (.int .u64 0) (.slice none 0 0) (.slice none 0 0)) ∧ VarAt y (w.heap.size + 1 + 1 + 1 + 1) [.int .i64 0, .bool false, .int .i64 0, .int .u64 0, .slice none 0 0]) ⟨(by repeat (first | with_reducible assumption | with_reducible exact Below.refl _ _ | with_reducible refine Below.drew ?_ | with_reducible refine below_al ?_ | (with_reducible refine below_set1 (by omega) _ ?_))), by simp, VarAt.mk6 (by simp <;> omega) (by go_simp) (by go_simp) (by go_simp) (by go_simp) (by go_simp) (by go_simp) (by go_simp) (by go_simp) (by go_simp) (by go_simp) (by go_simp) (by go_simp), VarAt.mk5 (by simp <;> omega) (by go_simp) (by go_simp) (by go_simp) (by go_simp) (by go_simp) (by go_simp) (by go_simp) (by go_simp) (by go_simp) (by go_simp), VarAt.mk9 (by simp <;> omega) (by go_simp) (by go_simp) (by go_simp) (by go_simp) (by go_simp) (by go_simp) (by go_simp) (by go_simp) (by go_simp) (by go_simp) (by go_simp) (by go_simp) (by go_simp) (by go_simp) (by go_simp) (by go_simp) (by go_simp) (by go_simp), VarAt.mk5 (by simp <;> omega) (by go_simp) (by go_simp) (by go_simp) (by go_simp) (by go_simp) (by go_simp) (by go_simp) (by go_simp) (by go_simp) (by go_simp)⟩ ?_
    rintro y ⟨k0, k1, k2, k3, k4, k5⟩
    obtain ⟨g, hg⟩ : ∃ g, w.heap.size + 1 + 1 + 1 = g := ⟨_, rfl⟩
    rw [hg] at k4 k5 ⊢
    have HG := Lib.hid hg
    have hok : CurOk g A n log w y := ⟨hl.out, by omega, k0⟩
    have hcur : CurI g A n cap log w y (.at log) y := ⟨⟨0, Nat.zero_le _, rfl, k4⟩, But.refl _ _⟩
    have K0 := Lib.hid k0
    have K1 := Lib.hid k1
    have K2 := Lib.hid k2
    have K3 := Lib.hid k3
    have K5 := Lib.hid k5
    have HOK := Lib.hid hok
    (with_reducible refine (refPop_at HOK t HT.out _ _ d c HRUN.out y hcur).mono ?_)
    clear hcur k0 k1 k2 k3 k4 k5 hok hg
    rintro e w2 ⟨rfl, hc⟩
    have hgg := HG.out
    have hyz := K1.out
    have hbt := hc.but
    have HCV : Hid (CurV g A n cap log c w2) := Lib.hid hc.cur
    have HV1 := Lib.hid (K2.out.but hbt (by omega))
    have HV2 := Lib.hid (K3.out.but hbt (by omega))
    have HV5 := Lib.hid (K5.out.but hbt (by omega))
    obtain ⟨_, ⟨o1, o2, o3, o4, o5⟩, p1, p2, p3, p4, p5⟩ := HV5.out.five
    have hsz := hbt.size
    have m3 : g + 1 < w2.heap.size := by omega
    have HBW : Hid (Below w.heap.size w w2) := Lib.hid (K0.out.trans (hbt.below.mono (by omega)))
    clear hc hbt hyz hgg K0 K1 K2 K3 K5 HOK
    go_upto_region 9 with fail
    have hgg := HG.out
    have hbw := HBW.out
    refine gen_w (P := fun W => Code.wp _ _ _ _ W) (fun x => Below w.heap.size w x ∧ VarAt x (w.heap.size + 1) [.int .i64 0, .int .i64 0, .int .u64 0, .int .u64 0, .slice none 0 0, .slice none 0 0] ∧ VarAt x (w.heap.size + 1 + 1) [.int .i64 0, .bool false, .int .i64 0, .int .u64 0, .slice none 0 0] ∧ VarAt x (g + 1) [.int .i64 0, .bool false, .int .i64 (d : Int), .int .u64 0, .slice none 0 0] ∧ CurV g A n cap log c x) ⟨(by repeat (first | with_reducible assumption | with_reducible exact Below.refl _ _ | with_reducible refine Below.drew ?_ | with_reducible refine below_al ?_ | (with_reducible refine below_set1 (by omega) _ ?_))), (HV1.out.apart _ _ (by omega)), (HV2.out.apart _ _ (by omega)), VarAt.mk5 (by simp; omega) (by go_simp) (by go_simp) (by go_simp) (by go_simp) (by go_simp) (by go_simp) (by go_simp) (by go_simp) (by go_simp) (by go_simp), HCV.out.apart _ _ (by omega)⟩ ?_
    rintro z ⟨k0, k1, k2, k3, k4⟩
    have hg := HG.out
    clear o1 o2 o3 o4 o5 p1 p2 p3 p4 p5 m3 hsz hbw hgg HBW HV1 HV2 HV5 HCV
    have Z0 := Lib.hid k0
    have Z1 := Lib.hid k1
    have Z2 := Lib.hid k2
    have hsz := k3.1
    obtain ⟨_, ⟨o1, o2, o3, o4, o5⟩, _⟩ := k3.five
    have HTC := toldC k4 0 d
    clear k0 k1 k2 k3 k4
    generalize toldV 0 d c = V at *
    obtain ⟨vk, vi, va, vb, ve, vn, vis⟩ := V
    unfold ToldV.val at *
    simp only at *
    go_wp2_with fail
    (with_reducible refine HTC.mono ?_)
    clear HTC
    rintro e w3 ⟨rfl, hb3⟩
    obtain ⟨m1, ⟨a0, a1, a2, a3, a4, a5⟩, b0, b1, b2, b3, b4, b5⟩ := (Z1.out.below hb3).six
    obtain ⟨m2, ⟨r1, r2, r3, r4, r5⟩, s1, s2, s3, s4, s5⟩ := (Z2.out.below hb3).five
    have HB3 := Lib.hid (Z0.out.trans (hb3.mono Z0.out.size))
    clear hb3
    go_wp2_with fail
    have hb := HB3.out
    exact bodyPost_ret (v := .tuple #[.agg #[.int .i64 vk, .int .i64 vi, .int .u64 (va : Int), .int .u64 (vb : Int), .slice none 0 0, .slice none 0 0], .agg #[.int .i64 ve, .bool false, .int .i64 vn, .int .u64 0, .slice none 0 0], .bool vis]) (by simp [results, Try.results11, go_sem, a0, a1, a2, a3, a4, a5, r1, r2, r3, r4, r5]) rfl ⟨rfl, (by repeat (first | with_reducible assumption | with_reducible exact Below.refl _ _ | with_reducible refine Below.drew ?_ | with_reducible refine below_al ?_ | (with_reducible refine below_set1 (by omega) _ ?_)))⟩
  by_cases h2 : k = 2
  · subst h2
    rw [if_neg h1, if_pos rfl]
    have he : ansE 2 = 0 := rfl
    rw [he]
    obtain ⟨u1, u2⟩ := hu rfl
    obtain ⟨ur, rfl⟩ : ∃ ur : Nat, u = (ur : Int) := ⟨u.toNat, by omega⟩
    rw [Int.toNat_natCast]
    have hrun := refPush_run t ur (log.length + 1) log (pushTape t ur _ _ (Nat.lt_succ_self _))
    have hd0 : (csEnd (pushRun tapeTell t ur (log.length + 1) log)).1 = 0 := by
      cases hq : pushRun tapeTell t ur (log.length + 1) log with
      | bad => rfl
      | left k i a b => rfl
      | done r s => exact run_none hq
    obtain ⟨d, c, hdc, hd⟩ : ∃ d c, csEnd (pushRun tapeTell t ur (log.length + 1) log) = (d, c) ∧ d = 0 := ⟨_, _, rfl, hd0⟩
    rw [hdc] at hrun ⊢
    subst hd
    clear hdc hd0
    have HT := Lib.hid (And.intro ht (And.intro (show 1 ≤ ur by omega) (show ur < 1048576 by omega)))
    have HRUN := Lib.hid hrun
    clear ht hu he hrun hc u1 u2 h1
    go_enter Try.func11, Try.ntmps11
    go_wp2_with fail
    refine gen_w (P := fun W => Calls _ _ _ W _) (fun y => Below w.heap.size w y ∧ y.heap.size = w.heap.size + 1 + 1 + 1 + 1 + 1 ∧ VarAt y (w.heap.size + 1) [.int .i64 0, .int .i64 0, .int .u64 0, .int .u64 0, .slice none 0 0, .slice none 0 0] ∧ VarAt y (w.heap.size + 1 + 1) [.int .i64 0, .bool false, .int .i64 0, .int .u64 0, .slice none 0 0] ∧ VarAt y (w.heap.size + 1 + 1 + 1) (curV A n cap 0 false (.int .i64 0) (.int .i64 0) (.int .u64 0) (.int .u64 0) (.slice none 0 0) (.slice none 0 0)) ∧ VarAt y (w.heap.size + 1 + 1 + 1 + 1) [.int .i64 0, .bool false, .int .i64 0, .int .u64 0, .slice none 0 0]) ⟨(by repeat (first | with_reducible assumption | with_reducible exact Below.refl _ _ | with_reducible refine Below.drew ?_ | with_reducible refine below_al ?_ | (with_reducible refine below_set1 (by omega) _ ?_))), by simp, VarAt.mk6 (by simp <;> omega) (by go_simp) (by go_simp) (by go_simp) (by go_simp) (by go_simp) (by go_simp) (by go_simp) (by go_simp) (by go_simp) (by go_simp) (by go_simp) (by go_simp), VarAt.mk5 (by simp <;> omega) (by go_simp) (by go_simp) (by go_simp) (by go_simp) (by go_simp) (by go_simp) (by go_simp) (by go_simp) (by go_simp) (by go_simp), VarAt.mk9 (by simp <;> omega) (by go_simp) (by go_simp) (by go_simp) (by go_simp) (by go_simp) (by go_simp) (by go_simp) (by go_simp) (by go_simp) (by go_simp) (by go_simp) (by go_simp) (by go_simp) (by go_simp) (by go_simp) (by go_simp) (by go_simp) (by go_simp), VarAt.mk5 (by simp <;> omega) (by go_simp) (by go_simp) (by go_simp) (by go_simp) (by go_simp) (by go_simp) (by go_simp) (by go_simp) (by go_simp) (by go_simp)⟩ ?_
    rintro y ⟨k0, k1, k2, k3, k4, k5⟩
    obtain ⟨g, hg⟩ : ∃ g, w.heap.size + 1 + 1 + 1 = g := ⟨_, rfl⟩
    rw [hg] at k4 k5 ⊢
    have HG := Lib.hid hg
    have hok : CurOk g A n log w y := ⟨hl.out, by omega, k0⟩
    have hcur : CurI g A n cap log w y (.at log) y := ⟨⟨0, Nat.zero_le _, rfl, k4⟩, But.refl _ _⟩
    have K0 := Lib.hid k0
    have K1 := Lib.hid k1
    have K2 := Lib.hid k2
    have K3 := Lib.hid k3
    have K5 := Lib.hid k5
    have HOK := Lib.hid hok
    (with_reducible refine (refPush_at HOK t HT.out.1 ur HT.out.2.1 HT.out.2.2 _ _ 0 c HRUN.out y hcur).mono ?_)
    clear hcur k0 k1 k2 k3 k4 k5 hok hg
    rintro e w2 ⟨rfl, hc⟩
    have hgg := HG.out
    have hyz := K1.out
    have hbt := hc.but
    have HCV : Hid (CurV g A n cap log c w2) := Lib.hid hc.cur
    have HV1 := Lib.hid (K2.out.but hbt (by omega))
    have HV2 := Lib.hid (K3.out.but hbt (by omega))
    have HV5 := Lib.hid (K5.out.but hbt (by omega))
    obtain ⟨_, ⟨o1, o2, o3, o4, o5⟩, p1, p2, p3, p4, p5⟩ := HV5.out.five
    have hsz := hbt.size
    have m3 : g + 1 < w2.heap.size := by omega
    have HBW : Hid (Below w.heap.size w w2) := Lib.hid (K0.out.trans (hbt.below.mono (by omega)))
    clear hc hbt hyz hgg K0 K1 K2 K3 K5 HOK
    go_upto_region 9 with fail
    have hgg := HG.out
    have hbw := HBW.out
    refine gen_w (P := fun W => Code.wp _ _ _ _ W) (fun x => Below w.heap.size w x ∧ VarAt x (w.heap.size + 1) [.int .i64 0, .int .i64 0, .int .u64 0, .int .u64 0, .slice none 0 0, .slice none 0 0] ∧ VarAt x (w.heap.size + 1 + 1) [.int .i64 0, .bool false, .int .i64 0, .int .u64 0, .slice none 0 0] ∧ VarAt x (g + 1) [.int .i64 0, .bool false, .int .i64 0, .int .u64 0, .slice none 0 0] ∧ CurV g A n cap log c x) ⟨hbw, HV1.out, HV2.out, HV5.out, HCV.out⟩ ?_
    rintro z ⟨k0, k1, k2, k3, k4⟩
    have hg := HG.out
    clear o1 o2 o3 o4 o5 p1 p2 p3 p4 p5 m3 hsz hbw hgg HBW HV1 HV2 HV5 HCV
    have Z0 := Lib.hid k0
    have Z1 := Lib.hid k1
    have Z2 := Lib.hid k2
    have hsz := k3.1
    obtain ⟨_, ⟨o1, o2, o3, o4, o5⟩, _⟩ := k3.five
    have HTC : Calls Try.prog 27 #[.pointer (some ⟨g, 0, none⟩), .agg #[.int .i64 0, .bool false, .int .i64 0, .int .u64 0, .slice none 0 0]] z (Kept z (toldV 0 0 c).val) := toldC k4 0 0
    clear k0 k1 k2 k3 k4
    generalize toldV 0 0 c = V at *
    obtain ⟨vk, vi, va, vb, ve, vn, vis⟩ := V
    unfold ToldV.val at *
    simp only at *
    go_wp2_with fail
    (with_reducible refine HTC.mono ?_)
    clear HTC
    rintro e w3 ⟨rfl, hb3⟩
    obtain ⟨m1, ⟨a0, a1, a2, a3, a4, a5⟩, b0, b1, b2, b3, b4, b5⟩ := (Z1.out.below hb3).six
    obtain ⟨m2, ⟨r1, r2, r3, r4, r5⟩, s1, s2, s3, s4, s5⟩ := (Z2.out.below hb3).five
    have HB3 := Lib.hid (Z0.out.trans (hb3.mono Z0.out.size))
    clear hb3
    go_wp2_with fail
    have hb := HB3.out
    exact bodyPost_ret (v := .tuple #[.agg #[.int .i64 vk, .int .i64 vi, .int .u64 (va : Int), .int .u64 (vb : Int), .slice none 0 0, .slice none 0 0], .agg #[.int .i64 ve, .bool false, .int .i64 vn, .int .u64 0, .slice none 0 0], .bool vis]) (by simp [results, Try.results11, go_sem, a0, a1, a2, a3, a4, a5, r1, r2, r3, r4, r5]) rfl ⟨rfl, (by repeat (first | with_reducible assumption | with_reducible exact Below.refl _ _ | with_reducible refine Below.drew ?_ | with_reducible refine below_al ?_ | (with_reducible refine below_set1 (by omega) _ ?_)))⟩
  · rw [if_neg h1, if_neg h2]
    have he : ansE k = 1 := by unfold ansE; rw [if_neg (by omega)]
    rw [he]
    have e1 : ((k : Int) == 1) = false := by rw [beq_eq_false_iff_ne]; exact h1
    have e2 : ((k : Int) == 2) = false := by rw [beq_eq_false_iff_ne]; exact h2
    simp only [csEnd]
    obtain ⟨c, hcc⟩ : ∃ c, CS.at log = c := ⟨_, rfl⟩
    rw [hcc]
    have HCC := Lib.hid hcc
    clear ht hu he h1 h2 hc hcc
    go_enter Try.func11, Try.ntmps11
    go_upto_region 9 with fail
    refine gen_w (P := fun W => Code.wp _ _ _ _ W) (fun y => Below w.heap.size w y ∧ y.heap.size = w.heap.size + 1 + 1 + 1 + 1 + 1 ∧ VarAt y (w.heap.size + 1) [.int .i64 0, .int .i64 0, .int .u64 0, .int .u64 0, .slice none 0 0, .slice none 0 0] ∧ VarAt y (w.heap.size + 1 + 1) [.int .i64 0, .bool false, .int .i64 0, .int .u64 0, .slice none 0 0] ∧ VarAt y (w.heap.size + 1 + 1 + 1) (curV A n cap 0 false (.int .i64 0) (.int .i64 0) (.int .u64 0) (.int .u64 0) (.slice none 0 0) (.slice none 0 0)) ∧ VarAt y (w.heap.size + 1 + 1 + 1 + 1) [.int .i64 1, .bool false, .int .i64 0, .int .u64 0, .slice none 0 0]) ⟨(by repeat (first | with_reducible assumption | with_reducible exact Below.refl _ _ | with_reducible refine Below.drew ?_ | with_reducible refine below_al ?_ | (with_reducible refine below_set1 (by omega) _ ?_))), by simp, VarAt.mk6 (by simp <;> omega) (by go_simp) (by go_simp) (by go_simp) (by go_simp) (by go_simp) (by go_simp) (by go_simp) (by go_simp) (by go_simp) (by go_simp) (by go_simp) (by go_simp), VarAt.mk5 (by simp <;> omega) (by go_simp) (by go_simp) (by go_simp) (by go_simp) (by go_simp) (by go_simp) (by go_simp) (by go_simp) (by go_simp) (by go_simp), VarAt.mk9 (by simp <;> omega) (by go_simp) (by go_simp) (by go_simp) (by go_simp) (by go_simp) (by go_simp) (by go_simp) (by go_simp) (by go_simp) (by go_simp) (by go_simp) (by go_simp) (by go_simp) (by go_simp) (by go_simp) (by go_simp) (by go_simp) (by go_simp), VarAt.mk5 (by simp <;> omega) (by go_simp) (by go_simp) (by go_simp) (by go_simp) (by go_simp) (by go_simp) (by go_simp) (by go_simp) (by go_simp) (by go_simp)⟩ ?_
    rintro y ⟨k0, k1, k2, k3, k4, k5⟩
    obtain ⟨g, hg⟩ : ∃ g, w.heap.size + 1 + 1 + 1 = g := ⟨_, rfl⟩
    rw [hg] at k4 k5 ⊢
    have HG := Lib.hid hg
    have hcv : CurV g A n cap log (.at log) y := ⟨0, Nat.zero_le _, rfl, k4⟩
    rw [HCC.out] at hcv
    have q1 := k2
    have q2 := k3
    have q3 := k5
    clear k1 k2 k3 k4 k5
    have k1 := q1
    have k2 := q2
    have k3 := q3
    have k4 := hcv
    clear q1 q2 q3 hcv
    have Z0 := Lib.hid k0
    have Z1 := Lib.hid k1
    have Z2 := Lib.hid k2
    have hsz := k3.1
    obtain ⟨_, ⟨o1, o2, o3, o4, o5⟩, _⟩ := k3.five
    have HTC : Calls Try.prog 27 #[.pointer (some ⟨g, 0, none⟩), .agg #[.int .i64 1, .bool false, .int .i64 0, .int .u64 0, .slice none 0 0]] y (Kept y (toldV 1 0 c).val) := toldC k4 1 0
    clear k0 k1 k2 k3 k4
    generalize toldV 1 0 c = V at *
    obtain ⟨vk, vi, va, vb, ve, vn, vis⟩ := V
    unfold ToldV.val at *
    simp only at *
    go_wp2_with fail
    (with_reducible refine HTC.mono ?_)
    clear HTC
    rintro e w3 ⟨rfl, hb3⟩
    obtain ⟨m1, ⟨a0, a1, a2, a3, a4, a5⟩, b0, b1, b2, b3, b4, b5⟩ := (Z1.out.below hb3).six
    obtain ⟨m2, ⟨r1, r2, r3, r4, r5⟩, s1, s2, s3, s4, s5⟩ := (Z2.out.below hb3).five
    have HB3 := Lib.hid (Z0.out.trans (hb3.mono Z0.out.size))
    clear hb3
    go_wp2_with fail
    have hb := HB3.out
    exact bodyPost_ret (v := .tuple #[.agg #[.int .i64 vk, .int .i64 vi, .int .u64 (va : Int), .int .u64 (vb : Int), .slice none 0 0, .slice none 0 0], .agg #[.int .i64 ve, .bool false, .int .i64 vn, .int .u64 0, .slice none 0 0], .bool vis]) (by simp [results, Try.results11, go_sem, a0, a1, a2, a3, a4, a5, r1, r2, r3, r4, r5]) rfl ⟨rfl, (by repeat (first | with_reducible assumption | with_reducible exact Below.refl _ _ | with_reducible refine Below.drew ?_ | with_reducible refine below_al ?_ | (with_reducible refine below_set1 (by omega) _ ?_)))⟩
end Go.Proofs.Ytadknblgfcgkpaa
