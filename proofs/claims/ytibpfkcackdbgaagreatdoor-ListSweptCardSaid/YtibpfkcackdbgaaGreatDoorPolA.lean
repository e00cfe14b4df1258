/- PolA -/
import Derived.Test.YtibpfkcackdbgaaGreatDoorPlyWord
import Derived.Test.YtibpfkcackdbgaaGreatDoorWrdCalls
import Derived.Test.YtibpfkcackdbgaaGreatDoorCllA
import Derived.ScopeJumps
import Derived.WalkMore
import Derived.Test.YtibpfkcackdbgaaGreatDoorPlyA
import Derived.Deep.Cut
namespace Go.Proofs.YtibpfkcackdbgaaGreatDoor
open Go.ChangeShapes Go.WideShapes Go.ChangeAt Go.RowKit Go.BigFrame
set_option linter.unusedVariables false
set_option maxRecDepth 100000
theorem least_of {p : Nat → Prop} (h : ∃ n, p n) : ∃ n, p n ∧ ∀ m, p m → n ≤ m := by
 obtain ⟨n, hn⟩ := h
 induction n using Nat.strongRecOn with
 | _ n ih =>
  by_cases hx : ∃ m, m < n ∧ p m
  ·obtain ⟨m, hm, hp⟩ := hx
   exact ih m hm hp
  ·exact ⟨n, hn, fun m hm => by
    rcases Nat.lt_or_ge m n with h | h
    ·exact absurd ⟨m, h, hm⟩ hx
    ·exact h⟩
theorem wp_scope_count {P : Program} {a : Act} {w : World} {Q : Exit → Act → World → Prop} {c rest : Code} (l : Nat) (J : Nat → Act → World → Prop) (hf : findLabel c l = some rest)
  (first : c.wp P (Exit.jump l (fun a' w' => ∃ n, J n a' w') Q) a w)
  (pass : ∀ n a w, J n a w → rest.wp P (Exit.jump l (fun a' w' => ∃ m, m < n ∧ J m a' w') Q) a w) : (Code.scope c).wp P Q a w := by
 classical
 refine wp_scope_jumps l (fun a' w' => ∃ n, J n a' w') (fun a' w' => if h : ∃ n, J n a' w' then Classical.choose (least_of h) else 0) hf first ?_
 intro a w hJ
 have hs := Classical.choose_spec (least_of hJ)
 refine wp_mono (pass _ a w hs.1) ?_
 intro e a' w' hq
 cases e with
 | goto l' =>
  obtain ⟨rfl, m, hm, hJ'⟩ := hq
  have hx : ∃ n, J n a' w' := ⟨m, hJ'⟩
  refine ⟨rfl, hx, ?_⟩
  simp only [dif_pos hx, dif_pos hJ]
  exact Nat.lt_of_le_of_lt ((Classical.choose_spec (least_of hx)).2 m hJ') hm
 | _ => exact hq
theorem wp_scope_again {P : Program} {a : Act} {w : World} {Q : Exit → Act → World → Prop} {c rest : Code} (l : Nat) (J : Nat → Act → World → Prop) (hf : findLabel c l = some (Code.skip.seq rest))
  (pass : ∀ n a w, J n a w → rest.wp P (Exit.jump l (fun a' w' => ∃ m, m < n ∧ J m a' w') Q) a w)
  (first : (∀ n a w, J n a w → rest.wp P (Exit.jump l (fun a' w' => ∃ n, J n a' w') Q) a w) → c.wp P (Exit.jump l (fun a' w' => ∃ n, J n a' w') Q) a w) : (Code.scope c).wp P Q a w := by
 refine wp_scope_count l J hf (first fun n a w h => wp_mono (pass n a w h) ?_) fun n a w h => wp_seq (wp_skip (pass n a w h))
 intro e a' w' hq
 cases e with
 | goto l' =>
  obtain ⟨rfl, m, _, hJ⟩ := hq
  exact ⟨rfl, m, hJ⟩
 | _ => exact hq
inductive Tell (S : Type) where
 | told (n : Nat) (s : S)
 | left
 | bad
inductive Ran (S : Type) where
 | done (r : Nat) (s : S)
 | left (k i : Int) (a b : Nat)
 | bad
def Quits (pv : Value) (P : World → Prop) (e : Ending) (w' : World) : Prop := e = .panicked [{ v := pv, recovered := false }] ∧ P w'
def Bnd (k i : Int) (a b : Nat) : Prop := (-9223372036854775808 ≤ k ∧ k < 9223372036854775808) ∧ (-9223372036854775808 ≤ i ∧ i < 9223372036854775808) ∧ a < 18446744073709551616 ∧ b < 18446744073709551616
structure Srv (dv : Value) (S : Type) where
 I : S → World → Prop
 g : Nat
 tell : S → Int → Int → Nat → Nat → Tell S
 pv : Value
 L : Int → Int → Nat → Nat → World → Prop
 isFn : ∃ f first cap, dv = .func (.func f) first cap
 small : ∀ {s k i a b n s'}, tell s k i a b = .told n s' → n < 18446744073709551616
 B : World → Nat
 ble : ∀ {s w}, I s w → B w ≤ w.heap.size
 stay : ∀ {s w w'}, I s w → Below (B w) w w' → I s w'
 told : ∀ {s k i a b n s'}, tell s k i a b = .told n s' → Bnd k i a b → ∀ w, I s w → Calls Tryz.prog 88 #[dv, .int .i64 k, .int .i64 i, .int .u64 (a : Int), .int .u64 (b : Int)] w (Tells n (fun w' => I s' w' ∧ But g w w'))
 left : ∀ {s k i a b}, tell s k i a b = .left → Bnd k i a b → ∀ w, I s w → Calls Tryz.prog 88 #[dv, .int .i64 k, .int .i64 i, .int .u64 (a : Int), .int .u64 (b : Int)] w (Quits pv (fun w' => L k i a b w' ∧ But g w w'))
theorem Srv.leftL {dv : Value} {S : Type} (V : Srv dv S) {s : S} {k i : Int} {a b : Nat} (h : V.tell s k i a b = .left) (hb : Bnd k i a b) (w : World) (hI : V.I s w) : Calls Tryz.prog 88 #[dv, .int .i64 k, .int .i64 i, .int .u64 (a : Int), .int .u64 (b : Int)] w (Quits V.pv (V.L k i a b)) :=
 (V.left h hb w hI).mono fun e w' h => ⟨h.1, h.2.1⟩
theorem Srv.later {dv : Value} {S : Type} (V : Srv dv S) {s : S} {w w' : World} (h : V.I s w) (hb : Below w.heap.size w w') : V.I s w' := V.stay h (hb.mono (V.ble h))
def RunEnd {dv : Value} {S : Type} (V : Srv dv S) (w : World) (ret : Nat → Value) : Ran S → Ending → World → Prop
 | .done r s, e, w' => e = .returned (ret r) ∧ V.I s w' ∧ But V.g w w'
 | .left k i a b, e, w' => Quits V.pv (V.L k i a b) e w'
 | .bad, _, _ => True
section
variable (dv : Value) (i : Int) (a b : Nat) (pv : Value) (P : World → Prop) (w : World)
theorem load_left (h : Calls Tryz.prog 88 #[dv, .int .i64 0, .int .i64 i, .int .u64 0, .int .u64 0] w (Quits pv P)) :
  Calls Tryz.prog 86 #[dv, .int .i64 i] w (Quits pv P) := by
 go_enter Tryz.func86, Tryz.ntmps86
 go_wp2_with fail
 (with_reducible refine h.mono ?_)
 rintro e w' ⟨rfl, hp⟩
 exact ⟨rfl, rfl, hp⟩
theorem store_left (h : Calls Tryz.prog 88 #[dv, .int .i64 1, .int .i64 i, .int .u64 (a : Int), .int .u64 0] w (Quits pv P)) :
  Calls Tryz.prog 49 #[dv, .int .i64 i, .int .u64 (a : Int)] w (Quits pv P) := by
 go_enter Tryz.func49, Tryz.ntmps49
 go_wp2_with fail
 (with_reducible refine h.mono ?_)
 rintro e w' ⟨rfl, hp⟩
 exact ⟨rfl, rfl, hp⟩
theorem cas_left (h : Calls Tryz.prog 88 #[dv, .int .i64 2, .int .i64 i, .int .u64 (a : Int), .int .u64 (b : Int)] w (Quits pv P)) :
  Calls Tryz.prog 89 #[dv, .int .i64 i, .int .u64 (a : Int), .int .u64 (b : Int)] w (Quits pv P) := by
 go_enter Tryz.func89, Tryz.ntmps89
 go_wp2_with fail
 (with_reducible refine h.mono ?_)
 rintro e w' ⟨rfl, hp⟩
 exact ⟨rfl, rfl, hp⟩
end
section
variable {dv : Value} {S : Type} (V : Srv dv S) {s s' : S} {i : Int} {a b n : Nat}
theorem Bnd.load (hi : -9223372036854775808 ≤ i ∧ i < 9223372036854775808) : Bnd 0 i 0 0 := ⟨by decide, hi, by decide, by decide⟩
theorem Bnd.store (hi : -9223372036854775808 ≤ i ∧ i < 9223372036854775808) (ha : a < 18446744073709551616) : Bnd 1 i a 0 := ⟨by decide, hi, ha, by decide⟩
theorem Bnd.cas (hi : -9223372036854775808 ≤ i ∧ i < 9223372036854775808) (ha : a < 18446744073709551616) (hb : b < 18446744073709551616) : Bnd 2 i a b := ⟨by decide, hi, ha, hb⟩
theorem Srv.load (ht : V.tell s 0 i 0 0 = .told n s') (hi : -9223372036854775808 ≤ i ∧ i < 9223372036854775808) (w : World) (hI : V.I s w) :
  Calls Tryz.prog 86 #[dv, .int .i64 i] w (Tells n (fun w' => V.I s' w' ∧ But V.g w w')) := load_of dv i n _ w (V.told ht (Bnd.load hi) w hI)
theorem Srv.loadL (ht : V.tell s 0 i 0 0 = .left) (hi : -9223372036854775808 ≤ i ∧ i < 9223372036854775808) (w : World) (hI : V.I s w) :
  Calls Tryz.prog 86 #[dv, .int .i64 i] w (Quits V.pv (V.L 0 i 0 0)) := load_left dv i V.pv _ w (V.leftL ht (Bnd.load hi) w hI)
theorem Srv.store (ht : V.tell s 1 i a 0 = .told n s') (hi : -9223372036854775808 ≤ i ∧ i < 9223372036854775808) (ha : a < 18446744073709551616) (w : World) (hI : V.I s w) :
  Calls Tryz.prog 49 #[dv, .int .i64 i, .int .u64 (a : Int)] w (fun e w' => e = .returned (.tuple #[]) ∧ V.I s' w' ∧ But V.g w w') := store_of dv i a n _ w (V.told ht (Bnd.store hi ha) w hI)
theorem Srv.storeL (ht : V.tell s 1 i a 0 = .left) (hi : -9223372036854775808 ≤ i ∧ i < 9223372036854775808) (ha : a < 18446744073709551616) (w : World) (hI : V.I s w) :
  Calls Tryz.prog 49 #[dv, .int .i64 i, .int .u64 (a : Int)] w (Quits V.pv (V.L 1 i a 0)) := store_left dv i a V.pv _ w (V.leftL ht (Bnd.store hi ha) w hI)
theorem Srv.cas (ht : V.tell s 2 i a b = .told n s') (hi : -9223372036854775808 ≤ i ∧ i < 9223372036854775808) (ha : a < 18446744073709551616) (hb : b < 18446744073709551616) (w : World) (hI : V.I s w) :
  Calls Tryz.prog 89 #[dv, .int .i64 i, .int .u64 (a : Int), .int .u64 (b : Int)] w (fun e w' => e = .returned (.bool ((n : Int) == 1)) ∧ V.I s' w' ∧ But V.g w w') := cas_of dv i a b n _ w (V.told ht (Bnd.cas hi ha hb) w hI)
theorem Srv.casL (ht : V.tell s 2 i a b = .left) (hi : -9223372036854775808 ≤ i ∧ i < 9223372036854775808) (ha : a < 18446744073709551616) (hb : b < 18446744073709551616) (w : World) (hI : V.I s w) :
  Calls Tryz.prog 89 #[dv, .int .i64 i, .int .u64 (a : Int), .int .u64 (b : Int)] w (Quits V.pv (V.L 2 i a b)) := cas_left dv i a b V.pv _ w (V.leftL ht (Bnd.cas hi ha hb) w hI)
end
end Go.Proofs.YtibpfkcackdbgaaGreatDoor
namespace Go.Proofs.YtibpfkcackdbgaaGreatDoor
open Go.ChangeShapes Go.WideShapes Go.ChangeAt Go.RowKit Go.BigFrame
set_option linter.unusedVariables false
set_option maxRecDepth 100000
theorem fieldN_lt {t r f : Nat} (ht : t ≤ 64) (hr : r < 1048576) (hf : f < 8) : fieldN t r f < 9000000 := by unfold fieldN; omega
theorem topN_lt {r : Nat} (h : r < 1048576) (t : Nat) : topN r t < 18446744073709551616 := by unfold topN; omega
theorem i64_nat {n : Nat} (h : n < 9223372036854775808) : -9223372036854775808 ≤ (n : Int) ∧ (n : Int) < 9223372036854775808 := by omega
section
variable {S : Type} (T : S → Int → Int → Nat → Nat → Tell S) (t : Nat)
def popRun : Nat → S → Ran S
 | 0, _ => .bad
 | n + 1, s =>
  match T s 0 1 0 0 with
  | .bad => .bad
  | .left => .left 0 1 0 0
  | .told w s1 =>
   if firstN w = 0 then .done 0 s1 else
   match T s1 0 ((fieldN t (firstN w) 7 : Nat) : Int) 0 0 with
   | .bad => .bad
   | .left => .left 0 ((fieldN t (firstN w) 7 : Nat) : Int) 0 0
   | .told x s2 =>
    match T s2 2 1 w (topN (firstN x) (tagN w + 1)) with
    | .bad => .bad
    | .left => .left 2 1 w (topN (firstN x) (tagN w + 1))
    | .told d s3 => if d = 1 then .done (firstN w) s3 else popRun n s3
def pushRun (r : Nat) : Nat → S → Ran S
 | 0, _ => .bad
 | n + 1, s =>
  match T s 0 1 0 0 with
  | .bad => .bad
  | .left => .left 0 1 0 0
  | .told w s1 =>
   match T s1 1 ((fieldN t r 7 : Nat) : Int) (firstN w) 0 with
   | .bad => .bad
   | .left => .left 1 ((fieldN t r 7 : Nat) : Int) (firstN w) 0
   | .told _ s2 =>
    match T s2 2 1 w (topN r (tagN w + 1)) with
    | .bad => .bad
    | .left => .left 2 1 w (topN r (tagN w + 1))
    | .told d s3 => if d = 1 then .done 0 s3 else pushRun r n s3
end
section
variable {dv : Value} {S : Type} (V : Srv dv S)
theorem eq1 {n : Nat} (h : n = 1) : ((n : Int) == 1) = true := by rw [beq_iff_eq]; omega
theorem ne1 {n : Nat} (h : ¬ n = 1) : ((n : Int) == 1) = false := by rw [beq_eq_false_iff_ne]; omega
end
end Go.Proofs.YtibpfkcackdbgaaGreatDoor
namespace Go.Proofs.YtibpfkcackdbgaaGreatDoor
open Go.ChangeShapes Go.WideShapes Go.ChangeAt Go.RowKit Go.BigFrame
set_option linter.unusedVariables false
set_option maxRecDepth 100000
theorem askT_left (g : Nat) (k i : Int) (a b : Nat) (pv : Value) (P : World → Prop) (w : World) (h : Calls Tryz.prog 142 #[.pointer (some ⟨g, 0, none⟩), .agg #[.int .i64 k, .int .i64 i, .int .u64 (a : Int), .int .u64 (b : Int), .slice none 0 0, .slice none 0 0]] w (Quits pv P)) :
  Calls Tryz.prog 88 #[.func (.func 142) #[.pointer (some ⟨g, 0, none⟩)] #[], .int .i64 k, .int .i64 i, .int .u64 (a : Int), .int .u64 (b : Int)] w (Quits pv P) := by
 have he := eql_do
 have hf := field_n
 go_enter Tryz.func88, Tryz.ntmps88
 go_wp2_with fail
 (with_reducible refine h.mono ?_)
 rintro e w' ⟨rfl, hp⟩
 exact ⟨rfl, rfl, hp⟩
def accK (k i : Int) (a b : Nat) : Acc := ⟨k, i, a, b, [], 0, fun _ => 0⟩
theorem accK_P {k i : Int} {a b : Nat} (h : Bnd k i a b) (w : World) : AccP w (accK k i a b) none 0 none 0 := ⟨h.1, h.2.1, h.2.2.1, h.2.2.2, ⟨Nat.le_refl 0, Nat.zero_le _⟩, ⟨Nat.le_refl 0, Nat.zero_le _⟩, AtB.nil _ _, AtW.nil _ _⟩
def tapeTell : List Res → Int → Int → Nat → Nat → Tell (List Res)
 | [], _, _, _, _ => .left
 | r :: rest, _, _, _, _ => .told (r.n % 18446744073709551616) rest
abbrev doV (g : Nat) : Value := .func (.func 142) #[.pointer (some ⟨g, 0, none⟩)] #[]
theorem VarAt.lower {w w' : World} {b B : Nat} {vs : List Value} (h : VarAt w b vs) (hb : b < B) (hB : Below B w w') : VarAt w' b vs :=
 ⟨Nat.lt_of_lt_of_le h.1 hB.size, fun j v hj => (hB.cell (p := ⟨b, j, none⟩) hb).trans (h.2.1 j v hj), fun j hj => (hB.frozen (p := ⟨b, j, none⟩) hb).trans (h.2.2 j hj)⟩
theorem But.later' {g : Nat} {w w' w2 : World} (h : But g w w') (hb : Below w.heap.size w' w2) (hg : g ≤ w.heap.size) : But g w w2 :=
 ⟨h.below.trans (hb.mono hg), fun b hlt hne => (hb.block b hlt).trans (h.block b hlt hne)⟩
def TapeI (g : Nat) (w0 wb : World) (s : List Res) (w : World) : Prop :=
 (∃ A cap, VarAt w g (tapeV A s.length cap true false (.int .i64 0) (.int .i64 0) (.int .u64 0) (.int .u64 0) (.slice none 0 0) (.slice none 0 0)) ∧ LogAt w0 A s.length s ∧ s.length ≤ cap) ∧ But g wb w
def tapeSrv (g : Nat) (w0 wb : World) (hg : w0.heap.size ≤ g) (hgw : g < wb.heap.size) (hb : Below w0.heap.size w0 wb) : Srv (doV g) (List Res) where
 I := TapeI g w0 wb
 g := g
 tell := tapeTell
 pv := .iface 157 (.pointer (some ⟨g, 0, none⟩))
 L k i a b w' := ∃ e, LeftPost wb g (accK k i a b) true e w'
 isFn := ⟨_, _, _, rfl⟩
 small := by
  intro s k i a b n s' h
  cases s with
  | nil => cases h
  | cons r rest => cases h; exact Nat.mod_lt _ (by decide)
 B _ := wb.heap.size
 ble := fun h => h.2.size
 stay := by
  rintro s w w' ⟨⟨A, cap, hv, hl, hc⟩, hB⟩ hb'
  exact ⟨⟨A, cap, hv.lower hgw hb', hl, hc⟩, hB.later' hb' (by omega)⟩
 told := by
  rintro s k i a b n s' h hbd w ⟨⟨A, cap, hv, hl, hc⟩, hB⟩
  obtain _ | ⟨r, rest⟩ := s
  ·cases h
  ·obtain ⟨rfl, rfl⟩ : r.n % 18446744073709551616 = n ∧ rest = s' := by cases h; exact ⟨rfl, rfl⟩
   refine askT g k i a b _ _ w ((do_told g A (r :: rest).length rest.length cap rfl r rest true false (.int .i64 0) (.int .i64 0) (.int .u64 0) (.int .u64 0) (.slice none 0 0) (.slice none 0 0) k i a b none 0 0 none 0 0 w0 w (Lib.hid hv) (Lib.hid hl) hc (Lib.hid (hb.trans (hB.below.mono hg))) hg).mono ?_)
   rintro e w' ⟨B, bc, A', cap', rfl, hr, hv', hl', hc', hB'⟩
   refine ⟨_, _, by rw [Nat.mod_eq_of_lt hr.n], ⟨⟨A', cap', hv', hl', hc'⟩, hB.trans hB'⟩, hB'⟩
 left := by
  rintro s k i a b h hbd w ⟨⟨A, cap, hv, hl, hc⟩, hB⟩
  cases s with
  | cons r rest => cases h
  | nil =>
   refine askT_left g k i a b _ _ w ((do_left g A cap true (.int .i64 0) (.int .i64 0) (.int .u64 0) (.int .u64 0) (.slice none 0 0) (.slice none 0 0) (accK k i a b) (Nat.zero_le _) none 0 none 0 w0 w (Lib.hid hv) (Lib.hid (accK_P hbd w0)) (Lib.hid (hb.trans (hB.below.mono hg))) hg).mono ?_)
   rintro e w' ⟨D, dc, E, ec, A', cap', rfl, hT, hX, hB', hD, hE⟩
   have hsz := hB.size
   exact ⟨rfl, ⟨_, D, dc, E, ec, A', cap', rfl, hT, hX, hB.trans hB', hD.mono fun b h => by omega, hE.mono fun b h => by omega⟩, hB'⟩
section
variable {dv : Value} {S : Type} (V : Srv dv S)
end
end Go.Proofs.YtibpfkcackdbgaaGreatDoor
