/- PolA -/
import Derived.Test.YtibpfkcackdbgaaGreatDoorPlyWord
import Derived.Test.YtibpfkcackdbgaaGreatDoorWrdCalls
import Derived.Test.YtibpfkcackdbgaaGreatDoorCllA
import Derived.ScopeJumps
import Derived.WalkMore
import Derived.Test.YtibpfkcackdbgaaGreatDoorPlyA
import Derived.Deep.Cut
namespace Go.Proofs.YtibpfkcackdbgaaGreatDoor
open Go.ChangeShapes Go.WideShapes Go.ChangeAt Go.RowKit Go.BigFrame
set_option linter.unusedVariables false
set_option maxRecDepth 100000
theorem least_of {p : Nat → Prop} (h : ∃ n, p n) : ∃ n, p n ∧ ∀ m, p m → n ≤ m := by
 obtain ⟨n, hn⟩ := h
 induction n using Nat.strongRecOn with
 | _ n ih =>
  by_cases hx : ∃ m, m < n ∧ p m
  ·obtain ⟨m, hm, hp⟩ := hx
   exact ih m hm hp
  ·exact ⟨n, hn, fun m hm => by
    rcases Nat.lt_or_ge m n with h | h
    ·exact absurd ⟨m, h, hm⟩ hx
    ·exact h⟩
theorem wp_scope_count {P : Program} {a : Act} {w : World} {Q : Exit → Act → World → Prop} {c rest : Code} (l : Nat) (J : Nat → Act → World → Prop) (hf : findLabel c l = some rest)
  (first : c.wp P (Exit.jump l (fun a' w' => ∃ n, J n a' w') Q) a w)
  (pass : ∀ n a w, J n a w → rest.wp P (Exit.jump l (fun a' w' => ∃ m, m < n ∧ J m a' w') Q) a w) : (Code.scope c).wp P Q a w := by
 classical
 refine wp_scope_jumps l (fun a' w' => ∃ n, J n a' w') (fun a' w' => if h : ∃ n, J n a' w' then Classical.choose (least_of h) else 0) hf first ?_
 intro a w hJ
 have hs := Classical.choose_spec (least_of hJ)
 refine wp_mono (pass _ a w hs.1) ?_
 intro e a' w' hq
 cases e with
 | goto l' =>
  obtain ⟨rfl, m, hm, hJ'⟩ := hq
  have hx : ∃ n, J n a' w' := ⟨m, hJ'⟩
  refine ⟨rfl, hx, ?_⟩
  simp only [dif_pos hx, dif_pos hJ]
  exact Nat.lt_of_le_of_lt ((Classical.choose_spec (least_of hx)).2 m hJ') hm
 | _ => exact hq
theorem wp_scope_again {P : Program} {a : Act} {w : World} {Q : Exit → Act → World → Prop} {c rest : Code} (l : Nat) (J : Nat → Act → World → Prop) (hf : findLabel c l = some (Code.skip.seq rest))
  (pass : ∀ n a w, J n a w → rest.wp P (Exit.jump l (fun a' w' => ∃ m, m < n ∧ J m a' w') Q) a w)
  (first : (∀ n a w, J n a w → rest.wp P (Exit.jump l (fun a' w' => ∃ n, J n a' w') Q) a w) → c.wp P (Exit.jump l (fun a' w' => ∃ n, J n a' w') Q) a w) : (Code.scope c).wp P Q a w := by
 refine wp_scope_count l J hf (first fun n a w h => wp_mono (pass n a w h) ?_) fun n a w h => wp_seq (wp_skip (pass n a w h))
 intro e a' w' hq
 cases e with
 | goto l' =>
  obtain ⟨rfl, m, _, hJ⟩ := hq
  exact ⟨rfl, m, hJ⟩
 | _ => exact hq
inductive Tell (S : Type) where
 | told (n : Nat) (s : S)
 | left
 | bad
inductive Ran (S : Type) where
 | done (r : Nat) (s : S)
 | left (k i : Int) (a b : Nat)
 | bad
def Quits (pv : Value) (P : World → Prop) (e : Ending) (w' : World) : Prop := e = .panicked [{ v := pv, recovered := false }] ∧ P w'
def Bnd (k i : Int) (a b : Nat) : Prop := (-9223372036854775808 ≤ k ∧ k < 9223372036854775808) ∧ (-9223372036854775808 ≤ i ∧ i < 9223372036854775808) ∧ a < 18446744073709551616 ∧ b < 18446744073709551616
structure Srv (dv : Value) (S : Type) where
 I : S → World → Prop
 g : Nat
 tell : S → Int → Int → Nat → Nat → Tell S
 pv : Value
 L : Int → Int → Nat → Nat → World → Prop
 isFn : ∃ f first cap, dv = .func (.func f) first cap
 small : ∀ {s k i a b n s'}, tell s k i a b = .told n s' → n < 18446744073709551616
 B : World → Nat
 ble : ∀ {s w}, I s w → B w ≤ w.heap.size
 stay : ∀ {s w w'}, I s w → Below (B w) w w' → I s w'
 told : ∀ {s k i a b n s'}, tell s k i a b = .told n s' → Bnd k i a b → ∀ w, I s w → Calls Tryz.prog 88 #[dv, .int .i64 k, .int .i64 i, .int .u64 (a : Int), .int .u64 (b : Int)] w (Tells n (fun w' => I s' w' ∧ But g w w'))
 left : ∀ {s k i a b}, tell s k i a b = .left → Bnd k i a b → ∀ w, I s w → Calls Tryz.prog 88 #[dv, .int .i64 k, .int .i64 i, .int .u64 (a : Int), .int .u64 (b : Int)] w (Quits pv (fun w' => L k i a b w' ∧ But g w w'))
theorem Srv.leftL {dv : Value} {S : Type} (V : Srv dv S) {s : S} {k i : Int} {a b : Nat} (h : V.tell s k i a b = .left) (hb : Bnd k i a b) (w : World) (hI : V.I s w) : Calls Tryz.prog 88 #[dv, .int .i64 k, .int .i64 i, .int .u64 (a : Int), .int .u64 (b : Int)] w (Quits V.pv (V.L k i a b)) :=
 (V.left h hb w hI).mono fun e w' h => ⟨h.1, h.2.1⟩
theorem Srv.later {dv : Value} {S : Type} (V : Srv dv S) {s : S} {w w' : World} (h : V.I s w) (hb : Below w.heap.size w w') : V.I s w' := V.stay h (hb.mono (V.ble h))
def RunEnd {dv : Value} {S : Type} (V : Srv dv S) (w : World) (ret : Nat → Value) : Ran S → Ending → World → Prop
 | .done r s, e, w' => e = .returned (ret r) ∧ V.I s w' ∧ But V.g w w'
 | .left k i a b, e, w' => Quits V.pv (V.L k i a b) e w'
 | .bad, _, _ => True
section
variable (dv : Value) (i : Int) (a b : Nat) (pv : Value) (P : World → Prop) (w : World)
theorem load_left (h : Calls Tryz.prog 88 #[dv, .int .i64 0, .int .i64 i, .int .u64 0, .int .u64 0] w (Quits pv P)) :
  Calls Tryz.prog 86 #[dv, .int .i64 i] w (Quits pv P) := by
 go_enter Tryz.func86, Tryz.ntmps86
 go_wp2_with fail
 (with_reducible refine h.mono ?_)
 rintro e w' ⟨rfl, hp⟩
 exact ⟨rfl, rfl, hp⟩
theorem store_left (h : Calls Tryz.prog 88 #[dv, .int .i64 1, .int .i64 i, .int .u64 (a : Int), .int .u64 0] w (Quits pv P)) :
  Calls Tryz.prog 49 #[dv, .int .i64 i, .int .u64 (a : Int)] w (Quits pv P) := by
 go_enter Tryz.func49, Tryz.ntmps49
 go_wp2_with fail
 (with_reducible refine h.mono ?_)
 rintro e w' ⟨rfl, hp⟩
 exact ⟨rfl, rfl, hp⟩
theorem cas_left (h : Calls Tryz.prog 88 #[dv, .int .i64 2, .int .i64 i, .int .u64 (a : Int), .int .u64 (b : Int)] w (Quits pv P)) :
  Calls Tryz.prog 89 #[dv, .int .i64 i, .int .u64 (a : Int), .int .u64 (b : Int)] w (Quits pv P) := by
 go_enter Tryz.func89, Tryz.ntmps89
 go_wp2_with fail
 (with_reducible refine h.mono ?_)
 rintro e w' ⟨rfl, hp⟩
 exact ⟨rfl, rfl, hp⟩
end
section
variable {dv : Value} {S : Type} (V : Srv dv S) {s s' : S} {i : Int} {a b n : Nat}
theorem Bnd.load (hi : -9223372036854775808 ≤ i ∧ i < 9223372036854775808) : Bnd 0 i 0 0 := ⟨by decide, hi, by decide, by decide⟩
theorem Bnd.store (hi : -9223372036854775808 ≤ i ∧ i < 9223372036854775808) (ha : a < 18446744073709551616) : Bnd 1 i a 0 := ⟨by decide, hi, ha, by decide⟩
theorem Bnd.cas (hi : -9223372036854775808 ≤ i ∧ i < 9223372036854775808) (ha : a < 18446744073709551616) (hb : b < 18446744073709551616) : Bnd 2 i a b := ⟨by decide, hi, ha, hb⟩
theorem Srv.load (ht : V.tell s 0 i 0 0 = .told n s') (hi : -9223372036854775808 ≤ i ∧ i < 9223372036854775808) (w : World) (hI : V.I s w) :
  Calls Tryz.prog 86 #[dv, .int .i64 i] w (Tells n (fun w' => V.I s' w' ∧ But V.g w w')) := load_of dv i n _ w (V.told ht (Bnd.load hi) w hI)
theorem Srv.loadL (ht : V.tell s 0 i 0 0 = .left) (hi : -9223372036854775808 ≤ i ∧ i < 9223372036854775808) (w : World) (hI : V.I s w) :
  Calls Tryz.prog 86 #[dv, .int .i64 i] w (Quits V.pv (V.L 0 i 0 0)) := load_left dv i V.pv _ w (V.leftL ht (Bnd.load hi) w hI)
theorem Srv.store (ht : V.tell s 1 i a 0 = .told n s') (hi : -9223372036854775808 ≤ i ∧ i < 9223372036854775808) (ha : a < 18446744073709551616) (w : World) (hI : V.I s w) :
  Calls Tryz.prog 49 #[dv, .int .i64 i, .int .u64 (a : Int)] w (fun e w' => e = .returned (.tuple #[]) ∧ V.I s' w' ∧ But V.g w w') := store_of dv i a n _ w (V.told ht (Bnd.store hi ha) w hI)
theorem Srv.storeL (ht : V.tell s 1 i a 0 = .left) (hi : -9223372036854775808 ≤ i ∧ i < 9223372036854775808) (ha : a < 18446744073709551616) (w : World) (hI : V.I s w) :
  Calls Tryz.prog 49 #[dv, .int .i64 i, .int .u64 (a : Int)] w (Quits V.pv (V.L 1 i a 0)) := store_left dv i a V.pv _ w (V.leftL ht (Bnd.store hi ha) w hI)
theorem Srv.cas (ht : V.tell s 2 i a b = .told n s') (hi : -9223372036854775808 ≤ i ∧ i < 9223372036854775808) (ha : a < 18446744073709551616) (hb : b < 18446744073709551616) (w : World) (hI : V.I s w) :
  Calls Tryz.prog 89 #[dv, .int .i64 i, .int .u64 (a : Int), .int .u64 (b : Int)] w (fun e w' => e = .returned (.bool ((n : Int) == 1)) ∧ V.I s' w' ∧ But V.g w w') := cas_of dv i a b n _ w (V.told ht (Bnd.cas hi ha hb) w hI)
theorem Srv.casL (ht : V.tell s 2 i a b = .left) (hi : -9223372036854775808 ≤ i ∧ i < 9223372036854775808) (ha : a < 18446744073709551616) (hb : b < 18446744073709551616) (w : World) (hI : V.I s w) :
  Calls Tryz.prog 89 #[dv, .int .i64 i, .int .u64 (a : Int), .int .u64 (b : Int)] w (Quits V.pv (V.L 2 i a b)) := cas_left dv i a b V.pv _ w (V.leftL ht (Bnd.cas hi ha hb) w hI)
end
end Go.Proofs.YtibpfkcackdbgaaGreatDoor
namespace Go.Proofs.YtibpfkcackdbgaaGreatDoor
open Go.ChangeShapes Go.WideShapes Go.ChangeAt Go.RowKit Go.BigFrame
set_option linter.unusedVariables false
set_option maxRecDepth 100000
theorem fieldN_lt {t r f : Nat} (ht : t ≤ 64) (hr : r < 1048576) (hf : f < 8) : fieldN t r f < 9000000 := by unfold fieldN; omega
theorem tagN_lt {x : Nat} (h : x < 18446744073709551616) : tagN x < 17592186044416 := by unfold tagN; omega
theorem topN_lt {r : Nat} (h : r < 1048576) (t : Nat) : topN r t < 18446744073709551616 := by unfold topN; omega
theorem i64_nat {n : Nat} (h : n < 9223372036854775808) : -9223372036854775808 ≤ (n : Int) ∧ (n : Int) < 9223372036854775808 := by omega
theorem poolLink_any (t r : Nat) (ht : t ≤ 64) (h1 : 1 ≤ r) (hr : r < 1048576) (w : World) :
  Calls Tryz.prog 199 #[.int .i64 (t : Int), .int .i64 (r : Int)] w fun e w' => e = .returned (.int .i64 (fieldN t r 7 : Nat)) ∧ w = w' := by
 have HF : ∀ w, Calls Tryz.prog 87 #[.int .i64 (t : Int), .int .i64 (r : Int), .int .i64 7] w fun e w' => e = .returned (.int .i64 (fieldN t r 7 : Nat)) ∧ w = w' := fun w => field_any t r 7 (by omega) h1 (by omega) (by omega) w
 clear ht h1 hr
 go_enter Tryz.func199, Tryz.ntmps199
 go_wp2_with (go_at_call 87; (with_reducible refine (HF _).mono ?_); rintro e w' ⟨rfl, rfl⟩)
 go_ret
 exact ⟨rfl, rfl⟩
section
variable {S : Type} (T : S → Int → Int → Nat → Nat → Tell S) (t : Nat)
def popRun : Nat → S → Ran S
 | 0, _ => .bad
 | n + 1, s =>
  match T s 0 1 0 0 with
  | .bad => .bad
  | .left => .left 0 1 0 0
  | .told w s1 =>
   if firstN w = 0 then .done 0 s1 else
   match T s1 0 ((fieldN t (firstN w) 7 : Nat) : Int) 0 0 with
   | .bad => .bad
   | .left => .left 0 ((fieldN t (firstN w) 7 : Nat) : Int) 0 0
   | .told x s2 =>
    match T s2 2 1 w (topN (firstN x) (tagN w + 1)) with
    | .bad => .bad
    | .left => .left 2 1 w (topN (firstN x) (tagN w + 1))
    | .told d s3 => if d = 1 then .done (firstN w) s3 else popRun n s3
def pushRun (r : Nat) : Nat → S → Ran S
 | 0, _ => .bad
 | n + 1, s =>
  match T s 0 1 0 0 with
  | .bad => .bad
  | .left => .left 0 1 0 0
  | .told w s1 =>
   match T s1 1 ((fieldN t r 7 : Nat) : Int) (firstN w) 0 with
   | .bad => .bad
   | .left => .left 1 ((fieldN t r 7 : Nat) : Int) (firstN w) 0
   | .told _ s2 =>
    match T s2 2 1 w (topN r (tagN w + 1)) with
    | .bad => .bad
    | .left => .left 2 1 w (topN r (tagN w + 1))
    | .told d s3 => if d = 1 then .done 0 s3 else pushRun r n s3
end
section
variable {dv : Value} {S : Type} (V : Srv dv S)
theorem turn_told {s s' : S} {n x r : Nat} (hx : x < 18446744073709551616) (hr : r < 1048576) (ht : V.tell s 2 1 x (topN r (tagN x + 1)) = .told n s') (w : World) (hI : V.I s w) :
  Calls Tryz.prog 200 #[dv, .int .u64 (x : Int), .int .i64 (r : Int)] w (fun e w' => e = .returned (.bool ((n : Int) == 1)) ∧ V.I s' w' ∧ But V.g w w') := by
 have hw : IntKind.u64.wrap (((tagN x : Nat) : Int) + 1) = ((tagN x + 1 : Nat) : Int) := by rw [IntKind.wrap_u64]; have := tagN_lt hx; omega
 have HT := fun w => top_any r (tagN x + 1) hr w
 have HC := V.cas ht (by decide) hx (topN_lt hr _)
 have HI := Lib.hid hI
 clear hI hx hr ht
 obtain ⟨T1, hT1⟩ : ∃ T, tagN x + 1 = T := ⟨_, rfl⟩
 rw [hT1] at hw HT HC
 clear hT1
 go_enter Tryz.func200, Tryz.ntmps200
 go_wp2_with (first
  | (go_at_call 208; (with_reducible refine (tag_any x _).mono ?_); rintro e w' ⟨rfl, rfl⟩)
  | (go_at_call 207; (with_reducible refine (HT _).mono ?_); rintro e w' ⟨rfl, rfl⟩)
  | (go_at_call 89; (with_reducible refine (HC _ HI.out).mono ?_); clear HC; rintro e w' ⟨rfl, hi⟩; have HJ := Lib.hid hi; clear hi))
 go_ret
 exact ⟨rfl, HJ.out⟩
theorem turn_left {s : S} {x r : Nat} (hx : x < 18446744073709551616) (hr : r < 1048576) (ht : V.tell s 2 1 x (topN r (tagN x + 1)) = .left) (w : World) (hI : V.I s w) :
  Calls Tryz.prog 200 #[dv, .int .u64 (x : Int), .int .i64 (r : Int)] w (Quits V.pv (V.L 2 1 x (topN r (tagN x + 1)))) := by
 have hw : IntKind.u64.wrap (((tagN x : Nat) : Int) + 1) = ((tagN x + 1 : Nat) : Int) := by rw [IntKind.wrap_u64]; have := tagN_lt hx; omega
 have HT := fun w => top_any r (tagN x + 1) hr w
 have HC := V.casL ht (by decide) hx (topN_lt hr _)
 have HI := Lib.hid hI
 clear hI hx hr ht
 obtain ⟨T1, hT1⟩ : ∃ T, tagN x + 1 = T := ⟨_, rfl⟩
 rw [hT1] at hw HT HC ⊢
 clear hT1
 go_enter Tryz.func200, Tryz.ntmps200
 go_wp2_with (first
  | (go_at_call 208; (with_reducible refine (tag_any x _).mono ?_); rintro e w' ⟨rfl, rfl⟩)
  | (go_at_call 207; (with_reducible refine (HT _).mono ?_); rintro e w' ⟨rfl, rfl⟩)
  | (go_at_call 89; (with_reducible refine (HC _ HI.out).mono ?_); clear HC; rintro e w' ⟨rfl, hi⟩; exact ⟨rfl, rfl, hi⟩))
theorem eq0 {n : Nat} (h : n = 0) : ((n : Int) == 0) = true := by rw [beq_iff_eq]; omega
theorem ne0 {n : Nat} (h : ¬ n = 0) : ((n : Int) == 0) = false := by rw [beq_eq_false_iff_ne]; omega
theorem eq1 {n : Nat} (h : n = 1) : ((n : Int) == 1) = true := by rw [beq_iff_eq]; omega
theorem ne1 {n : Nat} (h : ¬ n = 1) : ((n : Int) == 1) = false := by rw [beq_eq_false_iff_ne]; omega
set_option maxHeartbeats 4000000 in
set_option maxRecDepth 100000 in
theorem pop_at (t : Nat) (ht : t ≤ 64) (n : Nat) (s : S) (R : Ran S) (hR : popRun V.tell t n s = R) (hb : R ≠ .bad) (w : World) (hI : V.I s w) :
  Calls Tryz.prog 182 #[dv, .int .i64 (t : Int)] w (RunEnd V w (fun r => .int .i64 (r : Int)) R) := by
 have HI0 := Lib.hid hI
 have HB := Lib.hid hb
 have HR := Lib.hid hR
 have HT := Lib.hid ht
 clear hI hb hR ht
 go_enter Tryz.func182, Tryz.ntmps182
 go_wp2_with fail
 refine wp_scope_again 0 (fun n a' w' => ∃ (s : S) (u5 u6 u7 u8 u9 u10 u11 u12 u13 u14 u15 u16 u17 u18 u19 u20 u21 u22 u23 u24 : Value), a' = { tmps := #[dv, .int .i64 (t : Int), undef, undef, .int .i64 0, u5, u6, u7, u8, u9, u10, u11, u12, u13, u14, u15, u16, u17, u18, u19, u20, u21, u22, u23, u24, undef], defers := [] } ∧ V.I s w' ∧ But V.g w w' ∧ popRun V.tell t n s = R) rfl ?_ ?_
 case refine_2 =>
  intro key
  exact wp_seq (wp_label (key n _ _ ⟨s, _, _, _, _, _, _, _, _, _, _, _, _, _, _, _, _, _, _, _, _, rfl, HI0.out, But.refl _ _, HR.out⟩))
 case refine_1 =>
  clear HI0 HR
  clear s n
  rintro n a' z ⟨s, u5, u6, u7, u8, u9, u10, u11, u12, u13, u14, u15, u16, u17, u18, u19, u20, u21, u22, u23, u24, rfl, hI, hbt, hR⟩
  cases n with
  | zero => exact absurd hR.symm HB.out
  | succ n =>
  have HI := Lib.hid hI
  have HB0 := Lib.hid hbt
  clear hI hbt
  unfold popRun at hR
  cases h1 : V.tell s 0 1 0 0 with
  | bad => rw [h1] at hR; exact absurd hR.symm HB.out
  | left =>
   rw [h1] at hR
   have HL1 := V.loadL h1 (by decide)
   have HR : Hid ((Ran.left 0 1 0 0 : Ran S) = R) := Lib.hid hR
   clear HB h1 hR
   go_wp2_with (first | (go_at_call 86; (with_reducible refine (HL1 _ HI.out).mono ?_); clear HL1; rintro e w2 ⟨rfl, hi⟩; refine ⟨rfl, ?_⟩; rw [← HR.out]; exact ⟨rfl, hi⟩))
  | told x s1 =>
  rw [h1] at hR
  dsimp only at hR
  have hx := V.small h1
  have HL1 := V.load h1 (by decide)
  clear h1
  by_cases hf : firstN x = 0
  ·have d1 := eq0 hf
   have HR : Hid ((Ran.done 0 s1 : Ran S) = R) := Lib.hid (by simpa only [hf, if_true] using hR)
   clear HB hR
   rw [hf] at d1
   have HF := fun w => first_any x hx w
   rw [hf] at HF
   clear hf hx
   go_wp2_with (first | (go_at_call 86; (with_reducible refine (HL1 _ HI.out).mono ?_); clear HL1; rintro e w2 ⟨rfl, hi, hbt⟩; have HI1 := Lib.hid hi; have HB1 := Lib.hid (HB0.out.trans hbt); clear hi hbt) | (go_at_call 198; (with_reducible refine (HF _).mono ?_); rintro e w' ⟨rfl, rfl⟩))
   simp only [Exit.jump]
   go_ret
   rw [← HR.out]
   exact ⟨rfl, HI1.out, HB1.out⟩
  ·have d1 := ne0 hf
   simp only [if_neg hf] at hR
   have hrl := first_lt x
   have HK := fun w => poolLink_any t (firstN x) HT.out (by omega) hrl w
   have hfl := i64_nat (n := fieldN t (firstN x) 7) (by have := fieldN_lt HT.out hrl (f := 7) (by omega); omega)
   have HX := Lib.hid hx
   cases h2 : V.tell s1 0 ((fieldN t (firstN x) 7 : Nat) : Int) 0 0 with
   | bad => rw [h2] at hR; exact absurd hR.symm HB.out
   | left =>
    rw [h2] at hR
    have HL2 := V.loadL h2 hfl
    have HR : Hid ((Ran.left 0 ((fieldN t (firstN x) 7 : Nat) : Int) 0 0 : Ran S) = R) := Lib.hid hR
    have HF := fun w => first_any x hx w
    clear HB h2 hfl hf hrl hx hR
    generalize fieldN t (firstN x) 7 = fl at *
    generalize firstN x = r at *
    go_wp2_with (first | (go_at_call 86; (with_reducible refine (HL1 _ HI.out).mono ?_); clear HL1; rintro e w2 ⟨rfl, hi, hbt⟩; have HI1 := Lib.hid hi; have HB1 := Lib.hid (HB0.out.trans hbt); clear hi hbt) | (go_at_call 198; (with_reducible refine (HF _).mono ?_); rintro e w' ⟨rfl, rfl⟩) | (go_at_call 199; (with_reducible refine (HK _).mono ?_); rintro e w' ⟨rfl, rfl⟩) | (go_at_call 86; (with_reducible refine (HL2 _ HI1.out).mono ?_); clear HL2; rintro e w3 ⟨rfl, hi⟩; refine ⟨rfl, ?_⟩; rw [← HR.out]; exact ⟨rfl, hi⟩))
   | told y s2 =>
   rw [h2] at hR
   dsimp only at hR
   have hy := V.small h2
   have HL2 := V.load h2 hfl
   clear h2
   have hyl := first_lt y
   cases h3 : V.tell s2 2 1 x (topN (firstN y) (tagN x + 1)) with
   | bad => rw [h3] at hR; exact absurd hR.symm HB.out
   | left =>
    rw [h3] at hR
    have HR : Hid ((Ran.left 2 1 x (topN (firstN y) (tagN x + 1)) : Ran S) = R) := Lib.hid hR
    have HC := turn_left V hx hyl h3
    have HF := fun w => first_any x hx w
    clear HB h3 hf hrl hx hfl hyl hR
    generalize fieldN t (firstN x) 7 = fl at *
    generalize firstN x = r at *
    go_wp2_with (first | (go_at_call 86; (with_reducible refine (HL1 _ HI.out).mono ?_); clear HL1; rintro e w2 ⟨rfl, hi, hbt⟩; have HI1 := Lib.hid hi; have HB1 := Lib.hid (HB0.out.trans hbt); clear hi hbt) | (go_at_call 198; (with_reducible refine (HF _).mono ?_); rintro e w' ⟨rfl, rfl⟩) | (go_at_call 199; (with_reducible refine (HK _).mono ?_); rintro e w' ⟨rfl, rfl⟩) | (go_at_call 86; (with_reducible refine (HL2 _ HI1.out).mono ?_); clear HL2; rintro e w3 ⟨rfl, hi, hbt⟩; have HI2 := Lib.hid hi; have HB2 := Lib.hid (HB1.out.trans hbt); clear hi hbt) | (go_at_call 198; (with_reducible refine (first_any y hy _).mono ?_); rintro e w' ⟨rfl, rfl⟩) | (go_at_call 200; (with_reducible refine (HC _ HI2.out).mono ?_); clear HC; rintro e w4 ⟨rfl, hi⟩; refine ⟨rfl, ?_⟩; rw [← HR.out]; exact ⟨rfl, hi⟩))
   | told d s3 =>
   rw [h3] at hR
   dsimp only at hR
   have HC := turn_told V hx hyl h3
   have HF := fun w => first_any x hx w
   clear h3 hf hrl hx hfl hyl
   by_cases hd : d = 1
   ·have dd := eq1 hd
    have HR : Hid ((Ran.done (firstN x) s3 : Ran S) = R) := Lib.hid (by simpa only [if_pos hd] using hR)
    clear hd HB hR
    generalize fieldN t (firstN x) 7 = fl at *
    generalize firstN x = r at *
    go_wp2_with (first | (go_at_call 86; (with_reducible refine (HL1 _ HI.out).mono ?_); clear HL1; rintro e w2 ⟨rfl, hi, hbt⟩; have HI1 := Lib.hid hi; have HB1 := Lib.hid (HB0.out.trans hbt); clear hi hbt) | (go_at_call 198; (with_reducible refine (HF _).mono ?_); rintro e w' ⟨rfl, rfl⟩) | (go_at_call 199; (with_reducible refine (HK _).mono ?_); rintro e w' ⟨rfl, rfl⟩) | (go_at_call 86; (with_reducible refine (HL2 _ HI1.out).mono ?_); clear HL2; rintro e w3 ⟨rfl, hi, hbt⟩; have HI2 := Lib.hid hi; have HB2 := Lib.hid (HB1.out.trans hbt); clear hi hbt) | (go_at_call 198; (with_reducible refine (first_any y hy _).mono ?_); rintro e w' ⟨rfl, rfl⟩) | (go_at_call 200; (with_reducible refine (HC _ HI2.out).mono ?_); clear HC; rintro e w4 ⟨rfl, hi, hbt⟩; have HI3 := Lib.hid hi; have HB3 := Lib.hid (HB2.out.trans hbt); clear hi hbt))
    simp only [Exit.jump]
    go_ret
    rw [← HR.out]
    exact ⟨rfl, HI3.out, HB3.out⟩
   ·have dd := ne1 hd
    simp only [if_neg hd] at hR
    have HR := Lib.hid hR
    clear hd hR
    generalize fieldN t (firstN x) 7 = fl at *
    generalize firstN x = r at *
    go_wp2_with (first | (go_at_call 86; (with_reducible refine (HL1 _ HI.out).mono ?_); clear HL1; rintro e w2 ⟨rfl, hi, hbt⟩; have HI1 := Lib.hid hi; have HB1 := Lib.hid (HB0.out.trans hbt); clear hi hbt) | (go_at_call 198; (with_reducible refine (HF _).mono ?_); rintro e w' ⟨rfl, rfl⟩) | (go_at_call 199; (with_reducible refine (HK _).mono ?_); rintro e w' ⟨rfl, rfl⟩) | (go_at_call 86; (with_reducible refine (HL2 _ HI1.out).mono ?_); clear HL2; rintro e w3 ⟨rfl, hi, hbt⟩; have HI2 := Lib.hid hi; have HB2 := Lib.hid (HB1.out.trans hbt); clear hi hbt) | (go_at_call 198; (with_reducible refine (first_any y hy _).mono ?_); rintro e w' ⟨rfl, rfl⟩) | (go_at_call 200; (with_reducible refine (HC _ HI2.out).mono ?_); clear HC; rintro e w4 ⟨rfl, hi, hbt⟩; have HI3 := Lib.hid hi; have HB3 := Lib.hid (HB2.out.trans hbt); clear hi hbt))
    go_step3
    exact ⟨rfl, n, by omega, s3, _, _, _, _, _, _, _, _, _, _, _, _, _, _, _, _, _, _, _, _, rfl, HI3.out, HB3.out, HR.out⟩
set_option maxHeartbeats 4000000 in
set_option maxRecDepth 100000 in
theorem push_at (t : Nat) (ht : t ≤ 64) (r : Nat) (h1 : 1 ≤ r) (hr : r < 1048576) (n : Nat) (s : S) (R : Ran S) (hR : pushRun V.tell t r n s = R) (hb : R ≠ .bad) (w : World) (hI : V.I s w) :
  Calls Tryz.prog 185 #[dv, .int .i64 (t : Int), .int .i64 (r : Int)] w (RunEnd V w (fun _ => .tuple #[]) R) := by
 have HI0 := Lib.hid hI
 have HB := Lib.hid hb
 have HR := Lib.hid hR
 have HT := Lib.hid ht
 have HK := fun w => poolLink_any t r ht h1 hr w
 have hfl := i64_nat (n := fieldN t r 7) (by have := fieldN_lt ht hr (f := 7) (by omega); omega)
 obtain ⟨df, d1, d2, rfl⟩ := V.isFn
 have hsm := eql_do df d1 d2
 have HRL := Lib.hid hr
 clear hI hb hR ht h1 hr
 go_enter Tryz.func185, Tryz.ntmps185
 go_wp2_with fail
 refine wp_scope_again 0 (fun n a' w' => ∃ (s : S) (u6 u7 u9 u10 u11 u12 u13 u14 u15 u16 u17 u18 u19 u20 u21 u22 u23 : Value), a' = { tmps := #[.func (.func df) d1 d2, .int .i64 (t : Int), .int .i64 (r : Int), undef, undef, undef, u6, u7, .bool false, u9, u10, u11, u12, u13, u14, u15, u16, u17, u18, u19, u20, u21, u22, u23], defers := [] } ∧ V.I s w' ∧ But V.g w w' ∧ pushRun V.tell t r n s = R) rfl ?_ ?_
 case refine_2 =>
  intro key
  go_wp2_with fail
  refine wp_label ?_
  simp only [Exit.then]
  rename_i hk
  exact hk _ _ (key n _ _ ⟨s, _, _, _, _, _, _, _, _, _, _, _, _, _, _, _, _, _, rfl, HI0.out, But.refl _ _, HR.out⟩)
 case refine_1 =>
  clear HI0 HR
  clear s n
  rintro n a' z ⟨s, u6, u7, u9, u10, u11, u12, u13, u14, u15, u16, u17, u18, u19, u20, u21, u22, u23, rfl, hI, hbt, hR⟩
  cases n with
  | zero => exact absurd hR.symm HB.out
  | succ n =>
  have HI := Lib.hid hI
  have HB0 := Lib.hid hbt
  clear hI hbt
  unfold pushRun at hR
  cases h1 : V.tell s 0 1 0 0 with
  | bad => rw [h1] at hR; exact absurd hR.symm HB.out
  | left =>
   rw [h1] at hR
   have HL1 := V.loadL h1 (by decide)
   have HR : Hid ((Ran.left 0 1 0 0 : Ran S) = R) := Lib.hid hR
   clear HB h1 hR
   go_wp2_with (first | (go_at_call 86; (with_reducible refine (HL1 _ HI.out).mono ?_); clear HL1; rintro e w2 ⟨rfl, hi⟩; refine ⟨rfl, ?_⟩; rw [← HR.out]; exact ⟨rfl, hi⟩))
  | told x s1 =>
  rw [h1] at hR
  dsimp only at hR
  have hx := V.small h1
  have HL1 := V.load h1 (by decide)
  clear h1
  have hrl := first_lt x
  have HF := fun w => first_any x hx w
  have hcv : IntKind.u64.wrap ((firstN x : Nat) : Int) = ((firstN x : Nat) : Int) := by rw [IntKind.wrap_u64]; omega
  cases h2 : V.tell s1 1 ((fieldN t r 7 : Nat) : Int) (firstN x) 0 with
  | bad => rw [h2] at hR; exact absurd hR.symm HB.out
  | left =>
   rw [h2] at hR
   have HL2 := V.storeL h2 hfl (by omega)
   have HR : Hid ((Ran.left 1 ((fieldN t r 7 : Nat) : Int) (firstN x) 0 : Ran S) = R) := Lib.hid hR
   clear HB h2 hfl hrl hx hR
   generalize fieldN t r 7 = fl at *
   generalize firstN x = f at *
   go_wp2_with (first | (go_at_call 86; (with_reducible refine (HL1 _ HI.out).mono ?_); clear HL1; rintro e w2 ⟨rfl, hi, hbt⟩; have HI1 := Lib.hid hi; have HB1 := Lib.hid (HB0.out.trans hbt); clear hi hbt) | (go_at_call 198; (with_reducible refine (HF _).mono ?_); rintro e w' ⟨rfl, rfl⟩) | (go_at_call 199; (with_reducible refine (HK _).mono ?_); rintro e w' ⟨rfl, rfl⟩) | (go_at_call 49; (with_reducible refine (HL2 _ HI1.out).mono ?_); clear HL2; rintro e w3 ⟨rfl, hi⟩; refine ⟨rfl, ?_⟩; rw [← HR.out]; exact ⟨rfl, hi⟩))
  | told y s2 =>
  rw [h2] at hR
  dsimp only at hR
  have HL2 := V.store h2 hfl (by omega)
  clear h2
  cases h3 : V.tell s2 2 1 x (topN r (tagN x + 1)) with
  | bad => rw [h3] at hR; exact absurd hR.symm HB.out
  | left =>
   rw [h3] at hR
   have HR : Hid ((Ran.left 2 1 x (topN r (tagN x + 1)) : Ran S) = R) := Lib.hid hR
   have HC := turn_left V hx HRL.out h3
   clear HB h3 hrl hx hfl hR
   generalize fieldN t r 7 = fl at *
   generalize firstN x = f at *
   go_wp2_with (first | (go_at_call 86; (with_reducible refine (HL1 _ HI.out).mono ?_); clear HL1; rintro e w2 ⟨rfl, hi, hbt⟩; have HI1 := Lib.hid hi; have HB1 := Lib.hid (HB0.out.trans hbt); clear hi hbt) | (go_at_call 198; (with_reducible refine (HF _).mono ?_); rintro e w' ⟨rfl, rfl⟩) | (go_at_call 199; (with_reducible refine (HK _).mono ?_); rintro e w' ⟨rfl, rfl⟩) | (go_at_call 49; (with_reducible refine (HL2 _ HI1.out).mono ?_); clear HL2; rintro e w3 ⟨rfl, hi, hbt⟩; have HI2 := Lib.hid hi; have HB2 := Lib.hid (HB1.out.trans hbt); clear hi hbt) | (go_at_call 200; (with_reducible refine (HC _ HI2.out).mono ?_); clear HC; rintro e w4 ⟨rfl, hi⟩; refine ⟨rfl, ?_⟩; rw [← HR.out]; exact ⟨rfl, hi⟩))
  | told d s3 =>
  rw [h3] at hR
  dsimp only at hR
  have HC := turn_told V hx HRL.out h3
  clear h3 hrl hx hfl
  by_cases hd : d = 1
  ·have dd := eq1 hd
   have HR : Hid ((Ran.done 0 s3 : Ran S) = R) := Lib.hid (by simpa only [if_pos hd] using hR)
   clear hd HB hR
   generalize fieldN t r 7 = fl at *
   generalize firstN x = f at *
   go_wp2_with (first | (go_at_call 86; (with_reducible refine (HL1 _ HI.out).mono ?_); clear HL1; rintro e w2 ⟨rfl, hi, hbt⟩; have HI1 := Lib.hid hi; have HB1 := Lib.hid (HB0.out.trans hbt); clear hi hbt) | (go_at_call 198; (with_reducible refine (HF _).mono ?_); rintro e w' ⟨rfl, rfl⟩) | (go_at_call 199; (with_reducible refine (HK _).mono ?_); rintro e w' ⟨rfl, rfl⟩) | (go_at_call 49; (with_reducible refine (HL2 _ HI1.out).mono ?_); clear HL2; rintro e w3 ⟨rfl, hi, hbt⟩; have HI2 := Lib.hid hi; have HB2 := Lib.hid (HB1.out.trans hbt); clear hi hbt) | (go_at_call 200; (with_reducible refine (HC _ HI2.out).mono ?_); clear HC; rintro e w4 ⟨rfl, hi, hbt⟩; have HI3 := Lib.hid hi; have HB3 := Lib.hid (HB2.out.trans hbt); clear hi hbt))
   simp only [Exit.jump]
   go_end0
   rw [← HR.out]
   exact ⟨rfl, HI3.out, HB3.out⟩
  ·have dd := ne1 hd
   simp only [if_neg hd] at hR
   have HR := Lib.hid hR
   clear hd hR
   generalize fieldN t r 7 = fl at *
   generalize firstN x = f at *
   go_wp2_with (first | (go_at_call 86; (with_reducible refine (HL1 _ HI.out).mono ?_); clear HL1; rintro e w2 ⟨rfl, hi, hbt⟩; have HI1 := Lib.hid hi; have HB1 := Lib.hid (HB0.out.trans hbt); clear hi hbt) | (go_at_call 198; (with_reducible refine (HF _).mono ?_); rintro e w' ⟨rfl, rfl⟩) | (go_at_call 199; (with_reducible refine (HK _).mono ?_); rintro e w' ⟨rfl, rfl⟩) | (go_at_call 49; (with_reducible refine (HL2 _ HI1.out).mono ?_); clear HL2; rintro e w3 ⟨rfl, hi, hbt⟩; have HI2 := Lib.hid hi; have HB2 := Lib.hid (HB1.out.trans hbt); clear hi hbt) | (go_at_call 200; (with_reducible refine (HC _ HI2.out).mono ?_); clear HC; rintro e w4 ⟨rfl, hi, hbt⟩; have HI3 := Lib.hid hi; have HB3 := Lib.hid (HB2.out.trans hbt); clear hi hbt))
   go_step3
   exact ⟨rfl, n, by omega, s3, _, _, _, _, _, _, _, _, _, _, _, _, _, _, _, _, _, rfl, HI3.out, HB3.out, HR.out⟩
end
end Go.Proofs.YtibpfkcackdbgaaGreatDoor
namespace Go.Proofs.YtibpfkcackdbgaaGreatDoor
open Go.ChangeShapes Go.WideShapes Go.ChangeAt Go.RowKit Go.BigFrame
set_option linter.unusedVariables false
set_option maxRecDepth 100000
theorem askT_left (g : Nat) (k i : Int) (a b : Nat) (pv : Value) (P : World → Prop) (w : World) (h : Calls Tryz.prog 142 #[.pointer (some ⟨g, 0, none⟩), .agg #[.int .i64 k, .int .i64 i, .int .u64 (a : Int), .int .u64 (b : Int), .slice none 0 0, .slice none 0 0]] w (Quits pv P)) :
  Calls Tryz.prog 88 #[.func (.func 142) #[.pointer (some ⟨g, 0, none⟩)] #[], .int .i64 k, .int .i64 i, .int .u64 (a : Int), .int .u64 (b : Int)] w (Quits pv P) := by
 have he := eql_do
 have hf := field_n
 go_enter Tryz.func88, Tryz.ntmps88
 go_wp2_with fail
 (with_reducible refine h.mono ?_)
 rintro e w' ⟨rfl, hp⟩
 exact ⟨rfl, rfl, hp⟩
def accK (k i : Int) (a b : Nat) : Acc := ⟨k, i, a, b, [], 0, fun _ => 0⟩
theorem accK_P {k i : Int} {a b : Nat} (h : Bnd k i a b) (w : World) : AccP w (accK k i a b) none 0 none 0 := ⟨h.1, h.2.1, h.2.2.1, h.2.2.2, ⟨Nat.le_refl 0, Nat.zero_le _⟩, ⟨Nat.le_refl 0, Nat.zero_le _⟩, AtB.nil _ _, AtW.nil _ _⟩
def tapeTell : List Res → Int → Int → Nat → Nat → Tell (List Res)
 | [], _, _, _, _ => .left
 | r :: rest, _, _, _, _ => .told (r.n % 18446744073709551616) rest
abbrev doV (g : Nat) : Value := .func (.func 142) #[.pointer (some ⟨g, 0, none⟩)] #[]
theorem VarAt.lower {w w' : World} {b B : Nat} {vs : List Value} (h : VarAt w b vs) (hb : b < B) (hB : Below B w w') : VarAt w' b vs :=
 ⟨Nat.lt_of_lt_of_le h.1 hB.size, fun j v hj => (hB.cell (p := ⟨b, j, none⟩) hb).trans (h.2.1 j v hj), fun j hj => (hB.frozen (p := ⟨b, j, none⟩) hb).trans (h.2.2 j hj)⟩
theorem But.later' {g : Nat} {w w' w2 : World} (h : But g w w') (hb : Below w.heap.size w' w2) (hg : g ≤ w.heap.size) : But g w w2 :=
 ⟨h.below.trans (hb.mono hg), fun b hlt hne => (hb.block b hlt).trans (h.block b hlt hne)⟩
def TapeI (g : Nat) (w0 wb : World) (s : List Res) (w : World) : Prop :=
 (∃ A cap, VarAt w g (tapeV A s.length cap true false (.int .i64 0) (.int .i64 0) (.int .u64 0) (.int .u64 0) (.slice none 0 0) (.slice none 0 0)) ∧ LogAt w0 A s.length s ∧ s.length ≤ cap) ∧ But g wb w
def tapeSrv (g : Nat) (w0 wb : World) (hg : w0.heap.size ≤ g) (hgw : g < wb.heap.size) (hb : Below w0.heap.size w0 wb) : Srv (doV g) (List Res) where
 I := TapeI g w0 wb
 g := g
 tell := tapeTell
 pv := .iface 157 (.pointer (some ⟨g, 0, none⟩))
 L k i a b w' := ∃ e, LeftPost wb g (accK k i a b) true e w'
 isFn := ⟨_, _, _, rfl⟩
 small := by
  intro s k i a b n s' h
  cases s with
  | nil => cases h
  | cons r rest => cases h; exact Nat.mod_lt _ (by decide)
 B _ := wb.heap.size
 ble := fun h => h.2.size
 stay := by
  rintro s w w' ⟨⟨A, cap, hv, hl, hc⟩, hB⟩ hb'
  exact ⟨⟨A, cap, hv.lower hgw hb', hl, hc⟩, hB.later' hb' (by omega)⟩
 told := by
  rintro s k i a b n s' h hbd w ⟨⟨A, cap, hv, hl, hc⟩, hB⟩
  obtain _ | ⟨r, rest⟩ := s
  ·cases h
  ·obtain ⟨rfl, rfl⟩ : r.n % 18446744073709551616 = n ∧ rest = s' := by cases h; exact ⟨rfl, rfl⟩
   refine askT g k i a b _ _ w ((do_told g A (r :: rest).length rest.length cap rfl r rest true false (.int .i64 0) (.int .i64 0) (.int .u64 0) (.int .u64 0) (.slice none 0 0) (.slice none 0 0) k i a b none 0 0 none 0 0 w0 w (Lib.hid hv) (Lib.hid hl) hc (Lib.hid (hb.trans (hB.below.mono hg))) hg).mono ?_)
   rintro e w' ⟨B, bc, A', cap', rfl, hr, hv', hl', hc', hB'⟩
   refine ⟨_, _, by rw [Nat.mod_eq_of_lt hr.n], ⟨⟨A', cap', hv', hl', hc'⟩, hB.trans hB'⟩, hB'⟩
 left := by
  rintro s k i a b h hbd w ⟨⟨A, cap, hv, hl, hc⟩, hB⟩
  cases s with
  | cons r rest => cases h
  | nil =>
   refine askT_left g k i a b _ _ w ((do_left g A cap true (.int .i64 0) (.int .i64 0) (.int .u64 0) (.int .u64 0) (.slice none 0 0) (.slice none 0 0) (accK k i a b) (Nat.zero_le _) none 0 none 0 w0 w (Lib.hid hv) (Lib.hid (accK_P hbd w0)) (Lib.hid (hb.trans (hB.below.mono hg))) hg).mono ?_)
   rintro e w' ⟨D, dc, E, ec, A', cap', rfl, hT, hX, hB', hD, hE⟩
   have hsz := hB.size
   exact ⟨rfl, ⟨_, D, dc, E, ec, A', cap', rfl, hT, hX, hB.trans hB', hD.mono fun b h => by omega, hE.mono fun b h => by omega⟩, hB'⟩
section
variable {dv : Value} {S : Type} (V : Srv dv S)
end
end Go.Proofs.YtibpfkcackdbgaaGreatDoor
