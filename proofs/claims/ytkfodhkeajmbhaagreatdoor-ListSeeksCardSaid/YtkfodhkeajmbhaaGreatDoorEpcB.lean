/-
  Texts of one kind, one behind the other: EpcSrv, EpcCalls, EpcRange, EpcChain, EpcAdv, EpcRun, EpcNext.
-/
import Derived.Test.YtkfodhkeajmbhaaGreatDoorEpcA
import Derived.RangeFuncOwn
namespace Go.Proofs.YtkfodhkeajmbhaaGreatDoor
open Go.ChangeShapes Go.WideShapes Go.ChangeAt Go.RowKit Go.BigFrame
set_option linter.unusedVariables false
set_option maxRecDepth 100000

section
variable (dv : Value) (i : Int) (a b : Nat) (pv : Value) (P : World → Prop) (w : World)
end
section
variable {dv : Value} {S : Type} (V : Srv dv S)
theorem Bnd.swap {i : Int} {a : Nat} (hi : -9223372036854775808 ≤ i ∧ i < 9223372036854775808) (ha : a < 18446744073709551616) : Bnd 4 i a 0 := ⟨by decide, hi, ha, by decide⟩
/-- The program was left at an access. -/
def QuitR (R : Ran S) (e : Ending) (w' : World) : Prop := ∃ k i a b, R = .left k i a b ∧ Quits V.pv (V.L k i a b) e w'
/-- An access was told a number, and the rest runs to R; or the program was left. -/
def Going (R : Ran S) (w : World) (ret : Nat → Value) (q : Nat → Prg) (e : Ending) (w' : World) : Prop :=
  (∃ n s', e = .returned (ret n) ∧ n < 18446744073709551616 ∧ V.I s' w' ∧ But V.g w w' ∧ (q n).run V.tell s' = R) ∨ QuitR V R e w'
def GoingC (R : Ran S) (w : World) (ret : Nat → Value) (q : Nat → Prg) (e : Ending) (w' : World) : Prop :=
  (∃ n s', e = .returned (ret n) ∧ V.I s' w' ∧ But V.g w w' ∧ (q n).run V.tell s' = R) ∨ QuitR V R e w'
theorem RunEnd.fin {R : Ran S} {d : Nat} {s : S} {w w' : World} {ret : Nat → Value} (h : (Prg.ret d).run V.tell s = R) (hI : V.I s w') (hb : But V.g w w') : RunEnd V w ret R (.returned (ret d)) w' := by
  subst h
  exact ⟨rfl, hI, hb⟩
theorem RunEnd.quit {R : Ran S} {w w' : World} {ret : Nat → Value} {e : Ending} (h : QuitR V R e w') : RunEnd V w ret R e w' := by
  obtain ⟨k, i, a, b, rfl, hq⟩ := h
  exact hq
section
variable {R : Ran S} (hb : R ≠ .bad) {i : Int} {f : Nat → Prg} {s : S} (hi : -9223372036854775808 ≤ i ∧ i < 9223372036854775808)
include hb hi
theorem loadP (hR : (Prg.ask 0 i 0 0 f).run V.tell s = R) (w : World) (hI : V.I s w) : Calls Tryz.prog 74 #[dv, .int .i64 i] w (Going V R w (fun n => .int .u64 (n : Int)) f) := by
  simp only [Prg.run] at hR
  cases h : V.tell s 0 i 0 0 with
  | bad => rw [h] at hR; exact absurd hR.symm hb
  | left => rw [h] at hR; exact (V.loadL h hi w hI).mono fun e w' hq => .inr ⟨_, _, _, _, hR.symm, hq⟩
  | told n s' =>
    rw [h] at hR
    refine (V.load h hi w hI).mono ?_
    rintro e w' ⟨rfl, h1, h2⟩
    exact .inl ⟨n, s', rfl, V.small h, h1, h2, hR⟩
theorem storeP {a : Nat} (ha : a < 18446744073709551616) (hR : (Prg.ask 1 i a 0 f).run V.tell s = R) (w : World) (hI : V.I s w) : Calls Tryz.prog 48 #[dv, .int .i64 i, .int .u64 (a : Int)] w (Going V R w (fun _ => .tuple #[]) f) := by
  simp only [Prg.run] at hR
  cases h : V.tell s 1 i a 0 with
  | bad => rw [h] at hR; exact absurd hR.symm hb
  | left => rw [h] at hR; exact (V.storeL h hi ha w hI).mono fun e w' hq => .inr ⟨_, _, _, _, hR.symm, hq⟩
  | told n s' =>
    rw [h] at hR
    refine (V.store h hi ha w hI).mono ?_
    rintro e w' ⟨rfl, h1, h2⟩
    exact .inl ⟨n, s', rfl, V.small h, h1, h2, hR⟩
theorem casP {a b : Nat} (ha : a < 18446744073709551616) (hbb : b < 18446744073709551616) (hR : (Prg.ask 2 i a b f).run V.tell s = R) (w : World) (hI : V.I s w) : Calls Tryz.prog 77 #[dv, .int .i64 i, .int .u64 (a : Int), .int .u64 (b : Int)] w (Going V R w (fun n => .bool ((n : Int) == 1)) f) := by
  simp only [Prg.run] at hR
  cases h : V.tell s 2 i a b with
  | bad => rw [h] at hR; exact absurd hR.symm hb
  | left => rw [h] at hR; exact (V.casL h hi ha hbb w hI).mono fun e w' hq => .inr ⟨_, _, _, _, hR.symm, hq⟩
  | told n s' =>
    rw [h] at hR
    refine (V.cas h hi ha hbb w hI).mono ?_
    rintro e w' ⟨rfl, h1, h2⟩
    exact .inl ⟨n, s', rfl, V.small h, h1, h2, hR⟩
end
theorem partP {R : Ran S} (hb : R ≠ .bad) {p : Prg} {q : Nat → Prg} {s : S} {F : FuncId} {args : Array Value} {ret : Nat → Value} (hR : (p.bind q).run V.tell s = R) (w : World)
    (h : p.run V.tell s ≠ .bad → Calls Tryz.prog F args w (RunEnd V w ret (p.run V.tell s))) : Calls Tryz.prog F args w (GoingC V R w ret q) := by
  rw [Prg.run_bind] at hR
  cases hp : p.run V.tell s with
  | bad => rw [hp] at hR; exact absurd hR.symm hb
  | left k i a b =>
    rw [hp] at hR h
    exact (h (by simp)).mono fun e w' hq => .inr ⟨_, _, _, _, hR.symm, hq⟩
  | done d s' =>
    rw [hp] at hR h
    refine (h (by simp)).mono ?_
    rintro e w' ⟨rfl, h1, h2⟩
    exact .inl ⟨d, s', rfl, h1, h2, hR⟩
/-- The server keeps a further fact, which turns not with its own block alone. -/
def Srv.kept (K : World → Prop) (hK : ∀ w w', K w → But V.g w w' → K w') (hg : ∀ s w, V.I s w → V.g ≤ w.heap.size) : Srv dv S where
  I s w := V.I s w ∧ K w
  g := V.g
  tell := V.tell
  pv := V.pv
  L k i a b w := V.L k i a b w ∧ K w
  isFn := V.isFn
  small := V.small
  B w := w.heap.size
  ble := fun _ => Nat.le_refl _
  stay := fun h hb => ⟨V.later h.1 hb, hK _ _ h.2 (But.of hb (hg _ _ h.1))⟩
  told := fun h hbd w hI => (V.told h hbd w hI.1).mono fun e w' hx => ⟨hx.1, ⟨hx.2.1, hK _ _ hI.2 hx.2.2⟩, hx.2.2⟩
  left := fun h hbd w hI => (V.left h hbd w hI.1).mono fun e w' hx => ⟨hx.1, ⟨hx.2.1, hK _ _ hI.2 hx.2.2⟩, hx.2.2⟩
/-- A block beyond that is no variable is nothing to the server. -/
structure Srv.Aside (lo : Nat) : Prop where
  I : ∀ {s : S} {w : World} {l : Nat} {o o' : Obj}, V.I s w → lo ≤ l → w.heap[l]? = some o → o.isCells = false → o'.isCells = false → V.I s (w.putObj l o')
  L : ∀ {k i : Int} {a b : Nat} {w : World} {l : Nat} {o o' : Obj}, V.L k i a b w → lo ≤ l → w.heap[l]? = some o → o.isCells = false → o'.isCells = false → V.L k i a b (w.putObj l o')
  g : ∀ {s : S} {w : World}, V.I s w → V.g < w.heap.size
  lo : ∀ {s : S} {w : World}, V.I s w → lo ≤ w.heap.size
end
end Go.Proofs.YtkfodhkeajmbhaaGreatDoor
namespace Go.Proofs.YtkfodhkeajmbhaaGreatDoor
open Go.ChangeShapes Go.WideShapes Go.ChangeAt Go.RowKit Go.BigFrame
set_option linter.unusedVariables false
set_option maxRecDepth 100000

theorem upN_lt' (e k : Nat) : upN e k < 18446744073709551616 := Nat.mod_lt _ (by decide)
theorem limboN_lt (e : Nat) : limboN e < 7 := by unfold limboN; omega
theorem eLimbo_any (e : Nat) (w : World) : Calls Tryz.prog 119 #[.int .u64 (e : Int)] w fun x w' => x = .returned (.int .i64 (limboN e : Nat)) ∧ w = w' := by
  have h1 : Int.tmod (e : Int) 3 = ((e % 3 : Nat) : Int) := (Int.ofNat_tmod e 3).symm
  have h2 : (4 : Int) + ((e % 3 : Nat) : Int) = ((limboN e : Nat) : Int) := by unfold limboN; omega
  have h3 : e % 3 < 3 := Nat.mod_lt _ (by decide)
  generalize e % 3 = m at *
  generalize limboN e = l at *
  go_enter Tryz.func119, Tryz.ntmps119
  go_wp2_with fail
  go_ret
  exact ⟨rfl, rfl⟩
theorem eLink_any (t r : Nat) (ht : t ≤ 64) (h1 : 1 ≤ r) (hr : r < 1048576) (w : World) :
    Calls Tryz.prog 120 #[.int .i64 (t : Int), .int .i64 (r : Int)] w fun e w' => e = .returned (.int .i64 (fieldN t r 7 : Nat)) ∧ w = w' := by
  have HF : ∀ w, Calls Tryz.prog 75 #[.int .i64 (t : Int), .int .i64 (r : Int), .int .i64 7] w fun e w' => e = .returned (.int .i64 (fieldN t r 7 : Nat)) ∧ w = w' := fun w => field_any t r 7 (by omega) h1 (by omega) (by omega) w
  clear ht h1 hr
  go_enter Tryz.func120, Tryz.ntmps120
  go_wp2_with (go_at_call 75; (with_reducible refine (HF _).mono ?_); rintro e w' ⟨rfl, rfl⟩)
  go_ret
  exact ⟨rfl, rfl⟩

section
variable {dv : Value} {S : Type} (V : Srv dv S)
set_option maxHeartbeats 4000000 in
theorem retire_prg (t : Nat) (ht : t ≤ 64) (r : Nat) (h1 : 1 ≤ r) (hr : r < 1048576) (n : Nat) (s : S) (hb : (Prg.retire t r n).run V.tell s ≠ .bad) (w : World) (hI : V.I s w) :
    Calls Tryz.prog 99 #[dv, .int .i64 (t : Int), .int .i64 (r : Int)] w (RunEnd V w (fun _ => .tuple #[]) ((Prg.retire t r n).run V.tell s)) := by
  have hR : (Prg.ask 0 3 0 0 fun e => Prg.retireL t r (limboN e) n).run V.tell s = (Prg.retire t r n).run V.tell s := rfl
  generalize (Prg.retire t r n).run V.tell s = R at *
  have HL := loadP V hb (by decide) hR
  have HB := Lib.hid hb
  have HI := Lib.hid hI
  have HK := fun w => eLink_any t r ht h1 hr w
  have hfl := i64_nat (n := fieldN t r 7) (by have := fieldN_lt ht hr (f := 7) (by omega); omega)
  have hcv : IntKind.u64.wrap (r : Int) = (r : Int) := by rw [IntKind.wrap_u64]; omega
  have HF := Lib.hid (And.intro hfl (show r < 18446744073709551616 by omega))
  obtain ⟨df, d1, d2, rfl⟩ := V.isFn
  have hsm := eql_do df d1 d2
  clear hI hb hR ht h1 hr hfl
  obtain ⟨fl, hfl⟩ : ∃ x, fieldN t r 7 = x := ⟨_, rfl⟩
  rw [hfl] at HK HF
  have HFL := Lib.hid hfl
  clear hfl
  go_enter Tryz.func99, Tryz.ntmps99
  go_wp2_with fail
  (with_reducible refine (HL _ HI.out).mono ?_)
  clear HL HI
  rintro e w2 (⟨x, s2, rfl, hn, hi, hbt, hr⟩ | ⟨k, j, a, b, hr, rfl, hl⟩)
  case inr => exact ⟨rfl, by rw [hr]; exact ⟨rfl, hl⟩⟩
  dsimp only at hr
  have HLI := eLimbo_any x
  have hll := limboN_lt x
  generalize limboN x = l at *
  obtain ⟨J, hJ⟩ : ∃ J : Nat → Value → World → Prop, J = fun m d wr => (d = .bool false ∧ ∃ s, V.I s wr ∧ But V.g w wr ∧ (Prg.retireL t r l m).run V.tell s = R) ∨ (m = 0 ∧ d = .bool true ∧ ∃ s, V.I s wr ∧ But V.g w wr ∧ (Prg.ret 0).run V.tell s = R) := ⟨_, rfl⟩
  have HJ : ∀ m d wr, J m d wr ↔ (d = .bool false ∧ ∃ s, V.I s wr ∧ But V.g w wr ∧ (Prg.retireL t r l m).run V.tell s = R) ∨ (m = 0 ∧ d = .bool true ∧ ∃ s, V.I s wr ∧ But V.g w wr ∧ (Prg.ret 0).run V.tell s = R) := fun m d wr => by rw [hJ]
  have HJ0 := Lib.hid (show ∃ m, J m (.bool false) w2 from ⟨n, (HJ _ _ _).2 (.inl ⟨rfl, s2, hi, hbt, hr⟩)⟩)
  have HLL := Lib.hid (show -9223372036854775808 ≤ ((l : Nat) : Int) ∧ ((l : Nat) : Int) < 9223372036854775808 by omega)
  have HJH := Lib.hid HJ
  clear hJ hn hi hbt hr hll HJ
  go_wp2_with (go_at_call 119; (with_reducible refine (HLI _).mono ?_); rintro e w' ⟨rfl, rfl⟩)
  go_loopw [7, 8] (fun d _ wr => ∃ m, J m d wr) (fun d _ wr => cnt (fun m wr => J m d wr) wr)
  case atStart => exact HJ0.out
  case round =>
    clear HJ0 HLI
    have hj := cnt_spec (J := fun m wr => J m u7 wr) hrel
    clear hrel
    generalize hm : cnt (fun m wr => J m u7 wr) wr = m at *
    have HM := Lib.hid hm
    clear hm
    rcases (HJH.out _ _ _).1 hj with ⟨rfl, s3, hi, hbt, hr⟩ | ⟨rfl, rfl, s3, hi, hbt, hr⟩
    · clear hj
      cases m with
      | zero => exact absurd hr.symm HB.out
      | succ m =>
      have hr1 : (Prg.ask 0 ((l : Nat) : Int) 0 0 fun h => Prg.ask 1 ((fieldN t r 7 : Nat) : Int) h 0 fun _ => Prg.ask 2 ((l : Nat) : Int) h r fun d => if d = 1 then Prg.ret 0 else Prg.retireL t r l m).run V.tell s3 = R := hr
      rw [HFL.out] at hr1
      have HL := loadP V HB.out HLL.out hr1
      have HI3 := Lib.hid hi
      have HB3 := Lib.hid hbt
      clear hi hbt hr hr1
      go_wp2_with fail
      (with_reducible refine (HL _ HI3.out).mono ?_)
      clear HL HI3
      rintro e w4 (⟨h, s4, rfl, hn, hi, hbt, hr⟩ | ⟨k, j, a, b, hr, rfl, hl⟩)
      case inr => exact ⟨rfl, by rw [hr]; exact ⟨rfl, hl⟩⟩
      dsimp only at hr
      have HS := storeP V HB.out HF.out.1 hn hr
      have HN := Lib.hid hn
      have HI4 := Lib.hid hi
      have HB4 := Lib.hid (HB3.out.trans hbt)
      clear hn hi hbt hr HB3
      go_wp2_with (go_at_call 120; (with_reducible refine (HK _).mono ?_); rintro e w' ⟨rfl, rfl⟩)
      (with_reducible refine (HS _ HI4.out).mono ?_)
      clear HS HI4
      rintro e w5 (⟨h5, s5, rfl, hn, hi, hbt, hr⟩ | ⟨k, j, a, b, hr, rfl, hl⟩)
      case inr => exact ⟨rfl, by rw [hr]; exact ⟨rfl, hl⟩⟩
      dsimp only at hr
      have HC := casP V HB.out HLL.out HN.out HF.out.2 hr
      have HI5 := Lib.hid hi
      have HB5 := Lib.hid (HB4.out.trans hbt)
      clear hn hi hbt hr HB4 HN
      go_wp2_with fail
      (with_reducible refine (HC _ HI5.out).mono ?_)
      clear HC HI5
      rintro e w6 (⟨d, s6, rfl, hn, hi, hbt, hr⟩ | ⟨k, j, a, b, hr, rfl, hl⟩)
      case inr => exact ⟨rfl, by rw [hr]; exact ⟨rfl, hl⟩⟩
      dsimp only at hr
      have HI6 := Lib.hid hi
      have HB6 := Lib.hid (HB5.out.trans hbt)
      clear hn hi hbt HB5
      by_cases hd : d = 1
      · rw [if_pos hd] at hr
        have dd := eq1 hd
        have HR := Lib.hid hr
        clear hr hd
        have hj : J 0 (.bool true) w6 := (HJH.out _ _ _).2 (.inr ⟨rfl, rfl, s6, HI6.out, HB6.out, HR.out⟩)
        have HJ6 := Lib.hid hj
        clear hj
        go_wp2_with fail
        go_roundw
        case rel => exact ⟨0, HJ6.out⟩
        case measure => exact Nat.lt_of_lt_of_eq (cnt_lt (J := fun m wr => J m (.bool true) wr) HJ6.out (Nat.succ_pos m)) HM.out.symm
      · rw [if_neg hd] at hr
        have dd := ne1 hd
        have HR := Lib.hid hr
        clear hr hd
        have hj : J m (.bool false) w6 := (HJH.out _ _ _).2 (.inl ⟨rfl, s6, HI6.out, HB6.out, HR.out⟩)
        have HJ6 := Lib.hid hj
        clear hj
        go_wp2_with fail
        go_roundw
        case rel => exact ⟨m, HJ6.out⟩
        case measure => exact Nat.lt_of_lt_of_eq (cnt_lt (J := fun m wr => J m (.bool false) wr) HJ6.out (Nat.lt_succ_self m)) HM.out.symm
    · have HE := Lib.hid (RunEnd.fin V (ret := fun _ => .tuple #[]) hr hi hbt)
      clear hj hr hi hbt
      go_wp2_with fail
      go_end0
      exact HE.out

/-! ### over -/
theorem pins_bind (e : Nat) (q : Prg) : ∀ (k i : Nat), Prg.pins e q i k = (Prg.pins e (.ret 1) i k).bind fun d => if d = 1 then q else .ret 0
  | 0, i => rfl
  | k + 1, i => by
    unfold Prg.pins Prg.load
    simp only [Prg.bind]
    congr 1
    funext p
    split
    · exact pins_bind e q k (i + 1)
    · rfl
theorem pins_01 {T : S → Int → Int → Nat → Nat → Tell S} {e : Nat} : ∀ (k i : Nat) (s : S) {d : Nat} {s' : S}, (Prg.pins e (.ret 1) i k).run T s = .done d s' → d = 0 ∨ d = 1
  | 0, i, s, d, s', h => by cases h; exact .inr rfl
  | k + 1, i, s, d, s', h => by
    unfold Prg.pins Prg.load at h
    simp only [Prg.run] at h
    split at h
    · cases h
    · cases h
    · split at h
      · exact pins_01 k (i + 1) _ h
      · cases h; exact .inl rfl
end
end Go.Proofs.YtkfodhkeajmbhaaGreatDoor
