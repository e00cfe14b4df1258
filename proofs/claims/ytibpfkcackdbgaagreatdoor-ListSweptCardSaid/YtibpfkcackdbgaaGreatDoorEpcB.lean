/- EpcB -/
import Derived.Test.YtibpfkcackdbgaaGreatDoorEpcA
import Derived.RangeFuncOwn
import Derived.RangeFuncCalls
import Derived.Shelf.Abstract
import Derived.Shelf.RegionOpen
import Derived.WalkKit
import Derived.OwnWalkIn
import Derived.TacticsInMore
import Derived.LoopNIn
import Derived.LoopIn
import Derived.RangeFuncSeq
import Derived.Test.YtibpfkcackdbgaaGreatDoorPolB
namespace Go.Proofs.YtibpfkcackdbgaaGreatDoor
open Go.ChangeShapes Go.WideShapes Go.ChangeAt Go.RowKit Go.BigFrame
set_option linter.unusedVariables false
set_option maxRecDepth 100000
section
variable (dv : Value) (i : Int) (a b : Nat) (pv : Value) (P : World → Prop) (w : World)
end
section
variable {dv : Value} {S : Type} (V : Srv dv S)
theorem Bnd.swap {i : Int} {a : Nat} (hi : -9223372036854775808 ≤ i ∧ i < 9223372036854775808) (ha : a < 18446744073709551616) : Bnd 4 i a 0 := ⟨by decide, hi, ha, by decide⟩
def QuitR (R : Ran S) (e : Ending) (w' : World) : Prop := ∃ k i a b, R = .left k i a b ∧ Quits V.pv (V.L k i a b) e w'
def Going (R : Ran S) (w : World) (ret : Nat → Value) (q : Nat → Prg) (e : Ending) (w' : World) : Prop :=
 (∃ n s', e = .returned (ret n) ∧ n < 18446744073709551616 ∧ V.I s' w' ∧ But V.g w w' ∧ (q n).run V.tell s' = R) ∨ QuitR V R e w'
theorem RunEnd.fin {R : Ran S} {d : Nat} {s : S} {w w' : World} {ret : Nat → Value} (h : (Prg.ret d).run V.tell s = R) (hI : V.I s w') (hb : But V.g w w') : RunEnd V w ret R (.returned (ret d)) w' := by
 subst h
 exact ⟨rfl, hI, hb⟩
theorem RunEnd.quit {R : Ran S} {w w' : World} {ret : Nat → Value} {e : Ending} (h : QuitR V R e w') : RunEnd V w ret R e w' := by
 obtain ⟨k, i, a, b, rfl, hq⟩ := h
 exact hq
section
variable {R : Ran S} (hb : R ≠ .bad) {i : Int} {f : Nat → Prg} {s : S} (hi : -9223372036854775808 ≤ i ∧ i < 9223372036854775808)
include hb hi
theorem loadP (hR : (Prg.ask 0 i 0 0 f).run V.tell s = R) (w : World) (hI : V.I s w) : Calls Tryz.prog 86 #[dv, .int .i64 i] w (Going V R w (fun n => .int .u64 (n : Int)) f) := by
 simp only [Prg.run] at hR
 cases h : V.tell s 0 i 0 0 with
 | bad => rw [h] at hR; exact absurd hR.symm hb
 | left => rw [h] at hR; exact (V.loadL h hi w hI).mono fun e w' hq => .inr ⟨_, _, _, _, hR.symm, hq⟩
 | told n s' =>
  rw [h] at hR
  refine (V.load h hi w hI).mono ?_
  rintro e w' ⟨rfl, h1, h2⟩
  exact .inl ⟨n, s', rfl, V.small h, h1, h2, hR⟩
theorem storeP {a : Nat} (ha : a < 18446744073709551616) (hR : (Prg.ask 1 i a 0 f).run V.tell s = R) (w : World) (hI : V.I s w) : Calls Tryz.prog 49 #[dv, .int .i64 i, .int .u64 (a : Int)] w (Going V R w (fun _ => .tuple #[]) f) := by
 simp only [Prg.run] at hR
 cases h : V.tell s 1 i a 0 with
 | bad => rw [h] at hR; exact absurd hR.symm hb
 | left => rw [h] at hR; exact (V.storeL h hi ha w hI).mono fun e w' hq => .inr ⟨_, _, _, _, hR.symm, hq⟩
 | told n s' =>
  rw [h] at hR
  refine (V.store h hi ha w hI).mono ?_
  rintro e w' ⟨rfl, h1, h2⟩
  exact .inl ⟨n, s', rfl, V.small h, h1, h2, hR⟩
theorem casP {a b : Nat} (ha : a < 18446744073709551616) (hbb : b < 18446744073709551616) (hR : (Prg.ask 2 i a b f).run V.tell s = R) (w : World) (hI : V.I s w) : Calls Tryz.prog 89 #[dv, .int .i64 i, .int .u64 (a : Int), .int .u64 (b : Int)] w (Going V R w (fun n => .bool ((n : Int) == 1)) f) := by
 simp only [Prg.run] at hR
 cases h : V.tell s 2 i a b with
 | bad => rw [h] at hR; exact absurd hR.symm hb
 | left => rw [h] at hR; exact (V.casL h hi ha hbb w hI).mono fun e w' hq => .inr ⟨_, _, _, _, hR.symm, hq⟩
 | told n s' =>
  rw [h] at hR
  refine (V.cas h hi ha hbb w hI).mono ?_
  rintro e w' ⟨rfl, h1, h2⟩
  exact .inl ⟨n, s', rfl, V.small h, h1, h2, hR⟩
end
def Srv.kept (K : World → Prop) (hK : ∀ w w', K w → But V.g w w' → K w') (hg : ∀ s w, V.I s w → V.g ≤ w.heap.size) : Srv dv S where
 I s w := V.I s w ∧ K w
 g := V.g
 tell := V.tell
 pv := V.pv
 L k i a b w := V.L k i a b w ∧ K w
 isFn := V.isFn
 small := V.small
 B w := w.heap.size
 ble := fun _ => Nat.le_refl _
 stay := fun h hb => ⟨V.later h.1 hb, hK _ _ h.2 (But.of hb (hg _ _ h.1))⟩
 told := fun h hbd w hI => (V.told h hbd w hI.1).mono fun e w' hx => ⟨hx.1, ⟨hx.2.1, hK _ _ hI.2 hx.2.2⟩, hx.2.2⟩
 left := fun h hbd w hI => (V.left h hbd w hI.1).mono fun e w' hx => ⟨hx.1, ⟨hx.2.1, hK _ _ hI.2 hx.2.2⟩, hx.2.2⟩
end
end Go.Proofs.YtibpfkcackdbgaaGreatDoor
namespace Go.Proofs.YtibpfkcackdbgaaGreatDoor
open Go.ChangeShapes Go.WideShapes Go.ChangeAt Go.RowKit Go.BigFrame
set_option linter.unusedVariables false
set_option maxRecDepth 100000
theorem limboN_lt (e : Nat) : limboN e < 7 := by unfold limboN; omega
theorem eLimbo_any (e : Nat) (w : World) : Calls Tryz.prog 180 #[.int .u64 (e : Int)] w fun x w' => x = .returned (.int .i64 (limboN e : Nat)) ∧ w = w' := by
 have h1 : Int.tmod (e : Int) 3 = ((e % 3 : Nat) : Int) := (Int.ofNat_tmod e 3).symm
 have h2 : (4 : Int) + ((e % 3 : Nat) : Int) = ((limboN e : Nat) : Int) := by unfold limboN; omega
 have h3 : e % 3 < 3 := Nat.mod_lt _ (by decide)
 generalize e % 3 = m at *
 generalize limboN e = l at *
 go_enter Tryz.func180, Tryz.ntmps180
 go_wp2_with fail
 go_ret
 exact ⟨rfl, rfl⟩
theorem eLink_any (t r : Nat) (ht : t ≤ 64) (h1 : 1 ≤ r) (hr : r < 1048576) (w : World) :
  Calls Tryz.prog 181 #[.int .i64 (t : Int), .int .i64 (r : Int)] w fun e w' => e = .returned (.int .i64 (fieldN t r 7 : Nat)) ∧ w = w' := by
 have HF : ∀ w, Calls Tryz.prog 87 #[.int .i64 (t : Int), .int .i64 (r : Int), .int .i64 7] w fun e w' => e = .returned (.int .i64 (fieldN t r 7 : Nat)) ∧ w = w' := fun w => field_any t r 7 (by omega) h1 (by omega) (by omega) w
 clear ht h1 hr
 go_enter Tryz.func181, Tryz.ntmps181
 go_wp2_with (go_at_call 87; (with_reducible refine (HF _).mono ?_); rintro e w' ⟨rfl, rfl⟩)
 go_ret
 exact ⟨rfl, rfl⟩
section
variable {dv : Value} {S : Type} (V : Srv dv S)
set_option maxHeartbeats 4000000 in
theorem retire_prg (t : Nat) (ht : t ≤ 64) (r : Nat) (h1 : 1 ≤ r) (hr : r < 1048576) (n : Nat) (s : S) (hb : (Prg.retire t r n).run V.tell s ≠ .bad) (w : World) (hI : V.I s w) :
  Calls Tryz.prog 135 #[dv, .int .i64 (t : Int), .int .i64 (r : Int)] w (RunEnd V w (fun _ => .tuple #[]) ((Prg.retire t r n).run V.tell s)) := by
 have hR : (Prg.ask 0 3 0 0 fun e => Prg.retireL t r (limboN e) n).run V.tell s = (Prg.retire t r n).run V.tell s := rfl
 generalize (Prg.retire t r n).run V.tell s = R at *
 have HL := loadP V hb (by decide) hR
 have HB := Lib.hid hb
 have HI := Lib.hid hI
 have HK := fun w => eLink_any t r ht h1 hr w
 have hfl := i64_nat (n := fieldN t r 7) (by have := fieldN_lt ht hr (f := 7) (by omega); omega)
 have hcv : IntKind.u64.wrap (r : Int) = (r : Int) := by rw [IntKind.wrap_u64]; omega
 have HF := Lib.hid (And.intro hfl (show r < 18446744073709551616 by omega))
 obtain ⟨df, d1, d2, rfl⟩ := V.isFn
 have hsm := eql_do df d1 d2
 clear hI hb hR ht h1 hr hfl
 obtain ⟨fl, hfl⟩ : ∃ x, fieldN t r 7 = x := ⟨_, rfl⟩
 rw [hfl] at HK HF
 have HFL := Lib.hid hfl
 clear hfl
 go_enter Tryz.func135, Tryz.ntmps135
 go_wp2_with fail
 (with_reducible refine (HL _ HI.out).mono ?_)
 clear HL HI
 rintro e w2 (⟨x, s2, rfl, hn, hi, hbt, hr⟩ | ⟨k, j, a, b, hr, rfl, hl⟩)
 case inr => exact ⟨rfl, by rw [hr]; exact ⟨rfl, hl⟩⟩
 dsimp only at hr
 have HLI := eLimbo_any x
 have hll := limboN_lt x
 generalize limboN x = l at *
 obtain ⟨J, hJ⟩ : ∃ J : Nat → Value → World → Prop, J = fun m d wr => (d = .bool false ∧ ∃ s, V.I s wr ∧ But V.g w wr ∧ (Prg.retireL t r l m).run V.tell s = R) ∨ (m = 0 ∧ d = .bool true ∧ ∃ s, V.I s wr ∧ But V.g w wr ∧ (Prg.ret 0).run V.tell s = R) := ⟨_, rfl⟩
 have HJ : ∀ m d wr, J m d wr ↔ (d = .bool false ∧ ∃ s, V.I s wr ∧ But V.g w wr ∧ (Prg.retireL t r l m).run V.tell s = R) ∨ (m = 0 ∧ d = .bool true ∧ ∃ s, V.I s wr ∧ But V.g w wr ∧ (Prg.ret 0).run V.tell s = R) := fun m d wr => by rw [hJ]
 have HJ0 := Lib.hid (show ∃ m, J m (.bool false) w2 from ⟨n, (HJ _ _ _).2 (.inl ⟨rfl, s2, hi, hbt, hr⟩)⟩)
 have HLL := Lib.hid (show -9223372036854775808 ≤ ((l : Nat) : Int) ∧ ((l : Nat) : Int) < 9223372036854775808 by omega)
 have HJH := Lib.hid HJ
 clear hJ hn hi hbt hr hll HJ
 go_wp2_with (go_at_call 180; (with_reducible refine (HLI _).mono ?_); rintro e w' ⟨rfl, rfl⟩)
 go_loopw [7, 8] (fun d _ wr => ∃ m, J m d wr) (fun d _ wr => cnt (fun m wr => J m d wr) wr)
 case atStart => exact HJ0.out
 case round =>
  clear HJ0 HLI
  have hj := cnt_spec (J := fun m wr => J m u7 wr) hrel
  clear hrel
  generalize hm : cnt (fun m wr => J m u7 wr) wr = m at *
  have HM := Lib.hid hm
  clear hm
  rcases (HJH.out _ _ _).1 hj with ⟨rfl, s3, hi, hbt, hr⟩ | ⟨rfl, rfl, s3, hi, hbt, hr⟩
  ·clear hj
   cases m with
   | zero => exact absurd hr.symm HB.out
   | succ m =>
   have hr1 : (Prg.ask 0 ((l : Nat) : Int) 0 0 fun h => Prg.ask 1 ((fieldN t r 7 : Nat) : Int) h 0 fun _ => Prg.ask 2 ((l : Nat) : Int) h r fun d => if d = 1 then Prg.ret 0 else Prg.retireL t r l m).run V.tell s3 = R := hr
   rw [HFL.out] at hr1
   have HL := loadP V HB.out HLL.out hr1
   have HI3 := Lib.hid hi
   have HB3 := Lib.hid hbt
   clear hi hbt hr hr1
   go_wp2_with fail
   (with_reducible refine (HL _ HI3.out).mono ?_)
   clear HL HI3
   rintro e w4 (⟨h, s4, rfl, hn, hi, hbt, hr⟩ | ⟨k, j, a, b, hr, rfl, hl⟩)
   case inr => exact ⟨rfl, by rw [hr]; exact ⟨rfl, hl⟩⟩
   dsimp only at hr
   have HS := storeP V HB.out HF.out.1 hn hr
   have HN := Lib.hid hn
   have HI4 := Lib.hid hi
   have HB4 := Lib.hid (HB3.out.trans hbt)
   clear hn hi hbt hr HB3
   go_wp2_with (go_at_call 181; (with_reducible refine (HK _).mono ?_); rintro e w' ⟨rfl, rfl⟩)
   (with_reducible refine (HS _ HI4.out).mono ?_)
   clear HS HI4
   rintro e w5 (⟨h5, s5, rfl, hn, hi, hbt, hr⟩ | ⟨k, j, a, b, hr, rfl, hl⟩)
   case inr => exact ⟨rfl, by rw [hr]; exact ⟨rfl, hl⟩⟩
   dsimp only at hr
   have HC := casP V HB.out HLL.out HN.out HF.out.2 hr
   have HI5 := Lib.hid hi
   have HB5 := Lib.hid (HB4.out.trans hbt)
   clear hn hi hbt hr HB4 HN
   go_wp2_with fail
   (with_reducible refine (HC _ HI5.out).mono ?_)
   clear HC HI5
   rintro e w6 (⟨d, s6, rfl, hn, hi, hbt, hr⟩ | ⟨k, j, a, b, hr, rfl, hl⟩)
   case inr => exact ⟨rfl, by rw [hr]; exact ⟨rfl, hl⟩⟩
   dsimp only at hr
   have HI6 := Lib.hid hi
   have HB6 := Lib.hid (HB5.out.trans hbt)
   clear hn hi hbt HB5
   by_cases hd : d = 1
   ·rw [if_pos hd] at hr
    have dd := eq1 hd
    have HR := Lib.hid hr
    clear hr hd
    have hj : J 0 (.bool true) w6 := (HJH.out _ _ _).2 (.inr ⟨rfl, rfl, s6, HI6.out, HB6.out, HR.out⟩)
    have HJ6 := Lib.hid hj
    clear hj
    go_wp2_with fail
    go_roundw
    case rel => exact ⟨0, HJ6.out⟩
    case measure => exact Nat.lt_of_lt_of_eq (cnt_lt (J := fun m wr => J m (.bool true) wr) HJ6.out (Nat.succ_pos m)) HM.out.symm
   ·rw [if_neg hd] at hr
    have dd := ne1 hd
    have HR := Lib.hid hr
    clear hr hd
    have hj : J m (.bool false) w6 := (HJH.out _ _ _).2 (.inl ⟨rfl, s6, HI6.out, HB6.out, HR.out⟩)
    have HJ6 := Lib.hid hj
    clear hj
    go_wp2_with fail
    go_roundw
    case rel => exact ⟨m, HJ6.out⟩
    case measure => exact Nat.lt_of_lt_of_eq (cnt_lt (J := fun m wr => J m (.bool false) wr) HJ6.out (Nat.lt_succ_self m)) HM.out.symm
  ·have HE := Lib.hid (RunEnd.fin V (ret := fun _ => .tuple #[]) hr hi hbt)
   clear hj hr hi hbt
   go_wp2_with fail
   go_end0
   exact HE.out
end
end Go.Proofs.YtibpfkcackdbgaaGreatDoor
namespace Go.Proofs.YtibpfkcackdbgaaGreatDoor
open Go.ChangeShapes Go.WideShapes Go.ChangeAt Go.RowKit
set_option linter.unusedVariables false
set_option maxRecDepth 100000
def WpAt (f : FuncId) (P : Program) (c : Code) (Q : Exit → Act → World → Prop) (a : Act) (w : World) : Prop :=
 ∀ (b : Frame) (k : List Item) (cs : List Frame), b.roundOf = none → b.fn = f → ∃ e a' w', Q e a' w' ∧ Arrives P (lone (b.at a (.code c :: k)) cs w) b k cs e a' w'
section
variable {f : FuncId} {P : Program} {Q : Exit → Act → World → Prop} {a : Act} {w : World}
theorem WpAt.of {c : Code} (h : c.wp P Q a w) : WpAt f P c Q a w := fun b k cs _ _ => h b k cs
theorem WpAt.seq {x y : Code} (h : WpAt f P x (Exit.then (WpAt f P y Q) Q) a w) : WpAt f P (.seq x y) Q a w := by
 intro b k cs hro hb
 have hs : Steps P (lone (b.at a (.code (.seq x y) :: k)) cs w) (lone (b.at a (.code x :: .code y :: k)) cs w) := by
  rw [← Frame.atR_of_none hro, ← Frame.atR_of_none hro]
  exact .one stepR_seq
 obtain ⟨e, a₁, w₁, hq, harr⟩ := h b (.code y :: k) cs hro hb
 cases e with
 | normal =>
  obtain ⟨e₂, a₂, w₂, hq₂, harr₂⟩ := hq b k cs hro hb
  exact ⟨e₂, a₂, w₂, hq₂, .of_steps (hs.trans harr) harr₂⟩
 | exit id => exact ⟨_, a₁, w₁, hq, .of_steps hs (.pass (x := .code y) rfl (fun _ _ => .inl (by simp)) harr)⟩
 | goto l => exact ⟨_, a₁, w₁, hq, .of_steps hs (.pass (x := .code y) rfl (fun _ _ => .inl (by simp)) harr)⟩
 | ret => exact ⟨_, a₁, w₁, hq, .of_steps hs (.pass (x := .code y) rfl (fun _ _ => .inl (by simp)) harr)⟩
 | panic ch => exact ⟨_, a₁, w₁, hq, .of_steps hs (.pass (x := .code y) rfl (fun _ _ => .inl (by simp)) harr)⟩
 | outgrown => exact ⟨_, a₁, w₁, hq, .of_steps hs (.pass (x := .code y) rfl (fun _ _ => .inl (by simp)) harr)⟩
theorem WpAt.block {id : Nat} {c : Code} (h : WpAt f P c (Exit.inBlock id Q) a w) : WpAt f P (.block id c) Q a w := by
 intro b k cs hro hb
 have hs : Steps P (lone (b.at a (.code (.block id c) :: k)) cs w) (lone (b.at a (.code c :: .inBlock id :: k)) cs w) := by
  rw [← Frame.atR_of_none hro, ← Frame.atR_of_none hro]
  exact .one stepR_block
 obtain ⟨e, a₁, w₁, hq, harr⟩ := h b (.inBlock id :: k) cs hro hb
 cases e with
 | normal =>
  refine ⟨.normal, a₁, w₁, hq, hs.trans (Steps.trans harr ?_)⟩
  rw [← Frame.atR_of_none hro, ← Frame.atR_of_none hro]
  exact .one stepR_inBlock
 | exit id' =>
  by_cases hid : id' = id
  ·simp only [Exit.inBlock, hid, if_true] at hq
   exact ⟨.normal, a₁, w₁, hq, hs.trans (harr k (by simp [exitTo, hid]))⟩
  ·simp only [Exit.inBlock, hid, if_false] at hq
   have this : (id == id') = false := by simp; exact fun h => hid h.symm
   exact ⟨.exit id', a₁, w₁, hq, fun k' hk => hs.trans (harr k' (by simpa [exitTo, this] using hk))⟩
 | goto l => exact ⟨_, a₁, w₁, hq, fun k' hk => hs.trans (harr k' (by simpa [gotoIn] using hk))⟩
 | ret => exact ⟨_, a₁, w₁, hq, .of_steps hs harr⟩
 | panic ch => exact ⟨_, a₁, w₁, hq, .of_steps hs harr⟩
 | outgrown => exact ⟨_, a₁, w₁, hq, .of_steps hs harr⟩
end
end Go.Proofs.YtibpfkcackdbgaaGreatDoor
namespace Go.Proofs.YtibpfkcackdbgaaGreatDoor
open Go.ChangeShapes Go.WideShapes Go.ChangeAt Go.RowKit Go.Shelf
set_option linter.unusedVariables false
set_option maxRecDepth 100000
section
variable {dv : Value} {S : Type} (V : Srv dv S)
end
end Go.Proofs.YtibpfkcackdbgaaGreatDoor
namespace Go.Proofs.YtibpfkcackdbgaaGreatDoor
open Go.ChangeShapes Go.WideShapes Go.ChangeAt Go.RowKit Go.Shelf
set_option linter.unusedVariables false
set_option maxRecDepth 100000
attribute [local go_sem] Oper.semAt_some
section
variable {dv : Value} {S : Type} (V : Srv dv S)
structure AdvK (wA : World) (b1 b2 b3 c2 c3 L D h t : Nat) (rc : Loop) (W : World) : Prop where
 but : But V.g wA W
 v1 : VarAt W b1 [.int .u64 (h : Int)]
 v2 : VarAt W b2 [dv]
 v3 : VarAt W b3 [.int .i64 (t : Int)]
 u2 : VarAt W c2 [dv]
 u3 : VarAt W c3 [.int .i64 (t : Int)]
 rcd : W.heap[L]? = some (.loop rc)
 dfr : W.heap[D]? = some (.deferred (some []))
theorem AdvK.go {wA : World} {b1 b2 b3 c2 c3 L D h t : Nat} {rc : Loop} (hn : b1 ≠ V.g ∧ b2 ≠ V.g ∧ b3 ≠ V.g ∧ c2 ≠ V.g ∧ c3 ≠ V.g ∧ L ≠ V.g ∧ D ≠ V.g) {W W' : World} (hK : AdvK V wA b1 b2 b3 c2 c3 L D h t rc W) (hb : But V.g W W') : AdvK V wA b1 b2 b3 c2 c3 L D h t rc W' where
 but := hK.but.trans hb
 v1 := hK.v1.but hb hn.1
 v2 := hK.v2.but hb hn.2.1
 v3 := hK.v3.but hb hn.2.2.1
 u2 := hK.u2.but hb hn.2.2.2.1
 u3 := hK.u3.but hb hn.2.2.2.2.1
 rcd := (hb.block _ (Array.getElem?_eq_some_iff.1 hK.rcd).1 hn.2.2.2.2.2.1).trans hK.rcd
 dfr := (hb.block _ (Array.getElem?_eq_some_iff.1 hK.dfr).1 hn.2.2.2.2.2.2).trans hK.dfr
theorem VarAt.put {W : World} {b l : Nat} {vs : List Value} (h : VarAt W b vs) (o : Obj) (hn : b ≠ l) : VarAt (W.putObj l o) b vs := by
 have hh : (W.putObj l o).heap[b]? = W.heap[b]? := World.putObj_heap_other hn
 refine ⟨by simpa using h.1, fun j v hj => ?_, fun j hj => ?_⟩
 ·rw [← h.2.1 j v hj]
  unfold World.cell?
  simp only [hh]
 ·rw [← h.2.2 j hj]
  unfold World.frozen?
  simp only [hh]
theorem But.put {g : Nat} {w W : World} (h : But g w W) {l : Nat} (o : Obj) (hl : w.heap.size ≤ l) (hg : g < w.heap.size) : But g w (W.putObj l o) := by
 have hb : ∀ k, k < w.heap.size → (W.putObj l o).heap[k]? = W.heap[k]? := fun k hk => World.putObj_heap_other (by omega)
 exact ⟨h.below.grown (grownBy_putObj' W l o) (Nat.le_trans (Nat.le_of_lt hg) (h.size)) (fun k e => by cases e; omega), fun b hlt hne => (hb b hlt).trans (h.block b hlt hne)⟩
theorem AdvK.put {wA : World} {b1 b2 b3 c2 c3 L D h t : Nat} {rc : Loop} (hn : b1 ≠ L ∧ b2 ≠ L ∧ b3 ≠ L ∧ c2 ≠ L ∧ c3 ≠ L ∧ D ≠ L) (hL : wA.heap.size ≤ L) (hg : V.g < wA.heap.size) (rc' : Loop) {W : World} (hK : AdvK V wA b1 b2 b3 c2 c3 L D h t rc W) : AdvK V wA b1 b2 b3 c2 c3 L D h t rc' (W.putObj L (.loop rc')) where
 but := hK.but.put _ hL hg
 v1 := hK.v1.put _ hn.1
 v2 := hK.v2.put _ hn.2.1
 v3 := hK.v3.put _ hn.2.2.1
 u2 := hK.u2.put _ hn.2.2.2.1
 u3 := hK.u3.put _ hn.2.2.2.2.1
 rcd := World.putObj_heap_same (Array.getElem?_eq_some_iff.1 hK.rcd).1
 dfr := (World.putObj_heap_other hn.2.2.2.2.2).trans hK.dfr
end
section
variable {S : Type} {df : FuncId} {d1 d2 : Array Value} (V : Srv (.func (.func df) d1 d2) S)
def panicOnly (R : Ending → World → Prop) : Exit → Act → World → Prop
 | .panic chain, a, w => a.defers = [] ∧ R (.panicked chain) w
 | _, _, _ => False
theorem panicOnly.to {P : Program} {fn : Func} {R : Ending → World → Prop} {K : Act → World → Prop} (e : Exit) (a : Act) (w : World) (h : Exit.then K (panicOnly R) e a w) : Exit.then K (bodyPostM Fence.wide 5 P fn R) e a w := by
 cases e with
 | normal => exact h
 | panic chain =>
  obtain ⟨hd, hr⟩ := h
  show LeavesInM _ _ _ _ _ _ a.defers _ _
  rw [hd]
  exact hr
 | exit id => exact h.elim
 | goto l => exact h.elim
 | ret => exact h.elim
 | outgrown => exact h.elim
end
end Go.Proofs.YtibpfkcackdbgaaGreatDoor
namespace Go.Proofs.YtibpfkcackdbgaaGreatDoor
open Go.ChangeShapes Go.WideShapes Go.ChangeAt Go.RowKit Go.BigFrame
set_option linter.unusedVariables false
set_option maxRecDepth 100000
section
variable {S : Type} {df : FuncId} {d1 d2 : Array Value} (V : Srv (.func (.func df) d1 d2) S)
end
end Go.Proofs.YtibpfkcackdbgaaGreatDoor
