/- EpcB -/
import Derived.Test.YtibpfkcackdbgaaGreatDoorEpcA
import Derived.RangeFuncOwn
import Derived.RangeFuncCalls
import Derived.Shelf.Abstract
import Derived.Shelf.RegionOpen
import Derived.WalkKit
import Derived.OwnWalkIn
import Derived.TacticsInMore
import Derived.LoopNIn
import Derived.LoopIn
import Derived.RangeFuncSeq
import Derived.Test.YtibpfkcackdbgaaGreatDoorPolB
namespace Go.Proofs.YtibpfkcackdbgaaGreatDoor
open Go.ChangeShapes Go.WideShapes Go.ChangeAt Go.RowKit Go.BigFrame
set_option linter.unusedVariables false
set_option maxRecDepth 100000
section
variable (dv : Value) (i : Int) (a b : Nat) (pv : Value) (P : World → Prop) (w : World)
theorem swap_left (h : Calls Tryz.prog 88 #[dv, .int .i64 4, .int .i64 i, .int .u64 (a : Int), .int .u64 0] w (Quits pv P)) :
  Calls Tryz.prog 202 #[dv, .int .i64 i, .int .u64 (a : Int)] w (Quits pv P) := by
 go_enter Tryz.func202, Tryz.ntmps202
 go_wp2_with fail
 (with_reducible refine h.mono ?_)
 rintro e w' ⟨rfl, hp⟩
 exact ⟨rfl, rfl, hp⟩
end
section
variable {dv : Value} {S : Type} (V : Srv dv S)
theorem Bnd.swap {i : Int} {a : Nat} (hi : -9223372036854775808 ≤ i ∧ i < 9223372036854775808) (ha : a < 18446744073709551616) : Bnd 4 i a 0 := ⟨by decide, hi, ha, by decide⟩
def QuitR (R : Ran S) (e : Ending) (w' : World) : Prop := ∃ k i a b, R = .left k i a b ∧ Quits V.pv (V.L k i a b) e w'
def Going (R : Ran S) (w : World) (ret : Nat → Value) (q : Nat → Prg) (e : Ending) (w' : World) : Prop :=
 (∃ n s', e = .returned (ret n) ∧ n < 18446744073709551616 ∧ V.I s' w' ∧ But V.g w w' ∧ (q n).run V.tell s' = R) ∨ QuitR V R e w'
def GoingC (R : Ran S) (w : World) (ret : Nat → Value) (q : Nat → Prg) (e : Ending) (w' : World) : Prop :=
 (∃ n s', e = .returned (ret n) ∧ V.I s' w' ∧ But V.g w w' ∧ (q n).run V.tell s' = R) ∨ QuitR V R e w'
theorem RunEnd.fin {R : Ran S} {d : Nat} {s : S} {w w' : World} {ret : Nat → Value} (h : (Prg.ret d).run V.tell s = R) (hI : V.I s w') (hb : But V.g w w') : RunEnd V w ret R (.returned (ret d)) w' := by
 subst h
 exact ⟨rfl, hI, hb⟩
theorem RunEnd.quit {R : Ran S} {w w' : World} {ret : Nat → Value} {e : Ending} (h : QuitR V R e w') : RunEnd V w ret R e w' := by
 obtain ⟨k, i, a, b, rfl, hq⟩ := h
 exact hq
section
variable {R : Ran S} (hb : R ≠ .bad) {i : Int} {f : Nat → Prg} {s : S} (hi : -9223372036854775808 ≤ i ∧ i < 9223372036854775808)
include hb hi
theorem loadP (hR : (Prg.ask 0 i 0 0 f).run V.tell s = R) (w : World) (hI : V.I s w) : Calls Tryz.prog 86 #[dv, .int .i64 i] w (Going V R w (fun n => .int .u64 (n : Int)) f) := by
 simp only [Prg.run] at hR
 cases h : V.tell s 0 i 0 0 with
 | bad => rw [h] at hR; exact absurd hR.symm hb
 | left => rw [h] at hR; exact (V.loadL h hi w hI).mono fun e w' hq => .inr ⟨_, _, _, _, hR.symm, hq⟩
 | told n s' =>
  rw [h] at hR
  refine (V.load h hi w hI).mono ?_
  rintro e w' ⟨rfl, h1, h2⟩
  exact .inl ⟨n, s', rfl, V.small h, h1, h2, hR⟩
theorem storeP {a : Nat} (ha : a < 18446744073709551616) (hR : (Prg.ask 1 i a 0 f).run V.tell s = R) (w : World) (hI : V.I s w) : Calls Tryz.prog 49 #[dv, .int .i64 i, .int .u64 (a : Int)] w (Going V R w (fun _ => .tuple #[]) f) := by
 simp only [Prg.run] at hR
 cases h : V.tell s 1 i a 0 with
 | bad => rw [h] at hR; exact absurd hR.symm hb
 | left => rw [h] at hR; exact (V.storeL h hi ha w hI).mono fun e w' hq => .inr ⟨_, _, _, _, hR.symm, hq⟩
 | told n s' =>
  rw [h] at hR
  refine (V.store h hi ha w hI).mono ?_
  rintro e w' ⟨rfl, h1, h2⟩
  exact .inl ⟨n, s', rfl, V.small h, h1, h2, hR⟩
theorem casP {a b : Nat} (ha : a < 18446744073709551616) (hbb : b < 18446744073709551616) (hR : (Prg.ask 2 i a b f).run V.tell s = R) (w : World) (hI : V.I s w) : Calls Tryz.prog 89 #[dv, .int .i64 i, .int .u64 (a : Int), .int .u64 (b : Int)] w (Going V R w (fun n => .bool ((n : Int) == 1)) f) := by
 simp only [Prg.run] at hR
 cases h : V.tell s 2 i a b with
 | bad => rw [h] at hR; exact absurd hR.symm hb
 | left => rw [h] at hR; exact (V.casL h hi ha hbb w hI).mono fun e w' hq => .inr ⟨_, _, _, _, hR.symm, hq⟩
 | told n s' =>
  rw [h] at hR
  refine (V.cas h hi ha hbb w hI).mono ?_
  rintro e w' ⟨rfl, h1, h2⟩
  exact .inl ⟨n, s', rfl, V.small h, h1, h2, hR⟩
theorem swapP {a : Nat} (ha : a < 18446744073709551616) (hR : (Prg.ask 4 i a 0 f).run V.tell s = R) (w : World) (hI : V.I s w) : Calls Tryz.prog 202 #[dv, .int .i64 i, .int .u64 (a : Int)] w (Going V R w (fun n => .int .u64 (n : Int)) f) := by
 simp only [Prg.run] at hR
 cases h : V.tell s 4 i a 0 with
 | bad => rw [h] at hR; exact absurd hR.symm hb
 | left => rw [h] at hR; exact (swap_left dv i a V.pv _ w (V.leftL h (Bnd.swap hi ha) w hI)).mono fun e w' hq => .inr ⟨_, _, _, _, hR.symm, hq⟩
 | told n s' =>
  rw [h] at hR
  refine (swap_of dv i a n _ w (V.told h (Bnd.swap hi ha) w hI)).mono ?_
  rintro e w' ⟨rfl, h1, h2⟩
  exact .inl ⟨n, s', rfl, V.small h, h1, h2, hR⟩
end
theorem partP {R : Ran S} (hb : R ≠ .bad) {p : Prg} {q : Nat → Prg} {s : S} {F : FuncId} {args : Array Value} {ret : Nat → Value} (hR : (p.bind q).run V.tell s = R) (w : World)
  (h : p.run V.tell s ≠ .bad → Calls Tryz.prog F args w (RunEnd V w ret (p.run V.tell s))) : Calls Tryz.prog F args w (GoingC V R w ret q) := by
 rw [Prg.run_bind] at hR
 cases hp : p.run V.tell s with
 | bad => rw [hp] at hR; exact absurd hR.symm hb
 | left k i a b =>
  rw [hp] at hR h
  exact (h (by simp)).mono fun e w' hq => .inr ⟨_, _, _, _, hR.symm, hq⟩
 | done d s' =>
  rw [hp] at hR h
  refine (h (by simp)).mono ?_
  rintro e w' ⟨rfl, h1, h2⟩
  exact .inl ⟨d, s', rfl, h1, h2, hR⟩
def Srv.kept (K : World → Prop) (hK : ∀ w w', K w → But V.g w w' → K w') (hg : ∀ s w, V.I s w → V.g ≤ w.heap.size) : Srv dv S where
 I s w := V.I s w ∧ K w
 g := V.g
 tell := V.tell
 pv := V.pv
 L k i a b w := V.L k i a b w ∧ K w
 isFn := V.isFn
 small := V.small
 B w := w.heap.size
 ble := fun _ => Nat.le_refl _
 stay := fun h hb => ⟨V.later h.1 hb, hK _ _ h.2 (But.of hb (hg _ _ h.1))⟩
 told := fun h hbd w hI => (V.told h hbd w hI.1).mono fun e w' hx => ⟨hx.1, ⟨hx.2.1, hK _ _ hI.2 hx.2.2⟩, hx.2.2⟩
 left := fun h hbd w hI => (V.left h hbd w hI.1).mono fun e w' hx => ⟨hx.1, ⟨hx.2.1, hK _ _ hI.2 hx.2.2⟩, hx.2.2⟩
structure Srv.Aside (lo : Nat) : Prop where
 I : ∀ {s : S} {w : World} {l : Nat} {o o' : Obj}, V.I s w → lo ≤ l → w.heap[l]? = some o → o.isCells = false → o'.isCells = false → V.I s (w.putObj l o')
 L : ∀ {k i : Int} {a b : Nat} {w : World} {l : Nat} {o o' : Obj}, V.L k i a b w → lo ≤ l → w.heap[l]? = some o → o.isCells = false → o'.isCells = false → V.L k i a b (w.putObj l o')
 g : ∀ {s : S} {w : World}, V.I s w → V.g < w.heap.size
 lo : ∀ {s : S} {w : World}, V.I s w → lo ≤ w.heap.size
end
end Go.Proofs.YtibpfkcackdbgaaGreatDoor
namespace Go.Proofs.YtibpfkcackdbgaaGreatDoor
open Go.ChangeShapes Go.WideShapes Go.ChangeAt Go.RowKit Go.BigFrame
set_option linter.unusedVariables false
set_option maxRecDepth 100000
theorem upN_lt' (e k : Nat) : upN e k < 18446744073709551616 := Nat.mod_lt _ (by decide)
theorem limboN_lt (e : Nat) : limboN e < 7 := by unfold limboN; omega
theorem ePinned_any (e : Nat) (w : World) : Calls Tryz.prog 186 #[.int .u64 (e : Int)] w fun x w' => x = .returned (.int .u64 (upN e 1 : Nat)) ∧ w = w' := by
 have h1 : IntKind.u64.wrap ((e : Int) + 1) = ((upN e 1 : Nat) : Int) := by rw [IntKind.wrap_u64]; unfold upN; omega
 go_enter Tryz.func186, Tryz.ntmps186
 go_wp2_with fail
 go_ret
 exact ⟨rfl, rfl⟩
theorem eLimbo_any (e : Nat) (w : World) : Calls Tryz.prog 180 #[.int .u64 (e : Int)] w fun x w' => x = .returned (.int .i64 (limboN e : Nat)) ∧ w = w' := by
 have h1 : Int.tmod (e : Int) 3 = ((e % 3 : Nat) : Int) := (Int.ofNat_tmod e 3).symm
 have h2 : (4 : Int) + ((e % 3 : Nat) : Int) = ((limboN e : Nat) : Int) := by unfold limboN; omega
 have h3 : e % 3 < 3 := Nat.mod_lt _ (by decide)
 generalize e % 3 = m at *
 generalize limboN e = l at *
 go_enter Tryz.func180, Tryz.ntmps180
 go_wp2_with fail
 go_ret
 exact ⟨rfl, rfl⟩
theorem eLink_any (t r : Nat) (ht : t ≤ 64) (h1 : 1 ≤ r) (hr : r < 1048576) (w : World) :
  Calls Tryz.prog 181 #[.int .i64 (t : Int), .int .i64 (r : Int)] w fun e w' => e = .returned (.int .i64 (fieldN t r 7 : Nat)) ∧ w = w' := by
 have HF : ∀ w, Calls Tryz.prog 87 #[.int .i64 (t : Int), .int .i64 (r : Int), .int .i64 7] w fun e w' => e = .returned (.int .i64 (fieldN t r 7 : Nat)) ∧ w = w' := fun w => field_any t r 7 (by omega) h1 (by omega) (by omega) w
 clear ht h1 hr
 go_enter Tryz.func181, Tryz.ntmps181
 go_wp2_with (go_at_call 87; (with_reducible refine (HF _).mono ?_); rintro e w' ⟨rfl, rfl⟩)
 go_ret
 exact ⟨rfl, rfl⟩
section
variable {dv : Value} {S : Type} (V : Srv dv S)
theorem unpin_prg (me : Nat) (hme : me < 1000000) (s : S) (hb : (Prg.unpin me).run V.tell s ≠ .bad) (w : World) (hI : V.I s w) :
  Calls Tryz.prog 150 #[dv, .int .i64 (me : Int)] w (RunEnd V w (fun _ => .tuple #[]) ((Prg.unpin me).run V.tell s)) := by
 have hR : (Prg.ask 1 ((pinN me : Nat) : Int) 0 0 fun _ => Prg.ret 0).run V.tell s = (Prg.unpin me).run V.tell s := rfl
 generalize (Prg.unpin me).run V.tell s = R at *
 have HC := pin_at me hme
 have hpb : -9223372036854775808 ≤ ((pinN me : Nat) : Int) ∧ ((pinN me : Nat) : Int) < 9223372036854775808 := by unfold pinN; omega
 have HS : ∀ w, V.I s w → Calls Tryz.prog 49 #[dv, .int .i64 ((pinN me : Nat) : Int), .int .u64 0] w (Going V R w (fun _ => .tuple #[]) fun _ => Prg.ret 0) := fun w h => storeP V hb hpb (a := 0) (by decide) hR w h
 have HI := Lib.hid hI
 clear hI hme hpb hR hb
 generalize pinN me = p at *
 go_enter Tryz.func150, Tryz.ntmps150
 go_wp2_with (go_at_call 136; (with_reducible refine (HC _).mono ?_); rintro e w' ⟨rfl, rfl⟩)
 (with_reducible refine (HS _ HI.out).mono ?_)
 clear HS
 rintro e w2 (⟨n, s2, rfl, hn, hi, hbt, hr⟩ | ⟨k, j, a, b, hr, rfl, hl⟩)
 case inr => exact ⟨rfl, by rw [hr]; exact ⟨rfl, hl⟩⟩
 dsimp only at hr
 have HE := Lib.hid (RunEnd.fin V (ret := fun _ => .tuple #[]) hr hi hbt)
 clear hn hi hbt hr
 go_wp2_with fail
 go_end0
 exact HE.out
set_option maxHeartbeats 1000000 in
theorem pin_prg (me : Nat) (hme : me < 1000000) (s : S) (hb : (Prg.pin me).run V.tell s ≠ .bad) (w : World) (hI : V.I s w) :
  Calls Tryz.prog 149 #[dv, .int .i64 (me : Int)] w (RunEnd V w (fun _ => .tuple #[]) ((Prg.pin me).run V.tell s)) := by
 have hR : (Prg.ask 0 3 0 0 fun e => Prg.ask 1 ((pinN me : Nat) : Int) (upN e 1) 0 fun _ => Prg.ret 0).run V.tell s = (Prg.pin me).run V.tell s := rfl
 generalize (Prg.pin me).run V.tell s = R at *
 have HC := pin_at me hme
 have hpb : -9223372036854775808 ≤ ((pinN me : Nat) : Int) ∧ ((pinN me : Nat) : Int) < 9223372036854775808 := by unfold pinN; omega
 have HL := loadP V hb (by decide) hR
 have HB := Lib.hid hb
 have HI := Lib.hid hI
 have HPB := Lib.hid hpb
 clear hI hme hR hb hpb
 generalize pinN me = p at *
 go_enter Tryz.func149, Tryz.ntmps149
 go_wp2_with fail
 (with_reducible refine (HL _ HI.out).mono ?_)
 clear HL
 rintro e w2 (⟨n, s2, rfl, hn, hi, hbt, hr⟩ | ⟨k, j, a, b, hr, rfl, hl⟩)
 case inr => exact ⟨rfl, by rw [hr]; exact ⟨rfl, hl⟩⟩
 dsimp only at hr
 have HS := storeP V HB.out HPB.out (upN_lt' n 1) hr
 have HI2 := Lib.hid hi
 have HB2 := Lib.hid hbt
 have HU := ePinned_any n
 clear hn hi hbt hr
 generalize upN n 1 = u at *
 go_wp2_with (first | (go_at_call 136; (with_reducible refine (HC _).mono ?_); rintro e w' ⟨rfl, rfl⟩) | (go_at_call 186; (with_reducible refine (HU _).mono ?_); rintro e w' ⟨rfl, rfl⟩))
 (with_reducible refine (HS _ HI2.out).mono ?_)
 clear HS
 rintro e w3 (⟨m, s3, rfl, hn, hi, hbt, hr⟩ | ⟨k, j, a, b, hr, rfl, hl⟩)
 case inr => exact ⟨rfl, by rw [hr]; exact ⟨rfl, hl⟩⟩
 dsimp only at hr
 have HE := Lib.hid (RunEnd.fin V (ret := fun _ => .tuple #[]) hr hi (HB2.out.trans hbt))
 clear hn hi hbt hr
 go_wp2_with fail
 go_end0
 exact HE.out
set_option maxHeartbeats 4000000 in
theorem retire_prg (t : Nat) (ht : t ≤ 64) (r : Nat) (h1 : 1 ≤ r) (hr : r < 1048576) (n : Nat) (s : S) (hb : (Prg.retire t r n).run V.tell s ≠ .bad) (w : World) (hI : V.I s w) :
  Calls Tryz.prog 135 #[dv, .int .i64 (t : Int), .int .i64 (r : Int)] w (RunEnd V w (fun _ => .tuple #[]) ((Prg.retire t r n).run V.tell s)) := by
 have hR : (Prg.ask 0 3 0 0 fun e => Prg.retireL t r (limboN e) n).run V.tell s = (Prg.retire t r n).run V.tell s := rfl
 generalize (Prg.retire t r n).run V.tell s = R at *
 have HL := loadP V hb (by decide) hR
 have HB := Lib.hid hb
 have HI := Lib.hid hI
 have HK := fun w => eLink_any t r ht h1 hr w
 have hfl := i64_nat (n := fieldN t r 7) (by have := fieldN_lt ht hr (f := 7) (by omega); omega)
 have hcv : IntKind.u64.wrap (r : Int) = (r : Int) := by rw [IntKind.wrap_u64]; omega
 have HF := Lib.hid (And.intro hfl (show r < 18446744073709551616 by omega))
 obtain ⟨df, d1, d2, rfl⟩ := V.isFn
 have hsm := eql_do df d1 d2
 clear hI hb hR ht h1 hr hfl
 obtain ⟨fl, hfl⟩ : ∃ x, fieldN t r 7 = x := ⟨_, rfl⟩
 rw [hfl] at HK HF
 have HFL := Lib.hid hfl
 clear hfl
 go_enter Tryz.func135, Tryz.ntmps135
 go_wp2_with fail
 (with_reducible refine (HL _ HI.out).mono ?_)
 clear HL HI
 rintro e w2 (⟨x, s2, rfl, hn, hi, hbt, hr⟩ | ⟨k, j, a, b, hr, rfl, hl⟩)
 case inr => exact ⟨rfl, by rw [hr]; exact ⟨rfl, hl⟩⟩
 dsimp only at hr
 have HLI := eLimbo_any x
 have hll := limboN_lt x
 generalize limboN x = l at *
 obtain ⟨J, hJ⟩ : ∃ J : Nat → Value → World → Prop, J = fun m d wr => (d = .bool false ∧ ∃ s, V.I s wr ∧ But V.g w wr ∧ (Prg.retireL t r l m).run V.tell s = R) ∨ (m = 0 ∧ d = .bool true ∧ ∃ s, V.I s wr ∧ But V.g w wr ∧ (Prg.ret 0).run V.tell s = R) := ⟨_, rfl⟩
 have HJ : ∀ m d wr, J m d wr ↔ (d = .bool false ∧ ∃ s, V.I s wr ∧ But V.g w wr ∧ (Prg.retireL t r l m).run V.tell s = R) ∨ (m = 0 ∧ d = .bool true ∧ ∃ s, V.I s wr ∧ But V.g w wr ∧ (Prg.ret 0).run V.tell s = R) := fun m d wr => by rw [hJ]
 have HJ0 := Lib.hid (show ∃ m, J m (.bool false) w2 from ⟨n, (HJ _ _ _).2 (.inl ⟨rfl, s2, hi, hbt, hr⟩)⟩)
 have HLL := Lib.hid (show -9223372036854775808 ≤ ((l : Nat) : Int) ∧ ((l : Nat) : Int) < 9223372036854775808 by omega)
 have HJH := Lib.hid HJ
 clear hJ hn hi hbt hr hll HJ
 go_wp2_with (go_at_call 180; (with_reducible refine (HLI _).mono ?_); rintro e w' ⟨rfl, rfl⟩)
 go_loopw [7, 8] (fun d _ wr => ∃ m, J m d wr) (fun d _ wr => cnt (fun m wr => J m d wr) wr)
 case atStart => exact HJ0.out
 case round =>
  clear HJ0 HLI
  have hj := cnt_spec (J := fun m wr => J m u7 wr) hrel
  clear hrel
  generalize hm : cnt (fun m wr => J m u7 wr) wr = m at *
  have HM := Lib.hid hm
  clear hm
  rcases (HJH.out _ _ _).1 hj with ⟨rfl, s3, hi, hbt, hr⟩ | ⟨rfl, rfl, s3, hi, hbt, hr⟩
  ·clear hj
   cases m with
   | zero => exact absurd hr.symm HB.out
   | succ m =>
   have hr1 : (Prg.ask 0 ((l : Nat) : Int) 0 0 fun h => Prg.ask 1 ((fieldN t r 7 : Nat) : Int) h 0 fun _ => Prg.ask 2 ((l : Nat) : Int) h r fun d => if d = 1 then Prg.ret 0 else Prg.retireL t r l m).run V.tell s3 = R := hr
   rw [HFL.out] at hr1
   have HL := loadP V HB.out HLL.out hr1
   have HI3 := Lib.hid hi
   have HB3 := Lib.hid hbt
   clear hi hbt hr hr1
   go_wp2_with fail
   (with_reducible refine (HL _ HI3.out).mono ?_)
   clear HL HI3
   rintro e w4 (⟨h, s4, rfl, hn, hi, hbt, hr⟩ | ⟨k, j, a, b, hr, rfl, hl⟩)
   case inr => exact ⟨rfl, by rw [hr]; exact ⟨rfl, hl⟩⟩
   dsimp only at hr
   have HS := storeP V HB.out HF.out.1 hn hr
   have HN := Lib.hid hn
   have HI4 := Lib.hid hi
   have HB4 := Lib.hid (HB3.out.trans hbt)
   clear hn hi hbt hr HB3
   go_wp2_with (go_at_call 181; (with_reducible refine (HK _).mono ?_); rintro e w' ⟨rfl, rfl⟩)
   (with_reducible refine (HS _ HI4.out).mono ?_)
   clear HS HI4
   rintro e w5 (⟨h5, s5, rfl, hn, hi, hbt, hr⟩ | ⟨k, j, a, b, hr, rfl, hl⟩)
   case inr => exact ⟨rfl, by rw [hr]; exact ⟨rfl, hl⟩⟩
   dsimp only at hr
   have HC := casP V HB.out HLL.out HN.out HF.out.2 hr
   have HI5 := Lib.hid hi
   have HB5 := Lib.hid (HB4.out.trans hbt)
   clear hn hi hbt hr HB4 HN
   go_wp2_with fail
   (with_reducible refine (HC _ HI5.out).mono ?_)
   clear HC HI5
   rintro e w6 (⟨d, s6, rfl, hn, hi, hbt, hr⟩ | ⟨k, j, a, b, hr, rfl, hl⟩)
   case inr => exact ⟨rfl, by rw [hr]; exact ⟨rfl, hl⟩⟩
   dsimp only at hr
   have HI6 := Lib.hid hi
   have HB6 := Lib.hid (HB5.out.trans hbt)
   clear hn hi hbt HB5
   by_cases hd : d = 1
   ·rw [if_pos hd] at hr
    have dd := eq1 hd
    have HR := Lib.hid hr
    clear hr hd
    have hj : J 0 (.bool true) w6 := (HJH.out _ _ _).2 (.inr ⟨rfl, rfl, s6, HI6.out, HB6.out, HR.out⟩)
    have HJ6 := Lib.hid hj
    clear hj
    go_wp2_with fail
    go_roundw
    case rel => exact ⟨0, HJ6.out⟩
    case measure => exact Nat.lt_of_lt_of_eq (cnt_lt (J := fun m wr => J m (.bool true) wr) HJ6.out (Nat.succ_pos m)) HM.out.symm
   ·rw [if_neg hd] at hr
    have dd := ne1 hd
    have HR := Lib.hid hr
    clear hr hd
    have hj : J m (.bool false) w6 := (HJH.out _ _ _).2 (.inl ⟨rfl, s6, HI6.out, HB6.out, HR.out⟩)
    have HJ6 := Lib.hid hj
    clear hj
    go_wp2_with fail
    go_roundw
    case rel => exact ⟨m, HJ6.out⟩
    case measure => exact Nat.lt_of_lt_of_eq (cnt_lt (J := fun m wr => J m (.bool false) wr) HJ6.out (Nat.lt_succ_self m)) HM.out.symm
  ·have HE := Lib.hid (RunEnd.fin V (ret := fun _ => .tuple #[]) hr hi hbt)
   clear hj hr hi hbt
   go_wp2_with fail
   go_end0
   exact HE.out
theorem pins_bind (e : Nat) (q : Prg) : ∀ (k i : Nat), Prg.pins e q i k = (Prg.pins e (.ret 1) i k).bind fun d => if d = 1 then q else .ret 0
 | 0, i => rfl
 | k + 1, i => by
  unfold Prg.pins Prg.load
  simp only [Prg.bind]
  congr 1
  funext p
  split
  ·exact pins_bind e q k (i + 1)
  ·rfl
set_option maxHeartbeats 4000000 in
theorem over_prg (t : Nat) (ht : t ≤ 64) (e : Nat) (he : e < 18446744073709551616) (s : S) (hb : (Prg.pins e (.ret 1) 0 t).run V.tell s ≠ .bad) (w : World) (hI : V.I s w) :
  Calls Tryz.prog 201 #[dv, .int .i64 (t : Int), .int .u64 (e : Int)] w (RunEnd V w (fun d => .bool ((d : Int) == 1)) ((Prg.pins e (.ret 1) 0 t).run V.tell s)) := by
 obtain ⟨R, hR⟩ : ∃ R, (Prg.pins e (.ret 1) 0 t).run V.tell s = R := ⟨_, rfl⟩
 rw [hR] at hb ⊢
 have HB := Lib.hid hb
 have HS0 := Lib.hid (show ∃ s, V.I s w ∧ But V.g w w ∧ (Prg.pins e (.ret 1) 0 (t - 0)).run V.tell s = R from ⟨s, hI, But.refl _ _, hR⟩)
 have HT := Lib.hid ht
 have HU := ePinned_any e
 have hul := upN_lt' e 1
 obtain ⟨u, hu⟩ : ∃ x, upN e 1 = x := ⟨_, rfl⟩
 rw [hu] at HU hul
 have HUE := Lib.hid hu
 clear hI hb hR ht hu
 go_enter Tryz.func201, Tryz.ntmps201
 go_wp2_with fail
 go_loopw [7, 8, 10] (fun _ _ i wr => ∃ k : Nat, k ≤ t ∧ i = .int .i64 k ∧ ∃ s, V.I s wr ∧ But V.g w wr ∧ (Prg.pins e (.ret 1) k (t - k)).run V.tell s = R) (fun _ _ i _ => t - (intOf i).toNat)
 case atStart => exact ⟨0, Nat.zero_le _, rfl, HS0.out⟩
 case round =>
  obtain ⟨k, hk, rfl, s3, hi, hbt, hr⟩ := hrel
  clear HS0
  have HI3 := Lib.hid hi
  have HB3 := Lib.hid hbt
  have HR := Lib.hid hr
  clear hi hbt hr
  have htt := HT.out
  by_cases hkt : k < t
  case neg =>
   obtain rfl : k = t := by omega
   go_wp2_with fail
   go_ret
   have hr := HR.out
   rw [Nat.sub_self] at hr
   exact RunEnd.fin V (ret := fun d => .bool ((d : Int) == 1)) (d := 1) hr HI3.out HB3.out
  obtain ⟨m, hm⟩ : ∃ m, t - k = m + 1 := ⟨t - k - 1, by omega⟩
  have hr := HR.out
  rw [hm] at hr
  have hr1 : (Prg.ask 0 ((pinN k : Nat) : Int) 0 0 fun p => if p = 0 ∨ p = upN e 1 then Prg.pins e (.ret 1) (k + 1) m else .ret 0).run V.tell s3 = R := hr
  have hpb : -9223372036854775808 ≤ ((pinN k : Nat) : Int) ∧ ((pinN k : Nat) : Int) < 9223372036854775808 := by unfold pinN; omega
  have HL := loadP V HB.out hpb hr1
  have HC := pin_at k (by omega)
  have HM := Lib.hid (show m = t - (k + 1) by omega)
  clear hr hr1 hpb HR hm
  generalize pinN k = p at *
  go_wp2_with (go_at_call 136; (with_reducible refine (HC _).mono ?_); rintro e w' ⟨rfl, rfl⟩)
  (with_reducible refine (HL _ HI3.out).mono ?_)
  clear HL HI3 HC
  rintro e w4 (⟨x, s4, rfl, hn, hi, hbt, hr⟩ | ⟨k, j, a, b, hr, rfl, hl⟩)
  case inr => exact ⟨rfl, by rw [hr]; exact ⟨rfl, hl⟩⟩
  dsimp only at hr
  have HI4 := Lib.hid hi
  have HB4 := Lib.hid (HB3.out.trans hbt)
  rw [HUE.out] at hr
  clear hi hbt HB3
  by_cases hp : x = 0 ∨ x = u
  ·rw [if_pos hp, HM.out] at hr
   have HR := Lib.hid hr
   clear hr
   have hgo : ((x : Int) != 0) = false ∨ (((x : Int) != 0) = true ∧ ((x : Int) != (u : Int)) = false) := by
    rcases hp with hp | hp
    ·exact .inl (by simp [bne, eq0 hp])
    ·by_cases h0 : x = 0
     ·exact .inl (by simp [bne, eq0 h0])
     ·exact .inr ⟨by simp [bne, ne0 h0], by simp [bne, hp]⟩
   clear hp
   rcases hgo with g1 | ⟨g1, g2⟩
   ·go_wp2_with (go_at_call 186; (with_reducible refine (HU _).mono ?_); rintro e w' ⟨rfl, rfl⟩)
    go_roundw
    case rel => exact ⟨k + 1, by omega, rfl, s4, HI4.out, HB4.out, HR.out⟩
    case measure => simp [intOf]; omega
   ·go_wp2_with (go_at_call 186; (with_reducible refine (HU _).mono ?_); rintro e w' ⟨rfl, rfl⟩)
    go_roundw
    case rel => exact ⟨k + 1, by omega, rfl, s4, HI4.out, HB4.out, HR.out⟩
    case measure => simp [intOf]; omega
  ·rw [if_neg hp] at hr
   have HR := Lib.hid hr
   clear hr
   have g1 : ((x : Int) != 0) = true := by simp [bne, ne0 (fun h => hp (.inl h))]
   have g2 : ((x : Int) != (u : Int)) = true := by
    have : ((x : Int) == (u : Int)) = false := by rw [beq_eq_false_iff_ne]; exact fun h => hp (.inr (by omega))
    simp [bne, this]
   clear hp
   go_wp2_with (go_at_call 186; (with_reducible refine (HU _).mono ?_); rintro e w' ⟨rfl, rfl⟩)
   go_ret
   exact RunEnd.fin V (ret := fun d => .bool ((d : Int) == 1)) (d := 0) HR.out HI4.out HB4.out
set_option maxHeartbeats 4000000 in
theorem alloc_prg (t : Nat) (ht : t ≤ 64) (me : Nat) (hme : me < 1000000) (m f : Nat) (hA : ∀ s, (Prg.advance t m f).run V.tell s ≠ .bad → ∀ w, V.I s w → Calls Tryz.prog 183 #[dv, .int .i64 (t : Int)] w (RunEnd V w (fun d => .bool ((d : Int) == 1)) ((Prg.advance t m f).run V.tell s)))
  (s : S) (hb : (Prg.alloc t me m f).run V.tell s ≠ .bad) (w : World) (hI : V.I s w) :
  Calls Tryz.prog 145 #[dv, .int .i64 (t : Int), .int .i64 (me : Int)] w (RunEnd V w (fun d => .int .i64 (d : Int)) ((Prg.alloc t me m f).run V.tell s)) := by
 obtain ⟨R, hR⟩ : ∃ R, (Prg.alloc t me m f).run V.tell s = R := ⟨_, rfl⟩
 rw [hR] at hb ⊢
 have hR1 : ((Prg.pop t m).bind fun r => Prg.allocL t me m f 3 r).run V.tell s = R := hR
 have HP := partP V hb hR1 w fun h => pop_prg V t ht m s h w hI
 have HB := Lib.hid hb
 have HI := Lib.hid hI
 have HT := Lib.hid (And.intro ht hme)
 have HA := Lib.hid hA
 clear hI hb hR hR1 ht hme hA
 go_enter Tryz.func145, Tryz.ntmps145
 go_wp2_with fail
 (with_reducible refine HP.mono ?_)
 clear HP HI
 rintro e w2 (⟨r0, s2, rfl, hi, hbt, hr⟩ | ⟨k, j, a, b, hr, rfl, hl⟩)
 case inr => exact ⟨rfl, by rw [hr]; exact ⟨rfl, hl⟩⟩
 dsimp only at hr
 have HS0 := Lib.hid (show ∃ s, V.I s w2 ∧ But V.g w w2 ∧ (Prg.allocL t me m f (3 - 0) r0).run V.tell s = R from ⟨s2, hi, hbt, hr⟩)
 clear hi hbt hr
 go_wp2_with fail
 go_loopw [7, 8] (fun r i wr => ∃ k d : Nat, k ≤ 3 ∧ r = .int .i64 (d : Int) ∧ i = .int .i64 (k : Int) ∧ ∃ s, V.I s wr ∧ But V.g w wr ∧ (Prg.allocL t me m f (3 - k) d).run V.tell s = R) (fun _ i _ => 3 - (intOf i).toNat)
 case atStart => exact ⟨0, r0, by omega, rfl, rfl, HS0.out⟩
 case round =>
  obtain ⟨k, d, hk, rfl, rfl, s3, hi, hbt, hr⟩ := hrel
  clear HS0
  have HI3 := Lib.hid hi
  have HB3 := Lib.hid hbt
  by_cases hd : d = 0
  case neg =>
   have g1 := ne0 hd
   have HE := Lib.hid (RunEnd.fin V (R := R) (ret := fun d => .int .i64 (d : Int)) (d := d) (s := s3) (w' := wr) (by
    rw [← hr]
    cases 3 - k with
    | zero => rfl
    | succ n => unfold Prg.allocL; rw [if_pos hd]) hi hbt)
   clear hi hbt hr hd
   go_wp2_with fail
   go_ret
   exact HE.out
  subst hd
  by_cases hk3 : k < 3
  case neg =>
   obtain rfl : k = 3 := by omega
   have HE := Lib.hid (RunEnd.fin V (R := R) (ret := fun d => .int .i64 (d : Int)) (d := 0) (s := s3) (w' := wr) hr hi hbt)
   clear hi hbt hr
   go_wp2_with fail
   go_ret
   exact HE.out
  obtain ⟨j, hj⟩ : ∃ j, 3 - k = j + 1 := ⟨3 - k - 1, by omega⟩
  rw [hj] at hr
  have hr1 : ((Prg.pin me).bind fun _ => (Prg.advance t m f).bind fun _ => (Prg.pop t m).bind fun r => Prg.allocL t me m f j r).run V.tell s3 = R := hr
  have HJ := Lib.hid (show j = 3 - (k + 1) by omega)
  have HP := partP V HB.out hr1 wr fun h => pin_prg V me HT.out.2 s3 h wr hi
  clear hi hbt hr hr1 hj
  go_wp2_with fail
  (with_reducible refine HP.mono ?_)
  clear HP HI3
  rintro e w4 (⟨n4, s4, rfl, hi, hbt, hr⟩ | ⟨k, j, a, b, hr, rfl, hl⟩)
  case inr => exact ⟨rfl, by rw [hr]; exact ⟨rfl, hl⟩⟩
  dsimp only at hr
  have HP := partP V HB.out hr w4 fun h => HA.out s4 h w4 hi
  have HB4 := Lib.hid (HB3.out.trans hbt)
  clear hi hbt hr HB3
  go_wp2_with fail
  (with_reducible refine HP.mono ?_)
  clear HP
  rintro e w5 (⟨n5, s5, rfl, hi, hbt, hr⟩ | ⟨k, j, a, b, hr, rfl, hl⟩)
  case inr => exact ⟨rfl, by rw [hr]; exact ⟨rfl, hl⟩⟩
  dsimp only at hr
  have HP := partP V HB.out hr w5 fun h => pop_prg V t HT.out.1 m s5 h w5 hi
  have HB5 := Lib.hid (HB4.out.trans hbt)
  clear hi hbt hr HB4
  go_wp2_with fail
  (with_reducible refine HP.mono ?_)
  clear HP
  rintro e w6 (⟨r6, s6, rfl, hi, hbt, hr⟩ | ⟨k, j, a, b, hr, rfl, hl⟩)
  case inr => exact ⟨rfl, by rw [hr]; exact ⟨rfl, hl⟩⟩
  dsimp only at hr
  rw [HJ.out] at hr
  have HR := Lib.hid hr
  have HI6 := Lib.hid hi
  have HB6 := Lib.hid (HB5.out.trans hbt)
  clear hi hbt hr HB5
  go_wp2_with fail
  go_roundw
  case rel => exact ⟨k + 1, r6, by omega, rfl, rfl, s6, HI6.out, HB6.out, HR.out⟩
  case measure => simp [intOf]; omega
end
end Go.Proofs.YtibpfkcackdbgaaGreatDoor
namespace Go.Proofs.YtibpfkcackdbgaaGreatDoor
open Go.ChangeShapes Go.WideShapes Go.ChangeAt Go.RowKit
set_option linter.unusedVariables false
set_option maxRecDepth 100000
def roundPostP (P : Program) (l : Nat) (R : Ending → World → Prop) : Exit → Act → World → Prop
 | .normal, _, w => ∃ v w', (Instr.endRound l none).run P w = .ok v w' ∧ R (.returned v) w'
 | .panic chain, a, w => a.defers = [] ∧ R (.panicked chain) w
 | _, _, _ => False
theorem roundIn_panics {P : Program} {l : Nat} {f : FuncId} {fn : Func} {m : Nat} (hf : P.funcs[f]? = some fn) {tmps : Array Value} {assign body : Code} {w : World} {R : Ending → World → Prop}
  (h : assign.wpIn (Fence.wide.inRound l) m P (Exit.then (fun a₁ w₁ => ∃ w₂, (Instr.beginRound l).run P w₁ = .ok () w₂ ∧ body.wpIn (Fence.wide.inRound l) m P (roundPostP P l R) a₁ w₂) (fun _ _ _ => False)) { tmps := tmps, defers := [] } w) :
  RoundIn Fence.wide m P l f tmps assign body w R := by
 refine ⟨trivial, fun c cs hr => ?_⟩
 let b : Frame := { (default : Frame) with fn := f, kind := .normal, roundOf := some l }
 have hb0 : Frame.round l f tmps assign body .normal = b.atR { tmps := tmps, defers := [] } [.code assign, .beginRound, .code body] := by
  simp [Frame.round, Frame.atR, b]
 have hr' : (Fence.wide.inRound l).room ((c :: cs).length + 1 + m) := hr
 have hF' : (Fence.wide.inRound l).fn b.fn := trivial
 obtain ⟨e, a₁, w₁, hq, harr⟩ := h b [.beginRound, .code body] (c :: cs) rfl hF' hr'
 rw [← hb0] at harr
 cases e with
 | normal =>
  obtain ⟨w₂, hbr, hbody⟩ := hq
  have s1 : StepsIn (Machine.fenced P Fence.wide) P (lone (b.atR a₁ [.beginRound, .code body]) (c :: cs) w₁) (lone (b.atR a₁ [.code body]) (c :: cs) w₂) :=
   .one (fenced_wide P _) (stepR_beginRound rfl hbr)
  obtain ⟨e₂, a₂, w₃, hq₂, harr₂⟩ := hbody b [] (c :: cs) rfl hF' hr'
  cases e₂ with
  | normal =>
   obtain ⟨v, w₄, hend, hR⟩ := hq₂
   exact ⟨.returned v, w₄, hR, (StepsIn.trans harr s1).trans (StepsIn.trans harr₂ (.one (fenced_wide P _) (stepR_round_end rfl rfl hend)))⟩
  | panic chain =>
   obtain ⟨hd, hR⟩ := hq₂
   obtain ⟨todo, hs⟩ := harr₂
   have hlv : ({ b.atR a₂ todo with mode := .panicking chain } : Frame).leaving P w₃ (.panicked chain) := ⟨rfl, hd, fn, hf⟩
   exact ⟨.panicked chain, w₃, hR, (StepsIn.trans harr s1).trans (StepsIn.trans hs (.one (fenced_wide P _) (step_leave_panicked hlv)))⟩
  | exit id => exact hq₂.elim
  | goto t => exact hq₂.elim
  | ret => exact hq₂.elim
  | outgrown => exact hq₂.elim
 | exit id => exact hq.elim
 | goto t => exact hq.elim
 | ret => exact hq.elim
 | panic chain => exact hq.elim
 | outgrown => exact hq.elim
def WpAt (f : FuncId) (P : Program) (c : Code) (Q : Exit → Act → World → Prop) (a : Act) (w : World) : Prop :=
 ∀ (b : Frame) (k : List Item) (cs : List Frame), b.roundOf = none → b.fn = f → ∃ e a' w', Q e a' w' ∧ Arrives P (lone (b.at a (.code c :: k)) cs w) b k cs e a' w'
section
variable {f : FuncId} {P : Program} {Q : Exit → Act → World → Prop} {a : Act} {w : World}
theorem WpAt.of {c : Code} (h : c.wp P Q a w) : WpAt f P c Q a w := fun b k cs _ _ => h b k cs
theorem WpAt.seq {x y : Code} (h : WpAt f P x (Exit.then (WpAt f P y Q) Q) a w) : WpAt f P (.seq x y) Q a w := by
 intro b k cs hro hb
 have hs : Steps P (lone (b.at a (.code (.seq x y) :: k)) cs w) (lone (b.at a (.code x :: .code y :: k)) cs w) := by
  rw [← Frame.atR_of_none hro, ← Frame.atR_of_none hro]
  exact .one stepR_seq
 obtain ⟨e, a₁, w₁, hq, harr⟩ := h b (.code y :: k) cs hro hb
 cases e with
 | normal =>
  obtain ⟨e₂, a₂, w₂, hq₂, harr₂⟩ := hq b k cs hro hb
  exact ⟨e₂, a₂, w₂, hq₂, .of_steps (hs.trans harr) harr₂⟩
 | exit id => exact ⟨_, a₁, w₁, hq, .of_steps hs (.pass (x := .code y) rfl (fun _ _ => .inl (by simp)) harr)⟩
 | goto l => exact ⟨_, a₁, w₁, hq, .of_steps hs (.pass (x := .code y) rfl (fun _ _ => .inl (by simp)) harr)⟩
 | ret => exact ⟨_, a₁, w₁, hq, .of_steps hs (.pass (x := .code y) rfl (fun _ _ => .inl (by simp)) harr)⟩
 | panic ch => exact ⟨_, a₁, w₁, hq, .of_steps hs (.pass (x := .code y) rfl (fun _ _ => .inl (by simp)) harr)⟩
 | outgrown => exact ⟨_, a₁, w₁, hq, .of_steps hs (.pass (x := .code y) rfl (fun _ _ => .inl (by simp)) harr)⟩
theorem WpAt.seq_k {x y : Code} (h : ∀ K : Act → World → Prop, (∀ a w, WpAt f P y Q a w → K a w) → WpAt f P x (Exit.then K Q) a w) : WpAt f P (.seq x y) Q a w := WpAt.seq (h _ fun _ _ h => h)
theorem WpAt.seq_wp {x y : Code} (h : ∀ K : Act → World → Prop, (∀ a w, WpAt f P y Q a w → K a w) → x.wp P (Exit.then K Q) a w) : WpAt f P (.seq x y) Q a w := WpAt.seq (WpAt.of (h _ fun _ _ h => h))
theorem WpAt.block {id : Nat} {c : Code} (h : WpAt f P c (Exit.inBlock id Q) a w) : WpAt f P (.block id c) Q a w := by
 intro b k cs hro hb
 have hs : Steps P (lone (b.at a (.code (.block id c) :: k)) cs w) (lone (b.at a (.code c :: .inBlock id :: k)) cs w) := by
  rw [← Frame.atR_of_none hro, ← Frame.atR_of_none hro]
  exact .one stepR_block
 obtain ⟨e, a₁, w₁, hq, harr⟩ := h b (.inBlock id :: k) cs hro hb
 cases e with
 | normal =>
  refine ⟨.normal, a₁, w₁, hq, hs.trans (Steps.trans harr ?_)⟩
  rw [← Frame.atR_of_none hro, ← Frame.atR_of_none hro]
  exact .one stepR_inBlock
 | exit id' =>
  by_cases hid : id' = id
  ·simp only [Exit.inBlock, hid, if_true] at hq
   exact ⟨.normal, a₁, w₁, hq, hs.trans (harr k (by simp [exitTo, hid]))⟩
  ·simp only [Exit.inBlock, hid, if_false] at hq
   have this : (id == id') = false := by simp; exact fun h => hid h.symm
   exact ⟨.exit id', a₁, w₁, hq, fun k' hk => hs.trans (harr k' (by simpa [exitTo, this] using hk))⟩
 | goto l => exact ⟨_, a₁, w₁, hq, fun k' hk => hs.trans (harr k' (by simpa [gotoIn] using hk))⟩
 | ret => exact ⟨_, a₁, w₁, hq, .of_steps hs harr⟩
 | panic ch => exact ⟨_, a₁, w₁, hq, .of_steps hs harr⟩
 | outgrown => exact ⟨_, a₁, w₁, hq, .of_steps hs harr⟩
def recOf (f : FuncId) (a : Act) (ps : Array Tmp) (assign body : Code) (D : Nat) (st : LoopState) : Loop := { state := st, pending := none, fn := f, tmps := a.tmps, params := ps, assign, body, defers := D }
def loopW (w : World) (r : Loop) : World := (w.alloc (.deferred (some []))).alloc (.loop r)
def rangeEnd (P : Program) (l : Nat) (Q : Exit → Act → World → Prop) (a' : Act) : Ending → World → Prop
 | .returned _, w₃ => ∃ w₄, (Instr.endLoop l).run P w₃ = .ok none w₄ ∧ Q .normal a' w₄
 | .panicked chain, w₃ => Q (.panic chain) a' w₃
 | .outgrown, _ => False
theorem WpAt.rangeFunc {g : Operand} {ps : Array Tmp} {assign body : Code} {gf : Nat} {lb : Array Value} (hg : a.eval g = .func (.func gf) #[] lb) (eg : ∀ args w, (callFunc gf args).run P w = .ok (.enter gf args) w)
  (hcall : CallsIn Fence.wide 5 P gf (#[.func (.yield (w.heap.size + 1)) #[] #[]] ++ lb) (loopW w (recOf f a ps assign body w.heap.size .ready)) (rangeEnd P (w.heap.size + 1) Q { a with defers := { target := .collected w.heap.size, args := #[] } :: a.defers })) :
  WpAt f P (.rangeFunc g ps assign body) Q a w := by
 intro b k cs hro hb
 have he := run_enterLoop_outer (P := P) (w := w) b.fn a.tmps ps assign body
 rw [← hro] at he
 have hres : (resolve a.eval (rangeCall g (w.heap.size + 1)) 0).run P (loopW w (recOf f a ps assign body w.heap.size .ready)) = .ok { target := .fn (.func gf) lb, args := #[.func (.yield (w.heap.size + 1)) #[] #[]] } (loopW w (recOf f a ps assign body w.heap.size .ready)) := by
  simp only [resolve, hg]
  simp [go_sem]
 have hinv : (invoke (.fn (.func gf) lb) #[.func (.yield (w.heap.size + 1)) #[] #[]]).run P (loopW w (recOf f a ps assign body w.heap.size .ready)) = .ok (.enter gf (#[.func (.yield (w.heap.size + 1)) #[] #[]] ++ lb)) (loopW w (recOf f a ps assign body w.heap.size .ready)) := by
  simp [invoke, go_sem, eg]
 rw [hb] at he
 have henter := stepR_rangeFunc (P := P) (b := b) (a := a) (k := k) (cs := cs) (w := w) (by rw [hb]; exact he) hres hinv
 rw [Frame.atR_of_none hro, Frame.atR_of_none hro] at henter
 obtain ⟨e, w₃, fr, hR, hsteps, hfn, hleave⟩ := hcall.2 (b.at { a with defers := [{ target := .collected w.heap.size, args := #[] }] ++ a.defers } (.inRangeFunc (w.heap.size + 1) :: k) :: cs) (room_wide _)
 cases e with
 | outgrown => exact hR.elim
 | returned v =>
  obtain ⟨w₄, hend, hj⟩ := hR
  have s2 := step_leave_returned (cs := cs) (c := b.at { a with defers := [{ target := .collected w.heap.size, args := #[] }] ++ a.defers } (.inRangeFunc (w.heap.size + 1) :: k)) hleave
  have s3 := stepR_endRangeFunc (P := P) (b := b) (a := { a with defers := [{ target := .collected w.heap.size, args := #[] }] ++ a.defers }) (k := k) (cs := cs) hend
  rw [← finish_atR_inRangeFunc (w.heap.size + 1) v, Frame.atR_of_none hro, Frame.atR_of_none hro] at s3
  exact ⟨.normal, _, w₄, hj, (Steps.one henter).trans ((StepsIn.steps hsteps).trans ((Steps.one s2).trans (.one s3)))⟩
 | panicked chain =>
  refine ⟨.panic chain, _, w₃, hR, .inRangeFunc (w.heap.size + 1) :: k, (Steps.one henter).trans ((StepsIn.steps hsteps).trans (.one ?_))⟩
  have := step_leave_panicked (cs := cs) (c := b.at { a with defers := [{ target := .collected w.heap.size, args := #[] }] ++ a.defers } (.inRangeFunc (w.heap.size + 1) :: k)) hleave
  exact this
theorem calls_of_wpAt {fn : Func} {c : Code} {args : Array Value} {R : Ending → World → Prop} (hf : P.funcs[f]? = some fn) (hb : fn.body = some c)
  (h : WpAt f P c (bodyPostM Fence.wide 5 P fn R) { tmps := args ++ Array.replicate (fn.ntmps - args.size) undef, defers := [] } w) : Calls P f args w R := by
 refine (callsIn_wide (n := 5)).1 ⟨trivial, fun cs hr => ?_⟩
 let b : Frame := { (default : Frame) with fn := f, kind := .normal, roundOf := none }
 have henter : Frame.enter P f args .normal = b.atR { tmps := args ++ Array.replicate (fn.ntmps - args.size) undef, defers := [] } [.code c] := by
  simp [Frame.enter, Frame.atR, hf, hb, b]
 obtain ⟨e, a', w', hq, harr⟩ := h b [] cs rfl rfl
 have harr := (arrivesIn_iff (I := Machine.fenced P Fence.wide) (fun _ _ => stepsIn_wide) (b := b) rfl).2 harr
 rw [← Frame.atR_of_none (b := b) rfl, ← henter] at harr
 cases e with
 | normal =>
  obtain ⟨e', w'', fr', hR, hs, hfn, hl⟩ := leaves_stepsInM a'.defers .returning w' { b.atR a' [] with mode := .returning } cs rfl rfl rfl hf rfl trivial hr hq
  exact ⟨e', w'', fr', hR, ComesIn.of_steps (StepsIn.trans harr (.one (fenced_wide P _) (stepR_end rfl))) hs, hfn, hl⟩
 | ret =>
  obtain ⟨todo, hs₀⟩ := harr.1 rfl
  obtain ⟨e', w'', fr', hR, hs, hfn, hl⟩ := leaves_stepsInM a'.defers .returning w' { b.atR a' todo with mode := .returning } cs rfl rfl rfl hf rfl trivial hr hq
  exact ⟨e', w'', fr', hR, ComesIn.of_steps hs₀ hs, hfn, hl⟩
 | panic chain =>
  obtain ⟨todo, hs₀⟩ := harr
  obtain ⟨e', w'', fr', hR, hs, hfn, hl⟩ := leaves_stepsInM a'.defers (.panicking chain) w' { b.atR a' todo with mode := .panicking chain } cs rfl rfl rfl hf rfl trivial hr hq
  exact ⟨e', w'', fr', hR, ComesIn.of_steps hs₀ hs, hfn, hl⟩
 | exit id => exact hq.elim
 | goto l => exact hq.elim
 | outgrown => exact ⟨.outgrown, w', b, hq, harr.resolve_left (by simp [b]), rfl, trivial⟩
end
end Go.Proofs.YtibpfkcackdbgaaGreatDoor
namespace Go.Proofs.YtibpfkcackdbgaaGreatDoor
open Go.ChangeShapes Go.WideShapes Go.ChangeAt Go.RowKit Go.Shelf
set_option linter.unusedVariables false
set_option maxRecDepth 100000
attribute [local go_sem] Oper.semAt_some
theorem chain_any (df : FuncId) (d1 d2 : Array Value) (t h : Nat) (w : World) : Calls Tryz.prog 203 #[.func (.func df) d1 d2, .int .i64 (t : Int), .int .u64 (h : Int)] w fun e w' =>
  e = .returned (.func (.func 209) #[] #[.pointer (some ⟨w.heap.size + 1 + 1, 0, none⟩), .pointer (some ⟨w.heap.size, 0, none⟩), .pointer (some ⟨w.heap.size + 1, 0, none⟩)]) ∧
  w' = ((w.alloc (.cells #[.func (.func df) d1 d2] 52)).alloc (.cells #[.int .i64 (t : Int)] 3)).alloc (.cells #[.int .u64 (h : Int)] 27) := by
 go_enter Tryz.func203, Tryz.ntmps203
 go_wp2_with fail
 go_ret
 exact ⟨rfl, rfl⟩
section
variable {dv : Value} {S : Type} (V : Srv dv S)
def ChainEnd (R : Ran S) (K Kx : World → Prop) (e : Ending) (w' : World) : Prop :=
 ((∃ v, e = .returned v) ∧ ∃ s', (Prg.ret 1).run V.tell s' = R ∧ V.I s' w' ∧ K w') ∨ ∃ k i a b, R = .left k i a b ∧ Quits V.pv (fun w => V.L k i a b w ∧ Kx w) e w'
set_option maxRecDepth 100000 in
set_option maxHeartbeats 4000000 in
theorem chain1_in (t : Nat) (ht : t ≤ 64) (m n : Nat) (R : Ran S) (hb : R ≠ .bad) (K Kx : World → Prop) (hK : ∀ w w', K w → But V.g w w' → K w') (hg : ∀ s w, V.I s w → V.g ≤ w.heap.size) (hKx : ∀ w, K w → Kx w) (l b1 b2 b3 h : Nat) (hh : h < 18446744073709551616)
  (hc1 : ∀ w, K w → w.cell? ⟨b1, 0, none⟩ = some (.int .u64 (h : Int))) (hc2 : ∀ w, K w → w.cell? ⟨b2, 0, none⟩ = some dv) (hc3 : ∀ w, K w → w.cell? ⟨b3, 0, none⟩ = some (.int .i64 (t : Int)))
  (hY : ∀ s W (r : Nat) (q : Nat → Prg), V.I s W → K W → 1 ≤ r → r < 1048576 → ((Prg.push t r m).bind q).run V.tell s = R → YieldAt Fence.wide 4 Tryz.prog l #[.int .i64 (r : Int)] W fun e W' =>
   (e = .returned (.bool true) ∧ ∃ d s', (q d).run V.tell s' = R ∧ V.I s' W' ∧ K W') ∨ ∃ k i a b, R = .left k i a b ∧ Quits V.pv (fun w => V.L k i a b w ∧ Kx w) e W')
  (s : S) (hR : (Prg.chain t m n (firstN h)).run V.tell s = R) (W : World) (hI : V.I s W) (hKW : K W) :
  CallsIn Fence.wide 5 Tryz.prog 209 #[.func (.yield l) #[] #[], .pointer (some ⟨b1, 0, none⟩), .pointer (some ⟨b2, 0, none⟩), .pointer (some ⟨b3, 0, none⟩)] W (ChainEnd V R K Kx) := by
 obtain ⟨VK, hVK⟩ : ∃ VK : Srv dv S, VK = V.kept K hK hg := ⟨_, rfl⟩
 obtain ⟨J, hJ⟩ : ∃ J : Nat → Value → World → Prop, J = fun m' rv wr => ∃ (r : Nat) (s : S), rv = .int .i64 (r : Int) ∧ r < 1048576 ∧ (V.I s wr ∧ K wr) ∧ (Prg.chain t m m' r).run V.tell s = R := ⟨_, rfl⟩
 have HJ : ∀ m' rv wr, J m' rv wr ↔ ∃ (r : Nat) (s : S), rv = .int .i64 (r : Int) ∧ r < 1048576 ∧ (V.I s wr ∧ K wr) ∧ (Prg.chain t m m' r).run V.tell s = R := fun m' rv wr => by rw [hJ]
 have HJ0 := Lib.hid (show ∃ m', J m' (.int .i64 ((firstN h : Nat) : Int)) W from ⟨n, (HJ _ _ _).2 ⟨firstN h, s, rfl, first_lt h, ⟨hI, hKW⟩, hR⟩⟩)
 have HJH := Lib.hid HJ
 have HB := Lib.hid hb
 have HF := fun w => first_any h hh w
 have HT := Lib.hid ht
 have HC1 := Lib.hid hc1
 have HC2 := Lib.hid hc2
 have HC3 := Lib.hid hc3
 have HYY := Lib.hid hY
 have HKX := Lib.hid hKx
 have HVK := Lib.hid hVK
 have c1 := hc1 W hKW
 clear hb hR hI hJ HJ ht hc1 hc2 hc3 hY hKx hVK hKW
 refine callsIn_of_wp Tryz.func209 rfl trivial ?_ rfl
 simp only [Tryz.ntmps209, List.size_toArray, List.length_cons, List.length_nil, Nat.reduceAdd, Nat.reduceSub, Array.replicate_succ, Array.replicate_zero, List.push_toArray, List.append_toArray, List.nil_append, List.cons_append]
 gi_wp2_with fail
 refine ⟨trivial, ((callsIn_wide (n := 4)).2 (HF _)).mono ?_⟩
 rintro e w2 ⟨rfl, rfl⟩
 clear HF c1
 generalize firstN h = r0 at *
 gi_wp2_with fail
 gi_loopw [5, 6] (fun r _ wr => ∃ m', J m' r wr) (fun r _ wr => cnt (fun m' wr => J m' r wr) wr)
 case atStart => exact HJ0.out
 case round =>
  clear HJ0
  have hj := cnt_spec (J := fun m wr => J m u5 wr) hrel
  clear hrel
  generalize hm : cnt (fun m wr => J m u5 wr) wr = m' at *
  have HM := Lib.hid hm
  clear hm
  obtain ⟨r, s3, rfl, hrl, hi, hr⟩ := (HJH.out _ _ _).1 hj
  clear hj
  cases m' with
  | zero => exact absurd hr.symm HB.out
  | succ m' =>
  by_cases h0 : r = 0
  ·subst h0
   have hr1 : (Prg.ret 1).run V.tell s3 = R := hr
   have HE : Hid (ChainEnd V R K Kx (.returned (.tuple #[])) wr) := Lib.hid (.inl ⟨⟨_, rfl⟩, s3, hr1, hi.1, hi.2⟩)
   clear hr hr1 hi HC1 HC2 HC3 HYY
   gi_wp2_with fail
   refine bodyPost_ret (results_none rfl _ _ _) rfl ?_
   exact HE.out
  ·have e0 : ((r : Int) != 0) = true := by simp [bne, ne0 h0]
   have hr1 : (Prg.ask 0 ((fieldN t r 7 : Nat) : Int) 0 0 fun x => (Prg.push t r m).bind fun _ => Prg.chain t m m' (firstN x)).run VK.tell s3 = R := by
    rw [HVK.out]
    have : (Prg.chain t m (m' + 1) r).run V.tell s3 = R := hr
    unfold Prg.chain at this
    rw [if_neg h0] at this
    exact this
   have hfl := i64_nat (n := fieldN t r 7) (by have := fieldN_lt HT.out hrl (f := 7) (by omega); omega)
   have hik : VK.I s3 wr.drew := by
    rw [HVK.out]
    exact ⟨V.later hi.1 (Below.refl _ _).drew, hK _ _ hi.2 ((But.refl _ _).drew)⟩
   have hkd := hK _ _ hi.2 ((But.refl V.g wr).drew)
   have HL := fun w => loadP VK HB.out hfl hr1 w
   have HK := fun w => eLink_any t r HT.out (by omega) hrl w
   have c2 := HC2.out _ hkd
   have c3 := HC3.out _ hkd
   have HIK := Lib.hid hik
   have H0 := Lib.hid (And.intro h0 hrl)
   clear hr hr1 hfl hik hkd hi h0 hrl HC1 HC2 HC3
   generalize fieldN t r 7 = fl at *
   gi_wp2_with fail
   have hmx : Tryz.prog.follows .mixedOrders = true := by kernel_rfl
   gi_region_with_o (first | (refine ⟨trivial, ?_⟩; gi_at_call 181; refine ((callsIn_wide (n := 4)).2 (HK _)).mono ?_; rintro e w' ⟨rfl, rfl⟩) | (refine ⟨trivial, ?_⟩; gi_at_call 86; refine ((callsIn_wide (n := 4)).2 (HL _ HIK.out)).mono ?_; rintro e w4 (⟨x, s4, rfl, hn, hi, hbt, hr⟩ | ⟨k, j, a, b, hr, rfl, hl⟩); rotate_left; · (have q := HVK.out; subst q; exact ⟨rfl, .inr ⟨k, j, a, b, hr, rfl, hl.1, HKX.out _ hl.2⟩⟩)))
   all_goals
    have hr2 : ((Prg.push t r m).bind fun _ => Prg.chain t m m' (firstN x)).run V.tell s4 = R := by rw [HVK.out] at hr; exact hr
    have hi2 : V.I s4 w4 ∧ K w4 := by rw [HVK.out] at hi; exact hi
    obtain ⟨fn, tmps, assign, body, hy, hR⟩ := HYY.out s4 w4 r _ hi2.1 hi2.2 (by have := H0.out.1; omega) H0.out.2 hr2
    have HN := Lib.hid hn
    clear hr hi hbt hr2 hi2 HL HK HIK c2 c3 hn
    gi_wp2_with fail
    refine hR.mono ?_
    rintro e W5 (⟨rfl, d, s5, hr, hi, hk⟩ | ⟨k, j, a, b, hr, rfl, hl⟩)
    case inr => exact ⟨rfl, .inr ⟨k, j, a, b, hr, rfl, hl⟩⟩
    have HJ5 := Lib.hid (show J m' (.int .i64 ((firstN x : Nat) : Int)) W5 from (HJH.out _ _ _).2 ⟨firstN x, s5, rfl, first_lt x, ⟨hi, hk⟩, hr⟩)
    have HF := fun w => first_any x HN.out w
    clear hr hi hk hy hR
    generalize firstN x = r2 at *
    gi_wp2_with (first | (refine ⟨trivial, ?_⟩; gi_at_call 198; refine ((callsIn_wide (n := 4)).2 (HF _)).mono ?_; rintro e w' ⟨rfl, rfl⟩))
    go_roundw
    case rel => exact ⟨m', HJ5.out⟩
    case measure => exact Nat.lt_of_lt_of_eq (cnt_lt (J := fun m wr => J m (.int .i64 (r2 : Int)) wr) HJ5.out (Nat.lt_succ_self m')) HM.out.symm
end
end Go.Proofs.YtibpfkcackdbgaaGreatDoor
namespace Go.Proofs.YtibpfkcackdbgaaGreatDoor
open Go.ChangeShapes Go.WideShapes Go.ChangeAt Go.RowKit Go.Shelf
set_option linter.unusedVariables false
set_option maxRecDepth 100000
attribute [local go_sem] Oper.semAt_some
section
variable {dv : Value} {S : Type} (V : Srv dv S)
structure AdvK (wA : World) (b1 b2 b3 c2 c3 L D h t : Nat) (rc : Loop) (W : World) : Prop where
 but : But V.g wA W
 v1 : VarAt W b1 [.int .u64 (h : Int)]
 v2 : VarAt W b2 [dv]
 v3 : VarAt W b3 [.int .i64 (t : Int)]
 u2 : VarAt W c2 [dv]
 u3 : VarAt W c3 [.int .i64 (t : Int)]
 rcd : W.heap[L]? = some (.loop rc)
 dfr : W.heap[D]? = some (.deferred (some []))
theorem AdvK.go {wA : World} {b1 b2 b3 c2 c3 L D h t : Nat} {rc : Loop} (hn : b1 ≠ V.g ∧ b2 ≠ V.g ∧ b3 ≠ V.g ∧ c2 ≠ V.g ∧ c3 ≠ V.g ∧ L ≠ V.g ∧ D ≠ V.g) {W W' : World} (hK : AdvK V wA b1 b2 b3 c2 c3 L D h t rc W) (hb : But V.g W W') : AdvK V wA b1 b2 b3 c2 c3 L D h t rc W' where
 but := hK.but.trans hb
 v1 := hK.v1.but hb hn.1
 v2 := hK.v2.but hb hn.2.1
 v3 := hK.v3.but hb hn.2.2.1
 u2 := hK.u2.but hb hn.2.2.2.1
 u3 := hK.u3.but hb hn.2.2.2.2.1
 rcd := (hb.block _ (Array.getElem?_eq_some_iff.1 hK.rcd).1 hn.2.2.2.2.2.1).trans hK.rcd
 dfr := (hb.block _ (Array.getElem?_eq_some_iff.1 hK.dfr).1 hn.2.2.2.2.2.2).trans hK.dfr
theorem VarAt.put {W : World} {b l : Nat} {vs : List Value} (h : VarAt W b vs) (o : Obj) (hn : b ≠ l) : VarAt (W.putObj l o) b vs := by
 have hh : (W.putObj l o).heap[b]? = W.heap[b]? := World.putObj_heap_other hn
 refine ⟨by simpa using h.1, fun j v hj => ?_, fun j hj => ?_⟩
 ·rw [← h.2.1 j v hj]
  unfold World.cell?
  simp only [hh]
 ·rw [← h.2.2 j hj]
  unfold World.frozen?
  simp only [hh]
theorem But.put {g : Nat} {w W : World} (h : But g w W) {l : Nat} (o : Obj) (hl : w.heap.size ≤ l) (hg : g < w.heap.size) : But g w (W.putObj l o) := by
 have hb : ∀ k, k < w.heap.size → (W.putObj l o).heap[k]? = W.heap[k]? := fun k hk => World.putObj_heap_other (by omega)
 exact ⟨h.below.grown (grownBy_putObj' W l o) (Nat.le_trans (Nat.le_of_lt hg) (h.size)) (fun k e => by cases e; omega), fun b hlt hne => (hb b hlt).trans (h.block b hlt hne)⟩
theorem AdvK.put {wA : World} {b1 b2 b3 c2 c3 L D h t : Nat} {rc : Loop} (hn : b1 ≠ L ∧ b2 ≠ L ∧ b3 ≠ L ∧ c2 ≠ L ∧ c3 ≠ L ∧ D ≠ L) (hL : wA.heap.size ≤ L) (hg : V.g < wA.heap.size) (rc' : Loop) {W : World} (hK : AdvK V wA b1 b2 b3 c2 c3 L D h t rc W) : AdvK V wA b1 b2 b3 c2 c3 L D h t rc' (W.putObj L (.loop rc')) where
 but := hK.but.put _ hL hg
 v1 := hK.v1.put _ hn.1
 v2 := hK.v2.put _ hn.2.1
 v3 := hK.v3.put _ hn.2.2.1
 u2 := hK.u2.put _ hn.2.2.2.1
 u3 := hK.u3.put _ hn.2.2.2.2.1
 rcd := World.putObj_heap_same (Array.getElem?_eq_some_iff.1 hK.rcd).1
 dfr := (World.putObj_heap_other hn.2.2.2.2.2).trans hK.dfr
theorem AdvK.busy {wA : World} {b1 b2 b3 c2 c3 L D h t : Nat} {rc : Loop} (hn : b1 ≠ L ∧ b2 ≠ L ∧ b3 ≠ L ∧ c2 ≠ L ∧ c3 ≠ L ∧ D ≠ L) (hL : wA.heap.size ≤ L) (hg : V.g < wA.heap.size) {W : World} (hK : AdvK V wA b1 b2 b3 c2 c3 L D h t rc W) : AdvK V wA b1 b2 b3 c2 c3 L D h t { rc with state := .busy } (W.putObj L (.loop { rc with state := .busy })) :=
 hK.put V hn hL hg _
theorem AdvK.busyI {wA : World} {b1 b2 b3 c2 c3 L D h t lo : Nat} {rc : Loop} {s : S} {W : World} (hK : AdvK V wA b1 b2 b3 c2 c3 L D h t rc W) (hA : V.Aside lo) (hi : V.I s W) (hl : lo ≤ L) : V.I s (W.putObj L (.loop { rc with state := .busy })) :=
 hA.I hi hl hK.rcd rfl rfl
end
section
variable {S : Type} {df : FuncId} {d1 d2 : Array Value} (V : Srv (.func (.func df) d1 d2) S)
theorem loop_ready {P : Program} {n : Nat} {f : FuncId} {args : Array Value} {w : World} {r : Loop} {R : Ending → World → Prop} (h : ∀ rc, rc = r → CallsIn Fence.wide n P f args (loopW w rc) R) : CallsIn Fence.wide n P f args (loopW w r) R := h _ rfl
def panicOnly (R : Ending → World → Prop) : Exit → Act → World → Prop
 | .panic chain, a, w => a.defers = [] ∧ R (.panicked chain) w
 | _, _, _ => False
theorem panicOnly.to {P : Program} {fn : Func} {R : Ending → World → Prop} {K : Act → World → Prop} (e : Exit) (a : Act) (w : World) (h : Exit.then K (panicOnly R) e a w) : Exit.then K (bodyPostM Fence.wide 5 P fn R) e a w := by
 cases e with
 | normal => exact h
 | panic chain =>
  obtain ⟨hd, hr⟩ := h
  show LeavesInM _ _ _ _ _ _ a.defers _ _
  rw [hd]
  exact hr
 | exit id => exact h.elim
 | goto l => exact h.elim
 | ret => exact h.elim
 | outgrown => exact h.elim
set_option maxRecDepth 100000 in
set_option maxHeartbeats 8000000 in
theorem advance_prg (lo : Nat) (hA : V.Aside lo) (t : Nat) (ht : t ≤ 64) (m n : Nat) (s : S) (hb : (Prg.advance t m n).run V.tell s ≠ .bad) (w : World) (hI : V.I s w) :
  Calls Tryz.prog 183 #[.func (.func df) d1 d2, .int .i64 (t : Int)] w (RunEnd V w (fun d => .bool ((d : Int) == 1)) ((Prg.advance t m n).run V.tell s)) := by
 have hR : (Prg.ask 0 3 0 0 fun e => Prg.pins e (Prg.cas 3 e (upN e 1) fun d => if d = 1 then Prg.swap (limboN (upN e 2)) 0 fun h => Prg.chain t m n (firstN h) else .ret 0) 0 t).run V.tell s = (Prg.advance t m n).run V.tell s := rfl
 generalize (Prg.advance t m n).run V.tell s = R at *
 have HB := Lib.hid hb
 have HT := Lib.hid ht
 have HAS := Lib.hid hA
 have hgw := hA.g hI
 have hlo := hA.lo hI
 have HG := Lib.hid (And.intro hgw hlo)
 refine calls_of_wpAt Tryz.func183 rfl ?_
 simp only [Tryz.ntmps183, List.size_toArray, List.length_cons, List.length_nil, Nat.reduceAdd, Nat.reduceSub, Array.replicate_succ, Array.replicate_zero, List.push_toArray, List.append_toArray, List.nil_append, List.cons_append]
 refine WpAt.seq_wp fun K hK => ?_
 go_wp2_with fail
 have hbt : Below w.heap.size w ((w.alloc (.cells #[.func (.func df) d1 d2] 52)).alloc (.cells #[.int .i64 (t : Int)] 3)) := ((Below.refl _ w).alloc (Nat.le_refl _) _).alloc (by simp) _
 have HBT := Lib.hid (But.of hbt (Nat.le_of_lt hgw))
 have hu2 : VarAt ((w.alloc (.cells #[.func (.func df) d1 d2] 52)).alloc (.cells #[.int .i64 (t : Int)] 3)) w.heap.size [.func (.func df) d1 d2] := (VarAt.made w #[.func (.func df) d1 d2] _).below (al_below _ _)
 have hu3 : VarAt ((w.alloc (.cells #[.func (.func df) d1 d2] 52)).alloc (.cells #[.int .i64 (t : Int)] 3)) (w.heap.size + 1) [.int .i64 (t : Int)] := by
  have := VarAt.made (w.alloc (.cells #[.func (.func df) d1 d2] 52)) #[.int .i64 (t : Int)] 3
  rwa [World.size_alloc] at this
 have HI1 := Lib.hid (V.later hI hbt)
 generalize (w.alloc (.cells #[.func (.func df) d1 d2] 52)).alloc (.cells #[.int .i64 (t : Int)] 3) = w1 at *
 obtain ⟨c2, hc2⟩ : ∃ x, w.heap.size = x := ⟨_, rfl⟩
 obtain ⟨c3, hc3⟩ : ∃ x, w.heap.size + 1 = x := ⟨_, rfl⟩
 rw [hc2] at hu2 ⊢
 rw [hc2] at hc3 hu3
 rw [hc3] at hu3 ⊢
 have HC := Lib.hid (And.intro hc2 hc3)
 have hd2 : c2 ≠ V.g := by omega
 have hd3 : c3 ≠ V.g := by omega
 have HD := Lib.hid (And.intro hd2 hd3)
 have HU2 := Lib.hid hu2
 have HU3 := Lib.hid hu3
 have e2 := hu2.2.1 0 _ rfl
 have e3 := hu3.2.1 0 _ rfl
 have HL := loadP V HB.out (by decide) hR w1
 clear hb ht hA hR hgw hlo hI hbt hc2 hc3 hd2 hd3 hu2 hu3
 -- the epoch
 refine WpAt.seq_wp fun K hK => ?_
 go_wp2_with fail
 (with_reducible refine (HL HI1.out).mono ?_)
 clear HL HI1
 rintro e w2 (⟨ep, s2, rfl, hn, hi, hbt, hr⟩ | ⟨k, j, a, b, hr, rfl, hl⟩)
 case inr =>
  show LeavesInM _ _ _ _ _ _ _ _ _
  exact RunEnd.quit V ⟨k, j, a, b, hr, rfl, hl⟩
 dsimp only at hr
 rw [pins_bind] at hr
 have HO := partP V HB.out hr w2 fun h => over_prg V t HT.out ep hn s2 h w2 hi
 have HB2 := Lib.hid (HBT.out.trans hbt)
 have HU22 := Lib.hid (HU2.out.but hbt HD.out.1)
 have HU32 := Lib.hid (HU3.out.but hbt HD.out.2)
 have e2 := HU22.out.2.1 0 _ rfl
 have e3 := HU32.out.2.1 0 _ rfl
 have HN := Lib.hid hn
 clear hn hi hbt hr HBT HU2 HU3
 go_wp2_with fail
 -- the pins, and the cas
 refine WpAt.seq_wp fun K hK => ?_
 go_wp2_with fail
 (with_reducible refine HO.mono ?_)
 clear HO
 rintro e w3 (⟨d, s3, rfl, hi, hbt, hr⟩ | ⟨k, j, a, b, hr, rfl, hl⟩)
 case inr =>
  show LeavesInM _ _ _ _ _ _ _ _ _
  exact RunEnd.quit V ⟨k, j, a, b, hr, rfl, hl⟩
 dsimp only at hr
 have HB3 := Lib.hid (HB2.out.trans hbt)
 have HU23 := Lib.hid (HU22.out.but hbt HD.out.1)
 have HU33 := Lib.hid (HU32.out.but hbt HD.out.2)
 have e2 := HU23.out.2.1 0 _ rfl
 have e3 := HU33.out.2.1 0 _ rfl
 by_cases hd : d = 1
 case neg =>
  rw [if_neg hd] at hr
  have dd := ne1 hd
  have HE : Hid (RunEnd V w (fun d => .bool ((d : Int) == 1)) R (.returned (.bool false)) w3) := Lib.hid (RunEnd.fin V (ret := fun d => .bool ((d : Int) == 1)) (w := w) (d := 0) hr hi HB3.out)
  clear hd hr hi hbt HB2 HU22 HU32
  go_wp2_with fail
  exact ⟨_, results_tmp (t := 4) rfl _ _ _, HE.out⟩
 rw [if_pos hd] at hr
 have dd := eq1 hd
 have hwr : IntKind.u64.wrap ((ep : Int) + 1) = ((upN ep 1 : Nat) : Int) := by rw [IntKind.wrap_u64]; unfold upN; omega
 have HCA := casP V HB.out (i := 3) (by decide) HN.out (upN_lt' ep 1) hr w3 hi
 clear hd hr hi hbt HB2 HU22 HU32
 generalize upN ep 1 = u1 at *
 go_wp2_with fail
 (with_reducible refine HCA.mono ?_)
 clear HCA hwr
 rintro e w4 (⟨q, s4, rfl, hq, hi, hbt, hr⟩ | ⟨k, j, a, b, hr, rfl, hl⟩)
 case inr =>
  show LeavesInM _ _ _ _ _ _ _ _ _
  exact RunEnd.quit V ⟨k, j, a, b, hr, rfl, hl⟩
 dsimp only at hr
 have HB4 := Lib.hid (HB3.out.trans hbt)
 have HU24 := Lib.hid (HU23.out.but hbt HD.out.1)
 have HU34 := Lib.hid (HU33.out.but hbt HD.out.2)
 have e2 := HU24.out.2.1 0 _ rfl
 have e3 := HU34.out.2.1 0 _ rfl
 by_cases hq1 : q = 1
 case neg =>
  rw [if_neg hq1] at hr
  have dd := ne1 hq1
  have HE : Hid (RunEnd V w (fun d => .bool ((d : Int) == 1)) R (.returned (.bool false)) w4) := Lib.hid (RunEnd.fin V (ret := fun d => .bool ((d : Int) == 1)) (w := w) (d := 0) hr hi HB4.out)
  clear hq1 hr hi hbt HB3 HU23 HU33
  go_wp2_with fail
  exact ⟨_, results_tmp (t := 4) rfl _ _ _, HE.out⟩
 rw [if_pos hq1] at hr
 have dd := eq1 hq1
 have HI4 := Lib.hid hi
 have HR4 := Lib.hid hr
 clear hq1 hr hi hbt HB3 HU23 HU33 hq
 go_wp2_with fail
 -- the limbo is taken
 have hmx : Tryz.prog.follows .mixedOrders = true := by kernel_rfl
 have hwr : IntKind.u64.wrap ((ep : Int) + 2) = ((upN ep 2 : Nat) : Int) := by rw [IntKind.wrap_u64]; unfold upN; omega
 have HLI := eLimbo_any (upN ep 2)
 have hr := HR4.out
 have hli := limboN_lt (upN ep 2)
 have hi4 := V.later HI4.out (Below.refl _ w4).drew
 have HSW := fun w => swapP V HB.out (i := ((limboN (upN ep 2) : Nat) : Int)) (by omega) (a := 0) (by decide) hr w
 have HI4d := Lib.hid hi4
 have HB4d := Lib.hid (HB4.out.trans ((But.refl V.g w4).drew))
 have HU24d := Lib.hid (HU24.out.but ((But.refl V.g w4).drew) HD.out.1)
 have HU34d := Lib.hid (HU34.out.but ((But.refl V.g w4).drew) HD.out.2)
 have e2 := HU24d.out.2.1 0 _ rfl
 have e3 := HU34d.out.2.1 0 _ rfl
 clear hr hli hi4 HR4 HI4 HB4 HU24 HU34
 generalize limboN (upN ep 2) = li at *
 generalize upN ep 2 = u2 at *
 refine WpAt.seq_wp fun K hK => ?_
 have HSW0 : ∀ w, V.I s4 w → Calls Tryz.prog 202 #[.func (.func df) d1 d2, .int .i64 ((li : Nat) : Int), .int .u64 0] w (Going V R w (fun n => .int .u64 (n : Int)) fun h => Prg.chain t m n (firstN h)) := HSW
 refine (wpIn_wide (n := 5)).1 (wpIn_mono (Q := Exit.then K (panicOnly (RunEnd V w (fun d => .bool ((d : Int) == 1)) R))) ?_ panicOnly.to)
 gi_wp2_with fail
 gi_region_with_o (first | (refine ⟨trivial, ?_⟩; gi_at_call 180; refine ((callsIn_wide (n := 4)).2 (HLI _)).mono ?_; rintro e w' ⟨rfl, rfl⟩) | (refine ⟨trivial, ?_⟩; gi_at_call 202; refine ((callsIn_wide (n := 4)).2 (HSW0 _ HI4d.out)).mono ?_; rintro e w5 (⟨h, s5, rfl, hn, hi, hbt, hr⟩ | ⟨k, j, a, b, hr, rfl, hl⟩); rotate_left; · exact ⟨rfl, RunEnd.quit V ⟨k, j, a, b, hr, rfl, hl⟩⟩))
 all_goals
  have hr' : (Prg.chain t m n (firstN h)).run V.tell s5 = R := hr
  have HB5 := Lib.hid (HB4d.out.trans hbt)
  have HU25 := Lib.hid (HU24d.out.but hbt HD.out.1)
  have HU35 := Lib.hid (HU34d.out.but hbt HD.out.2)
  have e2 := HU25.out.2.1 0 _ rfl
  have e3 := HU35.out.2.1 0 _ rfl
  have HI5 := Lib.hid hi
  have HR5 := Lib.hid hr'
  have HN5 := Lib.hid hn
  clear hr hr' hi hn hbt HB4d HU24d HU34d HSW HSW0 HLI hwr HI4d
  gi_wp2_with fail
  -- the chain
  refine WpAt.seq_k fun K hK => ?_
  refine WpAt.seq_wp fun K2 hK2 => ?_
  go_wp2_with fail
  (with_reducible refine (chain_any df d1 d2 t h _).mono ?_)
  rintro e w6 ⟨rfl, rfl⟩
  have hbt : Below w5.heap.size w5 (((w5.alloc (.cells #[.func (.func df) d1 d2] 52)).alloc (.cells #[.int .i64 (t : Int)] 3)).alloc (.cells #[.int .u64 (h : Int)] 27)) := (((Below.refl _ w5).alloc (Nat.le_refl _) _).alloc (by simp) _).alloc (by simp; omega) _
  have hv2 : VarAt (((w5.alloc (.cells #[.func (.func df) d1 d2] 52)).alloc (.cells #[.int .i64 (t : Int)] 3)).alloc (.cells #[.int .u64 (h : Int)] 27)) w5.heap.size [.func (.func df) d1 d2] := ((VarAt.made w5 #[.func (.func df) d1 d2] _).below (al_below _ _)).below (al_below _ _)
  have hv3 : VarAt (((w5.alloc (.cells #[.func (.func df) d1 d2] 52)).alloc (.cells #[.int .i64 (t : Int)] 3)).alloc (.cells #[.int .u64 (h : Int)] 27)) (w5.heap.size + 1) [.int .i64 (t : Int)] := by
   have := VarAt.made (w5.alloc (.cells #[.func (.func df) d1 d2] 52)) #[.int .i64 (t : Int)] 3
   rw [World.size_alloc] at this
   exact this.below (al_below _ _)
  have hv1 : VarAt (((w5.alloc (.cells #[.func (.func df) d1 d2] 52)).alloc (.cells #[.int .i64 (t : Int)] 3)).alloc (.cells #[.int .u64 (h : Int)] 27)) (w5.heap.size + 1 + 1) [.int .u64 (h : Int)] := by
   have := VarAt.made ((w5.alloc (.cells #[.func (.func df) d1 d2] 52)).alloc (.cells #[.int .i64 (t : Int)] 3)) #[.int .u64 (h : Int)] 27
   rwa [World.size_alloc, World.size_alloc] at this
  have hsz : (((w5.alloc (.cells #[.func (.func df) d1 d2] 52)).alloc (.cells #[.int .i64 (t : Int)] 3)).alloc (.cells #[.int .u64 (h : Int)] 27)).heap.size = w5.heap.size + 3 := by simp
  have hgw5 : V.g < w5.heap.size := Nat.lt_of_lt_of_le HG.out.1 HB5.out.size
  have HB6 := Lib.hid (HB5.out.trans (But.of hbt (Nat.le_of_lt hgw5)))
  have HU26 := Lib.hid (HU25.out.below hbt)
  have HU36 := Lib.hid (HU35.out.below hbt)
  have HI6 := Lib.hid (V.later HI5.out hbt)
  generalize ((w5.alloc (.cells #[.func (.func df) d1 d2] 52)).alloc (.cells #[.int .i64 (t : Int)] 3)).alloc (.cells #[.int .u64 (h : Int)] 27) = w6 at *
  have hz5 := HB5.out.size
  obtain ⟨z5, hz⟩ : ∃ z, w5.heap.size = z := ⟨_, rfl⟩
  rw [hz] at hv1 hv2 hv3 hsz hgw5 hz5 ⊢
  have HZ := Lib.hid (And.intro hsz (And.intro hgw5 hz5))
  have HV := Lib.hid (And.intro hv1 (And.intro hv2 hv3))
  clear hbt hv1 hv2 hv3 hsz hgw5 hz5 hz HB5 HU25 HU35 HI5 e2 e3
  go_wp2_with fail
  refine WpAt.block ?_
  refine WpAt.rangeFunc (gf := 209) (lb := #[.pointer (some ⟨z5 + 1 + 1, 0, none⟩), .pointer (some ⟨z5, 0, none⟩), .pointer (some ⟨z5 + 1, 0, none⟩)]) rfl (enters_of Tryz.func209 (by kernel_rfl) rfl) ?_
  refine loop_ready fun rc hrc => ?_
  obtain ⟨D, hD⟩ : ∃ D, w6.heap.size = D := ⟨_, rfl⟩
  have hsD : D = z5 + 3 := by rw [← hD]; exact HZ.out.1
  have hcc := HC.out
  have hgg := HG.out
  have hz := HZ.out.2
  have hng : z5 + 1 + 1 ≠ V.g ∧ z5 ≠ V.g ∧ z5 + 1 ≠ V.g ∧ c2 ≠ V.g ∧ c3 ≠ V.g ∧ D + 1 ≠ V.g ∧ D ≠ V.g := by omega
  have hnl : z5 + 1 + 1 ≠ D + 1 ∧ z5 ≠ D + 1 ∧ z5 + 1 ≠ D + 1 ∧ c2 ≠ D + 1 ∧ c3 ≠ D + 1 ∧ D ≠ D + 1 := by omega
  have hbl : Below w6.heap.size w6 (loopW w6 rc) := ((Below.refl _ w6).alloc (Nat.le_refl _) _).alloc (by simp) _
  have hr0 : (loopW w6 rc).heap[D + 1]? = some (.loop rc) := by
   have := World.alloc_heap_new (w6.alloc (.deferred (some []))) (.loop rc)
   rwa [World.size_alloc, hD] at this
  have hd0 : (loopW w6 rc).heap[D]? = some (.deferred (some [])) := by
   have := (Below.heap_alloc (w6.alloc (.deferred (some []))) (.loop rc) w6.heap.size (by simp)).trans (World.alloc_heap_new w6 _)
   rwa [hD] at this
  have hk0 : AdvK V w (z5 + 1 + 1) z5 (z5 + 1) c2 c3 (D + 1) D h t rc (loopW w6 rc) :=
   ⟨HB6.out.trans (But.of hbl (by omega)), HV.out.1.below hbl, HV.out.2.1.below hbl, HV.out.2.2.below hbl, HU26.out.below hbl, HU36.out.below hbl, hr0, hd0⟩
  have hi0 := V.later HI6.out hbl
  have hLw : w.heap.size ≤ D + 1 := by omega
  have hDw : w.heap.size ≤ D := by omega
  have hloD : lo ≤ D := by omega
  have HNG := Lib.hid hng
  have HNL := Lib.hid hnl
  have HLW := Lib.hid (And.intro hLw (And.intro hDw hloD))
  rw [hD] at hrc ⊢
  clear hD hsD hcc hz hbl hr0 hd0 hng hnl hLw hDw hloD HU26 HU36 HB6 HI6 HV HZ HC HD
  refine (chain1_in V t HT.out m n R HB.out (AdvK V w (z5 + 1 + 1) z5 (z5 + 1) c2 c3 (D + 1) D h t rc) (fun W => W.heap[D]? = some (.deferred (some []))) (fun _ _ hk hb => AdvK.go V HNG.out hk hb) (fun _ _ hi => Nat.le_of_lt (HAS.out.g hi)) (fun _ hk => hk.dfr) (D + 1) (z5 + 1 + 1) z5 (z5 + 1) h HN5.out (fun _ hk => hk.v1.2.1 0 _ rfl) (fun _ hk => hk.v2.2.1 0 _ rfl) (fun _ hk => hk.v3.2.1 0 _ rfl) ?_ s5 HR5.out _ hi0 hk0).mono ?_
  ·-- a round
   intro sr W r q hi hk h1 hr hrun
   have HI := Lib.hid hi
   have HK := Lib.hid hk
   clear hi hk hi0 hk0
   subst hrc
   refine ⟨183, _, _, _, run_yield HK.out.rcd rfl, roundIn_panics Tryz.func183 ?_⟩
   dsimp only [recOf]
   gi_wp2
   refine ⟨_, run_beginRound HK.out.rcd rfl, ?_⟩
   have hkb := HK.out.busy V HNL.out HLW.out.1 HG.out.1
   have hib := HK.out.busyI V HAS.out HI.out (Nat.le_succ_of_le HLW.out.2.2)
   have HP := partP (V.kept _ (fun _ _ hk hb => AdvK.go V HNG.out hk hb) (fun _ _ hi => Nat.le_of_lt (HAS.out.g hi))) HB.out hrun _ fun hh => push_prg (V.kept _ (fun _ _ hk hb => AdvK.go V HNG.out hk hb) (fun _ _ hi => Nat.le_of_lt (HAS.out.g hi))) t HT.out r h1 hr m sr hh _ ⟨hib, hkb⟩
   have e2 := hkb.u2.2.1 0 _ rfl
   have e3 := hkb.u3.2.1 0 _ rfl
   clear hkb hib HI HK hrun
   gi_wp2_with fail
   refine ⟨trivial, (CallsIn.inRound (D + 1) ((callsIn_wide (n := 3)).2 HP)).mono ?_⟩
   clear HP
   rintro e W5 (⟨d, s5', rfl, hi, hbt, hr⟩ | ⟨k, j, a, b, hr, rfl, hl⟩)
   case inr => exact ⟨rfl, .inr ⟨k, j, a, b, hr, rfl, hl.1, hl.2.dfr⟩⟩
   have HI5 := Lib.hid hi
   have HR := Lib.hid hr
   clear hi hbt hr
   gi_wp2_with fail
   exact ⟨_, _, run_endRound none HI5.out.2.rcd, .inl ⟨rfl, d, s5', HR.out, HAS.out.I HI5.out.1 (Nat.le_succ_of_le HLW.out.2.2) HI5.out.2.rcd rfl rfl, HI5.out.2.put V HNL.out HLW.out.1 HG.out.1 _⟩⟩
  ·-- behind it
   rintro e W7 (⟨⟨v, rfl⟩, s7, hr, hi, hk⟩ | ⟨k, j, a, b, hr, rfl, hl, hx⟩)
   ·have he := run_endLoop (P := Tryz.prog) hk.rcd (by rw [hrc]; simp [recOf])
    have hp0 : rc.pending = none := by rw [hrc]; rfl
    rw [hp0] at he
    have hk8 := hk.put V HNL.out HLW.out.1 HG.out.1 { state := .exhausted, pending := none, fn := rc.fn, tmps := rc.tmps, params := rc.params, assign := rc.assign, body := rc.body, defers := rc.defers }
    have hi8 := HAS.out.I hi (o' := .loop { state := .exhausted, pending := none, fn := rc.fn, tmps := rc.tmps, params := rc.params, assign := rc.assign, body := rc.body, defers := rc.defers }) (Nat.le_succ_of_le HLW.out.2.2) hk.rcd rfl rfl
    have HE : Hid (RunEnd V w (fun d => .bool ((d : Int) == 1)) R (.returned (.bool true)) ((W7.putObj (D + 1) (.loop { state := .exhausted, pending := none, fn := rc.fn, tmps := rc.tmps, params := rc.params, assign := rc.assign, body := rc.body, defers := rc.defers })).putObj D (.deferred none))) :=
     Lib.hid (RunEnd.fin V (ret := fun d => .bool ((d : Int) == 1)) (w := w) (d := 1) hr (HAS.out.I hi8 HLW.out.2.2 hk8.dfr rfl rfl) (hk8.but.put _ HLW.out.2.1 HG.out.1))
    have HD8 := Lib.hid hk8.dfr
    refine ⟨_, he, ?_⟩
    clear he hp0 hk8 hi8 hr hi hk hrc hi0 hk0
    refine hK _ _ ?_
    refine WpAt.of ?_
    go_wp2_with fail
    exact ⟨by simp, .inl ⟨_, _, rfl, run_takeDeferred HD8.out, _, results_tmp (t := 4) rfl _ _ _, HE.out⟩⟩
   ·exact ⟨by simp, .inl ⟨_, _, rfl, run_takeDeferred hx, RunEnd.quit V ⟨k, j, a, b, hr, rfl, HAS.out.L hl HLW.out.2.2 hx rfl rfl⟩⟩⟩
end
end Go.Proofs.YtibpfkcackdbgaaGreatDoor
namespace Go.Proofs.YtibpfkcackdbgaaGreatDoor
open Go.ChangeShapes Go.WideShapes Go.ChangeAt Go.RowKit Go.BigFrame
set_option linter.unusedVariables false
set_option maxRecDepth 100000
theorem tape_aside (g : Nat) (w0 wb : World) (hg : w0.heap.size ≤ g) (hgw : g < wb.heap.size) (hb : Below w0.heap.size w0 wb) : (tapeSrv g w0 wb hg hgw hb).Aside wb.heap.size where
 I := by
  rintro s w l o o' ⟨⟨A, cap, hv, hl, hc⟩, hB⟩ hlo ho _ _
  exact ⟨⟨A, cap, hv.put _ (by omega), hl, hc⟩, hB.put _ hlo hgw⟩
 L := by
  rintro k i a b w l o o' ⟨e, D, dc, E, ec, A, cap, h1, hv, hX, hB, hD, hE⟩ hlo ho _ _
  exact ⟨e, D, dc, E, ec, A, cap, h1, hv.put _ (by omega), ⟨hX.k, hX.c, hX.a, hX.b, hX.dl, hX.ml, AtB.nil _ _, AtW.nil _ _⟩, hB.put _ hlo hgw, hD, hE⟩
 g := fun h => Nat.lt_of_lt_of_le hgw h.2.size
 lo := fun h => h.2.size
section
variable {S : Type} {df : FuncId} {d1 d2 : Array Value} (V : Srv (.func (.func df) d1 d2) S)
end
end Go.Proofs.YtibpfkcackdbgaaGreatDoor
