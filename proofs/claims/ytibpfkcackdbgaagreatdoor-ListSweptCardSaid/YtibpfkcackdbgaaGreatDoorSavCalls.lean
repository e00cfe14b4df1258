/- SavCalls -/
import Derived.Test.YtibpfkcackdbgaaGreatDoorSavSrv
import Derived.Test.YtibpfkcackdbgaaGreatDoorWrdCalls
namespace Go.Proofs.YtibpfkcackdbgaaGreatDoor
open Go.ChangeShapes Go.WideShapes Go.ChangeAt Go.RowKit Go.BigFrame
set_option linter.unusedVariables false
set_option maxRecDepth 100000
def DataPost (w : World) (d : List Nat) (e : Ending) (w' : World) : Prop := ∃ v, e = .returned v ∧ Own w' w.heap.size v d.length d ∧ Below w.heap.size w w'
theorem bytesOf_any (k : Int) (s y u v x : Nat) (hf : (Ent.mk k s y u v x).fit) (w : World) (hT : Hid (Tab w)) :
  Calls Tryz.prog 194 #[.agg #[.int .i64 k, .int .u64 (s : Int), .int .u64 (y : Int), .int .u64 (u : Int), .int .u64 (v : Int), .int .u64 (x : Int)]] w (DataPost w (dataN ⟨k, s, y, u, v, x⟩)) := by
 by_cases h : (Ent.mk k s y u v x).mayB = true
 ·have hd : dataN ⟨k, s, y, u, v, x⟩ = frameN (Ent.mk k s y u v x).bytes := by unfold dataN; rw [if_pos h]
  have hp := Ent.bytes_pos (Ent.mk k s y u v x)
  have hfl := frame_length (Ent.mk k s y u v x).bytes
  have HEN := fun w => encode_yes k s y u v x hf h _ _ rfl rfl w
  unfold DataPost
  rw [hd, hfl]
  clear h hd hfl hf
  generalize (Ent.mk k s y u v x).bytes = ys at *
  generalize ys.length = n at *
  go_enter Tryz.func194, Tryz.ntmps194
  go_wp2_with fail
  (with_reducible refine (HEN _).mono ?_)
  clear HEN
  rintro e w3 ⟨v3, rfl, hO3, hb3⟩
  obtain ⟨A3, k3, rfl, hk3, hat3⟩ := hO3.at_ (by omega)
  have hb0 := al_below w (.cells #[.int .i64 k, .int .u64 (s : Int), .int .u64 (y : Int), .int .u64 (u : Int), .int .u64 (v : Int), .int .u64 (x : Int)] 95)
  have HB3 : Hid (Below w.heap.size w w3) := Lib.hid (hb0.trans (hb3.mono hb0.size))
  have HA3 := Lib.hid hat3
  have HT3 := Tab.later hT HB3.out
  clear hb3 hO3 hat3 hb0
  go_wp2_with fail
  (with_reducible refine (put_at A3 n k3 ys hp.1 (by omega) w3 HT3 HA3).mono ?_)
  rintro e w4 ⟨v4, rfl, hO4, hb4⟩
  have HB4 : Hid (Below w.heap.size w w4) := Lib.hid (HB3.out.trans (hb4.mono HB3.out.size))
  have HO4 := Lib.hid (hO4.lower HB3.out.size)
  clear hb4 hO4 HA3 HT3
  go_wp2_with fail
  go_ret
  exact ⟨v4, rfl, HO4.out, HB4.out⟩
 ·have h' : (Ent.mk k s y u v x).mayB = false := by simpa using h
  have hd : dataN ⟨k, s, y, u, v, x⟩ = [] := by unfold dataN; rw [if_neg h]
  have HEN := fun w => encode_no k s y u v x hf.2.1 h' w
  have HP := fun w => put_no none 0 0 (.inl (by omega)) w
  unfold DataPost
  rw [hd]
  clear h h' hd hf
  go_enter Tryz.func194, Tryz.ntmps194
  go_wp2_with fail
  (with_reducible refine (HEN _).mono ?_)
  clear HEN
  rintro e w3 ⟨rfl, hb3⟩
  have hb0 := al_below w (.cells #[.int .i64 k, .int .u64 (s : Int), .int .u64 (y : Int), .int .u64 (u : Int), .int .u64 (v : Int), .int .u64 (x : Int)] 95)
  have HB3 : Hid (Below w.heap.size w w3) := Lib.hid (hb0.trans (hb3.mono hb0.size))
  clear hb3 hb0
  go_wp2_with (go_at_call 206; (with_reducible refine (HP _).mono ?_); rintro e w4 ⟨rfl, rfl⟩)
  go_ret
  exact ⟨_, rfl, Own.none _ _, HB3.out⟩
theorem fieldI {t r f : Nat} (ht : t ≤ 64) (hr : r < 1048576) (hf : f < 8) : -9223372036854775808 ≤ ((fieldN t r f : Nat) : Int) ∧ ((fieldN t r f : Nat) : Int) < 9223372036854775808 := by unfold fieldN; omega
section
variable {dv : Value} {S : Type} (V : SrvD dv S)
theorem sload_go {R : RanD S} (hb : R ≠ .bad) {q : Nat → Prd} {s : S} (t r f : Nat) (fv : Int) (hfv : ((f : Nat) : Int) = fv) (ht : t ≤ 64) (h1 : 1 ≤ r) (hr : r < 1048576) (hf : f < 8) (hR : (Prd.ask 0 ((fieldN t r f : Nat) : Int) 0 0 [] q).run V.tell s = R) (w : World) (hI : V.M.I s w) :
  Calls Tryz.prog 179 #[dv, .int .i64 (t : Int), .int .i64 (r : Int), .int .i64 fv] w (GoD V R w (fun n => .int .u64 (n : Int)) q) := by
 subst hfv
 have HK := fun w => field_any t r f (by omega) h1 (by omega) (by omega) w
 have HL := loadD V hb (fieldI ht hr hf) hR
 have HI := Lib.hid hI
 clear hI hR ht h1 hr hf
 generalize fieldN t r f = p at *
 go_enter Tryz.func179, Tryz.ntmps179
 go_wp2_with (go_at_call 87; (with_reducible refine (HK _).mono ?_); rintro e w' ⟨rfl, rfl⟩)
 (with_reducible refine (HL _ HI.out).mono ?_)
 clear HL
 rintro e w2 (⟨n, s2, rfl, hn, hi, hbt, hr⟩ | ⟨k, j, a, b, d, hr, rfl, hl⟩)
 case inr => exact ⟨rfl, .inr ⟨k, j, a, b, d, hr, rfl, hl⟩⟩
 have HE := Lib.hid (And.intro hn (And.intro hi (And.intro hbt hr)))
 clear hn hi hbt hr
 go_wp2_with fail
 go_ret
 exact .inl ⟨n, s2, rfl, HE.out.1, HE.out.2.1, HE.out.2.2.1, HE.out.2.2.2⟩
end
end Go.Proofs.YtibpfkcackdbgaaGreatDoor
