/-
  The contracts of package save, whoever makes its accesses: bytesOf, load, entryOf, Make, Alive, raise, saveOf, Set, Save, Dead.
-/
import Derived.Test.YtdbomlclkhkinaaDoorSavSrv
import Derived.Test.YtdbomlclkhkinaaDoorWrdCalls
namespace Go.Proofs.YtdbomlclkhkinaaDoor
open Go.ChangeShapes Go.WideShapes Go.ChangeAt Go.RowKit Go.BigFrame
set_option linter.unusedVariables false
set_option maxRecDepth 100000

/-! ### bytesOf -/
def DataPost (w : World) (d : List Nat) (e : Ending) (w' : World) : Prop := ∃ v, e = .returned v ∧ Own w' w.heap.size v d.length d ∧ Below w.heap.size w w'
theorem bytesOf_any (k : Int) (s y u v x : Nat) (hf : (Ent.mk k s y u v x).fit) (w : World) (hT : Hid (Tab w)) :
    Calls Tryd.prog 78 #[.agg #[.int .i64 k, .int .u64 (s : Int), .int .u64 (y : Int), .int .u64 (u : Int), .int .u64 (v : Int), .int .u64 (x : Int)]] w (DataPost w (dataN ⟨k, s, y, u, v, x⟩)) := by
  by_cases h : (Ent.mk k s y u v x).mayB = true
  · have hd : dataN ⟨k, s, y, u, v, x⟩ = frameN (Ent.mk k s y u v x).bytes := by unfold dataN; rw [if_pos h]
    have hp := Ent.bytes_pos (Ent.mk k s y u v x)
    have hfl := frame_length (Ent.mk k s y u v x).bytes
    have HEN := fun w => encode_yes k s y u v x hf h _ _ rfl rfl w
    unfold DataPost
    rw [hd, hfl]
    clear h hd hfl hf
    generalize (Ent.mk k s y u v x).bytes = ys at *
    generalize ys.length = n at *
    go_enter Tryd.func78, Tryd.ntmps78
    go_wp2_with fail
    (with_reducible refine (HEN _).mono ?_)
    clear HEN
    rintro e w3 ⟨v3, rfl, hO3, hb3⟩
    obtain ⟨A3, k3, rfl, hk3, hat3⟩ := hO3.at_ (by omega)
    have hb0 := al_below w (.cells #[.int .i64 k, .int .u64 (s : Int), .int .u64 (y : Int), .int .u64 (u : Int), .int .u64 (v : Int), .int .u64 (x : Int)] 44)
    have HB3 : Hid (Below w.heap.size w w3) := Lib.hid (hb0.trans (hb3.mono hb0.size))
    have HA3 := Lib.hid hat3
    have HT3 := Tab.later hT HB3.out
    clear hb3 hO3 hat3 hb0
    go_wp2_with fail
    (with_reducible refine (put_at A3 n k3 ys hp.1 (by omega) w3 HT3 HA3).mono ?_)
    rintro e w4 ⟨v4, rfl, hO4, hb4⟩
    have HB4 : Hid (Below w.heap.size w w4) := Lib.hid (HB3.out.trans (hb4.mono HB3.out.size))
    have HO4 := Lib.hid (hO4.lower HB3.out.size)
    clear hb4 hO4 HA3 HT3
    go_wp2_with fail
    go_ret
    exact ⟨v4, rfl, HO4.out, HB4.out⟩
  · have h' : (Ent.mk k s y u v x).mayB = false := by simpa using h
    have hd : dataN ⟨k, s, y, u, v, x⟩ = [] := by unfold dataN; rw [if_neg h]
    have HEN := fun w => encode_no k s y u v x hf.2.1 h' w
    have HP := fun w => put_no none 0 0 (.inl (by omega)) w
    unfold DataPost
    rw [hd]
    clear h h' hd hf
    go_enter Tryd.func78, Tryd.ntmps78
    go_wp2_with fail
    (with_reducible refine (HEN _).mono ?_)
    clear HEN
    rintro e w3 ⟨rfl, hb3⟩
    have hb0 := al_below w (.cells #[.int .i64 k, .int .u64 (s : Int), .int .u64 (y : Int), .int .u64 (u : Int), .int .u64 (v : Int), .int .u64 (x : Int)] 44)
    have HB3 : Hid (Below w.heap.size w w3) := Lib.hid (hb0.trans (hb3.mono hb0.size))
    clear hb3 hb0
    go_wp2_with (go_at_call 99; (with_reducible refine (HP _).mono ?_); rintro e w4 ⟨rfl, rfl⟩)
    go_ret
    exact ⟨_, rfl, Own.none _ _, HB3.out⟩

/-! ### Words of a record -/
theorem fieldI {t r f : Nat} (ht : t ≤ 64) (hr : r < 1048576) (hf : f < 8) : -9223372036854775808 ≤ ((fieldN t r f : Nat) : Int) ∧ ((fieldN t r f : Nat) : Int) < 9223372036854775808 := by unfold fieldN; omega
section
variable {dv : Value} {S : Type} (V : SrvD dv S)
theorem sload_go {R : RanD S} (hb : R ≠ .bad) {q : Nat → Prd} {s : S} (t r f : Nat) (fv : Int) (hfv : ((f : Nat) : Int) = fv) (ht : t ≤ 64) (h1 : 1 ≤ r) (hr : r < 1048576) (hf : f < 8) (hR : (Prd.ask 0 ((fieldN t r f : Nat) : Int) 0 0 [] q).run V.tell s = R) (w : World) (hI : V.M.I s w) :
    Calls Tryd.prog 51 #[dv, .int .i64 (t : Int), .int .i64 (r : Int), .int .i64 fv] w (GoD V R w (fun n => .int .u64 (n : Int)) q) := by
  subst hfv
  have HK := fun w => field_any t r f (by omega) h1 (by omega) (by omega) w
  have HL := loadD V hb (fieldI ht hr hf) hR
  have HI := Lib.hid hI
  clear hI hR ht h1 hr hf
  generalize fieldN t r f = p at *
  go_enter Tryd.func51, Tryd.ntmps51
  go_wp2_with (go_at_call 47; (with_reducible refine (HK _).mono ?_); rintro e w' ⟨rfl, rfl⟩)
  (with_reducible refine (HL _ HI.out).mono ?_)
  clear HL
  rintro e w2 (⟨n, s2, rfl, hn, hi, hbt, hr⟩ | ⟨k, j, a, b, d, hr, rfl, hl⟩)
  case inr => exact ⟨rfl, .inr ⟨k, j, a, b, d, hr, rfl, hl⟩⟩
  have HE := Lib.hid (And.intro hn (And.intro hi (And.intro hbt hr)))
  clear hn hi hbt hr
  go_wp2_with fail
  go_ret
  exact .inl ⟨n, s2, rfl, HE.out.1, HE.out.2.1, HE.out.2.2.1, HE.out.2.2.2⟩

/-! ### Alive -/
set_option maxHeartbeats 1000000 in
theorem alive_prg (t r x : Nat) (ht : t ≤ 64) (h1 : 1 ≤ r) (hr : r < 1048576) (s : S) (hb : (Prd.alive t r x).run V.tell s ≠ .bad) (w : World) (hI : V.M.I s w) :
    Calls Tryd.prog 21 #[dv, .int .i64 (t : Int), .int .i64 (r : Int), .int .u64 (x : Int)] w (RunD14 V w (fun d => .bool ((d : Int) == 1)) ((Prd.alive t r x).run V.tell s)) := by
  have hR : (Prd.ask 0 ((fieldN t r 0 : Nat) : Int) 0 0 [] fun w => Prd.ask 0 ((fieldN t r 2 : Nat) : Int) 0 0 [] fun f => Prd.ret (if stampN f = x ∧ markB w = false then 1 else 0)).run V.tell s = (Prd.alive t r x).run V.tell s := rfl
  generalize (Prd.alive t r x).run V.tell s = R at *
  have HN : ∀ w, Calls Tryd.prog 50 #[.int .i64 (t : Int), .int .i64 (r : Int)] w fun e w' => e = .returned (.int .i64 (fieldN t r 0 : Nat)) ∧ w = w' := fun w => by
    have h := next_any t r (by omega) (by omega) w
    have e : nextN t r = fieldN t r 0 := by unfold nextN; rw [if_neg (by omega)]
    rw [e] at h
    exact h
  have HL := loadD V hb (fieldI ht hr (f := 0) (by omega)) hR
  have HB := Lib.hid hb
  have HI := Lib.hid hI
  have HX := Lib.hid (And.intro ht (And.intro h1 hr))
  clear hI hR ht h1 hr hb
  generalize fieldN t r 0 = p at *
  go_enter Tryd.func21, Tryd.ntmps21
  go_wp2_with (go_at_call 50; (with_reducible refine (HN _).mono ?_); rintro e w' ⟨rfl, rfl⟩)
  (with_reducible refine (HL _ HI.out).mono ?_)
  clear HL
  rintro e w2 (⟨n, s2, rfl, hn, hi, hbt, hr⟩ | ⟨k, j, a, b, d, hr, rfl, hl⟩)
  case inr => exact ⟨rfl, RunD14.quit V ⟨k, j, a, b, d, hr, rfl, hl⟩⟩
  dsimp only at hr
  have HS := sload_go V HB.out t r 2 2 rfl HX.out.1 HX.out.2.1 HX.out.2.2 (by omega) hr
  have HM := fun w => mark_any n hn w
  have HI2 := Lib.hid hi
  have HB2 := Lib.hid hbt
  clear hn hi hbt hr
  go_wp2_with fail
  (with_reducible refine (HS _ HI2.out).mono ?_)
  clear HS
  rintro e w3 (⟨m, s3, rfl, hn, hi, hbt, hr⟩ | ⟨k, j, a, b, d, hr, rfl, hl⟩)
  case inr => exact ⟨rfl, RunD14.quit V ⟨k, j, a, b, d, hr, rfl, hl⟩⟩
  dsimp only at hr
  have HT := fun w => stamp_any m w
  have HE := Lib.hid (RunD14.fin V (w := w) (ret := fun d => .bool ((d : Int) == 1)) hr hi (HB2.out.trans hbt))
  clear hn hi hbt hr
  by_cases hx : stampN m = x
  · have dx : (((stampN m : Nat) : Int) == (x : Int)) = true := by rw [beq_iff_eq]; omega
    cases hm : markB n with
    | true =>
      rw [hm] at HM HE
      rw [if_neg (by simp)] at HE
      clear hx hm
      generalize stampN m = y at *
      go_wp2_with (first | (go_at_call 52; (with_reducible refine (HT _).mono ?_); rintro e w' ⟨rfl, rfl⟩) | (go_at_call 53; (with_reducible refine (HM _).mono ?_); rintro e w' ⟨rfl, rfl⟩))
      go_ret
      exact HE.out
    | false =>
      rw [hm] at HM HE
      rw [if_pos ⟨hx, rfl⟩] at HE
      clear hx hm
      generalize stampN m = y at *
      go_wp2_with (first | (go_at_call 52; (with_reducible refine (HT _).mono ?_); rintro e w' ⟨rfl, rfl⟩) | (go_at_call 53; (with_reducible refine (HM _).mono ?_); rintro e w' ⟨rfl, rfl⟩))
      go_ret
      exact HE.out
  · have dx : (((stampN m : Nat) : Int) == (x : Int)) = false := by rw [beq_eq_false_iff_ne]; omega
    rw [if_neg (fun h => hx h.1)] at HE
    clear hx
    generalize stampN m = y at *
    go_wp2_with (first | (go_at_call 52; (with_reducible refine (HT _).mono ?_); rintro e w' ⟨rfl, rfl⟩) | (go_at_call 53; (with_reducible refine (HM _).mono ?_); rintro e w' ⟨rfl, rfl⟩))
    go_ret
    exact HE.out
end
end Go.Proofs.YtdbomlclkhkinaaDoor
