/-
  wealdref14.Bytes alone (a seat that lacks the document's cursor).
-/
import Derived.Test.YtdbomlclkhkinaaDoorSavSave
import Derived.Test.YtdbomlclkhkinaaDoorEntB
import Derived.Test.YtdbomlclkhkinaaDoorFrmB
namespace Go.Proofs.YtdbomlclkhkinaaDoor
open Go.ChangeShapes Go.WideShapes Go.ChangeAt Go.RowKit Go.BigFrame Go.Deep
set_option linter.unusedVariables false
set_option maxRecDepth 100000
set_option linter.unusedSectionVars false
theorem rBytes_any (k : Int) (s y u v x : Nat) (hf : (Ent.mk k s y u v x).fit) (w : World) :
    Calls Tryd.prog 13 #[.agg #[.int .i64 k, .int .u64 (s : Int), .int .u64 (y : Int), .int .u64 (u : Int), .int .u64 (v : Int), .int .u64 (x : Int)]] w (DataPost w (dataN ⟨k, s, y, u, v, x⟩)) := by
  unfold DataPost
  by_cases h : (Ent.mk k s y u v x).mayB = true
  · have hd : dataN ⟨k, s, y, u, v, x⟩ = frameN (Ent.mk k s y u v x).bytes := by unfold dataN; rw [if_pos h]
    have hp := Ent.bytes_pos (Ent.mk k s y u v x)
    have hfl := frame_length (Ent.mk k s y u v x).bytes
    have HEN := fun w => refEncode_yes k s y u v x hf h _ _ rfl rfl w
    rw [hd, hfl]
    clear h hd hfl hf
    generalize (Ent.mk k s y u v x).bytes = ys at *
    generalize ys.length = n at *
    go_enter Tryd.func13, Tryd.ntmps13
    go_wp2_with fail
    (with_reducible refine (HEN _).mono ?_)
    clear HEN
    rintro e w3 ⟨v3, rfl, hO3, hb3⟩
    obtain ⟨A3, k3, rfl, hk3, hat3⟩ := hO3.at_ (by omega)
    have hb0 := al_below w (.cells #[.int .i64 k, .int .u64 (s : Int), .int .u64 (y : Int), .int .u64 (u : Int), .int .u64 (v : Int), .int .u64 (x : Int)] 44)
    have HB3 : Hid (Below w.heap.size w w3) := Lib.hid (hb0.trans (hb3.mono hb0.size))
    have HA3 := Lib.hid hat3
    clear hb3 hO3 hat3 hb0
    go_wp2_with fail
    (with_reducible refine (refPut_at A3 n k3 ys hp.1 (by omega) w3 HA3).mono ?_)
    rintro e w4 ⟨v4, rfl, hO4, hb4⟩
    have HB4 : Hid (Below w.heap.size w w4) := Lib.hid (HB3.out.trans (hb4.mono HB3.out.size))
    have HO4 := Lib.hid (hO4.lower HB3.out.size)
    clear hb4 hO4 HA3
    go_wp2_with fail
    go_ret
    exact ⟨v4, rfl, HO4.out, HB4.out⟩
  · have h' : (Ent.mk k s y u v x).mayB = false := by simpa using h
    have hd : dataN ⟨k, s, y, u, v, x⟩ = [] := by unfold dataN; rw [if_neg h]
    have HEN := fun w => refEncode_no k s y u v x hf.2.1 h' w
    rw [hd]
    clear h h' hd hf
    go_enter Tryd.func13, Tryd.ntmps13
    go_wp2_with fail
    (with_reducible refine (HEN _).mono ?_)
    clear HEN
    rintro e w3 ⟨rfl, hb3⟩
    have hb0 := al_below w (.cells #[.int .i64 k, .int .u64 (s : Int), .int .u64 (y : Int), .int .u64 (u : Int), .int .u64 (v : Int), .int .u64 (x : Int)] 44)
    have HB3 : Hid (Below w.heap.size w w3) := Lib.hid (hb0.trans (hb3.mono hb0.size))
    clear hb3 hb0
    go_wp2_with fail
    go_ret
    exact ⟨_, rfl, Own.none _ _, HB3.out⟩

end Go.Proofs.YtdbomlclkhkinaaDoor
