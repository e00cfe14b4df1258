/-
  What Make and Save come to, run alone over a new world (plain): one record of two, two threads (SaveBehind); a region of one end.
-/
import Derived.Test.YtdbomlclkhkinaaDoorSavC
namespace Go.Proofs.YtdbomlclkhkinaaDoor
open Go.ChangeShapes Go.WideShapes Go.ChangeAt Go.RowKit Go.BigFrame Go.Deep
set_option linter.unusedVariables false
set_option maxRecDepth 100000

def NormEnd (F : Act → World → Prop) : Exit → Act → World → Prop
  | .normal, a, w => F a w
  | _, _, _ => False
theorem wp_end {P : Program} {c : Code} {Q : Exit → Act → World → Prop} {a : Act} {w : World} (B : Act) (F : World → Prop) (h : c.wp P (NormEnd fun a' w' => a' = B ∧ F w') a w) (hk : ∀ w', F w' → Q .normal B w') : c.wp P Q a w :=
  wp_mono h fun e a' w' hn => by
    cases e with
    | normal => obtain ⟨rfl, hf⟩ := hn; exact hk _ hf
    | _ => exact hn.elim
/-- The words of a new memory behind Make of one record. -/
def mkG (t c r k : Nat) : Nat → Nat := Prd.makeG t r k 0 0 0 0 (newF t c)
theorem mkG_lt2 {k : Nat} (hk : k < 18446744073709551616) (q : Nat) : mkG 2 2 2 k q < 18446744073709551616 := by
  unfold mkG Prd.makeG
  exact setW_lt (setW_lt (setW_lt (setW_lt (setW_lt (setW_lt (setW_lt (newF_lt (by decide)) (Nat.mod_lt _ (by decide))) (flag_lt _ _)) hk) (by decide)) (by decide)) (by decide)) (by decide) q
theorem mkG_lt1 {k : Nat} (hk : k < 18446744073709551616) (q : Nat) : mkG 1 1 1 k q < 18446744073709551616 := by
  unfold mkG Prd.makeG
  exact setW_lt (setW_lt (setW_lt (setW_lt (setW_lt (setW_lt (setW_lt (newF_lt (by decide)) (Nat.mod_lt _ (by decide))) (flag_lt _ _)) hk) (by decide)) (by decide)) (by decide)) (by decide) q
theorem mkG_flag2 (k : Nat) : mkG 2 2 2 k (fieldN 2 2 2) = 4 := rfl
theorem mkG_flag1 (k : Nat) : mkG 1 1 1 k (fieldN 1 1 2) = 4 := rfl
theorem mkG_birth2 (k : Nat) : Prd.entW 2 2 1 (mkG 2 2 2 k) = ⟨1, 1, k, 0, 0, 0⟩ := by
  have a1 : mkG 2 2 2 k (fieldN 2 2 1) = k := rfl
  have a4 : mkG 2 2 2 k (fieldN 2 2 4) = 0 := rfl
  have a5 : mkG 2 2 2 k (fieldN 2 2 5) = 0 := rfl
  have a6 : mkG 2 2 2 k (fieldN 2 2 6) = 0 := rfl
  unfold Prd.entW
  rw [if_neg (by decide), mkG_flag2, a1, a4, a5, a6, show stampN 4 = 1 by decide]
theorem mkG_death2 (k : Nat) : Prd.entW 2 2 2 (mkG 2 2 2 k) = ⟨2, 1, 0, 0, 0, 0⟩ := by
  unfold Prd.entW
  rw [if_pos rfl, mkG_flag2, show stampN 4 = 1 by decide]
theorem bv_make {k : Nat} (hk : k < 18446744073709551616) : (sPrg 2 20 2 0 k 2000).run (Prd.wTell (sizeN 2 2) 0 noF) ((newF 2 2, zerosS 2), 0) = .done 1 ((mkG 2 2 2 k, zerosS 2), 7) := by
  have e : sPrg 2 20 2 0 k 2000 = Prd.make 2 2 k 0 0 0 0 := rfl
  rw [e, Prd.make_run (W := (newF 2 2, zerosS 2)) (by decide) (by decide) (newF_lt (by decide)) hk (by decide) (by decide) (by decide) (by decide)]
  rfl
/-- Save of record 2 by thread 1, whatever fails. -/
theorem bv_save {k b : Nat} (hk : k < 18446744073709551616) (hb : b = 1 ∨ b = 2) (e : Ent) (he : Prd.entW 2 2 b (mkG 2 2 2 k) = e) (fail : Nat → Bool) :
    ∃ N GF lF j s, (sPrg 2 7 2 (b : Int) 0 2000).run (Prd.wTell (sizeN 2 2) 1 fail) ((mkG 2 2 2 k, zerosS 2), 0) = .done N ((GF, lF), j) ∧ j ≤ 20 ∧ lF[1]? = some s ∧ GF 20 < 18446744073709551616 ∧
      ((N = 1 ∧ hasF (GF 20) (b : Int) = true ∧ s = ⟨dataN e, ((dataN e).length : Int)⟩) ∨ (N = 0 ∧ hasF (GF 20) (b : Int) = false)) := by
  have hlt := mkG_lt2 hk
  have hfl := mkG_flag2 k
  have hh : hasF (mkG 2 2 2 k (fieldN 2 2 2)) (b : Int) = false := by rw [hfl]; rcases hb with rfl | rfl <;> decide
  have h2 : hasF (4 + b) (b : Int) = true := by rcases hb with rfl | rfl <;> decide
  have hln : Prd.loadsN b ≤ 4 := by unfold Prd.loadsN; split <;> omega
  have e1 : sPrg 2 7 2 (b : Int) 0 2000 = Prd.save 2 2 b 2000 := by rcases hb with rfl | rfl <;> rfl
  have h4 : stampN (mkG 2 2 2 k (fieldN 2 2 2)) = 1 := by rw [hfl]; rfl
  have h20 : mkG 2 2 2 k 20 = 4 := hfl
  rw [e1, Prd.save_run (W := (mkG 2 2 2 k, zerosS 2)) (by decide) hlt, Prd.rest_saved (W := (mkG 2 2 2 k, zerosS 2)) (by decide) hlt hh]
  have he' : Prd.entW 2 2 b (mkG 2 2 2 k, zerosS 2).1 = e := he
  rw [he']
  have hz : 1 < ((mkG 2 2 2 k, zerosS 2) : WS).2.length := by show 1 < (zerosS 2).length; decide
  have hdl := data_len e
  have hd : (stmAt (mkG 2 2 2 k, zerosS 2) 1).bytes.length + (dataN e).length ≤ 100000 := by simp [stmAt, zerosS, Stm.zero]; omega
  by_cases h0 : fail (0 + 1 + Prd.loadsN b) = true
  · exact ⟨0, _, _, _, Stm.zero, Prd.saved_fail0 hz hd h0, by omega, rfl, by show mkG 2 2 2 k 20 < _; exact hlt 20, .inr ⟨rfl, by show hasF (mkG 2 2 2 k 20) _ = _; exact hh⟩⟩
  have h0' : fail (0 + 1 + Prd.loadsN b) = false := by simpa using h0
  by_cases h1 : fail (0 + 1 + Prd.loadsN b + 1) = true
  · exact ⟨0, _, _, _, ⟨[] ++ dataN e, 0⟩, Prd.saved_fail1 hz hd h0' h1, by omega, rfl, by show mkG 2 2 2 k 20 < _; exact hlt 20, .inr ⟨rfl, by show hasF (mkG 2 2 2 k 20) _ = _; exact hh⟩⟩
  have h1' : fail (0 + 1 + Prd.loadsN b + 1) = false := by simpa using h1
  refine ⟨1, _, _, _, ⟨dataN e, ((dataN e).length : Int)⟩, Prd.saved_run (m := 1999) (by decide) hlt hz hd h0' h1' rfl hh, by omega, rfl, ?_, .inl ⟨rfl, ?_, rfl⟩⟩
  · show setW (mkG 2 2 2 k) (fieldN 2 2 2) (mkG 2 2 2 k (fieldN 2 2 2) + b) 20 < _
    rw [hfl]
    show (if (20 : Nat) = 20 then 4 + b else _) < _
    rw [if_pos rfl]
    omega
  · show hasF (setW (mkG 2 2 2 k) (fieldN 2 2 2) (mkG 2 2 2 k (fieldN 2 2 2) + b) 20) _ = _
    rw [hfl]
    show hasF (if (20 : Nat) = 20 then 4 + b else _) _ = _
    rw [if_pos rfl]
    exact h2
/-- Alone with failures. -/
theorem aloneF {m : Nat} (t : Nat) (ht : t ≤ 64) (me : Nat) (hme : me < m) (c k u v : Int) (q : Nat) (hq : q < 18446744073709551616) (hop : SOp k u v) (most : Nat) (hm : most ≤ 1000) (n : Nat) (hn : n ≤ 1000000) (hm8 : m ≤ 8) (G : Nat → Nat) (l0 l1 : List Stm) (N : Nat) (WF : WS) (j : Nat) (FA : Option Addr) (fn fc : Nat) (ff : Nat → Bool) (hfc : fn ≤ fc)
    (hrun : (sPrg t k u v q 2000).run (Prd.wTell n me fun j => decide (j < fn) && ff j) ((G, l0), 0) = .done N (WF, j)) (hj : j ≤ most) (A : Option Addr) (ka : Nat) (R : Option Addr) (ra : Nat) (S : Option Addr) (sa : Nat) (w : World) (HTab : Hid (Tab w)) (HFA : Hid (BlsAt w FA fn ff)) (HA : Hid (AtW w A n G)) (H0 : Hid (StmsAt w R m l0)) (H1 : Hid (StmsAt w S m l1)) :
    Calls Tryd.prog 9 #[.agg #[.int .i64 (t : Int), .int .i64 c, .slice A n ka, .int .u64 0, .slice R m ra, .slice S m sa], .int .i64 (me : Int), .agg #[.int .i64 k, .int .i64 u, .int .i64 v, .int .u64 (q : Int)], .int .i64 (most : Int), .slice FA fn fc] w (AloneS w t c A n R S m WF.1 WF.2 l1 (sErr k) (sIs k N) (sW k N)) :=
  sAlone_at t ht me hme c k u v q hq hop most hm A n ka R ra S sa hn hm8 FA fn fc ff hfc G l0 l1 N WF (Prd.alone_ofW hrun (by omega)) w HTab HFA HA H0 H1
end Go.Proofs.YtdbomlclkhkinaaDoor
