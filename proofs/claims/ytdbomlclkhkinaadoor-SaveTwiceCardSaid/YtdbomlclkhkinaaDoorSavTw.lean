/-
  SaveTwice, plain: one record; four saves: first bit, the other, both again.
-/
import Derived.Test.YtdbomlclkhkinaaDoorSavTwo
namespace Go.Proofs.YtdbomlclkhkinaaDoor
open Go.ChangeShapes Go.WideShapes Go.ChangeAt Go.RowKit Go.BigFrame Go.Deep
set_option linter.unusedVariables false
set_option maxRecDepth 100000

def twE (b k : Nat) : Ent := if b = 2 then ⟨2, 1, 0, 0, 0, 0⟩ else ⟨1, 1, k, 0, 0, 0⟩
/-- The words, the stream, the bit, the steps ahead of round i; f: the first bit. -/
def twG (f k : Nat) : Nat → Nat → Nat
  | 0 => mkG 1 1 1 k
  | 1 => setW (mkG 1 1 1 k) 11 (4 + f)
  | _ => setW (setW (mkG 1 1 1 k) 11 (4 + f)) 11 7
def twD (f k : Nat) : Nat → List Nat
  | 0 => []
  | 1 => dataN (twE f k)
  | _ => dataN (twE f k) ++ dataN (twE (3 - f) k)
def twL (f k i : Nat) : List Stm := [⟨twD f k i, ((twD f k i).length : Int)⟩]
def twB (f i : Nat) : Nat := if i % 2 = 0 then f else 3 - f
theorem twG_lt {f k : Nat} (hk : k < 18446744073709551616) (hf : f = 1 ∨ f = 2) (i q : Nat) : twG f k i q < 18446744073709551616 := by
  match i with
  | 0 => exact mkG_lt1 hk q
  | 1 => exact setW_lt (mkG_lt1 hk) (by omega) q
  | i + 2 => exact setW_lt (setW_lt (mkG_lt1 hk) (by omega)) (by decide) q
theorem mkG_ent1 (b k : Nat) (G : Nat → Nat) (hb : b = 1 ∨ b = 2) (h2 : stampN (G 11) = 1) (h1 : G 10 = k) (h4 : G 13 = 0) (h5 : G 14 = 0) (h6 : G 15 = 0) : Prd.entW 1 1 b G = twE b k := by
  have e2 : stampN (G (fieldN 1 1 2)) = 1 := h2
  have e1 : G (fieldN 1 1 1) = k := h1
  have e4 : G (fieldN 1 1 4) = 0 := h4
  have e5 : G (fieldN 1 1 5) = 0 := h5
  have e6 : G (fieldN 1 1 6) = 0 := h6
  unfold Prd.entW twE
  rw [e1, e2, e4, e5, e6]
theorem tw_make {k : Nat} (hk : k < 18446744073709551616) : (sPrg 1 20 1 0 k 2000).run (Prd.wTell (sizeN 1 1) 0 noF) ((newF 1 1, zerosS 1), 0) = .done 1 ((mkG 1 1 1 k, zerosS 1), 7) := by
  have e : sPrg 1 20 1 0 k 2000 = Prd.make 1 1 k 0 0 0 0 := rfl
  rw [e, Prd.make_run (W := (newF 1 1, zerosS 1)) (by decide) (by decide) (newF_lt (by decide)) hk (by decide) (by decide) (by decide) (by decide)]
  rfl
/-- A save that isn't there yet. -/
theorem tw_put {b k : Nat} {G : Nat → Nat} {d : List Nat} (hb : b = 1 ∨ b = 2) (hG : ∀ q, G q < 18446744073709551616) (hs : stampN (G 11) = 1) (hh : hasF (G 11) (b : Int) = false) (h1 : G 10 = k) (h4 : G 13 = 0) (h5 : G 14 = 0) (h6 : G 15 = 0) (hd : d.length ≤ 50000) :
    ∃ j, j ≤ 20 ∧ (sPrg 1 7 1 (b : Int) 0 2000).run (Prd.wTell (sizeN 1 1) 0 noF) ((G, [⟨d, (d.length : Int)⟩]), 0) = .done 1 ((setW G 11 (G 11 + b), [⟨d ++ dataN (twE b k), ((d ++ dataN (twE b k)).length : Int)⟩]), j) := by
  have e : sPrg 1 7 1 (b : Int) 0 2000 = Prd.save 1 1 b 2000 := by rcases hb with rfl | rfl <;> rfl
  have hdl := data_len (twE b k)
  have hln : Prd.loadsN b ≤ 4 := by unfold Prd.loadsN; split <;> omega
  refine ⟨0 + 1 + Prd.loadsN b + 4, by omega, ?_⟩
  rw [e, Prd.save_run (W := (G, [⟨d, (d.length : Int)⟩])) (by decide) hG, Prd.rest_saved (W := (G, [⟨d, (d.length : Int)⟩])) (t := 1) (r := 1) (by decide) hG hh]
  have he : Prd.entW 1 1 b ((G, [(⟨d, (d.length : Int)⟩ : Stm)]) : WS).1 = twE b k := mkG_ent1 b k G hb hs h1 h4 h5 h6
  have hz : 0 < ((G, [(⟨d, (d.length : Int)⟩ : Stm)]) : WS).2.length := by show 0 < 1; decide
  rw [he, Prd.saved_run (W := (G, [⟨d, (d.length : Int)⟩])) (t := 1) (r := 1) (b := b) (m := 1999) (by decide) hG hz (by show d.length + (dataN (twE b k)).length ≤ 100000; omega) (noF_no _) (noF_no _) rfl hh]
  rfl
theorem tw_has {b : Nat} {G : Nat → Nat} {l : List Stm} (hb : b = 1 ∨ b = 2) (hG : ∀ q, G q < 18446744073709551616) (hh : hasF (G 11) (b : Int) = true) :
    (sPrg 1 7 1 (b : Int) 0 2000).run (Prd.wTell (sizeN 1 1) 0 noF) ((G, l), 0) = .done 1 ((G, l), 1) := by
  have e : sPrg 1 7 1 (b : Int) 0 2000 = Prd.save 1 1 b 2000 := by rcases hb with rfl | rfl <;> rfl
  rw [e, Prd.save_run (W := (G, l)) (by decide) hG]
  exact Prd.rest_has hh
theorem twB_or {f i : Nat} (hf : f = 1 ∨ f = 2) : twB f i = 1 ∨ twB f i = 2 := by unfold twB; split <;> omega
theorem tw_step {f k i : Nat} (hk : k < 18446744073709551616) (hf : f = 1 ∨ f = 2) (hi : i < 4) :
    ∃ j, j ≤ (if 1 < i then 1 else 20) ∧ (sPrg 1 7 1 (twB f i : Int) 0 2000).run (Prd.wTell (sizeN 1 1) 0 noF) ((twG f k i, twL f k i), 0) = .done 1 ((twG f k (i + 1), twL f k (i + 1)), j) := by
  have hG := twG_lt hk hf i
  have hb := twB_or (i := i) hf
  have h11 : mkG 1 1 1 k 11 = 4 := mkG_flag1 k
  obtain rfl | rfl | rfl | rfl : i = 0 ∨ i = 1 ∨ i = 2 ∨ i = 3 := by omega
  · obtain ⟨j, hj, h⟩ := tw_put (b := f) (k := k) (G := mkG 1 1 1 k) (d := []) hf (mkG_lt1 hk) (by rw [h11]; decide) (by rw [h11]; rcases hf with rfl | rfl <;> decide) rfl rfl rfl rfl (by decide)
    rw [h11] at h
    exact ⟨j, hj, h⟩
  · have e11 : setW (mkG 1 1 1 k) 11 (4 + f) 11 = 4 + f := by unfold setW; rw [if_pos rfl]
    have hdl := data_len (twE f k)
    obtain ⟨j, hj, h⟩ := tw_put (b := 3 - f) (k := k) (G := setW (mkG 1 1 1 k) 11 (4 + f)) (d := dataN (twE f k)) (by omega) hG (by rw [e11]; rcases hf with rfl | rfl <;> decide) (by rw [e11]; rcases hf with rfl | rfl <;> decide) rfl rfl rfl rfl (by omega)
    rw [e11, show 4 + f + (3 - f) = 7 by omega] at h
    exact ⟨j, hj, h⟩
  · have e2 : twG f k 2 11 = 7 := by show setW _ 11 7 11 = 7; unfold setW; rw [if_pos rfl]
    exact ⟨1, by decide, tw_has hb hG (by rw [e2]; rcases hf with rfl | rfl <;> decide)⟩
  · have e2 : twG f k 3 11 = 7 := by show setW _ 11 7 11 = 7; unfold setW; rw [if_pos rfl]
    exact ⟨1, by decide, tw_has hb hG (by rw [e2]; rcases hf with rfl | rfl <;> decide)⟩
theorem tw_split {f k : Nat} (h1 : (twE f k).mayB = true) (h2 : (twE (3 - f) k).mayB = true) : splitN (twD f k 4) = [(twE f k).bytes, (twE (3 - f) k).bytes] := by
  show splitN (dataN (twE f k) ++ dataN (twE (3 - f) k)) = _
  obtain ⟨a1, a2⟩ := data_may _ h1
  have hs := split_data _ h2
  rw [a1, split_frame _ a2, hs]
theorem tw_len (f k : Nat) : (twD f k 4).length ≤ 94 := by
  show (dataN (twE f k) ++ dataN (twE (3 - f) k)).length ≤ 94
  have := data_len (twE f k)
  have := data_len (twE (3 - f) k)
  rw [List.length_append]
  omega

/-! ### A round -/
def AlS (Q : Nat → Prop) (t c : Int) (n m : Nat) (G : Nat → Nat) (l0 l1 : List Stm) (er : Int) (oi : Bool) (NW : Nat) (wr : World) (g : Nat) (OLD : List Value) (v1 v2 v3 : Value) (y : World) : Prop :=
  ∃ b1 b2, v1 = .pointer (some ⟨b1, 0, none⟩) ∧ v2 = .pointer (some ⟨b2, 0, none⟩) ∧ v3 = .bool true ∧ wr.heap.size ≤ b1 ∧ wr.heap.size ≤ b2 ∧ (∃ A ka R ra S sa, WdAt y b1 t c A n ka 0 R m ra S sa G l0 l1 ∧ OffW Q A n ∧ OffS Q y R m ∧ OffS Q y S m) ∧ VarAt y b2 [.int .i64 er, .bool oi, .int .i64 0, .int .u64 (NW : Int), .slice none 0 0] ∧ VarAt y g OLD ∧ Below wr.heap.size wr y
/-- Off a place, and either there already or behind the call. -/
def Qc (Q : Nat → Prop) (N1 N2 b : Nat) : Prop := Q b ∧ (b < N1 ∨ N2 ≤ b)
theorem AlS.of {Q : Nat → Prop} {t c er : Int} {NW : Nat} {oi : Bool} {wr w4 y : World} {g n m N2 b1 b2 ka ra sa : Nat} {OLD : List Value} {G : Nat → Nat} {l0 l1 : List Stm} {A R S : Option Addr} (hk : Keep (Qc Q wr.heap.size N2) w4 y) (n1 : wr.heap.size ≤ b1) (n2 : wr.heap.size ≤ b2) (v1 : VarAt y b1 [.int .i64 t, .int .i64 c, .slice A n ka, .int .u64 0, .slice R m ra, .slice S m sa]) (v2 : VarAt y b2 [.int .i64 er, .bool oi, .int .i64 0, .int .u64 (NW : Int), .slice none 0 0]) (vg : VarAt y g OLD)
    (hA : AtW w4 A n G) (h0 : StmsAt w4 R m l0) (h1 : StmsAt w4 S m l1) (o0 : OffW (Qc Q wr.heap.size N2) A n) (o1 : OffS (Qc Q wr.heap.size N2) w4 R m) (o2 : OffS (Qc Q wr.heap.size N2) w4 S m) (hb : Below wr.heap.size wr y) :
    AlS Q t c n m G l0 l1 er oi NW wr g OLD (.pointer (some ⟨b1, 0, none⟩)) (.pointer (some ⟨b2, 0, none⟩)) (.bool true) y :=
  ⟨b1, b2, rfl, rfl, rfl, n1, n2, ⟨A, ka, R, ra, S, sa, ⟨v1, hA.keep hk o0, h0.keep hk o1, h1.keep hk o2⟩, o0.mono fun b hb => hb.1, (o1.keep h0 hk o1).mono fun b hb => hb.1, (o2.keep h1 hk o2).mono fun b hb => hb.1⟩, v2, vg, hb⟩
theorem alone_arm {Q : Nat → Prop} {wr wa w4 : World} {n m : Nat} {A3 A4 R3 R4 S3 S4 : Option Addr} {G3 : Nat → Nat} {l0 l1 : List Stm} (hwr : Below wr.heap.size wr wa) (hb : Below wa.heap.size wa w4)
    (hP : ∀ P : Nat → Prop, From wa wa.heap.size A3 n R3 S3 m P → OffW P A4 n ∧ OffS P w4 R4 m ∧ OffS P w4 S4 m)
    (hA : AtW wr A3 n G3) (h0 : StmsAt wr R3 m l0) (h1 : StmsAt wr S3 m l1) (o0 : OffW Q A3 n) (o1 : OffS Q wr R3 m) (o2 : OffS Q wr S3 m) (hQ : ∀ b, wr.heap.size ≤ b → Q b) :
    ∃ N2, N2 = wa.heap.size ∧ wr.heap.size ≤ N2 ∧ N2 ≤ w4.heap.size ∧ OffW (Qc Q wr.heap.size N2) A4 n ∧ OffS (Qc Q wr.heap.size N2) w4 R4 m ∧ OffS (Qc Q wr.heap.size N2) w4 S4 m := by
  have hz := hwr.size
  obtain ⟨p0, p1, p2⟩ := hP (Qc Q wr.heap.size wa.heap.size) ⟨fun b hb => ⟨hQ b (by omega), .inr hb⟩,
    fun hp b off e => ⟨o0 hp b off e, .inl (hA.old hp b off e)⟩,
    ((o1.both h0.old).mono fun b hb => (⟨hb.1, .inl hb.2⟩ : Qc Q wr.heap.size wa.heap.size b)).later h0 hwr,
    ((o2.both h1.old).mono fun b hb => (⟨hb.1, .inl hb.2⟩ : Qc Q wr.heap.size wa.heap.size b)).later h1 hwr⟩
  exact ⟨_, rfl, hz, hb.size, p0, p1, p2⟩

end Go.Proofs.YtdbomlclkhkinaaDoor
