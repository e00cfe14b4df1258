/-
  The contracts of disk.Read and of the document's own, with where the bytes that are read may lie.
-/
import Derived.Test.YtdbomlclkhkinaaDoorDskCalls2
import Derived.Test.YtdbomlclkhkinaaDoorAccA
namespace Go.Proofs.YtdbomlclkhkinaaDoor
open Go.ChangeShapes Go.WideShapes Go.ChangeAt Go.RowKit
set_option linter.unusedVariables false
set_option maxRecDepth 100000

def BytesPostC (w : World) (n : Nat) (xs : List Nat) (e : Ending) (w' : World) : Prop := ∃ A c, e = .returned (.slice A n c) ∧ n ≤ c ∧ AtB w' A n xs ∧ Below w.heap.size w w' ∧ ∀ b off, A = some ⟨b, off, none⟩ → w.heap.size ≤ b
theorem cloneBC_at (A : Option Addr) (n c : Nat) (xs : List Nat) (hn : n ≤ 140737488355328) (w : World) (hS : Hid (AtB w A n xs)) :
    Calls Tryd.prog 91 #[.slice A n c] w (BytesPostC w n xs) := by
  rcases A with _ | ad
  · obtain rfl : n = 0 := by
      rcases Nat.eq_zero_or_pos n with h0 | h0
      · exact h0
      · obtain ⟨b, off, e, _⟩ := hS.out.2.2.2 h0
        cases e
    obtain rfl : xs = [] := List.eq_nil_of_length_eq_zero hS.out.1
    have ke := fun w => eql_nil_b w 0 c
    go_enter Tryd.func91, Tryd.ntmps91
    go_wp2_with fail
    go_ret
    exact ⟨none, 0, rfl, Nat.le_refl _, AtB.nil _ _, Below.refl _ _, fun b off e => by cases e⟩
  · have HN := Lib.hid hn
    have ke := fun w => eql_some_b w ad n c
    clear hn
    go_enter Tryd.func91, Tryd.ntmps91
    go_wp2_with (at_builtin; (refine wpList_append_bytes (by rfl) (.tmp 5) (.tmp 6) (by rfl) w.heap.size _ 0 [] (by rfl) (Own.made w) (some ad) n c xs (by rfl) (AtB.later hS (below_made w)) (by have := HN.out; omega) (by simp) ?_); (intro v' w' hown' hgrow'; have HB := Lib.hid (Own.below hgrow'); have hlt := hown'.2.lt; obtain ⟨A', k, rfl, hk, hat⟩ := hown'.at_ (by have := HN.out; omega); have HAT := Lib.hid hat; have HK := Lib.hid hk; have HLT : Hid (∀ b off, A' = some ⟨b, off, none⟩ → w.heap.size ≤ b) := Lib.hid (fun b off e => by have := (hlt b (by rw [e]; rfl)).1; omega); clear hlt hown' hgrow' hat hk))
    go_ret
    rw [Nat.zero_add, List.nil_append] at HAT
    exact ⟨A', k, by simp, by have := HK.out; omega, HAT.out, HB.out, HLT.out⟩

def ReadPostC (w : World) (R : Option Addr) (n : Nat) (S : Option Addr) (m : Nat) (xs : List Nat) (code : Int) (e : Ending) (w' : World) : Prop :=
  ∃ A c, e = .returned (.tuple #[.slice A xs.length c, .int .i64 code]) ∧ xs.length ≤ c ∧ AtB w' A xs.length xs ∧ Below w.heap.size w w' ∧ ∀ P : Nat → Prop, (∀ b, w.heap.size ≤ b → P b) → OffS P w R n → OffS P w S m → OffW P A xs.length

theorem dskReadC_no (r : Int) (A : Option Addr) (n a : Nat) (B : Option Addr) (m b : Nat) (row i : Int) (hno : hasB row i n m = false) (w : World) :
    Calls Tryd.prog 69 #[.agg #[.int .u64 r, .slice A n a, .slice B m b], .int .i64 row, .int .i64 i] w (ReadPostC w A n B m [] 1) := by
  have HH := fun w => hasStream_any r A n a B m b row i w
  rw [hno] at HH
  clear hno
  go_enter Tryd.func69, Tryd.ntmps69
  go_wp2_with fail
  (with_reducible refine (HH _).mono ?_)
  rintro e w2 ⟨rfl, hb⟩
  have HB := Lib.hid (below_box hb)
  clear hb HH
  go_wp2_with fail
  exact bodyPost_ret (v := .tuple #[.slice none 0 0, .int .i64 1]) (by simp [results, Tryd.results69, go_sem]) rfl ⟨none, 0, rfl, Nat.le_refl _, AtB.nil _ _, HB.out, fun P _ _ _ => OffW.nowhere P _⟩

set_option maxHeartbeats 1000000 in
theorem dskReadC0_at (r : Int) (A : Option Addr) (n a : Nat) (B : Option Addr) (m b : Nat) (l0 l1 : List Stm) (k : Nat) (hk : k < n) (x : Stm) (hx : l0[k]? = some x) (w : World) (h0 : Hid (StmsAt w A n l0)) (h1 : Hid (StmsAt w B m l1)) :
    Calls Tryd.prog 69 #[.agg #[.int .u64 r, .slice A n a, .slice B m b], .int .i64 0, .int .i64 (k : Int)] w (ReadPostC w A n B m x.bytes 0) := by
  obtain ⟨x', g, off, A0, cap, hx', e0, hg, hg0, hg1, hlc, hlm, hat, hsy⟩ := h0.out.at_ k hk
  obtain rfl : x' = x := Option.some.inj (hx'.symm.trans hx)
  subst e0
  have HAT := Lib.hid hat
  have HLC := Lib.hid hlc
  have HLM := Lib.hid hlm
  have HG := Lib.hid hg
  have HG0 := Lib.hid hg0
  have hmm := h0.out.2.1
  have HH := fun w => hasStream_any r (some ⟨g, off, none⟩) n a B m b 0 (k : Int) w
  rw [show hasB 0 (k : Int) n m = true by unfold hasB; rw [if_pos rfl, isB_nat hk]; rfl] at HH
  clear hg0 hg1 hat hlm hsy hx hx' hg hlc
  go_enter Tryd.func69, Tryd.ntmps69
  go_wp2_with fail
  (with_reducible refine (HH _).mono ?_)
  rintro e w2 ⟨rfl, hb⟩
  have HB := Lib.hid (below_box hb)
  have V := ((VarAt.made w #[.int .u64 r, .slice (some ⟨g, off, none⟩) n a, .slice B m b] 31).below hb).three
  obtain ⟨hz, c0, c1, c2, f0, f1, f2⟩ := V
  have hd0 : w2.cell? ⟨g, off + k * 2, none⟩ = some (.slice A0 x'.bytes.length cap) := (HB.out.cell (p := ⟨g, off + k * 2, none⟩) HG.out).trans HG0.out
  have HAT2 := Lib.hid (AtB.later HAT HB.out)
  clear hb HH
  go_wp2_with (go_at_call 91; (with_reducible refine (cloneBC_at A0 x'.bytes.length cap x'.bytes HLM.out _ HAT2).mono ?_); rintro e w3 ⟨C3, c3, rfl, hc3, hat3, hb3, hn3⟩; have HN3 : Hid (∀ b off, C3 = some ⟨b, off, none⟩ → w.heap.size ≤ b) := Lib.hid (fun b off e => Nat.le_trans HB.out.size (hn3 b off e)); have HC3 := Lib.hid hc3; have HAT3 := Lib.hid hat3; have HB3 := Lib.hid (HB.out.trans (hb3.mono HB.out.size)); clear hc3 hat3 hb3 hn3 hz c0 c1 c2 f0 f1 f2 hd0)
  exact bodyPost_ret (v := .tuple #[.slice C3 x'.bytes.length c3, .int .i64 0]) (by simp [results, Tryd.results69, go_sem]) rfl ⟨C3, c3, rfl, HC3.out, HAT3.out, HB3.out, fun P hF _ _ _ b o e => hF b (HN3.out b o e)⟩

set_option maxHeartbeats 1000000 in
theorem dskReadC1_at (r : Int) (A : Option Addr) (n a : Nat) (B : Option Addr) (m b : Nat) (l0 l1 : List Stm) (k : Nat) (hk : k < m) (x : Stm) (hx : l1[k]? = some x) (w : World) (h0 : Hid (StmsAt w A n l0)) (h1 : Hid (StmsAt w B m l1)) :
    Calls Tryd.prog 69 #[.agg #[.int .u64 r, .slice A n a, .slice B m b], .int .i64 1, .int .i64 (k : Int)] w (ReadPostC w A n B m x.bytes 0) := by
  obtain ⟨x', g, off, A0, cap, hx', e0, hg, hg0, hg1, hlc, hlm, hat, hsy⟩ := h1.out.at_ k hk
  obtain rfl : x' = x := Option.some.inj (hx'.symm.trans hx)
  subst e0
  have HAT := Lib.hid hat
  have HLC := Lib.hid hlc
  have HLM := Lib.hid hlm
  have HG := Lib.hid hg
  have HG0 := Lib.hid hg0
  have hmm := h1.out.2.1
  have HH := fun w => hasStream_any r A n a (some ⟨g, off, none⟩) m b 1 (k : Int) w
  rw [show hasB 1 (k : Int) n m = true by unfold hasB; rw [if_neg (by decide), isB_nat hk]; rfl] at HH
  clear hg0 hg1 hat hlm hsy hx hx' hg hlc
  go_enter Tryd.func69, Tryd.ntmps69
  go_wp2_with fail
  (with_reducible refine (HH _).mono ?_)
  rintro e w2 ⟨rfl, hb⟩
  have HB := Lib.hid (below_box hb)
  have V := ((VarAt.made w #[.int .u64 r, .slice A n a, .slice (some ⟨g, off, none⟩) m b] 31).below hb).three
  obtain ⟨hz, c0, c1, c2, f0, f1, f2⟩ := V
  have hd0 : w2.cell? ⟨g, off + k * 2, none⟩ = some (.slice A0 x'.bytes.length cap) := (HB.out.cell (p := ⟨g, off + k * 2, none⟩) HG.out).trans HG0.out
  have HAT2 := Lib.hid (AtB.later HAT HB.out)
  clear hb HH
  go_wp2_with (go_at_call 91; (with_reducible refine (cloneBC_at A0 x'.bytes.length cap x'.bytes HLM.out _ HAT2).mono ?_); rintro e w3 ⟨C3, c3, rfl, hc3, hat3, hb3, hn3⟩; have HN3 : Hid (∀ b off, C3 = some ⟨b, off, none⟩ → w.heap.size ≤ b) := Lib.hid (fun b off e => Nat.le_trans HB.out.size (hn3 b off e)); have HC3 := Lib.hid hc3; have HAT3 := Lib.hid hat3; have HB3 := Lib.hid (HB.out.trans (hb3.mono HB.out.size)); clear hc3 hat3 hb3 hn3 hz c0 c1 c2 f0 f1 f2 hd0)
  exact bodyPost_ret (v := .tuple #[.slice C3 x'.bytes.length c3, .int .i64 0]) (by simp [results, Tryd.results69, go_sem]) rfl ⟨C3, c3, rfl, HC3.out, HAT3.out, HB3.out, fun P hF _ _ _ b o e => hF b (HN3.out b o e)⟩

end Go.Proofs.YtdbomlclkhkinaaDoor
