/-
  FrameBack: for every up to twelve rows of one to 100 bytes, and every place: their frames, one behind the other, are told again, all of them; cut at the place, all that stand whole ahead of it, and no other one. No condition but that the table of the program's text lies where it is laid.
-/
import Derived.Test.YtalfjdlpmhmjkaaDoorFrmDoor
import Derived.Test.YtalfjdlpmhmjkaaDoorCopies
import Derived.Test.YtalfjdlpmhmjkaaDoorCards
import Derived.Test.YtalfjdlpmhmjkaaDoorTie
namespace Go.Proofs.YtalfjdlpmhmjkaaDoor.frameBack
open Go.ChangeShapes Go.WideShapes Go.ChangeAt Go.RowKit
set_option linter.unusedVariables false

theorem walkLong (A : Option Addr) (n cap cut : Nat) (h : 12 < n) (w : World) (hT : Hid (Tab w)) :
    Calls Tryd.prog 4 #[.slice A n cap, .int .u16 (cut : Int)] w fun e w' => e = .returned (.bool true) ∧ Below w.heap.size w w' := by
  have d1 : decide ((12 : Int) < (n : Int)) = true := by rw [decide_eq_true_iff]; omega
  go_enter Tryd.func4, Tryd.ntmps4
  go_wp2_with fail
  refine (shown_below _ hT).mono ?_
  rintro e w1 ⟨rfl, hb⟩
  have HB := Lib.hid hb
  clear hb
  go_wp2_with fail
  go_ret
  exact ⟨rfl, HB.out⟩

theorem infoI : (Tryd.prog.info? 3).map (fun i => (i.zero, i.size, i.bytes)) = some (some (.int .i64 0), 1, 8) := by kernel_rfl
/-- Where the first n frames end. -/
def endsN (ll : List (List Nat)) (n : Nat) : List Value := (List.range n).map fun q => Value.int .i64 ((usedN (ll.take (q + 1)) : Nat) : Int)
theorem ends_next (ll : List (List Nat)) (n : Nat) : endsN ll (n + 1) = endsN ll n ++ [Value.int .i64 ((usedN (ll.take (n + 1)) : Nat) : Int)] := by simp [endsN, List.range_succ]
def Ends (w : World) (base : Nat) (v : Value) (n : Nat) (ll : List (List Nat)) : Prop := w.ownsRow base 3 1 v n (endsN ll n)
theorem apart {w : World} {b1 b2 t1 t2 s1 s2 n1 n2 : Nat} {v1 v2 : Value} {x1 x2 : List Value} (h1 : w.ownsRow b1 t1 s1 v1 n1 x1) (h2 : w.ownsRow b2 t2 s2 v2 n2 x2) (ht : t1 ≠ t2) : v1.ownBlock = none ∨ v1.ownBlock ≠ v2.ownBlock := by
  rcases h1.2 with ⟨rfl, _⟩ | ⟨g, cap, cur, rfl, _, hg, _⟩
  · exact .inl rfl
  · refine .inr fun e => ?_
    rcases h2.2 with ⟨rfl, _⟩ | ⟨g', cap', cur', rfl, _, hg', _⟩
    · simp [Value.ownBlock] at e
    · obtain rfl : g = g' := by simpa [Value.ownBlock] using e
      rw [hg] at hg'; simp at hg'; exact ht hg'.2
theorem wpList_append_end {ops : Array Oper} {rest : List Oper} {o : Oper} {a : Act} {w : World} {Q : Exit → Act → World → Prop} (hg : o.guard = none) (s x : Operand)
    (ho : o.op = .call { callee := .builtin .append, args := #[s, x], argTypes := #[35, 35] }) (base : Nat) (v : Value) (n : Nat) (ll : List (List Nat)) (hs : a.eval s = v) (hown : Ends w base v n ll)
    (ad : Addr) (c : Nat) (z : Int) (hx : a.eval x = .slice (some ad) 1 c) (hc : w.cell? ad = some (.int .i64 z)) (hz : z = ((usedN (ll.take (n + 1)) : Nat) : Int)) (hb : n + 1 ≤ 1000000000000) (hbase : base ≤ w.heap.size)
    (h : ∀ v' w', Ends w' base v' (n + 1) ll → w.grownBy w' v.ownBlock → wpList Tryd.prog ops Q rest (a.put o.dst v') w') : wpList Tryd.prog ops Q (o :: rest) a w := by
  obtain ⟨i, hi, hz0, hz1, hz2⟩ := info_parts infoI
  refine wpList_append_own w hg s x 35 ho base 3 i (.int .i64 0) 1 8 Tryd.underlying35 hi hz0 hz1 hz2 rfl (by decide) v n _ hs hown ad 1 c [.int .i64 z] hx rfl
    (fun j u hj => by
      have : j = 0 := by have := (List.getElem?_eq_some_iff.1 hj).1; simp at this; exact this
      subst this
      simp at hj; subst hj
      rw [Addr.add_zero']; exact hc) (fun u hu => by simp at hu; subst hu; rfl) (by unfold maxLen; omega) (by omega) hbase ?_
  intro v' w' hown' hgrow _
  exact h v' w' (by unfold Ends; rw [ends_next, ← hz]; exact hown') hgrow
def EndsAt (w : World) (a : Option Addr) (n : Nat) (ll : List (List Nat)) : Prop := ∀ q, q < n → ∃ g, a = some ⟨g, 0, none⟩ ∧ g < w.heap.size ∧ w.cell? ⟨g, q, none⟩ = some (.int .i64 ((usedN (ll.take (q + 1)) : Nat) : Int))
theorem Ends.at_ {w : World} {base : Nat} {v : Value} {n : Nat} {ll : List (List Nat)} (h : Ends w base v n ll) : ∃ A cap, v = .slice A n cap ∧ n ≤ cap ∧ EndsAt w A n ll := by
  have h0 := h
  unfold Ends at h
  rcases h.2 with ⟨rfl, rfl⟩ | ⟨g, cap, cur, rfl, _, hgb, hcap, _⟩
  · exact ⟨none, 0, rfl, Nat.le_refl _, fun q hq => by omega⟩
  · refine ⟨_, cap, rfl, hcap, fun q hq => ⟨g, rfl, (Array.getElem?_eq_some_iff.1 hgb).1, ?_⟩⟩
    have := h.cells (g := g) rfl q _ (show (endsN ll n)[q]? = some (.int .i64 ((usedN (ll.take (q + 1)) : Nat) : Int)) by simp [endsN, hq])
    rwa [Addr.add_lit, Nat.zero_add] at this
theorem EndsAt.later {w w' : World} {a : Option Addr} {n : Nat} {ll : List (List Nat)} (h : EndsAt w a n ll) (hb : Below w.heap.size w w') : EndsAt w' a n ll := fun q hq => by
  obtain ⟨g, e, hg, hc⟩ := h q hq
  exact ⟨g, e, Nat.lt_of_lt_of_le hg hb.size, (hb.cell (p := ⟨g, q, none⟩) hg).trans hc⟩

/-- Behind j frames: the text, and where they end. -/
def BaRel (w1 : World) (ll : List (List Nat)) (v ve i : Value) (wr : World) : Prop :=
  ∃ j : Nat, j ≤ ll.length ∧ i = .int .i64 (j : Int) ∧ Own wr w1.heap.size v (usedN (ll.take j)) (framesN (ll.take j)) ∧ Ends wr w1.heap.size ve j ll ∧ Below w1.heap.size w1 wr ∧ Fits ll 100 j
theorem BaRel.step {w1 w3 w4 w6 : World} {ll : List (List Nat)} {v ve v4 ve6 : Value} {j uj L : Nat} {fj xs : List Nat} {o : Obj} (hO : Own w3 w1.heap.size v uj fj) (hE : Ends w3 w1.heap.size ve j ll) (hB : Below w1.heap.size w1 w3)
    (h4 : Own w4 w1.heap.size v4 L xs) (g4 : w3.grownBy w4 v.ownBlock) :
    Ends (w4.alloc o) w1.heap.size ve j ll ∧ Below w1.heap.size w1 w4 ∧ (Ends w6 w1.heap.size ve6 (j + 1) ll → (w4.alloc o).grownBy w6 ve.ownBlock → Own w6 w1.heap.size v4 L xs ∧ Below w1.heap.size w1 w6) := by
  have hE4 : Ends w4 w1.heap.size ve j ll := World.ownsRow.kept hE g4 (apart hE hO.2 (by decide))
  have hB4 : Below w1.heap.size w1 w4 := hB.grown g4 hB.size (fun k hk => (hO.2.lt k hk).1)
  have hE5 : Ends (w4.alloc o) w1.heap.size ve j ll := World.ownsRow.alloc hE4 o
  refine ⟨hE5, hB4, fun h6 g6 => ⟨⟨h4.1, World.ownsRow.kept (h4.2.alloc o) g6 (apart (h4.2.alloc o) hE5 (by decide))⟩, ?_⟩⟩
  exact (hB4.alloc hB4.size o).grown g6 (by have := hB4.size; simp; omega) (fun k hk => (World.ownsRow.lt hE5 k hk).1)
/-- How many frames stand whole ahead of the cut. -/
def WhRel (ll : List (List Nat)) (n kk : Nat) (q : Value) : Prop := ∃ j : Nat, j ≤ n ∧ q = .int .i64 (j : Int) ∧ usedN (ll.take j) ≤ kk

set_option maxRecDepth 100000 in
set_option maxHeartbeats 8000000 in
theorem walkShort (A : Option Addr) (n cap cut : Nat) (ll : List (List Nat)) (h8 : n ≤ 12) (hc : n ≤ cap) (hcut : cut < 65536) (w : World) (hT : Hid (Tab w)) (hA : Hid (AtRows w A n ll)) :
    Calls Tryd.prog 4 #[.slice A n cap, .int .u16 (cut : Int)] w fun e w' => e = .returned (.bool true) ∧ Below w.heap.size w w' := by
  have d1 : decide ((12 : Int) < (n : Int)) = false := by rw [decide_eq_false_iff_not]; omega
  have HL : Hid (ll.length = n) := Lib.hid hA.out.1
  have HBY : Hid (∀ b ∈ ll, Bytes b) := Lib.hid hA.out.bytes
  go_enter Tryd.func4, Tryd.ntmps4
  go_wp2_with fail
  refine (shown_below _ hT).mono ?_
  rintro e w1 ⟨rfl, hb⟩
  have HB1 := Lib.hid hb
  have HA1 := Lib.hid (AtRows.later hA.out hb)
  have HT1 := Tab.later hT hb
  clear hb hA hT
  go_wp2_with fail
  clear d1
  go_loopw [6, 7, 8] (fun v ve i wr => BaRel w1 ll v ve i wr) (fun _ _ i _ => n - (intOf i).toNat)
  case atStart => exact ⟨0, Nat.zero_le _, rfl, ⟨fun x hx => by simp [framesN] at hx, World.ownsRow_nil _ _ _ _⟩, World.ownsRow_nil _ _ _ _, Below.refl _ _, fun q hq => by omega⟩
  case round =>
    obtain ⟨j, hj, rfl, hown, hends, hbel, hfit⟩ := hrel
    rw [HL.out] at hj
    have HO := Lib.hid hown
    have HE := Lib.hid hends
    have HB := Lib.hid hbel
    have HF := Lib.hid hfit
    clear hown hends hbel hfit
    by_cases hlt : j < n
    · obtain ⟨b, off, e2, hb2, hc2⟩ := HA1.out.2.2 (by omega)
      subst e2
      obtain ⟨Aj, lj, cj, hcell, _, hatj⟩ := hc2 j hlt
      have hcj := (HB.out.cell (p := ⟨b, off + j, none⟩) hb2).trans hcell
      have HAj := Lib.hid (hatj.below HB.out (Nat.le_refl _))
      have HTj := Tab.later HT1 HB.out
      have hus : usedN (ll.take j) ≤ 1272 := by have := Fits.used HF.out (by rw [HL.out]; omega); omega
      have EL : Hid ((ll.getD j []).length = lj) := Lib.hid hatj.1
      have E1 := Lib.hid (take_used (ll := ll) (k := j) (by rw [HL.out]; exact hlt))
      have E2 := Lib.hid (take_frames (ll := ll) (k := j) (by rw [HL.out]; exact hlt))
      have hlb : lj ≤ 9223372036854775807 := hatj.2.2.1
      clear hc2 hatj hcell
      by_cases hbad : lj < 1 ∨ 100 < lj
      · by_cases hl1 : lj < 1
        · have d1 : decide ((lj : Int) < 1) = true := by rw [decide_eq_true_iff]; omega
          clear hbad
          go_wp2_with fail
          go_ret
          exact ⟨rfl, HB1.out.trans (HB.out.mono HB1.out.size)⟩
        · have d1 : decide ((lj : Int) < 1) = false := by rw [decide_eq_false_iff_not]; omega
          have d2 : decide ((100 : Int) < (lj : Int)) = true := by rw [decide_eq_true_iff]; omega
          clear hbad
          go_wp2_with fail
          go_ret
          exact ⟨rfl, HB1.out.trans (HB.out.mono HB1.out.size)⟩
      have d1 : decide ((lj : Int) < 1) = false := by rw [decide_eq_false_iff_not]; omega
      have d2 : decide ((100 : Int) < (lj : Int)) = false := by rw [decide_eq_false_iff_not]; omega
      have hl1 : 1 ≤ lj := by omega
      have hl2 : lj ≤ 100 := by omega
      have HF2 := Lib.hid (HF.out.next (by rw [EL.out]; omega) (by rw [EL.out]; omega))
      clear hbad
      generalize ll.getD j [] = bj at *
      generalize usedN (ll.take j) = uj at *
      generalize framesN (ll.take j) = fj at *
      go_wp2_with fail
      refine (put_at Aj lj cj bj hl1 (by omega) wr HTj HAj).mono ?_
      rintro e w3 ⟨v3, rfl, hO3, hb3⟩
      obtain ⟨A3, k3, rfl, _, hat3⟩ := hO3.at_ (by omega)
      have HX3 := Lib.hid hat3
      have HO3 := Lib.hid (HO.out.later hb3)
      have HE3 : Hid (Ends w3 w1.heap.size u7 j ll) := Lib.hid (World.ownsRow.kept (row := none) HE.out ⟨hb3.os, hb3.tape, hb3.output, hb3.size, fun k hk _ => hb3.block k hk⟩ (by cases u7.ownBlock <;> simp))
      have HB3 := Lib.hid (HB.out.trans (hb3.mono HB.out.size))
      have hcj3 := (hb3.cell (p := ⟨b, off + j, none⟩) (World.block_lt_of_cell? _ ⟨b, off + j, none⟩ hcj)).trans hcj
      clear hO3 hat3 hb3 HO HB HE HTj HAj d1 d2 hcj
      have hL : uj + (lj + 6) ≤ 1400 := by omega
      have HLL : Hid (usedN (ll.take (j + 1)) = uj + (lj + 6)) := Lib.hid (by rw [E1.out, EL.out])
      go_wp2_with (first
        | (at_builtin; (refine wpList_append_new ?z1 (.tmp 65) (.tmp 66) ?z2 w1.heap.size u6 uj fj ?z3 HO3.out A3 (lj + 6) k3 (frameN bj) ?z4 HX3.out (uj + (lj + 6)) ?z5 (fj ++ frameN bj) ?z6 ?z7 ?z8 HB3.out.size ?_); (case z1 => rfl); (case z2 => rfl); (case z3 => rfl); (case z4 => rfl); (case z5 => rfl); (case z6 => rfl); (case z7 => omega); (case z8 => omega); (intro g4 c4 w4 hown4 hc4 hg4 hgrow4); have HS4 := Lib.hid (fun (w6 : World) (ve6 : Value) => BaRel.step (w6 := w6) (ve6 := ve6) (o := .cells #[.int .i64 ((uj : Int) + ((lj : Int) + 6))] 3) HO3.out HE3.out HB3.out hown4 hgrow4); have HO4 := Lib.hid hown4; have HX4 := Lib.hid (Boxed.new w4 3 (.int .i64 ((uj : Int) + ((lj : Int) + 6)))).cell; clear hown4 hgrow4)
        | (at_builtin; (refine wpList_append_end ?y1 (.tmp 68) (.tmp 71) ?y2 w1.heap.size u7 j ll ?y3 (HS4.out w4 u7).1 ⟨w4.heap.size, 0, none⟩ 1 _ ?y4 HX4.out ?y5 ?y6 ?y7 ?_); (case y1 => rfl); (case y2 => rfl); (case y3 => rfl); (case y4 => rfl); (case y5 => rw [HLL.out]; omega); (case y6 => omega); (case y7 => have := (HS4.out w4 u7).2.1.size; simp; omega); (intro ve6 w6 hends6 hgrow6); have H6 := Lib.hid ((HS4.out w6 ve6).2.2 hends6 hgrow6); have HE6 := Lib.hid hends6; clear hends6 hgrow6))
      go_roundw
      case rel => exact ⟨j + 1, by rw [HL.out]; omega, by go_num, by rw [HLL.out, E2.out]; exact H6.out.1, HE6.out, H6.out.2, HF2.out⟩
      case measure => simp [intOf]; omega
    · obtain rfl : j = n := by omega
      have hO := HO.out
      rw [List.take_of_length_le (by rw [HL.out]; exact Nat.le_refl _)] at hO
      have hmay := HF.out
      rw [← HL.out] at hmay
      have HMAY := Lib.hid (Fits.may hmay (by omega) HBY.out)
      have hU : usedN ll ≤ 1272 := by
        have := Fits.used HF.out (by rw [HL.out]; exact Nat.le_refl _)
        rw [List.take_of_length_le (by rw [HL.out]; exact Nat.le_refl _)] at this; omega
      have HUS : Hid (∀ q, usedN (ll.take q) ≤ 1272) := Lib.hid (fun q => Nat.le_trans (used_take_le ll q) hU)
      obtain ⟨As, cs, e6, hcs, hats⟩ := hO.at_ (by omega)
      subst e6
      obtain ⟨Ae, ce, e7, hce, hate⟩ := HE.out.at_
      subst e7
      have HS := Lib.hid hats
      have HEA := Lib.hid hate
      have HTw := Tab.later HT1 HB.out
      have HAw := Lib.hid (AtRows.later HA1.out HB.out)
      have HBw := Lib.hid (HB1.out.trans (HB.out.mono HB1.out.size))
      have HSA : Hid (splitN (framesN ll) = ll) := Lib.hid (by have := split_frames [] HMAY.out; rwa [List.append_nil, split_short (s := []) (by decide), List.append_nil] at this)
      have HCUT : Hid (∀ k q, q ≤ ll.length → usedN (ll.take q) ≤ k → (q < ll.length → k < usedN (ll.take (q + 1))) → splitN ((framesN ll).take k) = ll.take q) := Lib.hid (fun k q h1 h2 h3 => split_cut HMAY.out h1 h2 h3)
      obtain ⟨kk, ekk⟩ : ∃ kk : Nat, kk = cut % (usedN ll + 1) := ⟨_, rfl⟩
      have er : (cut : Int) % ((usedN ll : Int) + 1) = (kk : Int) := by rw [ekk, Int.natCast_emod, Int.natCast_add]; rfl
      have hkk : kk ≤ usedN ll := by have := Nat.mod_lt cut (show 0 < usedN ll + 1 by omega); omega
      clear ekk hO hmay hats hate HO HE HF HBY HMAY HA1 HT1 HB HB1
      generalize hUU : usedN ll = U at *
      have HU := Lib.hid hUU
      clear hUU
      go_wp2_with fail
      rw [er]
      clear er
      go_loop [12] (fun q => WhRel ll j kk q) (fun q => j - (intOf q).toNat)
      case atStart => exact ⟨0, Nat.zero_le _, rfl, by simp [usedN]⟩
      case round =>
        obtain ⟨q, hq, rfl, hqk⟩ := hrel
        have HQK := Lib.hid hqk
        clear hqk
        by_cases hcont : q < j ∧ usedN (ll.take (q + 1)) ≤ kk
        · obtain ⟨hq1, hq2⟩ := hcont
          have HQ2 := Lib.hid hq2
          obtain ⟨ge, e9, hge, hce9⟩ := HEA.out q hq1
          subst e9
          generalize hug : usedN (ll.take (q + 1)) = uq at *
          have HUG := Lib.hid hug
          clear hug
          go_wp2_with fail
          go_round
          case rel => exact ⟨q + 1, by omega, by go_num, by rw [HUG.out]; exact HQ2.out⟩
          case measure => simp [intOf]; omega
        have HCQ := Lib.hid (HCUT.out kk q (by rw [HL.out]; exact hq) HQK.out (fun h => by rw [HL.out] at h; omega))
        by_cases hqj : q < j
        · have hq2 : kk < usedN (ll.take (q + 1)) := by omega
          obtain ⟨ge0, e9, hge0, hce0⟩ := HEA.out q hqj
          have hus := HUS.out (q + 1)
          subst e9
          generalize usedN (ll.take (q + 1)) = uq at *
          have dq : decide (uq ≤ kk) = false := by rw [decide_eq_false_iff_not]; omega
          clear hcont
          go_wp2_with fail
          (with_reducible refine (split_at As U cs (framesN ll) hcs (by omega) wr HTw HS).mono ?_)
          rintro e w5 ⟨v5, rfl, hO5, hb5⟩
          rw [HSA.out] at hO5
          rw [HSA.out, HU.out]
          obtain ⟨A5, k5, rfl, _, hat5⟩ := hO5.at_ (by have := HL.out; omega)
          have HR5 := Lib.hid hat5
          have HS5 := Lib.hid ((AtB.later HS hb5).ahead kk hkk)
          have HA5 := Lib.hid (AtRows.later HAw.out hb5)
          have HE5 := Lib.hid (EndsAt.later HEA.out hb5)
          have HT5 := Tab.later HTw hb5
          have HB5 := Lib.hid (HBw.out.trans (hb5.mono HBw.out.size))
          clear hO5 hat5 hb5 HS HAw HEA HTw HBw
          rw [HL.out]
          go_wp2_with fail
          (with_reducible refine (split_at As kk cs ((framesN ll).take kk) (by omega) (by omega) w5 HT5 HS5).mono ?_)
          rintro e w6 ⟨v6, rfl, hO6, hb6⟩
          rw [HCQ.out] at hO6
          rw [HCQ.out]
          have hO6' : OwnRows w6 w5.heap.size v6 q (ll.take q) := by rwa [List.length_take, Nat.min_eq_left (by have := HL.out; omega)] at hO6
          obtain ⟨A6, k6, rfl, _, hat6⟩ := hO6'.at_ (by omega)
          have HR6 := Lib.hid (AtRows.later HR5.out hb6)
          have HS6 := Lib.hid hat6
          have HA6 := Lib.hid (AtRows.later HA5.out hb6)
          have HP6 := Lib.hid (HA6.out.ahead q (by omega))
          have HE6 := Lib.hid (EndsAt.later HE5.out hb6)
          have HB6 := Lib.hid (HB5.out.trans (hb6.mono HB5.out.size))
          rw [HL.out] at HR6
          clear hO6 hO6' hat6 hb6 HR5 HS5 HA5 HE5 HT5 HB5
          by_cases hq0 : q = 0
          · have HUQ : Hid (usedN (ll.take q) = 0) := Lib.hid (by rw [hq0]; simp [usedN])
            rw [HUQ.out]
            have q1 : decide ((0 : Int) < (q : Int)) = false := by rw [decide_eq_false_iff_not]; omega
            have q2 : decide (0 < q) = false := by rw [decide_eq_false_iff_not]; omega
            clear hq0
            generalize ll.take q = lq at *
            go_wp2_with fail
            (with_reducible refine (rows_at A5 A _ k5 cap ll w6 HR6.out HA6.out).mono ?_)
            rintro e w7 ⟨rfl, m7, rfl⟩
            go_wp2_with fail
            (with_reducible refine (rows_at A6 A q k6 cap lq _ (AtRows.drewN HS6.out m7) (AtRows.drewN HP6.out m7)).mono ?_)
            rintro e w8 ⟨rfl, m8, rfl⟩
            go_wp2_with fail
            go_ret
            first | exact ⟨rfl, below_quiet HB6.out _⟩ | exact ⟨rfl, below_quiet (below_quiet HB6.out m7) m8⟩
          · obtain ⟨p, hp⟩ : ∃ p, q = p + 1 := ⟨q - 1, by omega⟩
            obtain ⟨ge, e9, hge, hce9⟩ := HE6.out p (by omega)
            first | subst e9 | (simp only [Option.some.injEq, Addr.mk.injEq, and_true] at e9; subst e9)
            rw [← hp] at hce9
            have q1 : decide ((0 : Int) < (q : Int)) = true := by rw [decide_eq_true_iff]; omega
            have q2 : decide (0 < q) = true := by rw [decide_eq_true_iff]; omega
            have q3 : (q : Int) - 1 = (p : Int) := by omega
            have q4 : p < q := by omega
            have q5 : (p : Int) < (q : Int) := by omega
            clear hq0 hp
            generalize ll.take q = lq at *
            generalize usedN lq = uq2 at *
            go_wp2_with fail
            (with_reducible refine (rows_at A5 A _ k5 cap ll w6 HR6.out HA6.out).mono ?_)
            rintro e w7 ⟨rfl, m7, rfl⟩
            go_wp2_with fail
            (with_reducible refine (rows_at A6 A q k6 cap lq _ (AtRows.drewN HS6.out m7) (AtRows.drewN HP6.out m7)).mono ?_)
            rintro e w8 ⟨rfl, m8, rfl⟩
            go_wp2_with fail
            go_ret
            first | exact ⟨rfl, below_quiet HB6.out _⟩ | exact ⟨rfl, below_quiet (below_quiet HB6.out m7) m8⟩
        · obtain rfl : q = j := by omega
          clear hcont hqj
          go_wp2_with fail
          (with_reducible refine (split_at As U cs (framesN ll) hcs (by omega) wr HTw HS).mono ?_)
          rintro e w5 ⟨v5, rfl, hO5, hb5⟩
          rw [HSA.out] at hO5
          rw [HSA.out, HU.out]
          obtain ⟨A5, k5, rfl, _, hat5⟩ := hO5.at_ (by have := HL.out; omega)
          have HR5 := Lib.hid hat5
          have HS5 := Lib.hid ((AtB.later HS hb5).ahead kk hkk)
          have HA5 := Lib.hid (AtRows.later HAw.out hb5)
          have HE5 := Lib.hid (EndsAt.later HEA.out hb5)
          have HT5 := Tab.later HTw hb5
          have HB5 := Lib.hid (HBw.out.trans (hb5.mono HBw.out.size))
          clear hO5 hat5 hb5 HS HAw HEA HTw HBw
          rw [HL.out]
          go_wp2_with fail
          (with_reducible refine (split_at As kk cs ((framesN ll).take kk) (by omega) (by omega) w5 HT5 HS5).mono ?_)
          rintro e w6 ⟨v6, rfl, hO6, hb6⟩
          rw [HCQ.out] at hO6
          rw [HCQ.out]
          have hO6' : OwnRows w6 w5.heap.size v6 q (ll.take q) := by rwa [List.length_take, Nat.min_eq_left (by have := HL.out; omega)] at hO6
          obtain ⟨A6, k6, rfl, _, hat6⟩ := hO6'.at_ (by omega)
          have HR6 := Lib.hid (AtRows.later HR5.out hb6)
          have HS6 := Lib.hid hat6
          have HA6 := Lib.hid (AtRows.later HA5.out hb6)
          have HP6 := Lib.hid (HA6.out.ahead q (by omega))
          have HE6 := Lib.hid (EndsAt.later HE5.out hb6)
          have HB6 := Lib.hid (HB5.out.trans (hb6.mono HB5.out.size))
          rw [HL.out] at HR6
          clear hO6 hO6' hat6 hb6 HR5 HS5 HA5 HE5 HT5 HB5
          by_cases hq0 : q = 0
          · have HUQ : Hid (usedN (ll.take q) = 0) := Lib.hid (by rw [hq0]; simp [usedN])
            rw [HUQ.out]
            have q1 : decide ((0 : Int) < (q : Int)) = false := by rw [decide_eq_false_iff_not]; omega
            have q2 : decide (0 < q) = false := by rw [decide_eq_false_iff_not]; omega
            clear hq0
            generalize ll.take q = lq at *
            go_wp2_with fail
            (with_reducible refine (rows_at A5 A _ k5 cap ll w6 HR6.out HA6.out).mono ?_)
            rintro e w7 ⟨rfl, m7, rfl⟩
            go_wp2_with fail
            (with_reducible refine (rows_at A6 A q k6 cap lq _ (AtRows.drewN HS6.out m7) (AtRows.drewN HP6.out m7)).mono ?_)
            rintro e w8 ⟨rfl, m8, rfl⟩
            go_wp2_with fail
            go_ret
            first | exact ⟨rfl, below_quiet HB6.out _⟩ | exact ⟨rfl, below_quiet (below_quiet HB6.out m7) m8⟩
          · obtain ⟨p, hp⟩ : ∃ p, q = p + 1 := ⟨q - 1, by omega⟩
            obtain ⟨ge, e9, hge, hce9⟩ := HE6.out p (by omega)
            first | subst e9 | (simp only [Option.some.injEq, Addr.mk.injEq, and_true] at e9; subst e9)
            rw [← hp] at hce9
            have q1 : decide ((0 : Int) < (q : Int)) = true := by rw [decide_eq_true_iff]; omega
            have q2 : decide (0 < q) = true := by rw [decide_eq_true_iff]; omega
            have q3 : (q : Int) - 1 = (p : Int) := by omega
            have q4 : p < q := by omega
            have q5 : (p : Int) < (q : Int) := by omega
            clear hq0 hp
            generalize ll.take q = lq at *
            generalize usedN lq = uq2 at *
            go_wp2_with fail
            (with_reducible refine (rows_at A5 A _ k5 cap ll w6 HR6.out HA6.out).mono ?_)
            rintro e w7 ⟨rfl, m7, rfl⟩
            go_wp2_with fail
            (with_reducible refine (rows_at A6 A q k6 cap lq _ (AtRows.drewN HS6.out m7) (AtRows.drewN HP6.out m7)).mono ?_)
            rintro e w8 ⟨rfl, m8, rfl⟩
            go_wp2_with fail
            go_ret
            first | exact ⟨rfl, below_quiet HB6.out _⟩ | exact ⟨rfl, below_quiet (below_quiet HB6.out m7) m8⟩

set_option maxRecDepth 100000 in
theorem lifted (os : Os) (started : os.Started) (H : Type) (enc : TypeId × Value → H) :
    ReturnsInHanded {} Tryd.checked os 4 .any (fun w args => (Rows.frameBackSpec.pre enc Tryd.prog Tryd.f4 [] false w args ∧ laidMetH Tryd.prog laidHalf w) ∧ sizedMet enc Tryd.prog Tryd.f4 (OpenSpec.ofChange Rows.frameBackSpec) false w args)
      (Rows.frameBackSpec.post enc Tryd.prog Tryd.f4 false true false false) := by
  refine law_lifted_laid (C := Tryd.checked) (X := fun w _ => laidMetH Tryd.prog laidHalf w) (fun _ _ _ hh h => h.of_heap hh) own started (by kernel_rfl) Tryd.func4
    (ChangeSpec.witness_shaped (enc := enc) (C := Tryd.checked) (os := os) (X := fun w _ => laidMetH Tryd.prog laidHalf w) false (World.doorLaid Tryd.prog 400 os) #[.slice none 0 0, .int .u16 0] 8 rfl (World.shaped_of_RefB (by kernel_rfl) (by kernel_rfl)) (by kernel_rfl) (by kernel_rfl) (by kernel_rfl) (door_met os _))
    (by kernel_rfl) (by kernel_rfl) Tryd.underlying4 rfl (by kernel_rfl) ?_
  intro W base args ds before hval hA _ hlt hL
  have hT := Lib.hid (tab_of_laid hL)
  have hA' : DataW.TrodAll enc Tryd.prog W 0 (fun _ => true) true Tryd.f4.params.toList args.toList ds before := hA
  have hval' : ∀ (j : Nat) t v, Tryd.f4.params[j]? = some t → args[j]? = some v → Value.okWide Tryd.prog W .any base t v := hval
  rw [Tryd.params4] at hA' hval'
  obtain ⟨v0, vs0, d0, ds0, p0, q0, hargs, rfl, rfl, h0, r0⟩ := trodAll_cons hA'
  obtain ⟨v1, vs1, d1, ds1, p1, q1, rfl, rfl, rfl, h1, r1⟩ := trodAll_cons r0
  obtain ⟨rfl, rfl, rfl⟩ := trodAll_nil r1
  obtain rfl : args = #[v0, v1] := by cases args; simp_all
  obtain ⟨Al, lenl, capl, l, rfl, hcl, hatl⟩ := open_rows (hval' 0 29 v0 rfl rfl) h0 (fun x hx => hlt x (by simp [hx]))
  obtain ⟨cut, rfl, _, rfl, w1⟩ := open_int Tryd.underlying34 (hval' 1 34 v1 rfl rfl) h1
  have b1 := wf_u16 w1
  obtain ⟨cut, rfl⟩ := Int.eq_ofNat_of_zero_le b1.1
  refine ⟨rfl, ?_⟩
  by_cases h1 : 12 < lenl
  · exact walkLong Al lenl capl cut h1 W hT
  · exact walkShort Al lenl capl cut l (by omega) hcl (by omega) W hT (Lib.hid hatl)

theorem over : Rows.frameBackRow.holds Tryd.pinned (OpenSpec.ofChange Rows.frameBackSpec) :=
  OpenClaim.holds_of_wide 4 Tryd.f4 rfl rfl rfl rfl rfl rfl rfl ⟨rfl, rfl, rfl, rfl, rfl⟩ rfl rfl rfl rfl rfl (by kernel_rfl) Tryd.func4 (by kernel_rfl)
    (of_decide_eq_true (by kernel_rfl)) (by unfold Func.isWrapper; first | (rw [if_pos (by decide +kernel)]; kernel_rfl) | (rw [if_neg (by decide +kernel)]; exact ⟨rfl, rfl⟩))
    (fun os started H enc _ => lifted os started H enc)

/-- The statement: the card, tied to the program's text. -/
theorem proved : Rows.FrameBackCardSaid :=
  Claim7.holds_tied_plain_at .later [] [.data] true (true, "9b6314bd2c376ad85478bd446ba648b9fdee3dca184135e774d1516cf3558f15") false
    over (fun _ h => by cases h) (by kernel_rfl) (fun _ h => by cases h) frameBack_row_tie rfl ⟨rfl, rfl⟩ (by kernel_rfl) rfl
    (fun f fn hf hfn => by
      obtain rfl : f = 4 := Option.some.inj ((show Tryd.prog.funcNamed "weald/wealdlaw04.FrameBack" = some 4 by kernel_rfl).symm.trans hf) |>.symm
      obtain rfl : fn = Tryd.f4 := (Option.some.inj (Tryd.func4.symm.trans hfn)).symm
      exact ⟨by kernel_rfl, fun j t ht => by
        rw [Tryd.params4] at ht
        have hm : t ∈ [29, 34] := by simpa using Array.mem_of_getElem? ht
        have hall : ([29, 34].all fun u => !Tryd.prog.wantsStandIn u) = true := by kernel_rfl
        exact (show Tryd.prog.wantsStandIn t = false by simpa using List.all_eq_true.1 hall t hm)⟩)
    (by kernel_rfl)
#print axioms proved
end Go.Proofs.YtalfjdlpmhmjkaaDoor.frameBack
