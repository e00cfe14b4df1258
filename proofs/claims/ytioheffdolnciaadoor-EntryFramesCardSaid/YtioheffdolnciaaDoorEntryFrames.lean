/-
  EntryFrames: entries as bytes, as frames, one behind the other, are told again, as they were, by frames and entries; for every row of up to 12 entries. No condition but that the table of the program's text lies where it is laid.
-/
import Derived.Test.YtioheffdolnciaaDoorEntDoor
import Derived.Test.YtioheffdolnciaaDoorCards
import Derived.Test.YtioheffdolnciaaDoorTie
namespace Go.Proofs.YtioheffdolnciaaDoor.entryFrames
open Go.ChangeShapes Go.WideShapes Go.ChangeAt Go.RowKit
set_option linter.unusedVariables false

theorem walkLong (A : Option Addr) (len cap : Nat) (h : 12 < len) (w : World) :
    Calls Tryd.prog 3 #[.slice A len cap] w fun e w' => e = .returned (.bool true) ∧ Below w.heap.size w w' := by
  have d1 : decide ((12 : Int) < (len : Int)) = true := by rw [decide_eq_true_iff]; omega
  clear h
  go_enter Tryd.func3, Tryd.ntmps3
  go_wp2_with fail
  refine (shown_below _).mono ?_
  rintro e w1 ⟨rfl, hb⟩
  have HB := Lib.hid hb
  clear hb
  go_wp2_with fail
  go_ret
  exact ⟨rfl, HB.out⟩

set_option maxRecDepth 100000 in
set_option maxHeartbeats 8000000 in
theorem walk (A : Option Addr) (len cap : Nat) (es : List Ent) (l1 : len ≤ 12) (w : World) (hT : Hid (Tab w)) (hA : Hid (EntsAt w A len es)) :
    Calls Tryd.prog 3 #[.slice A len cap] w fun e w' => e = .returned (.bool true) ∧ Below w.heap.size w w' := by
  have d1 : decide ((12 : Int) < (len : Int)) = false := by rw [decide_eq_false_iff_not]; omega
  have HL : Hid (es.length = len) := Lib.hid hA.out.1
  have HFIT : Hid (∀ e ∈ es, e.fit) := Lib.hid hA.out.2.1
  go_enter Tryd.func3, Tryd.ntmps3
  go_wp2_with fail
  refine (shown_below _).mono ?_
  rintro e w1 ⟨rfl, hb⟩
  have HB1 := Lib.hid hb
  have HE1 := Lib.hid (hA.out.later hb)
  have HT1 := Tab.later hT hb
  clear hb hA hT
  go_wp2_with fail
  go_loopw [4, 5] (fun sv i wr => ∃ j : Nat, j ≤ len ∧ i = .int .i64 j ∧ FrRel w1 wr es sv j) (fun _ i _ => len - (intOf i).toNat)
  case atStart => exact ⟨0, Nat.zero_le _, rfl, fun e he => by simp at he, ⟨fun x hx => by simp [rowsE, framesN] at hx, World.ownsRow_nil _ _ _ _⟩, Below.refl _ _⟩
  case round =>
    obtain ⟨j, hj, rfl, hrel⟩ := hrel
    have HR := Lib.hid hrel
    have HEr := Lib.hid (HE1.out.later hrel.2.2)
    have HTr := Tab.later HT1 hrel.2.2
    clear hrel
    by_cases hlt : j < len
    · have HO0 := Lib.hid HR.out.2.1
      have HB0 : Hid (Below w.heap.size w wr) := Lib.hid (HB1.out.trans (HR.out.2.2.mono HB1.out.size))
      have hUle : usedN (rowsE (es.take j)) ≤ 564 := by
        have := rows_used_le (es := es.take j)
        have h2 := List.length_take_le j es
        omega
      obtain ⟨e, he⟩ : ∃ e, es[j]? = some e := ⟨es[j]'(by rw [HL.out]; exact hlt), List.getElem?_eq_getElem _⟩
      have hfit := HFIT.out e (List.mem_of_getElem? he)
      obtain ⟨b, off, rfl, hbl, hce⟩ := HEr.out.2.2.2 (by omega)
      have i1 : (0 : Int) ≤ (j : Int) := by omega
      have i2 : (j : Int) < (len : Int) := by omega
      obtain ⟨k, s, y, u, v, x⟩ := e
      obtain ⟨hc0, hc1, hc2, hc3, hc4, hc5⟩ := hce j _ he
      have HM := fun w => refMay_any k s y u v x hfit.2.1 w
      have HST : Hid (∀ w' v', (Ent.mk k s y u v x).may → Own w' w1.heap.size v' (usedN (rowsE (es.take j)) + ((Ent.mk k s y u v x).bytes.length + 6)) (framesN (rowsE (es.take j)) ++ frameN (Ent.mk k s y u v x).bytes) → Below w1.heap.size w1 w' → FrRel w1 w' es v' (j + 1)) :=
        Lib.hid (fun w' v' hm hO hB => HR.out.step he hm hO hB)
      have HCE : Hid (∀ w', Below wr.heap.size wr w' → b < w'.heap.size ∧ CellsE w' b (off + j * 6) (Ent.mk k s y u v x)) := Lib.hid (fun w' hb => ⟨Nat.lt_of_lt_of_le hbl hb.size, (hce j _ he).below hb hbl⟩)
      have HRB : Hid (Below w1.heap.size w1 wr) := Lib.hid HR.out.2.2
      clear he hce HR HEr HFIT HE1 HT1
      by_cases hm : (Ent.mk k s y u v x).mayB = true
      · have hmm : (Ent.mk k s y u v x).may := of_decide_eq_true hm
        have hbp := Ent.bytes_pos (Ent.mk k s y u v x)
        have HEN := fun w => encode_yes k s y u v x hfit hm _ _ rfl rfl w
        have HS2 : Hid (∀ w' v', Own w' w1.heap.size v' (usedN (rowsE (es.take j)) + ((Ent.mk k s y u v x).bytes.length + 6)) (framesN (rowsE (es.take j)) ++ frameN (Ent.mk k s y u v x).bytes) → Below w1.heap.size w1 w' → FrRel w1 w' es v' (j + 1)) := Lib.hid (fun w' v' h1 h2 => HST.out w' v' hmm h1 h2)
        rw [hm] at HM
        clear hm hmm HST hfit
        generalize (Ent.mk k s y u v x).bytes = ys at *
        generalize ys.length = n at *
        generalize usedN (rowsE (es.take j)) = U at *
        generalize framesN (rowsE (es.take j)) = X at *
        go_wp2_with fail
        (with_reducible refine (HM _).mono ?_)
        rintro e w2 ⟨rfl, hb2⟩
        have HB2 : Hid (Below wr.heap.size wr w2) := Lib.hid hb2
        obtain ⟨hbl2, gc0, gc1, gc2, gc3, gc4, gc5⟩ := HCE.out w2 hb2
        clear hb2 hc0 hc1 hc2 hc3 hc4 hc5 HM
        go_wp2_with fail
        (with_reducible refine (HEN _).mono ?_)
        rintro e w3 ⟨v3, rfl, hO3, hb3⟩
        obtain ⟨A3, k3, rfl, hk3, hat3⟩ := hO3.at_ (by omega)
        have HB3 : Hid (Below wr.heap.size wr w3) := Lib.hid (HB2.out.trans (hb3.mono HB2.out.size))
        have HA3 := Lib.hid hat3
        have HT3 := Tab.later HTr HB3.out
        clear hb3 hO3 hat3 HEN HB2 gc0 gc1 gc2 gc3 gc4 gc5
        go_wp2_with fail
        (with_reducible refine (put_at A3 n k3 ys hbp.1 (by omega) w3 HT3 HA3).mono ?_)
        rintro e w4 ⟨v4, rfl, hO4, hb4⟩
        obtain ⟨A4, k4, rfl, hk4, hat4⟩ := hO4.at_ (by omega)
        have HB4 : Hid (Below wr.heap.size wr w4) := Lib.hid (HB3.out.trans (hb4.mono HB3.out.size))
        have HA4 := Lib.hid hat4
        have HW4 := Lib.hid (HRB.out.trans (HB4.out.mono HRB.out.size))
        have HO4 := Lib.hid (HO0.out.later HB4.out)
        clear hb4 hO4 hat4 HB3 HA3 HT3
        go_wp2_with (at_builtin; (refine wpList_append_bytes (by rfl) (.tmp 52) (.tmp 53) (by rfl) w1.heap.size u4 U X (by rfl) HO4.out A4 (n + 6) k4 (frameN ys) (by rfl) HA4.out (by omega) HW4.out.size ?_); (intro v5 w5 hown5 hgrow5; have S5 := Lib.hid (HS2.out w5 v5 hown5 (HW4.out.grown hgrow5 HW4.out.size (fun k hk => (HO4.out.2.lt k hk).1))); clear hown5 hgrow5))
        go_roundw
        case rel => exact ⟨j + 1, by omega, by go_num, S5.out⟩
        case measure => simp [intOf]; omega
      · have hm' : (Ent.mk k s y u v x).mayB = false := by simpa using hm
        rw [hm'] at HM
        clear hm hm' HST
        go_wp2_with fail
        (with_reducible refine (HM _).mono ?_)
        rintro e w2 ⟨rfl, hb2⟩
        have HB2 := Lib.hid (HB0.out.trans (hb2.mono HB0.out.size))
        clear hb2
        go_wp2_with fail
        go_ret
        exact ⟨rfl, HB2.out⟩
    · obtain rfl : j = len := by omega
      have HALL : Hid (∀ e ∈ es, e.may) := Lib.hid (by have := HR.out.1; rwa [List.take_of_length_le (by rw [HL.out]; exact Nat.le_refl _)] at this)
      have hO := HR.out.2.1
      rw [List.take_of_length_le (by rw [HL.out]; exact Nat.le_refl _)] at hO
      have hUle : usedN (rowsE es) ≤ 564 := by
        have := rows_used_le (es := es)
        have := HL.out
        omega
      have hsp := rows_split HALL.out
      have HRL : Hid ((rowsE es).length = j) := Lib.hid (by rw [rowsE_length]; exact HL.out)
      have HGET : Hid (∀ q e, es[q]? = some e → (rowsE es).getD q [] = e.bytes) := Lib.hid (fun q e h => rows_get h)
      obtain ⟨A4, k4, rfl, hk4, hat4⟩ := hO.at_ (by omega)
      have HA4 := Lib.hid hat4
      have HSP : Hid (Calls Tryd.prog 8 #[.slice A4 (usedN (rowsE es)) k4] wr (SplitPost wr (framesN (rowsE es)))) := Lib.hid (split_at A4 _ k4 _ hk4 (by omega) wr HTr HA4)
      have HB0 : Hid (Below w.heap.size w wr) := Lib.hid (HB1.out.trans (HR.out.2.2.mono HB1.out.size))
      unfold SplitPost at HSP
      rw [hsp] at HSP
      clear hO hat4 HA4 HR hsp HE1 HT1 HTr hk4 hlt hj
      generalize usedN (rowsE es) = U at *
      generalize framesN (rowsE es) = X at *
      generalize rowsE es = bl at *
      go_wp2_with fail
      refine HSP.out.mono ?_
      rintro e w6 ⟨v6, rfl, hO6, hb6⟩
      rw [HRL.out] at hO6
      obtain ⟨A6, k6, rfl, hk6, hat6⟩ := hO6.atC
      have HB6 := Lib.hid (HB0.out.trans (hb6.mono HB0.out.size))
      have HE6 := Lib.hid (HEr.out.later hb6)
      have HX6 := Lib.hid hat6
      clear hb6 hO6 hat6 HSP HB0 HEr HRL
      go_wp2_with fail
      go_loopw [12] (fun i wr => ∃ q : Nat, q ≤ j ∧ i = .int .i64 q ∧ Below w6.heap.size w6 wr) (fun i _ => j - (intOf i).toNat)
      case atStart => exact ⟨0, Nat.zero_le _, rfl, Below.refl _ _⟩
      case round =>
        obtain ⟨q, hq, rfl, hb⟩ := hrel
        have HQ : Hid (Below w6.heap.size w6 wr) := Lib.hid hb
        clear hb
        by_cases hlt : q < j
        · obtain ⟨e, he⟩ : ∃ e, es[q]? = some e := ⟨es[q]'(by rw [HL.out]; exact hlt), List.getElem?_eq_getElem _⟩
          have hfit := HFIT.out e (List.mem_of_getElem? he)
          have hmay := HALL.out e (List.mem_of_getElem? he)
          have hrow := HGET.out q e he
          obtain ⟨b, off, rfl, hbl, hce⟩ := (HE6.out.later HQ.out).2.2.2 (by omega)
          obtain ⟨b2, off2, rfl, hbl2, hce2⟩ := (HX6.out.later HQ.out).2 (by omega)
          obtain ⟨Aq, lq, cq, hcellq, hlcq, hatq⟩ := hce2 q hlt
          rw [hrow] at hatq
          have HATQ := Lib.hid hatq
          have i1 : (0 : Int) ≤ (q : Int) := by omega
          have i2 : (q : Int) < (j : Int) := by omega
          obtain ⟨k, s, y, u, v, x⟩ := e
          have HCE : Hid (∀ w', Below wr.heap.size wr w' → b < w'.heap.size ∧ CellsE w' b (off + q * 6) (Ent.mk k s y u v x)) := Lib.hid (fun w' hb => ⟨Nat.lt_of_lt_of_le hbl hb.size, (hce q _ he).below hb hbl⟩)
          have hdb := dec_bytes hmay hfit
          have HDD : ∀ w', Hid (AtB w' Aq lq (Ent.mk k s y u v x).bytes) → Calls Tryd.prog 9 #[.slice Aq lq cq] w' (DecPost w' k s y u v x 0) := fun w' h => by
            have := decode_at Aq lq cq _ hlcq w' h
            rw [hdb.1, hdb.2] at this
            exact this
          clear hdb hce hce2 he hmay hfit hrow hatq HL HFIT HALL HGET HE6 HX6
          go_wp2_with fail
          (with_reducible refine (HDD _ HATQ).mono ?_)
          rintro e w7 ⟨rfl, hb7⟩
          obtain ⟨hbl7, gc0, gc1, gc2, gc3, gc4, gc5⟩ := HCE.out w7 hb7
          have HB7 : Hid (Below w6.heap.size w6 (w7.alloc (entO k s y u v x))) := Lib.hid (below_al (HQ.out.trans (hb7.mono HQ.out.size)))
          clear hb7 HCE HDD HATQ hcellq hbl hbl2
          go_wp2_with fail
          go_quiet (fail)
          go_wp2_with fail
          go_roundw
          case rel => exact ⟨q + 1, by omega, by go_num, below_quiet HB7.out _⟩
          case measure => simp [intOf]; omega
        · go_wp2_with fail
          go_ret
          exact ⟨rfl, HB6.out.trans (HQ.out.mono HB6.out.size)⟩

set_option maxRecDepth 100000 in
theorem lifted (os : Os) (started : os.Started) (H : Type) (enc : TypeId × Value → H) :
    ReturnsInHanded {} Tryd.checked os 3 .any (fun w args => (Rows.entryFramesSpec.pre enc Tryd.prog Tryd.f3 [] false w args ∧ laidMetH Tryd.prog laidHalf w) ∧ sizedMet enc Tryd.prog Tryd.f3 (OpenSpec.ofChange Rows.entryFramesSpec) false w args)
      (Rows.entryFramesSpec.post enc Tryd.prog Tryd.f3 false true false false) := by
  refine law_lifted_laid (C := Tryd.checked) (X := fun w _ => laidMetH Tryd.prog laidHalf w) (fun _ _ _ hh h => h.of_heap hh) own started (by kernel_rfl) Tryd.func3
    (ChangeSpec.witness_shaped (enc := enc) (C := Tryd.checked) (os := os) (X := fun w _ => laidMetH Tryd.prog laidHalf w) false (World.doorLaid Tryd.prog 400 os) #[.slice none 0 0] 8 rfl (World.shaped_of_RefB (by kernel_rfl) (by kernel_rfl)) (by kernel_rfl) (by kernel_rfl) (by kernel_rfl) (door_met os _))
    (by kernel_rfl) (by kernel_rfl) Tryd.underlying4 rfl (by kernel_rfl) ?_
  intro W base args ds before hval hA _ hlt hL
  have hT := Lib.hid (tab_of_laid hL)
  have hA' : DataW.TrodAll enc Tryd.prog W 0 (fun _ => true) true Tryd.f3.params.toList args.toList ds before := hA
  have hval' : ∀ (j : Nat) t v, Tryd.f3.params[j]? = some t → args[j]? = some v → Value.okWide Tryd.prog W .any base t v := hval
  rw [Tryd.params3] at hA' hval'
  obtain ⟨v0, vs0, d0, ds0, p0, q0, hargs, rfl, rfl, h0, r0⟩ := trodAll_cons hA'
  obtain ⟨rfl, rfl, rfl⟩ := trodAll_nil r0
  obtain rfl : args = #[v0] := by cases args; simp_all
  obtain ⟨Aes, lenes, capes, es, rfl, hates⟩ := open_ents (hval' 0 22 v0 rfl rfl) h0 (fun x hx => hlt x (by simp [hx]))
  refine ⟨rfl, ?_⟩
  by_cases h : 12 < lenes
  · exact walkLong Aes lenes capes h W
  · exact walk Aes lenes capes es (by omega) W hT (Lib.hid hates)

theorem over : Rows.entryFramesRow.holds Tryd.pinned (OpenSpec.ofChange Rows.entryFramesSpec) :=
  OpenClaim.holds_of_wide 3 Tryd.f3 rfl rfl rfl rfl rfl rfl rfl ⟨rfl, rfl, rfl, rfl, rfl⟩ rfl rfl rfl rfl rfl (by kernel_rfl) Tryd.func3 (by kernel_rfl)
    (of_decide_eq_true (by kernel_rfl)) (by unfold Func.isWrapper; first | (rw [if_pos (by decide +kernel)]; kernel_rfl) | (rw [if_neg (by decide +kernel)]; exact ⟨rfl, rfl⟩))
    (fun os started H enc _ => lifted os started H enc)

/-- The statement: the card, tied to the program's text. -/
theorem proved : Rows.EntryFramesCardSaid :=
  Claim7.holds_tied_plain_at .later [] [.data] true (true, "f8aef168667b8dd748779c6824038f0aef796eb20068793ecda99ff0e1e4fc2d") false
    over (fun _ h => by cases h) (by kernel_rfl) (fun _ h => by cases h) entryFrames_row_tie rfl ⟨rfl, rfl⟩ (by kernel_rfl) rfl
    (fun f fn hf hfn => by
      obtain rfl : f = 3 := Option.some.inj ((show Tryd.prog.funcNamed "weald/wealdlaw05.EntryFrames" = some 3 by kernel_rfl).symm.trans hf) |>.symm
      obtain rfl : fn = Tryd.f3 := (Option.some.inj (Tryd.func3.symm.trans hfn)).symm
      exact ⟨by kernel_rfl, fun j t ht => by
        rw [Tryd.params3] at ht
        have hm : t ∈ [22] := by simpa using Array.mem_of_getElem? ht
        have hall : ([22].all fun u => !Tryd.prog.wantsStandIn u) = true := by kernel_rfl
        exact (show Tryd.prog.wantsStandIn t = false by simpa using List.all_eq_true.1 hall t hm)⟩)
    (by kernel_rfl)
#print axioms proved
end Go.Proofs.YtioheffdolnciaaDoor.entryFrames
