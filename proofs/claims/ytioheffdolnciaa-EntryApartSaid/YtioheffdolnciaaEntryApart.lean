/-
  EntryApart: two entries that may be have the same bytes just if they are the same; for every two entries. No condition.
-/
import Derived.Test.YtioheffdolnciaaEntEq
import Derived.Test.YtioheffdolnciaaLaw
import Derived.Test.YtioheffdolnciaaEntOpen
namespace Go.Proofs.Ytioheffdolnciaa.entryApart
open Go.ChangeShapes Go.WideShapes Go.ChangeAt Go.RowKit
set_option linter.unusedVariables false
theorem own : ownKnob Try.prog.godebug = none := by kernel_rfl

set_option maxRecDepth 100000 in
set_option maxHeartbeats 4000000 in
theorem walkNo1 (ek : Int) (es ey eu ev ex : Nat) (fk : Int) (fs fy fu fv fx : Nat) (hf : (Ent.mk ek es ey eu ev ex).fit) (hg : (Ent.mk fk fs fy fu fv fx).fit) (hm : (Ent.mk ek es ey eu ev ex).mayB = false) (w : World) :
    Calls Try.prog 6 #[.agg #[.int .i64 ek, .int .u64 (es : Int), .int .u64 (ey : Int), .int .u64 (eu : Int), .int .u64 (ev : Int), .int .u64 (ex : Int)], .agg #[.int .i64 fk, .int .u64 (fs : Int), .int .u64 (fy : Int), .int .u64 (fu : Int), .int .u64 (fv : Int), .int .u64 (fx : Int)]] w fun e w' => e = .returned (.bool true) ∧ Below w.heap.size w w' := by
  have HM := fun w => refMay_any ek es ey eu ev ex hf.2.1 w
  have HN := fun w => refMay_any fk fs fy fu fv fx hg.2.1 w
  rw [hm] at HM
  clear hm
  go_enter Try.func6, Try.ntmps6
  go_wp2_with fail
  refine (shown_below _).mono ?_
  rintro e w1 ⟨rfl, hb⟩
  have HB1 := Lib.hid (below_box (below_box hb))
  have HE1 := Lib.hid ((EntAt.box w ek es ey eu ev ex).below (below_box hb))
  have hG0 := (EntAt.box (w.alloc (entO ek es ey eu ev ex)) fk fs fy fu fv fx).below hb
  have hG1 : EntAt w1 (w.heap.size + 1) fk fs fy fu fv fx := by simpa using hG0
  have HG1 := Lib.hid hG1
  clear hb hG0 hG1
  obtain ⟨hz1, hc10, hc11, hc12, hc13, hc14, hc15⟩ := HE1.out
  obtain ⟨gz1, gc10, gc11, gc12, gc13, gc14, gc15⟩ := HG1.out
  go_wp2_with fail
  (with_reducible refine (HM _).mono ?_)
  rintro e w2 ⟨rfl, hb⟩
  clear hz1 hc10 hc11 hc12 hc13 hc14 hc15 gz1 gc10 gc11 gc12 gc13 gc14 gc15
  have HB2 := Lib.hid (HB1.out.trans (hb.mono HB1.out.size))
  have HE2 := Lib.hid (HE1.out.below hb)
  have HG2 := Lib.hid (HG1.out.below hb)
  clear hb HB1 HE1 HG1
  obtain ⟨hz2, hc20, hc21, hc22, hc23, hc24, hc25⟩ := HE2.out
  obtain ⟨gz2, gc20, gc21, gc22, gc23, gc24, gc25⟩ := HG2.out
  go_wp2_with fail
  go_ret
  exact ⟨rfl, HB2.out⟩

set_option maxRecDepth 100000 in
set_option maxHeartbeats 4000000 in
theorem walkNo2 (ek : Int) (es ey eu ev ex : Nat) (fk : Int) (fs fy fu fv fx : Nat) (hf : (Ent.mk ek es ey eu ev ex).fit) (hg : (Ent.mk fk fs fy fu fv fx).fit) (hm : (Ent.mk ek es ey eu ev ex).mayB = true) (hn : (Ent.mk fk fs fy fu fv fx).mayB = false) (w : World) :
    Calls Try.prog 6 #[.agg #[.int .i64 ek, .int .u64 (es : Int), .int .u64 (ey : Int), .int .u64 (eu : Int), .int .u64 (ev : Int), .int .u64 (ex : Int)], .agg #[.int .i64 fk, .int .u64 (fs : Int), .int .u64 (fy : Int), .int .u64 (fu : Int), .int .u64 (fv : Int), .int .u64 (fx : Int)]] w fun e w' => e = .returned (.bool true) ∧ Below w.heap.size w w' := by
  have HM := fun w => refMay_any ek es ey eu ev ex hf.2.1 w
  have HN := fun w => refMay_any fk fs fy fu fv fx hg.2.1 w
  rw [hm] at HM
  rw [hn] at HN
  clear hm hn
  go_enter Try.func6, Try.ntmps6
  go_wp2_with fail
  refine (shown_below _).mono ?_
  rintro e w1 ⟨rfl, hb⟩
  have HB1 := Lib.hid (below_box (below_box hb))
  have HE1 := Lib.hid ((EntAt.box w ek es ey eu ev ex).below (below_box hb))
  have hG0 := (EntAt.box (w.alloc (entO ek es ey eu ev ex)) fk fs fy fu fv fx).below hb
  have hG1 : EntAt w1 (w.heap.size + 1) fk fs fy fu fv fx := by simpa using hG0
  have HG1 := Lib.hid hG1
  clear hb hG0 hG1
  obtain ⟨hz1, hc10, hc11, hc12, hc13, hc14, hc15⟩ := HE1.out
  obtain ⟨gz1, gc10, gc11, gc12, gc13, gc14, gc15⟩ := HG1.out
  go_wp2_with fail
  (with_reducible refine (HM _).mono ?_)
  rintro e w2 ⟨rfl, hb⟩
  clear hz1 hc10 hc11 hc12 hc13 hc14 hc15 gz1 gc10 gc11 gc12 gc13 gc14 gc15
  have HB2 := Lib.hid (HB1.out.trans (hb.mono HB1.out.size))
  have HE2 := Lib.hid (HE1.out.below hb)
  have HG2 := Lib.hid (HG1.out.below hb)
  clear hb HB1 HE1 HG1
  obtain ⟨hz2, hc20, hc21, hc22, hc23, hc24, hc25⟩ := HE2.out
  obtain ⟨gz2, gc20, gc21, gc22, gc23, gc24, gc25⟩ := HG2.out
  go_wp2_with fail
  (with_reducible refine (HN _).mono ?_)
  rintro e w3 ⟨rfl, hb⟩
  clear hz2 hc20 hc21 hc22 hc23 hc24 hc25 gz2 gc20 gc21 gc22 gc23 gc24 gc25
  have HB3 := Lib.hid (HB2.out.trans (hb.mono HB2.out.size))
  have HE3 := Lib.hid (HE2.out.below hb)
  have HG3 := Lib.hid (HG2.out.below hb)
  clear hb HB2 HE2 HG2
  obtain ⟨hz3, hc30, hc31, hc32, hc33, hc34, hc35⟩ := HE3.out
  obtain ⟨gz3, gc30, gc31, gc32, gc33, gc34, gc35⟩ := HG3.out
  go_wp2_with fail
  go_ret
  exact ⟨rfl, HB3.out⟩

set_option maxRecDepth 100000 in
set_option maxHeartbeats 4000000 in
theorem walkSame (ek : Int) (es ey eu ev ex : Nat) (fk : Int) (fs fy fu fv fx : Nat) (hf : (Ent.mk ek es ey eu ev ex).fit) (hg : (Ent.mk fk fs fy fu fv fx).fit) (hm : (Ent.mk ek es ey eu ev ex).mayB = true) (hn : (Ent.mk fk fs fy fu fv fx).mayB = true) (he : (Ent.mk ek es ey eu ev ex) = (Ent.mk fk fs fy fu fv fx)) (w : World) :
    Calls Try.prog 6 #[.agg #[.int .i64 ek, .int .u64 (es : Int), .int .u64 (ey : Int), .int .u64 (eu : Int), .int .u64 (ev : Int), .int .u64 (ex : Int)], .agg #[.int .i64 fk, .int .u64 (fs : Int), .int .u64 (fy : Int), .int .u64 (fu : Int), .int .u64 (fv : Int), .int .u64 (fx : Int)]] w fun e w' => e = .returned (.bool true) ∧ Below w.heap.size w w' := by
  have HM := fun w => refMay_any ek es ey eu ev ex hf.2.1 w
  have HN := fun w => refMay_any fk fs fy fu fv fx hg.2.1 w
  rw [hm] at HM
  rw [hn] at HN
  have kE : ∀ W, (binOp .eql 24 (.agg #[.int .i64 ek, .int .u64 (es : Int), .int .u64 (ey : Int), .int .u64 (eu : Int), .int .u64 (ev : Int), .int .u64 (ex : Int)]) (.agg #[.int .i64 fk, .int .u64 (fs : Int), .int .u64 (fy : Int), .int .u64 (fu : Int), .int .u64 (fv : Int), .int .u64 (fx : Int)])).run Try.prog W = .ok (.bool true) W := fun W => by
    have := run_eq_ent ek es ey eu ev ex fk fs fy fu fv fx W
    rw [decide_eq_true he] at this
    exact this
  have he1 : (Ent.mk ek es ey eu ev ex).may := of_decide_eq_true hm
  have hf1 : (Ent.mk fk fs fy fu fv fx).may := of_decide_eq_true hn
  have hb1 := Ent.bytes_pos (Ent.mk ek es ey eu ev ex)
  have hb2 := Ent.bytes_pos (Ent.mk fk fs fy fu fv fx)
  have HEN := fun w => encode_yes ek es ey eu ev ex hf hm _ _ rfl rfl w
  have HFN := fun w => encode_yes fk fs fy fu fv fx hg hn _ _ rfl rfl w
  rw [← he] at HFN
  clear he he1 hf1 hb2
  generalize (Ent.mk ek es ey eu ev ex).bytes = ys at *
  generalize ys.length = n at *
  clear hm hn
  go_enter Try.func6, Try.ntmps6
  go_wp2_with fail
  refine (shown_below _).mono ?_
  rintro e w1 ⟨rfl, hb⟩
  have HB1 := Lib.hid (below_box (below_box hb))
  have HE1 := Lib.hid ((EntAt.box w ek es ey eu ev ex).below (below_box hb))
  have hG0 := (EntAt.box (w.alloc (entO ek es ey eu ev ex)) fk fs fy fu fv fx).below hb
  have hG1 : EntAt w1 (w.heap.size + 1) fk fs fy fu fv fx := by simpa using hG0
  have HG1 := Lib.hid hG1
  clear hb hG0 hG1
  obtain ⟨hz1, hc10, hc11, hc12, hc13, hc14, hc15⟩ := HE1.out
  obtain ⟨gz1, gc10, gc11, gc12, gc13, gc14, gc15⟩ := HG1.out
  go_wp2_with fail
  (with_reducible refine (HM _).mono ?_)
  rintro e w2 ⟨rfl, hb⟩
  clear hz1 hc10 hc11 hc12 hc13 hc14 hc15 gz1 gc10 gc11 gc12 gc13 gc14 gc15
  have HB2 := Lib.hid (HB1.out.trans (hb.mono HB1.out.size))
  have HE2 := Lib.hid (HE1.out.below hb)
  have HG2 := Lib.hid (HG1.out.below hb)
  clear hb HB1 HE1 HG1
  obtain ⟨hz2, hc20, hc21, hc22, hc23, hc24, hc25⟩ := HE2.out
  obtain ⟨gz2, gc20, gc21, gc22, gc23, gc24, gc25⟩ := HG2.out
  go_wp2_with fail
  (with_reducible refine (HN _).mono ?_)
  rintro e w3 ⟨rfl, hb⟩
  clear hz2 hc20 hc21 hc22 hc23 hc24 hc25 gz2 gc20 gc21 gc22 gc23 gc24 gc25
  have HB3 := Lib.hid (HB2.out.trans (hb.mono HB2.out.size))
  have HE3 := Lib.hid (HE2.out.below hb)
  have HG3 := Lib.hid (HG2.out.below hb)
  clear hb HB2 HE2 HG2
  obtain ⟨hz3, hc30, hc31, hc32, hc33, hc34, hc35⟩ := HE3.out
  obtain ⟨gz3, gc30, gc31, gc32, gc33, gc34, gc35⟩ := HG3.out
  go_wp2_with fail
  (with_reducible refine (HEN _).mono ?_)
  rintro e w4 ⟨v4, rfl, hO, hb⟩
  obtain ⟨A4, k4, rfl, hk4, hat4⟩ := hO.at_ (by omega)
  have HA4 := Lib.hid hat4
  clear hO hat4
  clear hz3 hc30 hc31 hc32 hc33 hc34 hc35 gz3 gc30 gc31 gc32 gc33 gc34 gc35
  have HB4 := Lib.hid (HB3.out.trans (hb.mono HB3.out.size))
  have HE4 := Lib.hid (HE3.out.below hb)
  have HG4 := Lib.hid (HG3.out.below hb)
  clear hb HB3 HE3 HG3
  obtain ⟨hz4, hc40, hc41, hc42, hc43, hc44, hc45⟩ := HE4.out
  obtain ⟨gz4, gc40, gc41, gc42, gc43, gc44, gc45⟩ := HG4.out
  go_wp2_with fail
  (with_reducible refine (HFN _).mono ?_)
  rintro e w5 ⟨v5, rfl, hO, hb⟩
  obtain ⟨A5, k5, rfl, hk5, hat5⟩ := hO.at_ (by omega)
  have HA5 := Lib.hid (AtB.later HA4 hb)
  have s1 := fun q => run_str (AtB.drewN HA5.out q) k4
  have s2 := fun q => run_str (AtB.drewN hat5 q) k5
  clear hO hat5
  clear hz4 hc40 hc41 hc42 hc43 hc44 hc45 gz4 gc40 gc41 gc42 gc43 gc44 gc45
  have HB5 := Lib.hid (HB4.out.trans (hb.mono HB4.out.size))
  have HE5 := Lib.hid (HE4.out.below hb)
  have HG5 := Lib.hid (HG4.out.below hb)
  clear hb HB4 HE4 HG4 HA4
  obtain ⟨hz5, hc50, hc51, hc52, hc53, hc54, hc55⟩ := HE5.out
  obtain ⟨gz5, gc50, gc51, gc52, gc53, gc54, gc55⟩ := HG5.out
  generalize strN ys = S at *
  go_wp2_with fail
  go_quiet (fail)
  go_wp2_with fail
  go_ret
  exact ⟨rfl, below_quiet HB5.out _⟩

set_option maxRecDepth 100000 in
set_option maxHeartbeats 4000000 in
theorem walkOther (ek : Int) (es ey eu ev ex : Nat) (fk : Int) (fs fy fu fv fx : Nat) (hf : (Ent.mk ek es ey eu ev ex).fit) (hg : (Ent.mk fk fs fy fu fv fx).fit) (hm : (Ent.mk ek es ey eu ev ex).mayB = true) (hn : (Ent.mk fk fs fy fu fv fx).mayB = true) (he : (Ent.mk ek es ey eu ev ex) ≠ (Ent.mk fk fs fy fu fv fx)) (w : World) :
    Calls Try.prog 6 #[.agg #[.int .i64 ek, .int .u64 (es : Int), .int .u64 (ey : Int), .int .u64 (eu : Int), .int .u64 (ev : Int), .int .u64 (ex : Int)], .agg #[.int .i64 fk, .int .u64 (fs : Int), .int .u64 (fy : Int), .int .u64 (fu : Int), .int .u64 (fv : Int), .int .u64 (fx : Int)]] w fun e w' => e = .returned (.bool true) ∧ Below w.heap.size w w' := by
  have HM := fun w => refMay_any ek es ey eu ev ex hf.2.1 w
  have HN := fun w => refMay_any fk fs fy fu fv fx hg.2.1 w
  rw [hm] at HM
  rw [hn] at HN
  have kE : ∀ W, (binOp .eql 24 (.agg #[.int .i64 ek, .int .u64 (es : Int), .int .u64 (ey : Int), .int .u64 (eu : Int), .int .u64 (ev : Int), .int .u64 (ex : Int)]) (.agg #[.int .i64 fk, .int .u64 (fs : Int), .int .u64 (fy : Int), .int .u64 (fu : Int), .int .u64 (fv : Int), .int .u64 (fx : Int)])).run Try.prog W = .ok (.bool false) W := fun W => by
    have := run_eq_ent ek es ey eu ev ex fk fs fy fu fv fx W
    rw [decide_eq_false he] at this
    exact this
  have he1 : (Ent.mk ek es ey eu ev ex).may := of_decide_eq_true hm
  have hf1 : (Ent.mk fk fs fy fu fv fx).may := of_decide_eq_true hn
  have hb1 := Ent.bytes_pos (Ent.mk ek es ey eu ev ex)
  have hb2 := Ent.bytes_pos (Ent.mk fk fs fy fu fv fx)
  have HEN := fun w => encode_yes ek es ey eu ev ex hf hm _ _ rfl rfl w
  have HFN := fun w => encode_yes fk fs fy fu fv fx hg hn _ _ rfl rfl w
  have hne := strN_ne (Ent.bytes_ok he1) (Ent.bytes_ok hf1) (fun h => he (bytes_inj he1 hf1 hf hg h))
  clear he he1 hf1
  generalize (Ent.mk ek es ey eu ev ex).bytes = ys at *
  generalize (Ent.mk fk fs fy fu fv fx).bytes = zs at *
  generalize ys.length = n at *
  generalize zs.length = m at *
  clear hm hn
  go_enter Try.func6, Try.ntmps6
  go_wp2_with fail
  refine (shown_below _).mono ?_
  rintro e w1 ⟨rfl, hb⟩
  have HB1 := Lib.hid (below_box (below_box hb))
  have HE1 := Lib.hid ((EntAt.box w ek es ey eu ev ex).below (below_box hb))
  have hG0 := (EntAt.box (w.alloc (entO ek es ey eu ev ex)) fk fs fy fu fv fx).below hb
  have hG1 : EntAt w1 (w.heap.size + 1) fk fs fy fu fv fx := by simpa using hG0
  have HG1 := Lib.hid hG1
  clear hb hG0 hG1
  obtain ⟨hz1, hc10, hc11, hc12, hc13, hc14, hc15⟩ := HE1.out
  obtain ⟨gz1, gc10, gc11, gc12, gc13, gc14, gc15⟩ := HG1.out
  go_wp2_with fail
  (with_reducible refine (HM _).mono ?_)
  rintro e w2 ⟨rfl, hb⟩
  clear hz1 hc10 hc11 hc12 hc13 hc14 hc15 gz1 gc10 gc11 gc12 gc13 gc14 gc15
  have HB2 := Lib.hid (HB1.out.trans (hb.mono HB1.out.size))
  have HE2 := Lib.hid (HE1.out.below hb)
  have HG2 := Lib.hid (HG1.out.below hb)
  clear hb HB1 HE1 HG1
  obtain ⟨hz2, hc20, hc21, hc22, hc23, hc24, hc25⟩ := HE2.out
  obtain ⟨gz2, gc20, gc21, gc22, gc23, gc24, gc25⟩ := HG2.out
  go_wp2_with fail
  (with_reducible refine (HN _).mono ?_)
  rintro e w3 ⟨rfl, hb⟩
  clear hz2 hc20 hc21 hc22 hc23 hc24 hc25 gz2 gc20 gc21 gc22 gc23 gc24 gc25
  have HB3 := Lib.hid (HB2.out.trans (hb.mono HB2.out.size))
  have HE3 := Lib.hid (HE2.out.below hb)
  have HG3 := Lib.hid (HG2.out.below hb)
  clear hb HB2 HE2 HG2
  obtain ⟨hz3, hc30, hc31, hc32, hc33, hc34, hc35⟩ := HE3.out
  obtain ⟨gz3, gc30, gc31, gc32, gc33, gc34, gc35⟩ := HG3.out
  go_wp2_with fail
  (with_reducible refine (HEN _).mono ?_)
  rintro e w4 ⟨v4, rfl, hO, hb⟩
  obtain ⟨A4, k4, rfl, hk4, hat4⟩ := hO.at_ (by omega)
  have HA4 := Lib.hid hat4
  clear hO hat4
  clear hz3 hc30 hc31 hc32 hc33 hc34 hc35 gz3 gc30 gc31 gc32 gc33 gc34 gc35
  have HB4 := Lib.hid (HB3.out.trans (hb.mono HB3.out.size))
  have HE4 := Lib.hid (HE3.out.below hb)
  have HG4 := Lib.hid (HG3.out.below hb)
  clear hb HB3 HE3 HG3
  obtain ⟨hz4, hc40, hc41, hc42, hc43, hc44, hc45⟩ := HE4.out
  obtain ⟨gz4, gc40, gc41, gc42, gc43, gc44, gc45⟩ := HG4.out
  go_wp2_with fail
  (with_reducible refine (HFN _).mono ?_)
  rintro e w5 ⟨v5, rfl, hO, hb⟩
  obtain ⟨A5, k5, rfl, hk5, hat5⟩ := hO.at_ (by omega)
  have HA5 := Lib.hid (AtB.later HA4 hb)
  have s1 := fun q => run_str (AtB.drewN HA5.out q) k4
  have s2 := fun q => run_str (AtB.drewN hat5 q) k5
  clear hO hat5
  clear hz4 hc40 hc41 hc42 hc43 hc44 hc45 gz4 gc40 gc41 gc42 gc43 gc44 gc45
  have HB5 := Lib.hid (HB4.out.trans (hb.mono HB4.out.size))
  have HE5 := Lib.hid (HE4.out.below hb)
  have HG5 := Lib.hid (HG4.out.below hb)
  clear hb HB4 HE4 HG4 HA4
  obtain ⟨hz5, hc50, hc51, hc52, hc53, hc54, hc55⟩ := HE5.out
  obtain ⟨gz5, gc50, gc51, gc52, gc53, gc54, gc55⟩ := HG5.out
  generalize strN ys = S at *
  generalize strN zs = T at *
  obtain ⟨hn1, hn2⟩ := hne
  go_wp2_with fail
  go_quiet (fail)
  go_wp2_with fail
  go_ret
  exact ⟨rfl, below_quiet HB5.out _⟩

set_option maxRecDepth 100000 in
theorem lifted (os : Os) (started : os.Started) (H : Type) (enc : TypeId × Value → H) :
    ReturnsInHanded {} Try.checked os 6 .any (Rows.entryApartSpec.pre6 enc Try.prog Try.f6 Rows.entryApartRow.domain false) (Rows.entryApartSpec.post enc Try.prog Try.f6 false true false false) := by
  refine law_lifted (C := Try.checked) own started (by kernel_rfl) Try.func6
    (ChangeSpec.witness6 (enc := enc) (C := Try.checked) false ⟨#[], #[.agg #[.int .i64 0, .int .u64 0, .int .u64 0, .int .u64 0, .int .u64 0, .int .u64 0], .agg #[.int .i64 0, .int .u64 0, .int .u64 0, .int .u64 0, .int .u64 0, .int .u64 0]], []⟩ 8 (by kernel_rfl) (by kernel_rfl) (by kernel_rfl) (by kernel_rfl))
    (by kernel_rfl) (by kernel_rfl) Try.underlying4 rfl (by kernel_rfl) ?_
  intro W base args ds before hval hA _ hlt
  have hA' : DataW.TrodAll enc Try.prog W 0 (fun _ => true) true Try.f6.params.toList args.toList ds before := hA
  have hval' : ∀ (j : Nat) t v, Try.f6.params[j]? = some t → args[j]? = some v → Value.okWide Try.prog W .any base t v := hval
  rw [Try.params6] at hA' hval'
  obtain ⟨v0, vs0, d0, ds0, p0, q0, hargs, rfl, rfl, h0, r0⟩ := trodAll_cons hA'
  obtain ⟨v1, vs1, d1, ds1, p1, q1, rfl, rfl, rfl, h1, r1⟩ := trodAll_cons r0
  obtain ⟨rfl, rfl, rfl⟩ := trodAll_nil r1
  obtain rfl : args = #[v0, v1] := by cases args; simp_all
  obtain ⟨ek, es, ey, eu, ev, ex, rfl, eb, ef⟩ := open_ent (hval' 0 24 v0 rfl rfl) h0
  obtain ⟨fk, fs, fy, fu, fv, fx, rfl, fb, ff⟩ := open_ent (hval' 1 24 v1 rfl rfl) h1
  refine ⟨rfl, ?_⟩
  by_cases hm : (Ent.mk ek es ey eu ev ex).mayB = true
  · by_cases hn : (Ent.mk fk fs fy fu fv fx).mayB = true
    · by_cases he : (Ent.mk ek es ey eu ev ex) = (Ent.mk fk fs fy fu fv fx)
      · exact walkSame ek es ey eu ev ex fk fs fy fu fv fx ef ff hm hn he W
      · exact walkOther ek es ey eu ev ex fk fs fy fu fv fx ef ff hm hn he W
    · exact walkNo2 ek es ey eu ev ex fk fs fy fu fv fx ef ff hm (by simpa using hn) W
  · exact walkNo1 ek es ey eu ev ex fk fs fy fu fv fx ef ff (by simpa using hm) W

theorem over : Rows.entryApartRow.holds Try.pinned (OpenSpec.ofChange Rows.entryApartSpec) :=
  OpenClaim.holds_of_wide 6 Try.f6 rfl rfl rfl rfl rfl rfl rfl ⟨rfl, rfl, rfl, rfl, rfl⟩ rfl rfl rfl rfl rfl (by kernel_rfl) Try.func6 (by kernel_rfl)
    (of_decide_eq_true (by kernel_rfl)) (by unfold Func.isWrapper; first | (rw [if_pos (by decide +kernel)]; kernel_rfl) | (rw [if_neg (by decide +kernel)]; exact ⟨rfl, rfl⟩))
    (fun os started H enc _ => lifted os started H enc)

/-- The statement. -/
theorem proved : Rows.EntryApartSaid :=
  over
#print axioms proved
end Go.Proofs.Ytioheffdolnciaa.entryApart
