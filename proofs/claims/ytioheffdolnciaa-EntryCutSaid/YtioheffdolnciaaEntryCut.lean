/-
  EntryCut: of an entry's bytes, a byte less, or more, there is none; with another byte it is another entry, or none; with the same one the same; for every entry that may be, every place, every byte. No condition.
-/
import Derived.Test.YtioheffdolnciaaEntEq
import Derived.Test.YtioheffdolnciaaOwnSet
import Derived.Test.YtioheffdolnciaaLaw
import Derived.Test.YtioheffdolnciaaEntOpen
namespace Go.Proofs.Ytioheffdolnciaa.entryCut
open Go.ChangeShapes Go.WideShapes Go.ChangeAt Go.RowKit
set_option linter.unusedVariables false
theorem own : ownKnob Try.prog.godebug = none := by kernel_rfl

theorem run_neq_ent (k s y u v x : _) (k' s' y' u' v' x' : _) (h : Ent.mk k s y u v x ≠ Ent.mk k' s' y' u' v' x') (W : World) :
    (binOp .neq 24 (.agg #[.int .i64 k, .int .u64 ((s : Nat) : Int), .int .u64 ((y : Nat) : Int), .int .u64 ((u : Nat) : Int), .int .u64 ((v : Nat) : Int), .int .u64 ((x : Nat) : Int)])
      (.agg #[.int .i64 k', .int .u64 ((s' : Nat) : Int), .int .u64 ((y' : Nat) : Int), .int .u64 ((u' : Nat) : Int), .int .u64 ((v' : Nat) : Int), .int .u64 ((x' : Nat) : Int)])).run Try.prog W =
    .ok (.bool true) W := by
  by_cases h0 : k = k'
  · subst h0
    by_cases h1 : s = s'
    · subst h1
      by_cases h2 : y = y'
      · subst h2
        by_cases h3 : u = u'
        · subst h3
          by_cases h4 : v = v'
          · subst h4
            by_cases h5 : x = x'
            · subst h5
              exact absurd rfl h
            · have e := cast_eq x x'
              rw [decide_eq_false h5] at e
              clear h
              go_simp
          · have e := cast_eq v v'
            rw [decide_eq_false h4] at e
            clear h
            go_simp
        · have e := cast_eq u u'
          rw [decide_eq_false h3] at e
          clear h
          go_simp
      · have e := cast_eq y y'
        rw [decide_eq_false h2] at e
        clear h
        go_simp
    · have e := cast_eq s s'
      rw [decide_eq_false h1] at e
      clear h
      go_simp
  · have e : (k == k') = false := by rw [beq_eq_false_iff_ne]; exact h0
    clear h
    go_simp
theorem own_made1 (w : World) (o : Obj) : Own ((w.alloc o).alloc (.cells #[] 5)) (w.alloc o).heap.size (.slice (some ⟨w.heap.size + 1, 0, none⟩) 0 0) 0 [] := by
  have e : w.heap.size + 1 = (w.alloc o).heap.size := by simp
  rw [e]
  exact Own.made _
theorem own_below1 {w w1 : World} {o : Obj} (g : ((w.alloc o).alloc (.cells #[] 5)).grownBy w1 (Value.slice (some ⟨w.heap.size + 1, 0, none⟩) 0 0).ownBlock) : Below (w.alloc o).heap.size (w.alloc o) w1 := by
  have e : w.heap.size + 1 = (w.alloc o).heap.size := by simp
  rw [e] at g
  exact Own.below g
theorem own_at {w : World} {base g n cap : Nat} {xs : List Nat} (h : Own w base (.slice (some ⟨g, 0, none⟩) n cap) n xs) (hn : n ≤ 9223372036854775807) : n ≤ cap ∧ AtB w (some ⟨g, 0, none⟩) n xs := by
  obtain ⟨A, c, e, h1, h2⟩ := h.at_ hn
  injection e with e1 e2 e3
  subst e1 e3
  exact ⟨h1, h2⟩

theorem walkNo (ek : Int) (es ey eu ev ex : Nat) (at_ c : Nat) (hf : (Ent.mk ek es ey eu ev ex).fit) (hm : (Ent.mk ek es ey eu ev ex).mayB = false) (w : World) :
    Calls Try.prog 5 #[.agg #[.int .i64 ek, .int .u64 (es : Int), .int .u64 (ey : Int), .int .u64 (eu : Int), .int .u64 (ev : Int), .int .u64 (ex : Int)], .int .u8 (at_ : Int), .int .u8 (c : Int)] w fun e w' => e = .returned (.bool true) ∧ Below w.heap.size w w' := by
  have HM := fun w => refMay_any ek es ey eu ev ex hf.2.1 w
  rw [hm] at HM
  clear hm
  go_enter Try.func5, Try.ntmps5
  go_wp2_with fail
  refine (shown_below _).mono ?_
  rintro e w1 ⟨rfl, hb⟩
  have HB1 := Lib.hid (below_box hb)
  have HE1 := Lib.hid ((EntAt.box w ek es ey eu ev ex).below hb)
  clear hb
  obtain ⟨hz1, hc10, hc11, hc12, hc13, hc14, hc15⟩ := HE1.out
  go_wp2_with fail
  (with_reducible refine (HM _).mono ?_)
  rintro e w2 ⟨rfl, hb⟩
  have HB2 := Lib.hid (HB1.out.trans (hb.mono HB1.out.size))
  clear hb
  go_wp2_with fail
  go_ret
  exact ⟨rfl, HB2.out⟩

set_option maxRecDepth 100000 in
set_option maxHeartbeats 8000000 in
theorem walkSame (ek : Int) (es ey eu ev ex : Nat) (at_ c : Nat) (ha : at_ < 256) (hc : c < 256) (hf : (Ent.mk ek es ey eu ev ex).fit) (hm : (Ent.mk ek es ey eu ev ex).mayB = true)
    (hs : c = (Ent.mk ek es ey eu ev ex).bytes.getD (at_ % (Ent.mk ek es ey eu ev ex).bytes.length) 0) (w : World) :
    Calls Try.prog 5 #[.agg #[.int .i64 ek, .int .u64 (es : Int), .int .u64 (ey : Int), .int .u64 (eu : Int), .int .u64 (ev : Int), .int .u64 (ex : Int)], .int .u8 (at_ : Int), .int .u8 (c : Int)] w fun e w' => e = .returned (.bool true) ∧ Below w.heap.size w w' := by
  have HM := fun w => refMay_any ek es ey eu ev ex hf.2.1 w
  rw [hm] at HM
  have hmm : (Ent.mk ek es ey eu ev ex).may := of_decide_eq_true hm
  have hbp := Ent.bytes_pos (Ent.mk ek es ey eu ev ex)
  have hok := Ent.bytes_ok hmm
  have hless := cut_less (Ent.mk ek es ey eu ev ex)
  have hmore := cut_more (Ent.mk ek es ey eu ev ex) c
  have hil : at_ % (Ent.mk ek es ey eu ev ex).bytes.length < (Ent.mk ek es ey eu ev ex).bytes.length := Nat.mod_lt _ (by omega)
  have hset := cut_same (e := (Ent.mk ek es ey eu ev ex)) (at_ % (Ent.mk ek es ey eu ev ex).bytes.length) hil
  rw [← hs] at hset
  have hdec := dec_bytes hmm hf
  rw [← hset] at hdec
  have HEN := fun w => encode_yes ek es ey eu ev ex hf hm _ _ rfl rfl w
  clear hm hmm
  generalize (Ent.mk ek es ey eu ev ex).bytes = ys at *
  obtain ⟨m, hlen⟩ : ∃ m, ys.length = m + 1 := ⟨ys.length - 1, by omega⟩
  rw [hlen] at HEN hless hil hs hset hbp hdec
  rw [Nat.add_sub_cancel] at hless
  have s9 : (at_ : Int) % ((m : Int) + 1) = ((at_ % (m + 1) : Nat) : Int) := by simp
  generalize at_ % (m + 1) = i at *
  have HCUT : ∀ (A : Option Addr) (c : Nat) w', m ≤ c → Hid (AtB w' A m (ys.take m)) → Calls Try.prog 10 #[.slice A m c] w' (DecPost w' 0 0 0 0 0 0 2) := fun A c w' hc h => by
    have := decode_at A _ c _ hc w' h
    rw [(dec_no hless).1, (dec_no hless).2] at this
    exact this
  have HMORE : ∀ (A : Option Addr) (q : Nat) w', m + 1 + 1 ≤ q → Hid (AtB w' A (m + 1 + 1) (ys ++ [c])) → Calls Try.prog 10 #[.slice A (m + 1 + 1) q] w' (DecPost w' 0 0 0 0 0 0 2) := fun A q w' hc h => by
    have := decode_at A _ q _ hc w' h
    rw [(dec_no hmore).1, (dec_no hmore).2] at this
    exact this
  have HSET : ∀ (A : Option Addr) (q : Nat) w', m + 1 ≤ q → Hid (AtB w' A (m + 1) (ys.set i c)) → Calls Try.prog 10 #[.slice A (m + 1) q] w' (DecPost w' ek es ey eu ev ex 0) := fun A q w' hc h => by
    have := decode_at A _ q _ hc w' h
    rw [hdec.1, hdec.2] at this
    exact this
  have HY := Lib.hid hs
  clear hdec hset hs hless hmore
  have d1 : decide ((m : Int) + 1 < 1) = false := by rw [decide_eq_false_iff_not]; omega
  go_enter Try.func5, Try.ntmps5
  go_wp2_with fail
  refine (shown_below _).mono ?_
  rintro e w1 ⟨rfl, hb⟩
  have HB1 := Lib.hid (below_box hb)
  have HE1 := Lib.hid ((EntAt.box w ek es ey eu ev ex).below hb)
  clear hb
  obtain ⟨hz1, hc10, hc11, hc12, hc13, hc14, hc15⟩ := HE1.out
  go_wp2_with fail
  (with_reducible refine (HM _).mono ?_)
  rintro e w2 ⟨rfl, hb⟩
  have HB2 := Lib.hid (HB1.out.trans (hb.mono HB1.out.size))
  have HE2 := Lib.hid (HE1.out.below hb)
  clear hz1 hc10 hc11 hc12 hc13 hc14 hc15
  clear hb HB1 HE1
  obtain ⟨hz2, hc20, hc21, hc22, hc23, hc24, hc25⟩ := HE2.out
  go_wp2_with fail
  (with_reducible refine (HEN _).mono ?_)
  rintro e w3 ⟨v3, rfl, hO, hb⟩
  obtain ⟨g3, k3, rfl, _, hg3, hk3⟩ := hO.form (by omega)
  have HO3 := Lib.hid hO
  have HA3 := Lib.hid (own_at hO (by omega)).2
  have HB3 := Lib.hid (HB2.out.trans (hb.mono HB2.out.size))
  have HE3 := Lib.hid (HE2.out.below hb)
  clear hz2 hc20 hc21 hc22 hc23 hc24 hc25
  clear hb hO HB2 HE2
  have R7 : ∀ W, (Instr.slice 25 (.slice (some ⟨g3, 0, none⟩) (m + 1) k3) none (some (.int .i64 (m : Int))) none).run Try.prog W = .ok (.slice (cutA (some ⟨g3, 0, none⟩) k3 0) m k3) W := fun W => run_cut_h _ (m + 1) k3 m (by omega) W
  have HD3 : Hid (AtB w3 (cutA (some ⟨g3, 0, none⟩) k3 0) m (ys.take m)) := Lib.hid (HA3.out.cutA hk3 0 m (by omega) (by omega))
  generalize cutA (some ⟨g3, 0, none⟩) k3 0 = D3 at *
  go_wp2_with fail
  (with_reducible refine (HCUT _ _ _ (by omega) HD3).mono ?_)
  rintro e w4 ⟨rfl, hb⟩
  have hbz : Below w3.heap.size w3 (w4.alloc (.cells #[.int .i64 0, .int .u64 0, .int .u64 0, .int .u64 0, .int .u64 0, .int .u64 0] 24)) := hb.alloc hb.size _
  have HB4 := Lib.hid (HB3.out.trans (hbz.mono HB3.out.size))
  have HE4 := Lib.hid (HE3.out.below hbz)
  have HO4 := Lib.hid (HO3.out.later hbz)
  have HA4 := Lib.hid (AtB.later HA3 hbz)
  clear hb hbz HB3 HE3 HO3 HA3 HD3 R7
  go_wp2_with (first
    | (at_builtin; (refine wpList_append_bytes (by rfl) (.tmp 45) (.tmp 46) (by rfl) (w4.alloc (.cells #[.int .i64 0, .int .u64 0, .int .u64 0, .int .u64 0, .int .u64 0, .int .u64 0] 24)).heap.size (.slice (some ⟨w4.heap.size + 1, 0, none⟩) 0 0) 0 [] (by rfl) (own_made1 w4 _) (some ⟨g3, 0, none⟩) (m + 1) k3 ys (by rfl) (AtB.later HA4 (below_made _)) (by omega) (by simp) ?_); (intro v5 w5 hown5 hgrow5; have B5 := Lib.hid (own_below1 hgrow5); have HO5 := Lib.hid hown5; have hs5 := B5.out.size; clear hown5 hgrow5))
    | (at_builtin; (refine wpList_append_bytes (by rfl) (.tmp 47) (.tmp 49) (by rfl) (w4.alloc (.cells #[.int .i64 0, .int .u64 0, .int .u64 0, .int .u64 0, .int .u64 0, .int .u64 0] 24)).heap.size v5 (0 + (m + 1)) ([] ++ ys) (by rfl) (Own.alloc HO5.out _) (some ⟨w5.heap.size, 0, none⟩) 1 1 [c] (by rfl) (AtB.one hc (by simp)) (by omega) (by simp at hs5 ⊢; omega) ?_); (intro v6 w6 hown6 hgrow6; have B6 := Lib.hid (B5.out.trans (((Below.refl _ _).alloc hs5 _).grown hgrow6 (by simp at hs5 ⊢; omega) (fun k hk => (HO5.out.2.lt k hk).1))); rw [Nat.zero_add, List.nil_append] at hown6; obtain ⟨A6, k6, rfl, hk6, hat6⟩ := hown6.at_ (by omega); have HAT6 := Lib.hid hat6; clear hat6 hown6 hgrow6)))
  have HB6 := Lib.hid (HB4.out.trans (B6.out.mono HB4.out.size))
  have HE6 := Lib.hid (HE4.out.below B6.out)
  have HO6 := Lib.hid (HO4.out.later B6.out)
  have HA6 := Lib.hid (AtB.later HA4 B6.out)
  clear HB4 HE4 HO4 HA4 B5 HO5 hs5 B6
  (with_reducible refine (HMORE _ _ _ hk6 HAT6).mono ?_)
  rintro e w7 ⟨rfl, hb⟩
  have hbz : Below w6.heap.size w6 (w7.alloc (.cells #[.int .i64 0, .int .u64 0, .int .u64 0, .int .u64 0, .int .u64 0, .int .u64 0] 24)) := hb.alloc hb.size _
  have HB7 := Lib.hid (HB6.out.trans (hbz.mono HB6.out.size))
  have HE7 := Lib.hid (HE6.out.below hbz)
  have HO7 := Lib.hid (HO6.out.later hbz)
  have HA7 := Lib.hid (AtB.later HA6 hbz)
  clear hb hbz HB6 HE6 HO6 HA6 HAT6
  go_wp2_with (at_builtin; (rw [s9]); (refine wpList_append_new (by rfl) (.tmp 59) (.tmp 60) (by rfl) (w7.alloc (.cells #[.int .i64 0, .int .u64 0, .int .u64 0, .int .u64 0, .int .u64 0, .int .u64 0] 24)).heap.size (.slice (some ⟨w7.heap.size + 1, 0, none⟩) 0 0) 0 [] (by rfl) (own_made1 w7 _) (some ⟨g3, 0, none⟩) (m + 1) k3 ys (by rfl) (AtB.later HA7 (below_made _)) (m + 1) (by omega) ys (by simp) (by omega) (by omega) (by simp) ?_); (intro g cv w8 hown8 hlc8 hg8 hgrow8; have B8 := Lib.hid (own_below1 hgrow8); have HO8 := Lib.hid hown8; have hcell := hown8.cell i hil; have hfree := hown8.free i; have i1 : (0 : Int) ≤ (i : Int) := (by omega); have i2 : (i : Int) < (m : Int) + 1 := (by omega); clear hown8 hgrow8))
  have HST := Lib.hid (HO8.out.stored i c hc)
  have BS8 := Lib.hid (B8.out.setCell (p := ⟨g, i, none⟩) hg8 (.int .u8 (c : Int)))
  clear HO8 B8 hcell hfree i1 i2
  generalize w8.setCell ⟨g, i, none⟩ (.int .u8 (c : Int)) = w9 at *
  have HB9 := Lib.hid (HB7.out.trans (BS8.out.mono HB7.out.size))
  have HE9 := Lib.hid (HE7.out.below BS8.out)
  have HO9 := Lib.hid (HO7.out.later BS8.out)
  have HAT9 := own_at HST.out (by omega)
  have HAT9' := Lib.hid HAT9.2
  clear HB7 HE7 HO7 HA7 HST BS8
  (with_reducible refine (HSET _ _ _ hlc8 HAT9').mono ?_)
  rintro e w10 ⟨rfl, hb⟩
  have HB10 := Lib.hid (HB9.out.trans (hb.mono HB9.out.size))
  have HE10 := Lib.hid (HE9.out.below hb)
  have HO10 := HO9.out.later hb
  obtain ⟨gq, cq, eq, _, hgl, _⟩ := HO10.form (by omega)
  injection eq with eq1 eq2 eq3
  injection eq1 with eq1
  injection eq1 with eq1
  subst eq1
  have hcb := HO10.cell i hil
  rw [← HY.out] at hcb
  obtain ⟨hz10, hc100, hc101, hc102, hc103, hc104, hc105⟩ := HE10.out
  have i1 : (0 : Int) ≤ (i : Int) := by omega
  have i2 : (i : Int) < (m : Int) + 1 := by omega
  clear hb HB9 HE9 HO9 HO10 HAT9 HAT9' HY eq2 eq3
  go_wp2_with fail
  go_ret
  exact ⟨rfl, HB10.out.alloc HB10.out.size _⟩

set_option maxRecDepth 100000 in
set_option maxHeartbeats 8000000 in
theorem walkOther (ek : Int) (es ey eu ev ex : Nat) (at_ c : Nat) (ha : at_ < 256) (hc : c < 256) (hf : (Ent.mk ek es ey eu ev ex).fit) (hm : (Ent.mk ek es ey eu ev ex).mayB = true)
    (hs : c ≠ (Ent.mk ek es ey eu ev ex).bytes.getD (at_ % (Ent.mk ek es ey eu ev ex).bytes.length) 0) (w : World) :
    Calls Try.prog 5 #[.agg #[.int .i64 ek, .int .u64 (es : Int), .int .u64 (ey : Int), .int .u64 (eu : Int), .int .u64 (ev : Int), .int .u64 (ex : Int)], .int .u8 (at_ : Int), .int .u8 (c : Int)] w fun e w' => e = .returned (.bool true) ∧ Below w.heap.size w w' := by
  have HM := fun w => refMay_any ek es ey eu ev ex hf.2.1 w
  rw [hm] at HM
  have hmm : (Ent.mk ek es ey eu ev ex).may := of_decide_eq_true hm
  have hbp := Ent.bytes_pos (Ent.mk ek es ey eu ev ex)
  have hok := Ent.bytes_ok hmm
  have hless := cut_less (Ent.mk ek es ey eu ev ex)
  have hmore := cut_more (Ent.mk ek es ey eu ev ex) c
  have hil : at_ % (Ent.mk ek es ey eu ev ex).bytes.length < (Ent.mk ek es ey eu ev ex).bytes.length := Nat.mod_lt _ (by omega)
  have hset := cut_set hmm (at_ % (Ent.mk ek es ey eu ev ex).bytes.length) c hil hc hs
  have HEN := fun w => encode_yes ek es ey eu ev ex hf hm _ _ rfl rfl w
  clear hm hmm
  generalize (Ent.mk ek es ey eu ev ex).bytes = ys at *
  obtain ⟨m, hlen⟩ : ∃ m, ys.length = m + 1 := ⟨ys.length - 1, by omega⟩
  rw [hlen] at HEN hless hil hs hset hbp
  rw [Nat.add_sub_cancel] at hless
  have s9 : (at_ : Int) % ((m : Int) + 1) = ((at_ % (m + 1) : Nat) : Int) := by simp
  generalize at_ % (m + 1) = i at *
  have HCUT : ∀ (A : Option Addr) (c : Nat) w', m ≤ c → Hid (AtB w' A m (ys.take m)) → Calls Try.prog 10 #[.slice A m c] w' (DecPost w' 0 0 0 0 0 0 2) := fun A c w' hc h => by
    have := decode_at A _ c _ hc w' h
    rw [(dec_no hless).1, (dec_no hless).2] at this
    exact this
  have HMORE : ∀ (A : Option Addr) (q : Nat) w', m + 1 + 1 ≤ q → Hid (AtB w' A (m + 1 + 1) (ys ++ [c])) → Calls Try.prog 10 #[.slice A (m + 1 + 1) q] w' (DecPost w' 0 0 0 0 0 0 2) := fun A q w' hc h => by
    have := decode_at A _ q _ hc w' h
    rw [(dec_no hmore).1, (dec_no hmore).2] at this
    exact this
  have HSET : ∀ (A : Option Addr) (q : Nat) w', m + 1 ≤ q → Hid (AtB w' A (m + 1) (ys.set i c)) → Calls Try.prog 10 #[.slice A (m + 1) q] w' (DecPost w' (decN (ys.set i c)).k (decN (ys.set i c)).s (decN (ys.set i c)).y (decN (ys.set i c)).u (decN (ys.set i c)).v (decN (ys.set i c)).x (decE (ys.set i c))) := fun A q w' hc h => decode_at A _ q _ hc w' h
  have HY := Lib.hid hs
  generalize decN (ys.set i c) = D at *
  generalize decE (ys.set i c) = code at *
  obtain ⟨dk, ds, dy, du, dv, dx⟩ := D
  have kN := fun W => run_neq_ent dk ds dy du dv dx ek es ey eu ev ex hset W
  clear hset hs hless hmore
  have d1 : decide ((m : Int) + 1 < 1) = false := by rw [decide_eq_false_iff_not]; omega
  go_enter Try.func5, Try.ntmps5
  go_wp2_with fail
  refine (shown_below _).mono ?_
  rintro e w1 ⟨rfl, hb⟩
  have HB1 := Lib.hid (below_box hb)
  have HE1 := Lib.hid ((EntAt.box w ek es ey eu ev ex).below hb)
  clear hb
  obtain ⟨hz1, hc10, hc11, hc12, hc13, hc14, hc15⟩ := HE1.out
  go_wp2_with fail
  (with_reducible refine (HM _).mono ?_)
  rintro e w2 ⟨rfl, hb⟩
  have HB2 := Lib.hid (HB1.out.trans (hb.mono HB1.out.size))
  have HE2 := Lib.hid (HE1.out.below hb)
  clear hz1 hc10 hc11 hc12 hc13 hc14 hc15
  clear hb HB1 HE1
  obtain ⟨hz2, hc20, hc21, hc22, hc23, hc24, hc25⟩ := HE2.out
  go_wp2_with fail
  (with_reducible refine (HEN _).mono ?_)
  rintro e w3 ⟨v3, rfl, hO, hb⟩
  obtain ⟨g3, k3, rfl, _, hg3, hk3⟩ := hO.form (by omega)
  have HO3 := Lib.hid hO
  have HA3 := Lib.hid (own_at hO (by omega)).2
  have HB3 := Lib.hid (HB2.out.trans (hb.mono HB2.out.size))
  have HE3 := Lib.hid (HE2.out.below hb)
  clear hz2 hc20 hc21 hc22 hc23 hc24 hc25
  clear hb hO HB2 HE2
  have R7 : ∀ W, (Instr.slice 25 (.slice (some ⟨g3, 0, none⟩) (m + 1) k3) none (some (.int .i64 (m : Int))) none).run Try.prog W = .ok (.slice (cutA (some ⟨g3, 0, none⟩) k3 0) m k3) W := fun W => run_cut_h _ (m + 1) k3 m (by omega) W
  have HD3 : Hid (AtB w3 (cutA (some ⟨g3, 0, none⟩) k3 0) m (ys.take m)) := Lib.hid (HA3.out.cutA hk3 0 m (by omega) (by omega))
  generalize cutA (some ⟨g3, 0, none⟩) k3 0 = D3 at *
  go_wp2_with fail
  (with_reducible refine (HCUT _ _ _ (by omega) HD3).mono ?_)
  rintro e w4 ⟨rfl, hb⟩
  have hbz : Below w3.heap.size w3 (w4.alloc (.cells #[.int .i64 0, .int .u64 0, .int .u64 0, .int .u64 0, .int .u64 0, .int .u64 0] 24)) := hb.alloc hb.size _
  have HB4 := Lib.hid (HB3.out.trans (hbz.mono HB3.out.size))
  have HE4 := Lib.hid (HE3.out.below hbz)
  have HO4 := Lib.hid (HO3.out.later hbz)
  have HA4 := Lib.hid (AtB.later HA3 hbz)
  clear hb hbz HB3 HE3 HO3 HA3 HD3 R7
  go_wp2_with (first
    | (at_builtin; (refine wpList_append_bytes (by rfl) (.tmp 45) (.tmp 46) (by rfl) (w4.alloc (.cells #[.int .i64 0, .int .u64 0, .int .u64 0, .int .u64 0, .int .u64 0, .int .u64 0] 24)).heap.size (.slice (some ⟨w4.heap.size + 1, 0, none⟩) 0 0) 0 [] (by rfl) (own_made1 w4 _) (some ⟨g3, 0, none⟩) (m + 1) k3 ys (by rfl) (AtB.later HA4 (below_made _)) (by omega) (by simp) ?_); (intro v5 w5 hown5 hgrow5; have B5 := Lib.hid (own_below1 hgrow5); have HO5 := Lib.hid hown5; have hs5 := B5.out.size; clear hown5 hgrow5))
    | (at_builtin; (refine wpList_append_bytes (by rfl) (.tmp 47) (.tmp 49) (by rfl) (w4.alloc (.cells #[.int .i64 0, .int .u64 0, .int .u64 0, .int .u64 0, .int .u64 0, .int .u64 0] 24)).heap.size v5 (0 + (m + 1)) ([] ++ ys) (by rfl) (Own.alloc HO5.out _) (some ⟨w5.heap.size, 0, none⟩) 1 1 [c] (by rfl) (AtB.one hc (by simp)) (by omega) (by simp at hs5 ⊢; omega) ?_); (intro v6 w6 hown6 hgrow6; have B6 := Lib.hid (B5.out.trans (((Below.refl _ _).alloc hs5 _).grown hgrow6 (by simp at hs5 ⊢; omega) (fun k hk => (HO5.out.2.lt k hk).1))); rw [Nat.zero_add, List.nil_append] at hown6; obtain ⟨A6, k6, rfl, hk6, hat6⟩ := hown6.at_ (by omega); have HAT6 := Lib.hid hat6; clear hat6 hown6 hgrow6)))
  have HB6 := Lib.hid (HB4.out.trans (B6.out.mono HB4.out.size))
  have HE6 := Lib.hid (HE4.out.below B6.out)
  have HO6 := Lib.hid (HO4.out.later B6.out)
  have HA6 := Lib.hid (AtB.later HA4 B6.out)
  clear HB4 HE4 HO4 HA4 B5 HO5 hs5 B6
  (with_reducible refine (HMORE _ _ _ hk6 HAT6).mono ?_)
  rintro e w7 ⟨rfl, hb⟩
  have hbz : Below w6.heap.size w6 (w7.alloc (.cells #[.int .i64 0, .int .u64 0, .int .u64 0, .int .u64 0, .int .u64 0, .int .u64 0] 24)) := hb.alloc hb.size _
  have HB7 := Lib.hid (HB6.out.trans (hbz.mono HB6.out.size))
  have HE7 := Lib.hid (HE6.out.below hbz)
  have HO7 := Lib.hid (HO6.out.later hbz)
  have HA7 := Lib.hid (AtB.later HA6 hbz)
  clear hb hbz HB6 HE6 HO6 HA6 HAT6
  go_wp2_with (at_builtin; (rw [s9]); (refine wpList_append_new (by rfl) (.tmp 59) (.tmp 60) (by rfl) (w7.alloc (.cells #[.int .i64 0, .int .u64 0, .int .u64 0, .int .u64 0, .int .u64 0, .int .u64 0] 24)).heap.size (.slice (some ⟨w7.heap.size + 1, 0, none⟩) 0 0) 0 [] (by rfl) (own_made1 w7 _) (some ⟨g3, 0, none⟩) (m + 1) k3 ys (by rfl) (AtB.later HA7 (below_made _)) (m + 1) (by omega) ys (by simp) (by omega) (by omega) (by simp) ?_); (intro g cv w8 hown8 hlc8 hg8 hgrow8; have B8 := Lib.hid (own_below1 hgrow8); have HO8 := Lib.hid hown8; have hcell := hown8.cell i hil; have hfree := hown8.free i; have i1 : (0 : Int) ≤ (i : Int) := (by omega); have i2 : (i : Int) < (m : Int) + 1 := (by omega); clear hown8 hgrow8))
  have HST := Lib.hid (HO8.out.stored i c hc)
  have BS8 := Lib.hid (B8.out.setCell (p := ⟨g, i, none⟩) hg8 (.int .u8 (c : Int)))
  clear HO8 B8 hcell hfree i1 i2
  generalize w8.setCell ⟨g, i, none⟩ (.int .u8 (c : Int)) = w9 at *
  have HB9 := Lib.hid (HB7.out.trans (BS8.out.mono HB7.out.size))
  have HE9 := Lib.hid (HE7.out.below BS8.out)
  have HO9 := Lib.hid (HO7.out.later BS8.out)
  have HAT9 := own_at HST.out (by omega)
  have HAT9' := Lib.hid HAT9.2
  clear HB7 HE7 HO7 HA7 HST BS8
  (with_reducible refine (HSET _ _ _ hlc8 HAT9').mono ?_)
  rintro e w10 ⟨rfl, hb⟩
  have HB10 := Lib.hid (HB9.out.trans (hb.mono HB9.out.size))
  have HE10 := Lib.hid (HE9.out.below hb)
  have HO10 := HO9.out.later hb
  obtain ⟨gq, cq, eq, _, hgl, _⟩ := HO10.form (by omega)
  injection eq with eq1 eq2 eq3
  injection eq1 with eq1
  injection eq1 with eq1
  subst eq1
  have hcb := HO10.cell i hil
  have HYN := HY.out
  generalize ys.getD i 0 = y at *
  have q1 : ((c : Int) == (y : Int)) = false := by rw [beq_eq_false_iff_ne]; omega
  have q2 : ((c : Int) != (y : Int)) = true := by rw [bne_iff_ne]; omega
  clear HYN
  obtain ⟨hz10, hc100, hc101, hc102, hc103, hc104, hc105⟩ := HE10.out
  have i1 : (0 : Int) ≤ (i : Int) := by omega
  have i2 : (i : Int) < (m : Int) + 1 := by omega
  clear hb HB9 HE9 HO9 HO10 HAT9 HAT9' HY eq2 eq3
  go_wp2_with fail
  go_ret
  exact ⟨rfl, HB10.out.alloc HB10.out.size _⟩

set_option maxRecDepth 100000 in
theorem lifted (os : Os) (started : os.Started) (H : Type) (enc : TypeId × Value → H) :
    ReturnsInHanded {} Try.checked os 5 .any (Rows.entryCutSpec.pre6 enc Try.prog Try.f5 Rows.entryCutRow.domain false) (Rows.entryCutSpec.post enc Try.prog Try.f5 false true false false) := by
  refine law_lifted (C := Try.checked) own started (by kernel_rfl) Try.func5
    (ChangeSpec.witness6 (enc := enc) (C := Try.checked) false ⟨#[], #[.agg #[.int .i64 0, .int .u64 0, .int .u64 0, .int .u64 0, .int .u64 0, .int .u64 0], .int .u8 0, .int .u8 0], []⟩ 8 (by kernel_rfl) (by kernel_rfl) (by kernel_rfl) (by kernel_rfl))
    (by kernel_rfl) (by kernel_rfl) Try.underlying4 rfl (by kernel_rfl) ?_
  intro W base args ds before hval hA _ hlt
  have hA' : DataW.TrodAll enc Try.prog W 0 (fun _ => true) true Try.f5.params.toList args.toList ds before := hA
  have hval' : ∀ (j : Nat) t v, Try.f5.params[j]? = some t → args[j]? = some v → Value.okWide Try.prog W .any base t v := hval
  rw [Try.params5] at hA' hval'
  obtain ⟨v0, vs0, d0, ds0, p0, q0, hargs, rfl, rfl, h0, r0⟩ := trodAll_cons hA'
  obtain ⟨v1, vs1, d1, ds1, p1, q1, rfl, rfl, rfl, h1, r1⟩ := trodAll_cons r0
  obtain ⟨v2, vs2, d2, ds2, p2, q2, rfl, rfl, rfl, h2, r2⟩ := trodAll_cons r1
  obtain ⟨rfl, rfl, rfl⟩ := trodAll_nil r2
  obtain rfl : args = #[v0, v1, v2] := by cases args; simp_all
  obtain ⟨ek, es, ey, eu, ev, ex, rfl, eb, ef⟩ := open_ent (hval' 0 24 v0 rfl rfl) h0
  obtain ⟨at_, rfl, _, rfl, w1⟩ := open_int Try.underlying5 (hval' 1 5 v1 rfl rfl) h1
  have b1 := wf_u8 w1
  obtain ⟨at_, rfl⟩ := Int.eq_ofNat_of_zero_le b1.1
  obtain ⟨c, rfl, _, rfl, w2⟩ := open_int Try.underlying5 (hval' 2 5 v2 rfl rfl) h2
  have b2 := wf_u8 w2
  obtain ⟨c, rfl⟩ := Int.eq_ofNat_of_zero_le b2.1
  refine ⟨rfl, ?_⟩
  by_cases hm : (Ent.mk ek es ey eu ev ex).mayB = true
  · by_cases hs : c = (Ent.mk ek es ey eu ev ex).bytes.getD (at_ % (Ent.mk ek es ey eu ev ex).bytes.length) 0
    · exact walkSame ek es ey eu ev ex at_ c (by omega) (by omega) ef hm hs W
    · exact walkOther ek es ey eu ev ex at_ c (by omega) (by omega) ef hm hs W
  · exact walkNo ek es ey eu ev ex at_ c ef (by simpa using hm) W

theorem over : Rows.entryCutRow.holds Try.pinned (OpenSpec.ofChange Rows.entryCutSpec) :=
  OpenClaim.holds_of_wide 5 Try.f5 rfl rfl rfl rfl rfl rfl rfl ⟨rfl, rfl, rfl, rfl, rfl⟩ rfl rfl rfl rfl rfl (by kernel_rfl) Try.func5 (by kernel_rfl)
    (of_decide_eq_true (by kernel_rfl)) (by unfold Func.isWrapper; first | (rw [if_pos (by decide +kernel)]; kernel_rfl) | (rw [if_neg (by decide +kernel)]; exact ⟨rfl, rfl⟩))
    (fun os started H enc _ => lifted os started H enc)

/-- The statement. -/
theorem proved : Rows.EntryCutSaid :=
  over
#print axioms proved
end Go.Proofs.Ytioheffdolnciaa.entryCut
