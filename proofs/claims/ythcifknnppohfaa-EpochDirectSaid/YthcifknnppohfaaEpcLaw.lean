/-
  What the laws of chapter 13 use: alone over a world of so many threads, as one contract; In; a record that is free is taken at once.
-/
import Derived.Test.YthcifknnppohfaaEpcE
namespace Go.Proofs.Ythcifknnppohfaa
open Go.ChangeShapes Go.WideShapes Go.ChangeAt Go.RowKit Go.BigFrame Go.Deep
set_option linter.unusedVariables false
set_option maxRecDepth 100000

theorem opsAlone {t c me : Nat} (ht1 : 1 ≤ t) (ht : t ≤ 64) (hc : c ≤ 65536) (hme : me < t) {k u : Int} {d : Nat} {er : Int} {oi : Bool} {NI : Int} {G GF : Nat → Nat} {s most : Nat} (h : Ops t me k u (sizeN t c) G d GF s) (hs : s ≤ most) (hmo : most ≤ 1000) (hu : k = 5 → 1 ≤ u ∧ u < 1048576) (he : eErr k = er) (ho : eIs k d = oi) (hN : (eN k d : Int) = NI)
    (r : Nat) (A : Option Addr) (ka : Nat) (R : Option Addr) (ra : Nat) (S : Option Addr) (sa : Nat) (w : World) (h0 : Hid (AtW w A (sizeN t c) G)) (h1 : Hid (StmsAt w R t (zerosS t))) (h2 : Hid (StmsAt w S t (zerosS t))) :
    Calls Try.prog 16 #[.agg #[.int .i64 (t : Int), .int .i64 (c : Int), .slice A (sizeN t c) ka, .int .u64 (r : Int), .slice R t ra, .slice S t sa], .int .i64 (me : Int), .agg #[.int .i64 k, .int .i64 u, .int .i64 0, .int .u64 0], .int .i64 (most : Int)] w (AloneEndE w t c A (sizeN t c) r R S t GF (zerosS t) (zerosS t) er oi NI) := by
  subst he ho hN
  exact eAlone_at t ht me (by omega) c k u 0 0 hu most hmo A (sizeN t c) ka r R t ra S sa (by unfold sizeN; omega) G (zerosS t) (zerosS t) d GF (h.alone hs) w h0 h1 h2
theorem EpcM.ops_free {t c me a : Nat} {u : Int} {G : Nat → Nat} {free hs : List Nat} {lim : Nat → List Nat} (h : EpcM t c G (a :: free) lim hs) : Ops t me 6 u (sizeN t c) G a (popG t G) 3 := by
  have e : ePrg t me 6 u 2000 = (Prg.pop t (1999 + 1)).bind fun r => Prg.allocL t me 2000 2000 3 r := rfl
  have ha := h.le a (by simp [allOf])
  have hr := Prg.mem_popP (m := 1999) h.lt h.isFree ha.2
  have hsp := Prg.st_pop (n := sizeN t c) h.lt t 1999
  have hz : Prg.allocL t me 2000 2000 3 a = .ret a := by unfold Prg.allocL; rw [if_pos (by omega)]
  unfold Ops
  rw [e]
  refine ⟨by rw [Prg.run_bind, hr]; show (Prg.allocL t me 2000 2000 3 a).run _ _ = _; rw [hz]; rfl, ?_⟩
  rw [Prg.steps_bind _ _ _ hr]
  show _ + (Prg.allocL t me 2000 2000 3 a).steps _ _ ≤ _
  rw [hz]
  exact hsp
set_option maxHeartbeats 1000000 in
theorem in_at (a : Option Addr) (k cap : Nat) (xs : List Nat) (B : Nat) (q : Nat) (w : World) (h : Hid (OwnI w B (.slice a k cap) xs)) (hx : xs.length ≤ 900000) :
    Calls Try.prog 17 #[.slice a k cap, .int .i64 (q : Int)] w fun e w' => e = .returned (.bool (decide (q ∈ xs))) ∧ w = w' := by
  obtain ⟨a', cap', e, hcap, hm, hc⟩ := h.out.form
  cases e
  have HX := Lib.hid hx
  clear hx hcap hm
  obtain ⟨k, hk⟩ : ∃ k, xs.length = k := ⟨_, rfl⟩
  have HC := Lib.hid hc
  have HK := Lib.hid hk
  rw [hk] at HX ⊢
  clear hc hk h
  go_enter Try.func17, Try.ntmps17
  go_wp2_with fail
  go_loopw [5] (fun i wr => ∃ j : Nat, j ≤ k ∧ i = .int .i64 (j : Int) ∧ q ∉ xs.take j ∧ wr = w) (fun i _ => k - (intOf i).toNat)
  case atStart => exact ⟨0, Nat.zero_le _, rfl, by simp, rfl⟩
  case round =>
    obtain ⟨j, hj, rfl, hno, rfl⟩ := hrel
    have hk9 := HX.out
    have HN := Lib.hid hno
    clear hno
    by_cases hjk : j < k
    case neg =>
      obtain rfl : j = k := by omega
      have he : decide (q ∈ xs) = false := by
        have := HN.out
        rw [← HK.out, List.take_length] at this
        exact decide_eq_false this
      have HE := Lib.hid he
      have d1 : decide ((j : Int) < (j : Int)) = false := by rw [decide_eq_false_iff_not]; omega
      have d1' : decide (j < j) = false := by rw [decide_eq_false_iff_not]; omega
      clear he
      go_wp2_with fail
      go_ret
      exact ⟨by rw [HE.out]; rfl, rfl⟩
    have d1 : decide ((j : Int) < (k : Int)) = true := by rw [decide_eq_true_iff]; omega
    have d1' : decide (j < k) = true := by rw [decide_eq_true_iff]; omega
    obtain ⟨x, hx⟩ : ∃ x, xs[j]? = some x := ⟨_, List.getElem?_eq_getElem (by rw [HK.out]; exact hjk)⟩
    obtain ⟨g, rfl, _, _, r1⟩ := HC.out j x hx
    have HXJ := Lib.hid hx
    have i0 : (0 : Int) ≤ (j : Int) := by omega
    have i1 : (j : Int) < (k : Int) := by omega
    clear hx
    by_cases hq : x = q
    · have dq : ((x : Int) == (q : Int)) = true := by rw [beq_iff_eq]; omega
      have he : decide (q ∈ xs) = true := decide_eq_true (by rw [← hq]; exact List.mem_of_getElem? HXJ.out)
      have HE := Lib.hid he
      clear he hq
      go_wp2_with fail
      go_ret
      exact ⟨by rw [HE.out]; rfl, rfl⟩
    · have dq : ((x : Int) == (q : Int)) = false := by rw [beq_eq_false_iff_ne]; omega
      have hno : q ∉ xs.take (j + 1) := by
        rw [List.take_add_one, HXJ.out]
        simp only [Option.toList_some, List.mem_append, List.mem_singleton]
        exact fun h => h.elim HN.out fun e => hq e.symm
      have HN2 := Lib.hid hno
      clear hno hq HN
      go_wp2_with fail
      go_roundw
      case rel => exact ⟨j + 1, by omega, by go_num, HN2.out, trivial⟩
      case measure => simp [intOf]; omega

/-! ### EpochBack, plain -/
def pins0 (t : Nat) (G : Nat → Nat) : Prop := ∀ j, j < t → G (pinN j) = 0
theorem pins0.new (t c : Nat) : pins0 t (newF t c) := fun j hj => newF_low (by unfold pinN; omega) (by unfold pinN; omega)
theorem pins0.pop {t : Nat} {G : Nat → Nat} (h : pins0 t G) : pins0 t (popG t G) := fun j hj => by rw [popG_off (by unfold pinN; omega)]; exact h j hj
theorem pins0.ret {t r : Nat} {G : Nat → Nat} (h1 : 1 ≤ r) (h : pins0 t G) : pins0 t (retG t r G) := fun j hj => by
  unfold retG
  rw [setW_off _ _ (by unfold pinN limboN; omega), setW_off _ _ (by unfold pinN fieldN; omega)]
  exact h j hj
theorem retG_three {t r : Nat} {G : Nat → Nat} : retG t r G 3 = G 3 := by
  unfold retG
  rw [setW_off _ _ (by unfold limboN; omega), setW_off _ _ (by unfold fieldN; omega)]
theorem EpcM.adv0 {t c me : Nat} {u : Int} {G : Nat → Nat} {free hs : List Nat} {lim : Nat → List Nat} (h : EpcM t c G free lim hs) (hc : c < 2000) (hp : pins0 t G) (he : G 3 + 3 < 18446744073709551616) :
    ∃ G', Ops t me 19 u (sizeN t c) G 1 G' (t + 3 + 4 * c) ∧ EpcM t c G' ((lim ((G 3 + 2) % 3)).reverse ++ free) (emptied lim ((G 3 + 2) % 3)) hs ∧ pins0 t G' ∧ G' 3 = G 3 + 1 := by
  have e2 : upN (G 3) 2 % 3 = (G 3 + 2) % 3 := by unfold upN; omega
  have e1 : upN (G 3) 1 = G 3 + 1 := by unfold upN; omega
  have hpp : ∀ j, j < t → G (pinN j) = 0 ∨ G (pinN j) = upN (G 3) 1 := fun j hj => .inl (hp j hj)
  have h1 := h.ops_go (me := me) (u := u) hc hpp
  have h2 := (h.advance (by omega : c < 1048576) (m := 0) hc hpp).2
  rw [e2] at h1 h2
  have hle : ∀ a ∈ lim ((G 3 + 2) % 3), 1 ≤ a := fun a ha => (h.le a (h.in_ (Nat.mod_lt _ (by decide)) ha)).1
  refine ⟨_, h1, h2, fun j hj => ?_, by rw [advG_epoch, e1]⟩
  rw [advG_off (by unfold pinN; omega) (by unfold pinN; omega) (by unfold pinN limboN; omega) (fun a ha => by have := hle a ha; unfold pinN fieldN; omega)]
  exact hp j hj
def B1 (c i : Nat) (G : Nat → Nat) : Prop := EpcM 2 c G (List.range' (i + 1) (c - i)) (fun _ => []) (List.range' 1 i) ∧ pins0 2 G ∧ G 3 = 0
def B2 (c i : Nat) (G : Nat → Nat) : Prop := ∃ free lim, EpcM 2 c G free lim (List.range' (i + 1) (c - i)) ∧ pins0 2 G ∧ G 3 ≤ i
def B3 (c i : Nat) (G : Nat → Nat) : Prop := ∃ free lim, EpcM 2 c G free lim [] ∧ pins0 2 G ∧ G 3 ≤ c + i ∧ ∀ k, k < i → lim ((G 3 + 4 - k) % 3) = []
theorem B1.start {c : Nat} (hc : c ≤ 65536) : B1 c 0 (newF 2 c) := ⟨EpcM.new hc, pins0.new 2 c, newF_low (by decide) (by decide)⟩
theorem B1.step {c i : Nat} {G : Nat → Nat} (h : B1 c i G) (hi : i < c) : Ops 2 0 6 0 (sizeN 2 c) G (i + 1) (popG 2 G) 200 ∧ B1 c (i + 1) (popG 2 G) := by
  obtain ⟨hM, hp, h3⟩ := h
  have e : List.range' (i + 1) (c - i) = (i + 1) :: List.range' (i + 1 + 1) (c - (i + 1)) := by
    rw [show c - i = (c - (i + 1)) + 1 by omega]; rfl
  rw [e] at hM
  refine ⟨hM.ops_free.mono (by decide), ?_, hp.pop, by rw [popG_off (by decide)]; exact h3⟩
  have := hM.pop
  rwa [show List.range' 1 i ++ [i + 1] = List.range' 1 (i + 1) by rw [List.range'_concat]; simp; omega] at this
theorem B1.end_ {c : Nat} {G : Nat → Nat} (h : B1 c c G) : B2 c 0 G := by
  obtain ⟨hM, hp, h3⟩ := h
  exact ⟨_, _, hM, hp, by omega⟩
theorem B2.retire {c i : Nat} {G : Nat → Nat} (h : B2 c i G) (hi : i < c) (hc : c ≤ 9) : Ops 2 1 5 ((i : Int) + 1) (sizeN 2 c) G 0 (retG 2 (i + 1) G) 9 ∧ B2 c (i + 1) (retG 2 (i + 1) G) := by
  obtain ⟨free, lim, hM, hp, h3⟩ := h
  have e : List.range' (i + 1) (c - i) = (i + 1) :: List.range' (i + 1 + 1) (c - (i + 1)) := by
    rw [show c - i = (c - (i + 1)) + 1 by omega]; rfl
  rw [e] at hM
  refine ⟨by
    have h := ops_retire (t := 2) (c := c) (me := 1) (r := i + 1) hM.lt (by omega) (by omega)
    rw [show (((i + 1 : Nat)) : Int) = (i : Int) + 1 by omega] at h
    exact h.mono (by decide), _, _, hM.retire (List.Perm.refl _) (by omega), hp.ret (by omega), by rw [retG_three]; omega⟩
theorem B2.adv {c i : Nat} {G : Nat → Nat} (h : B2 c (i + 1) G) (hi : G 3 ≤ i) (hc : c ≤ 9) (hic : i < c) : ∃ G', Ops 2 1 19 0 (sizeN 2 c) G 1 G' 200 ∧ B2 c (i + 1) G' := by
  obtain ⟨free, lim, hM, hp, h3⟩ := h
  obtain ⟨G', o, hM', hp', h3'⟩ := hM.adv0 (me := 1) (u := 0) (by omega) hp (by omega)
  exact ⟨G', o.mono (by omega), _, _, hM', hp', by omega⟩
theorem B2.end_ {c : Nat} {G : Nat → Nat} (h : B2 c c G) : B3 c 0 G := by
  obtain ⟨free, lim, hM, hp, h3⟩ := h
  rw [Nat.sub_self] at hM
  exact ⟨free, lim, hM, hp, by omega, fun k hk => absurd hk (Nat.not_lt_zero _)⟩
theorem B3.step {c i : Nat} {G : Nat → Nat} (h : B3 c i G) (hc : c ≤ 9) (hi : i < 3) : ∃ G', Ops 2 0 19 0 (sizeN 2 c) G 1 G' 200 ∧ B3 c (i + 1) G' := by
  obtain ⟨free, lim, hM, hp, h3, hl⟩ := h
  obtain ⟨G', o, hM', hp', h3'⟩ := hM.adv0 (me := 0) (u := 0) (by omega) hp (by omega)
  refine ⟨G', o.mono (by omega), _, _, hM', hp', by omega, fun k hk => ?_⟩
  unfold emptied
  split
  · rfl
  · rename_i hne
    cases k with
    | zero => exact absurd (by omega) hne
    | succ k =>
      have := hl k (by omega)
      rwa [show G' 3 + 4 - (k + 1) = G 3 + 4 - k by omega]
theorem B3.end_ {c : Nat} {G : Nat → Nat} (h : B3 c 3 G) : ∃ free, FreeIs 2 G free ∧ free.length = c ∧ (∀ a ∈ free, a ≤ c) ∧ ∀ q, 1 ≤ q → q ≤ c → q ∈ free := by
  obtain ⟨free, lim, hM, hp, h3, hl⟩ := h
  have h0 := hl 0 (by decide)
  have h1 := hl 1 (by decide)
  have h2 := hl 2 (by decide)
  have hz : ∀ i, i < 3 → lim i = [] := by
    intro i hi
    rcases (show i = (G 3 + 4 - 0) % 3 ∨ i = (G 3 + 4 - 1) % 3 ∨ i = (G 3 + 4 - 2) % 3 by omega) with rfl | rfl | rfl
    · exact h0
    · exact h1
    · exact h2
  have hall : allOf free lim ++ [] = free := by
    unfold allOf
    rw [hz 0 (by decide), hz 1 (by decide), hz 2 (by decide)]
    simp
  have hn := hM.nodup
  have hle := hM.le
  have hlen := hM.len
  rw [hall] at hn hle hlen
  refine ⟨free, hM.isFree, hlen, fun a ha => (hle a ha).2, fun q hq1 hq2 => ?_⟩
  exact Classical.byContradiction fun hq => by
    have hsub : (q :: free).length ≤ (List.range' 1 c).length := List.Nodup.length_le_of_subset (by rw [List.nodup_cons]; exact ⟨hq, hn⟩) (fun x hx => by
      rw [List.mem_range'_1]
      rcases List.mem_cons.1 hx with rfl | hx
      · omega
      · have := hle x hx; omega)
    rw [List.length_range', List.length_cons] at hsub
    omega
end Go.Proofs.Ythcifknnppohfaa
