/- LstSweep -/
import Derived.Test.YtibpfkcackdbgaaGreatDoorLstChain
namespace Go.Proofs.YtibpfkcackdbgaaGreatDoor
open Go.ChangeShapes Go.WideShapes Go.ChangeAt Go.RowKit Go.BigFrame
set_option linter.unusedVariables false
set_option maxRecDepth 100000
theorem noDeath_add {g : Nat} (hg : g < 18446744073709551616) (h : hasF g 2 = false) : g + 2 < 18446744073709551616 := by
  unfold hasF at h
  rw [decide_eq_false_iff_not, show bitsN (2 : Int) = 2 by decide] at h
  omega
theorem death_put {g : Nat} (h : hasF g 2 = false) : hasF (g + 2) 2 = true := by
  unfold hasF at *
  rw [decide_eq_false_iff_not, show bitsN (2 : Int) = 2 by decide] at h
  rw [decide_eq_true_iff, show bitsN (2 : Int) = 2 by decide]
  omega
namespace Prd
section
variable {n me : Nat} {W : WS} {j : Nat}
def outH (t p x v : Nat) (G : Nat → Nat) : Nat → Nat := retG t x (setW G (nextN t p) (linkN (refN v) false))
theorem takeOut_has {t p x v f : Nat} (hx : 1 ≤ x) (hx2 : x < 1048576) (hp : nextN t p < n) (hn : fieldN t x 7 < n) (hW : ∀ q, W.1 q < 18446744073709551616) (hb : hasF (W.1 (fieldN t x 2)) 2 = true) (hl : W.1 (nextN t p) = linkN x false) :
    (takeOut t p x v (f + 1)).run (wTell n me nf) (W, j) = .done 3 ((outH t p x v W.1, W.2), j + 6) := by
  have hf2 : fieldN t x 2 < n := by unfold fieldN at *; omega
  have hb2 : hasF (W.1 (fieldN t x 2)) ((2 : Nat) : Int) = true := hb
  unfold takeOut
  rw [run_bind, save_run hf2 hW, rest_has hb2]
  simp only [RanD.next, if_true]
  have h2 := run_cas (n := n) (me := me) (fail := nf) (j := j + 1) (W := W) hp hW (linkN (refN v) false) fun d => if d = 1 then (Prg.retire t x (f + 1)).up.bind fun _ => ret 3 else ret 1
  rw [hl] at h2
  rw [h2, if_pos rfl, run_bind]
  have w2 := setW_lt hW (i := nextN t p) (linkN_lt' (refN_lt v) false)
  rw [retire_run (W := (setW W.1 (nextN t p) (linkN (refN v) false), W.2)) hn hx w2]
  rfl
def hit (t st : Nat) (G : Nat → Nat) (x : Nat) : Bool := decide (G (fieldN t x 1) % 2147483648 ≠ 0 ∧ (G (fieldN t x 4) = st ∨ G (fieldN t x 5) = st))
theorem edge_run {t x st : Nat} (hi : fieldN t x 7 < n) (hW : ∀ q, W.1 q < 18446744073709551616) :
    ∃ j', j' ≤ j + 3 ∧ (edge t x st).run (wTell n me nf) (W, j) = .done (if hit t st W.1 x = true then 1 else 0) (W, j') := by
  have h1 : fieldN t x 1 < n := by unfold fieldN at *; omega
  have h4 : fieldN t x 4 < n := by unfold fieldN at *; omega
  have h5 : fieldN t x 5 < n := by unfold fieldN at *; omega
  unfold edge
  by_cases hk : W.1 (fieldN t x 1) % 2147483648 = 0
  · refine ⟨j + 1, by omega, ?_⟩
    have hh : hit t st W.1 x = false := by unfold hit; rw [decide_eq_false_iff_not]; exact fun h => h.1 hk
    rw [run_load h1 hW, if_pos hk, hh]
    rfl
  · refine ⟨j + 3, by omega, ?_⟩
    have hh : (hit t st W.1 x = true) ↔ (W.1 (fieldN t x 4) = st ∨ W.1 (fieldN t x 5) = st) := by unfold hit; rw [decide_eq_true_iff]; exact ⟨fun h => h.2, fun h => ⟨hk, h⟩⟩
    rw [run_load h1 hW, if_neg hk, run_load h4 hW, run_load h5 hW]
    simp only [hh]
    rfl
def hitG (t x v : Nat) (G : Nat → Nat) : Nat → Nat := setW (setW G (nextN t x) (v + 1)) (fieldN t x 2) (G (fieldN t x 2) + 2)
theorem lookW_no {t x v st f : Nat} (hi : fieldN t x 7 < n) (hW : ∀ q, W.1 q < 18446744073709551616) (hh : hit t st W.1 x = false) :
    ∃ j', j' ≤ j + 3 ∧ (lookW t st f x v).run (wTell n me nf) (W, j) = .done 0 (W, j') := by
  obtain ⟨j', hj, hr⟩ := edge_run (n := n) (me := me) (j := j) (st := st) hi hW
  refine ⟨j', hj, ?_⟩
  unfold lookW
  rw [run_bind, hr, hh]
  rfl
theorem lookW_hit {t x v st f : Nat} (hx : 1 ≤ x) (hi : fieldN t x 7 < n) (hW : ∀ q, W.1 q < 18446744073709551616) (hh : hit t st W.1 x = true) (hv : W.1 (nextN t x) = v) (hv2 : v + 1 < 18446744073709551616) (hb : hasF (W.1 (fieldN t x 2)) 2 = false) :
    ∃ j', j' ≤ j + 6 ∧ (lookW t st (f + 1) x v).run (wTell n me nf) (W, j) = .done 1 ((hitG t x v W.1, W.2), j') := by
  obtain ⟨j', hj, hr⟩ := edge_run (n := n) (me := me) (j := j) (st := st) hi hW
  have hn0 : nextN t x < n := by rw [nextN_pos (by omega)]; unfold fieldN at *; omega
  have hf2 : fieldN t x 2 < n := by unfold fieldN at *; omega
  have hne : fieldN t x 2 ≠ nextN t x := by rw [nextN_pos (by omega)]; unfold fieldN; omega
  refine ⟨j' + 1 + 2, by omega, ?_⟩
  unfold lookW
  rw [run_bind, hr, hh]
  simp only [RanD.next, if_true]
  rw [run_bind]
  unfold markW
  have h2 := run_cas (n := n) (me := me) (fail := nf) (j := j') (W := W) hn0 hW (v + 1) fun d => ret d
  rw [hv] at h2
  rw [h2]
  have hr1 : (ret 1).run (wTell n me nf) ((setW W.1 (nextN t x) (v + 1), W.2), j' + 1) = .done 1 ((setW W.1 (nextN t x) (v + 1), W.2), j' + 1) := rfl
  rw [hr1]
  simp only [RanD.next, if_true]
  have w1 := setW_lt hW (i := nextN t x) hv2
  rw [run_bind]
  unfold set
  have e2 : setW W.1 (nextN t x) (v + 1) (fieldN t x 2) = W.1 (fieldN t x 2) := setW_ne hne
  have h3 := raise_run (n := n) (me := me) (fail := nf) (j := j' + 1) (W := (setW W.1 (nextN t x) (v + 1), W.2)) (F := fieldN t x 2) (b := 2) (m := f) (ov := fun g => hasF g ((2 : Nat) : Int)) hf2 w1 (by show hasF (setW W.1 (nextN t x) (v + 1) (fieldN t x 2)) 2 = false; rw [e2]; exact hb)
  rw [h3]
  have e3 : setW (setW W.1 (nextN t x) (v + 1), W.2).1 (fieldN t x 2) ((setW W.1 (nextN t x) (v + 1), W.2).1 (fieldN t x 2) + 2) = hitG t x v W.1 := by
    unfold hitG
    show setW (setW W.1 (nextN t x) (v + 1)) (fieldN t x 2) (setW W.1 (nextN t x) (v + 1) (fieldN t x 2) + 2) = _
    rw [e2]
  rw [e3]
  rfl
end
end Prd
theorem retG_ne {t x q : Nat} {G : Nat → Nat} (h7 : q ≠ fieldN t x 7) (hl : q < 4 ∨ 7 ≤ q) : Prd.retG t x G q = G q := by
  unfold Prd.retG
  have hL := Prd.limbo_small (G 3)
  rw [setW_ne (by omega), setW_ne h7]
theorem retG_lt {t x : Nat} {G : Nat → Nat} (hx : x < 1048576) (hW : ∀ q, G q < 18446744073709551616) (q : Nat) : Prd.retG t x G q < 18446744073709551616 := setW_lt (setW_lt hW (hW _)) (by omega) q
theorem nextN_fld {t p x a : Nat} (hx : 1 ≤ x) (ha : a < 8) (h : a ≠ 0 ∨ p ≠ x) : nextN t p ≠ fieldN t x a := fun he => by
  unfold nextN at he
  split at he
  · unfold fieldN at he; omega
  · have := fieldN_inj (by omega) hx (by decide) ha he; omega
structure Swept (t st : Nat) (l : List Nat) (p : Nat) (G G' : Nat → Nat) (x' : Nat) (l' : List Nat) : Prop where
  line : Line t G' x' l'
  head : G' (nextN t p) = linkN x' false
  dead : ∀ y, y ∈ l → hasF (G' (fieldN t y 2)) 2 = !(l'.contains y)
  keys : ∀ r a, 1 ≤ r → a = 1 ∨ a = 3 ∨ a = 4 ∨ a = 5 ∨ a = 6 → G' (fieldN t r a) = G (fieldN t r a)
  oth : ∀ r, 1 ≤ r → r ∉ l → G' (fieldN t r 2) = G (fieldN t r 2) ∧ (r ≠ p → G' (fieldN t r 0) = G (fieldN t r 0))
  zero : p ≠ 0 → G' 0 = G 0
def stays (t st : Nat) (G : Nat → Nat) (y : Nat) : Bool := !(markB (G (fieldN t y 0))) && !(Prd.hit t st G y)
theorem stays_of {t st : Nat} {G G' : Nat → Nat} {y : Nat} (h0 : G' (fieldN t y 0) = G (fieldN t y 0)) (h1 : G' (fieldN t y 1) = G (fieldN t y 1)) (h4 : G' (fieldN t y 4) = G (fieldN t y 4)) (h5 : G' (fieldN t y 5) = G (fieldN t y 5)) : stays t st G' y = stays t st G y := by
  unfold stays Prd.hit
  rw [h0, h1, h4, h5]
section
variable {t st : Nat} {l l' : List Nat} {p x x' : Nat} {G G1 G' : Nat → Nat}
theorem Line.lt (h : Line t G x l) : x < 1048576 := by
  cases l with
  | nil => have : x = 0 := h; omega
  | cons y l => exact h.2.2.1
theorem Swept.stay (h : Swept t st l x G G' x' l') (hx : 1 ≤ x) (hx2 : x < 1048576) (hxl : x ∉ l) (hpx : p ≠ x) (hpl : p ∉ l) (hl : G (nextN t p) = linkN x false) (hf : hasF (G (fieldN t x 2)) 2 = false) : Swept t st (x :: l) p G G' x (x :: l') where
  line := by
    have hh := h.head
    have hlt := h.line.lt
    rw [nextN_pos (by omega)] at hh
    have hv : linkN x' false = 2 * x' := by unfold linkN; simp
    rw [hv] at hh
    refine ⟨rfl, hx, hx2, by omega, ?_⟩
    rw [hh, refN_small (by omega), show 2 * x' / 2 = x' by omega]
    exact h.line
  head := by
    rw [← hl]
    by_cases hp : p = 0
    · subst hp
      rw [nextN_0]
      exact h.zero (by omega)
    · rw [nextN_pos hp]
      exact (h.oth p (by omega) hpl).2 hpx
  dead := fun y hy => by
    rcases List.mem_cons.1 hy with rfl | hy
    · rw [(h.oth y hx hxl).1, hf]
      simp
    · have hne : y ≠ x := fun e => hxl (e ▸ hy)
      rw [h.dead y hy]
      simp [hne]
  keys := h.keys
  oth := fun r hr hrl => by
    have h1 : r ∉ l := fun e => hrl (List.mem_cons_of_mem _ e)
    have h2 : r ≠ x := fun e => hrl (e ▸ List.mem_cons_self ..)
    exact ⟨(h.oth r hr h1).1, fun _ => (h.oth r hr h1).2 h2⟩
  zero := fun _ => h.zero (by omega)
theorem Swept.drop (h : Swept t st l p G1 G' x' l') (hx : 1 ≤ x) (hxl : x ∉ l) (hsub : ∀ y, y ∈ l' → y ∈ l) (hd : hasF (G1 (fieldN t x 2)) 2 = true) (hk : ∀ r a, 1 ≤ r → a = 1 ∨ a = 3 ∨ a = 4 ∨ a = 5 ∨ a = 6 → G1 (fieldN t r a) = G (fieldN t r a)) (ho : ∀ r, 1 ≤ r → r ≠ x → G1 (fieldN t r 2) = G (fieldN t r 2) ∧ (r ≠ p → G1 (fieldN t r 0) = G (fieldN t r 0))) (hz : p ≠ 0 → G1 0 = G 0) : Swept t st (x :: l) p G G' x' l' where
  line := h.line
  head := h.head
  dead := fun y hy => by
    rcases List.mem_cons.1 hy with rfl | hy
    · have hno : l'.contains y = false := by
        cases hc : l'.contains y with
        | false => rfl
        | true => exact absurd (hsub y (by simpa using hc)) hxl
      rw [(h.oth y hx hxl).1, hd, hno]
      rfl
    · exact h.dead y hy
  keys := fun r a hr ha => (h.keys r a hr ha).trans (hk r a hr ha)
  oth := fun r hr hrl => by
    have h1 : r ∉ l := fun e => hrl (List.mem_cons_of_mem _ e)
    have h2 : r ≠ x := fun e => hrl (e ▸ List.mem_cons_self ..)
    exact ⟨(h.oth r hr h1).1.trans (ho r hr h2).1, fun hp => ((h.oth r hr h1).2 hp).trans ((ho r hr h2).2 hp)⟩
  zero := fun hp => (h.zero hp).trans (hz hp)
end
namespace Prd
variable {n me : Nat}
theorem walk_out_has {W : WS} {t f m p x j : Nat} (hx : 1 ≤ x) (hx2 : x < 1048576) (hp : nextN t p < n) (hn : fieldN t x 7 < n) (hW : ∀ q, W.1 q < 18446744073709551616) (hb : hasF (W.1 (fieldN t x 2)) 2 = true) (hl : W.1 (nextN t p) = linkN x false) (hmk : markB (W.1 (fieldN t x 0)) = true) (look : Nat → Nat → Prd) :
    (walk t look (f + 1) (m + 1) p x).run (wTell n me nf) (W, j) = (walk t look (f + 1) m p (refN (W.1 (fieldN t x 0)))).run (wTell n me nf) ((outH t p x (W.1 (fieldN t x 0)) W.1, W.2), j + 7) := by
  conv => lhs; unfold walk
  rw [if_neg (by omega), run_load (by unfold fieldN at *; omega) hW, if_pos hmk, run_bind, takeOut_has hx hx2 hp hn hW hb hl]
  simp only [RanD.next]
  rw [if_neg (by decide)]
  simp only [if_true]
theorem filter_same {q q' : Nat → Bool} : ∀ l : List Nat, (∀ y, y ∈ l → q y = q' y) → l.filter q = l.filter q'
  | [], _ => rfl
  | y :: l, h => by
    rw [List.filter_cons, List.filter_cons, h y (List.mem_cons_self ..), filter_same l fun z hz => h z (List.mem_cons_of_mem _ hz)]
theorem sweep_line {t st f : Nat} : ∀ (l : List Nat) (p x m j : Nat) (W : WS), (∀ q, W.1 q < 18446744073709551616) → Line t W.1 x l → 2 * l.length < m → (∀ y, y ∈ l → fieldN t y 7 < n) → nextN t p < n → (p :: l).Nodup → W.1 (nextN t p) = linkN x false → me < W.2.length → (stmAt W me).bytes.length + 47 * l.length ≤ 100000 → (∀ y, y ∈ l → hasF (W.1 (fieldN t y 2)) 2 = false) →
    ∃ d W' j' x', d ≠ 0 ∧ j' ≤ j + 17 * l.length ∧ (walk t (lookW t st (f + 1)) (f + 1) m p x).run (wTell n me nf) (W, j) = .done d (W', j') ∧ Swept t st l p W.1 W'.1 x' (l.filter (stays t st W.1))
  | [], p, x, 0, _, _, _, _, hm, _, _, _, _, _, _, _ => absurd hm (Nat.not_lt_zero _)
  | [], p, x, m + 1, j, W, _, hl, _, _, _, _, hlk, _, _, _ => by
    have hx : x = 0 := hl
    subst hx
    exact ⟨_, W, j, 0, encS_ne p 0 0, Nat.le_refl _, walk_nil, ⟨rfl, hlk, fun y hy => absurd hy (List.not_mem_nil), fun _ _ _ _ => rfl, fun _ _ _ => ⟨rfl, fun _ => rfl⟩, fun _ => rfl⟩⟩
  | y :: l, p, x, 0, _, _, _, _, hm, _, _, _, _, _, _, _ => absurd hm (Nat.not_lt_zero _)
  | y :: l, p, x, 1, _, _, _, _, hm, _, _, _, _, _, _, _ => by simp only [List.length_cons] at hm; omega
  | y :: l, p, x, m + 2, j, W, hW, ⟨h1, h2, h3, h4, h5⟩, hm, hn, hpn, hnd, hlk, hme, hst, hfl => by
    subst h1
    have h7 := hn x (List.mem_cons_self ..)
    have hf0 : fieldN t x 0 < n := by unfold fieldN at *; omega
    have hxl : x ∉ l := (List.nodup_cons.1 (List.nodup_cons.1 hnd).2).1
    have hpl : p ∉ x :: l := (List.nodup_cons.1 hnd).1
    have hpx : p ≠ x := fun h => hpl (by rw [h]; exact List.mem_cons_self ..)
    have hpl' : p ∉ l := fun h => hpl (List.mem_cons_of_mem _ h)
    have hnl : l.Nodup := (List.nodup_cons.1 (List.nodup_cons.1 hnd).2).2
    simp only [List.length_cons] at hst hm ⊢
    have hlm := h5.small
    have hfx := hfl x (List.mem_cons_self ..)
    have hadd := noDeath_add (hW _) hfx
    have hN2 : ∀ r, nextN t p ≠ fieldN t r 2 ∨ r = 0 := fun r => by
      by_cases hr : r = 0
      · exact .inr hr
      · exact .inl (nextN_fld (by omega) (by decide) (.inl (by decide)))
    -- what the words are behind a taking out
    have hsubf : ∀ (q : Nat → Bool) y, y ∈ l.filter q → y ∈ l := fun q y hy => (List.mem_filter.1 hy).1
    -- the rest of the line by other words
    have hrest : ∀ (G1 : Nat → Nat), (∀ r a, 1 ≤ r → a = 1 ∨ a = 3 ∨ a = 4 ∨ a = 5 ∨ a = 6 → G1 (fieldN t r a) = W.1 (fieldN t r a)) → (∀ r, 1 ≤ r → r ≠ x → G1 (fieldN t r 2) = W.1 (fieldN t r 2) ∧ (r ≠ p → G1 (fieldN t r 0) = W.1 (fieldN t r 0))) → Line t G1 (refN (W.1 (fieldN t x 0))) l ∧ l.filter (stays t st G1) = l.filter (stays t st W.1) ∧ ∀ y, y ∈ l → hasF (G1 (fieldN t y 2)) 2 = false := fun G1 hk ho => by
      have hyx : ∀ y, y ∈ l → y ≠ x ∧ y ≠ p := fun y hy => ⟨fun e => hxl (e ▸ hy), fun e => hpl' (e ▸ hy)⟩
      refine ⟨h5.of fun y hy => (ho y (hlm y hy).1 (hyx y hy).1).2 (hyx y hy).2, filter_same l fun y hy => ?_, fun y hy => ?_⟩
      · have hy1 := (hlm y hy).1
        exact stays_of ((ho y hy1 (hyx y hy).1).2 (hyx y hy).2) (hk y 1 hy1 (by omega)) (hk y 4 hy1 (by omega)) (hk y 5 hy1 (by omega))
      · rw [(ho y (hlm y hy).1 (hyx y hy).1).1]
        exact hfl y (List.mem_cons_of_mem _ hy)
    have hnp : nextN t p < 4 ∨ 7 ≤ nextN t p := by unfold nextN fieldN; split <;> omega
    cases hmk : markB (W.1 (fieldN t x 0)) with
    | true =>
      have hsx : stays t st W.1 x = false := by unfold stays; rw [hmk]; rfl
      have hpf : ∀ a, a < 8 → a ≠ 0 ∨ p ≠ x → nextN t p ≠ fieldN t x a := fun a ha hor => nextN_fld h2 ha hor
      have hk : ∀ r a, 1 ≤ r → a = 1 ∨ a = 3 ∨ a = 4 ∨ a = 5 ∨ a = 6 → outG t p x (W.1 (fieldN t x 0)) W.1 (fieldN t r a) = W.1 (fieldN t r a) := fun r a hr ha =>
        outG_ne (fun e => by have := (fieldN_inj hr h2 (by omega) (by decide) e).2; omega) (fun e => nextN_fld hr (by omega) (.inl (by omega)) e.symm) (fun e => by have := (fieldN_inj hr h2 (by omega) (by decide) e).2; omega) (by unfold fieldN; omega)
      have ho : ∀ r, 1 ≤ r → r ≠ x → outG t p x (W.1 (fieldN t x 0)) W.1 (fieldN t r 2) = W.1 (fieldN t r 2) ∧ (r ≠ p → outG t p x (W.1 (fieldN t x 0)) W.1 (fieldN t r 0) = W.1 (fieldN t r 0)) := fun r hr hrx =>
        ⟨outG_ne (fun e => hrx (fieldN_inj hr h2 (by decide) (by decide) e).1) (fun e => nextN_fld hr (by decide) (.inl (by decide)) e.symm) (fun e => by have := (fieldN_inj hr h2 (by decide) (by decide) e).2; omega) (by unfold fieldN; omega),
         fun hrp => outG_ne (fun e => by have := (fieldN_inj hr h2 (by decide) (by decide) e).2; omega) (fun e => nextN_fld hr (by decide) (.inr (Ne.symm hrp)) e.symm) (fun e => by have := (fieldN_inj hr h2 (by decide) (by decide) e).2; omega) (by unfold fieldN; omega)⟩
      have hd : hasF (outG t p x (W.1 (fieldN t x 0)) W.1 (fieldN t x 2)) 2 = true := by
        unfold outG
        rw [retG_ne (by unfold fieldN; omega) (by unfold fieldN; omega), setW_ne (fun e => hpf 2 (by decide) (.inl (by decide)) e.symm), setW_eq]
        exact death_put hfx
      have hz : p ≠ 0 → outG t p x (W.1 (fieldN t x 0)) W.1 0 = W.1 0 := fun hp0 =>
        outG_ne (by unfold fieldN; omega) (by rw [nextN_pos hp0]; unfold fieldN; omega) (by unfold fieldN; omega) (by omega)
      obtain ⟨hline, hfil, hfl'⟩ := hrest _ hk ho
      have hlen : (stmAt ((outG t p x (W.1 (fieldN t x 0)) W.1, putR me (dataN (entW t x 2 W.1)) W.2) : WS) me).bytes.length ≤ (stmAt W me).bytes.length + 47 := by
        have hdl := data_len (entW t x 2 W.1)
        unfold stmAt putR
        simp only [List.getD_eq_getElem?_getD, List.getElem?_set, hme]
        simp
        omega
      obtain ⟨d, W', j', x', hd0, hj, hr, hs⟩ := sweep_line (t := t) (st := st) (f := f) l p _ (m + 1) (j + 11) (outG t p x (W.1 (fieldN t x 0)) W.1, putR me (dataN (entW t x 2 W.1)) W.2) (outG_lt h3 hW hadd) hline (by omega) (fun y hy => hn y (List.mem_cons_of_mem _ hy)) hpn (List.nodup_cons.2 ⟨hpl', hnl⟩) (outG_next h2 (hpf 7 (by decide) (.inl (by decide)))) (by unfold putR; rw [List.length_set]; exact hme) (by omega) hfl'
      refine ⟨d, W', j', x', hd0, by omega, ?_, ?_⟩
      · rw [walk_out h2 h3 hpn (hpf 2 (by decide) (.inl (by decide))) h7 hW hme (by omega) hfx hlk hmk, hr]
      · rw [List.filter_cons, hsx, if_neg (by decide)]
        have hs' := hs
        rw [show ((outG t p x (W.1 (fieldN t x 0)) W.1, putR me (dataN (entW t x 2 W.1)) W.2) : WS).1 = outG t p x (W.1 (fieldN t x 0)) W.1 from rfl, hfil] at hs'
        exact hs'.drop h2 hxl (hsubf _) hd hk ho hz
    | false =>
      have heven : W.1 (fieldN t x 0) % 2 = 0 := by
        unfold markB at hmk
        rw [decide_eq_false_iff_not] at hmk
        omega
      cases hh : hit t st W.1 x with
      | false =>
        have hsx : stays t st W.1 x = true := by unfold stays; rw [hmk, hh]; rfl
        have hlink : W.1 (nextN t x) = linkN (refN (W.1 (fieldN t x 0))) false := by
          rw [nextN_pos (by omega), refN_small h4]
          unfold linkN
          simp
          omega
        obtain ⟨j1, hj1, hr1⟩ := lookW_no (n := n) (me := me) (W := W) (j := j + 1) (v := W.1 (fieldN t x 0)) (f := f + 1) h7 hW hh
        obtain ⟨d, W', j', x', hd0, hj, hr, hs⟩ := sweep_line (t := t) (st := st) (f := f) l x _ (m + 1) j1 W hW h5 (by omega) (fun y hy => hn y (List.mem_cons_of_mem _ hy)) (by rw [nextN_pos (by omega)]; exact hf0) (List.nodup_cons.2 ⟨hxl, hnl⟩) hlink hme (by omega) fun y hy => hfl y (List.mem_cons_of_mem _ hy)
        refine ⟨d, W', j', x, hd0, by omega, ?_, ?_⟩
        · rw [walk_look (by omega) hf0 hW hmk, run_bind, hr1]
          simp only [RanD.next, if_true]
          exact hr
        · rw [List.filter_cons, hsx, if_pos rfl]
          exact hs.stay h2 h3 hxl hpx hpl' hlk hfx
      | true =>
        have hsx : stays t st W.1 x = false := by unfold stays; rw [hh]; simp
        obtain ⟨v, hv⟩ : ∃ v, W.1 (fieldN t x 0) = v := ⟨_, rfl⟩
        have hvn : W.1 (nextN t x) = v := by rw [nextN_pos (by omega)]; exact hv
        have hx0 : nextN t x = fieldN t x 0 := nextN_pos (by omega)
        rw [hv] at h4 h5 heven
        have hrefs : refN (v + 1) = refN v := by unfold refN; omega
        obtain ⟨j1, hj1, hr1⟩ := lookW_hit (n := n) (me := me) (W := W) (j := j + 1) (v := v) (f := f) h2 h7 hW hh hvn (by omega) hfx
        have hG1 : ∀ q, q ≠ fieldN t x 0 → q ≠ fieldN t x 2 → hitG t x v W.1 q = W.1 q := fun q q1 q2 => by
          unfold hitG
          rw [setW_ne q2, hx0, setW_ne q1]
        have hG1n : hitG t x v W.1 (fieldN t x 0) = v + 1 := by
          unfold hitG
          rw [setW_ne (by unfold fieldN; omega), hx0, setW_eq]
        have hG1f : hitG t x v W.1 (fieldN t x 2) = W.1 (fieldN t x 2) + 2 := by unfold hitG; rw [setW_eq]
        have hW1 : ∀ q, hitG t x v W.1 q < 18446744073709551616 := setW_lt (setW_lt hW (by omega)) hadd
        have hlk1 : hitG t x v W.1 (nextN t p) = linkN x false := by
          rw [hG1 _ (nextN_fld h2 (by decide) (.inr hpx)) (nextN_fld h2 (by decide) (.inl (by decide)))]
          exact hlk
        have hG2 : ∀ q, q ≠ fieldN t x 7 → q ≠ nextN t p → (q < 4 ∨ 7 ≤ q) → outH t p x (v + 1) (hitG t x v W.1) q = hitG t x v W.1 q := fun q q1 q2 q3 => by
          unfold outH
          rw [retG_ne q1 q3, setW_ne q2]
        have hk : ∀ r a, 1 ≤ r → a = 1 ∨ a = 3 ∨ a = 4 ∨ a = 5 ∨ a = 6 → outH t p x (v + 1) (hitG t x v W.1) (fieldN t r a) = W.1 (fieldN t r a) := fun r a hr ha => by
          rw [hG2 _ (fun e => by have := (fieldN_inj hr h2 (by omega) (by decide) e).2; omega) (fun e => nextN_fld hr (by omega) (.inl (by omega)) e.symm) (by unfold fieldN; omega)]
          exact hG1 _ (fun e => by have := (fieldN_inj hr h2 (by omega) (by decide) e).2; omega) (fun e => by have := (fieldN_inj hr h2 (by omega) (by decide) e).2; omega)
        have ho : ∀ r, 1 ≤ r → r ≠ x → outH t p x (v + 1) (hitG t x v W.1) (fieldN t r 2) = W.1 (fieldN t r 2) ∧ (r ≠ p → outH t p x (v + 1) (hitG t x v W.1) (fieldN t r 0) = W.1 (fieldN t r 0)) := fun r hr hrx => by
          refine ⟨?_, fun hrp => ?_⟩
          · rw [hG2 _ (fun e => by have := (fieldN_inj hr h2 (by decide) (by decide) e).2; omega) (fun e => nextN_fld hr (by decide) (.inl (by decide)) e.symm) (by unfold fieldN; omega)]
            exact hG1 _ (fun e => by have := (fieldN_inj hr h2 (by decide) (by decide) e).2; omega) (fun e => hrx (fieldN_inj hr h2 (by decide) (by decide) e).1)
          · rw [hG2 _ (fun e => by have := (fieldN_inj hr h2 (by decide) (by decide) e).2; omega) (fun e => nextN_fld hr (by decide) (.inr (Ne.symm hrp)) e.symm) (by unfold fieldN; omega)]
            exact hG1 _ (fun e => hrx (fieldN_inj hr h2 (by decide) (by decide) e).1) (fun e => by have := (fieldN_inj hr h2 (by decide) (by decide) e).2; omega)
        have hd : hasF (outH t p x (v + 1) (hitG t x v W.1) (fieldN t x 2)) 2 = true := by
          rw [hG2 _ (by unfold fieldN; omega) (fun e => nextN_fld h2 (by decide) (.inl (by decide)) e.symm) (by unfold fieldN; omega), hG1f]
          exact death_put hfx
        have hz : p ≠ 0 → outH t p x (v + 1) (hitG t x v W.1) 0 = W.1 0 := fun hp0 => by
          rw [hG2 _ (by unfold fieldN; omega) (by rw [nextN_pos hp0]; unfold fieldN; omega) (by omega)]
          exact hG1 _ (by unfold fieldN; omega) (by unfold fieldN; omega)
        rw [hv] at hrest
        obtain ⟨hline, hfil, hfl'⟩ := hrest _ hk ho
        have hnext : outH t p x (v + 1) (hitG t x v W.1) (nextN t p) = linkN (refN v) false := by
          unfold outH
          rw [retG_ne (nextN_fld h2 (by decide) (.inl (by decide))) hnp, setW_eq, hrefs]
        obtain ⟨d, W', j', x', hd0, hj, hr, hs⟩ := sweep_line (t := t) (st := st) (f := f) l p _ m (j1 + 7) (outH t p x (v + 1) (hitG t x v W.1), W.2) (retG_lt h3 (setW_lt hW1 (linkN_lt' (refN_lt _) false))) hline (by omega) (fun y hy => hn y (List.mem_cons_of_mem _ hy)) hpn (List.nodup_cons.2 ⟨hpl', hnl⟩) hnext hme (by show (stmAt W me).bytes.length + _ ≤ _; omega) hfl'
        refine ⟨d, W', j', x', hd0, by omega, ?_, ?_⟩
        · rw [walk_look (by omega) hf0 hW hmk, run_bind, hv, hr1]
          simp only [RanD.next]
          rw [if_neg (by decide)]
          simp only [if_true]
          have ho2 := walk_out_has (n := n) (me := me) (W := (hitG t x v W.1, W.2)) (t := t) (f := f) (m := m) (p := p) (x := x) (j := j1) h2 h3 hpn h7 hW1 (by show hasF (hitG t x v W.1 (fieldN t x 2)) 2 = true; rw [hG1f]; exact death_put hfx) hlk1 (by show markB (hitG t x v W.1 (fieldN t x 0)) = true; rw [hG1n]; unfold markB; rw [decide_eq_true_iff]; omega) (lookW t st (f + 1))
          rw [show (hitG t x v W.1, W.2).1 (fieldN t x 0) = v + 1 from hG1n, hrefs] at ho2
          rw [ho2]
          exact hr
        · rw [List.filter_cons, hsx, if_neg (by decide)]
          have hs' := hs
          rw [show ((outH t p x (v + 1) (hitG t x v W.1), W.2) : WS).1 = outH t p x (v + 1) (hitG t x v W.1) from rfl, hfil] at hs'
          exact hs'.drop h2 hxl (hsubf _) hd hk ho hz
end Prd
end Go.Proofs.YtibpfkcackdbgaaGreatDoor
