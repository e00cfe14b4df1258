/-
  Records that are free, plain: a chain by links; what Pop and Push alone make of it.
-/
import Derived.Test.YtadknblgfcgkpaaPolAlone
import Derived.Test.YtadknblgfcgkpaaCllNew
namespace Go.Proofs.Ytadknblgfcgkpaa
set_option linter.unusedVariables false
set_option maxRecDepth 100000

theorem setW_same (G : Nat → Nat) (i : Nat) : setW G i (G i) = G := by
  funext j
  unfold setW
  split
  · subst_vars; rfl
  · rfl
theorem field_ge {t r : Nat} : 15 ≤ fieldN t r 7 := by unfold fieldN; omega
theorem field_inj {t r s : Nat} (hr : 1 ≤ r) (hs : 1 ≤ s) (h : fieldN t r 7 = fieldN t s 7) : r = s := by unfold fieldN at h; omega
theorem field_size {t c r : Nat} (h1 : 1 ≤ r) (hr : r ≤ c) : fieldN t r 7 < sizeN t c := by unfold fieldN sizeN; omega
theorem size_pos {t c : Nat} : 1 < sizeN t c := by unfold sizeN; omega
theorem mod64 {x : Nat} (h : x < 18446744073709551616) : x % 18446744073709551616 = x := Nat.mod_eq_of_lt h
section
variable {t n : Nat} {u : Int} {G : Nat → Nat} (hG : ∀ j, G j < 18446744073709551616) (hn : 1 < n)
include hG hn
theorem alone_none (f : Nat) (h : firstN (G 1) = 0) : aloneRun t 1 u n (f + 2) [] G = some (0, G) := by
  have h1 := mod64 (hG 1)
  have hi : ((1 : Int)).toNat = 1 := rfl
  have h0 : ((0 : Int)).toNat = 0 := rfl
  have hn1 : (1 : Int) < (n : Int) := by omega
  simp [aloneRun, nextR, ansRun, popRun, tapeTell, toldN, isN, hi, h0, h1, h, hn1, setW_same]
theorem alone_pop (f : Nat) (h : firstN (G 1) ≠ 0) (hL : fieldN t (firstN (G 1)) 7 < n) :
    aloneRun t 1 u n (f + 4) [] G = some (firstN (G 1), setW G 1 (topN (firstN (G (fieldN t (firstN (G 1)) 7))) (tagN (G 1) + 1))) := by
  have h1 := mod64 (hG 1)
  have h2 := mod64 (hG (fieldN t (firstN (G 1)) 7))
  have hi : ((1 : Int)).toNat = 1 := rfl
  have h0 : ((0 : Int)).toNat = 0 := rfl
  have h02 : ((2 : Int)).toNat = 2 := rfl
  have hn1 : (1 : Int) < (n : Int) := by omega
  simp [aloneRun, nextR, ansRun, popRun, tapeTell, toldN, isN, hi, h0, h02, h1, h2, h, hn1, hL, setW_same]
theorem alone_push (f r : Nat) (hL : fieldN t r 7 < n) :
    aloneRun t 2 (r : Int) n (f + 4) [] G = some (0, setW (setW G (fieldN t r 7) (firstN (G 1))) 1 (topN r (tagN (G 1) + 1))) := by
  have h1 := mod64 (hG 1)
  have hne : ¬ (1 = fieldN t r 7) := by have := @field_ge t r; omega
  have hi : ((1 : Int)).toNat = 1 := rfl
  have h0 : ((0 : Int)).toNat = 0 := rfl
  have h02 : ((2 : Int)).toNat = 2 := rfl
  have h3 : ∀ v, setW G (fieldN t r 7) v 1 = G 1 := fun v => by unfold setW; rw [if_neg hne]
  have hn1 : (1 : Int) < (n : Int) := by omega
  simp [aloneRun, nextR, ansRun, pushRun, tapeTell, toldN, isN, hi, h0, h02, h1, h3, hn1, hL, setW_same]
end

/-! ### The chain -/
/-- From a reference on, by links, up to none. -/
def Chain (t : Nat) (G : Nat → Nat) : List Nat → Nat → Prop
  | [], r => r = 0
  | a :: l, r => r = a ∧ 1 ≤ a ∧ Chain t G l (firstN (G (fieldN t a 7)))
/-- These are free, from the top on. -/
def FreeIs (t : Nat) (G : Nat → Nat) (l : List Nat) : Prop := Chain t G l (firstN (G 1))
theorem Chain.other {t : Nat} {G H : Nat → Nat} : ∀ {l : List Nat} {r : Nat}, (∀ a ∈ l, 1 ≤ a → H (fieldN t a 7) = G (fieldN t a 7)) → Chain t G l r → Chain t H l r
  | [], r, _, h => h
  | a :: l, r, hq, h => ⟨h.1, h.2.1, by rw [hq a (List.mem_cons_self ..) h.2.1]; exact Chain.other (fun b hb => hq b (List.mem_cons_of_mem _ hb)) h.2.2⟩
theorem Chain.pos {t : Nat} {G : Nat → Nat} : ∀ {l : List Nat} {r : Nat}, Chain t G l r → ∀ a ∈ l, 1 ≤ a
  | [], r, _, a, ha => by cases ha
  | b :: l, r, h, a, ha => by
    rcases List.mem_cons.1 ha with rfl | ha
    · exact h.2.1
    · exact Chain.pos h.2.2 a ha
theorem FreeIs.none {t : Nat} {G : Nat → Nat} (h : FreeIs t G []) : firstN (G 1) = 0 := h
theorem FreeIs.top {t : Nat} {G : Nat → Nat} {a : Nat} {l : List Nat} (h : FreeIs t G (a :: l)) : firstN (G 1) = a ∧ 1 ≤ a := ⟨h.1, h.2.1⟩
/-- The memory behind a Pop, and a Push. -/
def popG (t : Nat) (G : Nat → Nat) : Nat → Nat := setW G 1 (topN (firstN (G (fieldN t (firstN (G 1)) 7))) (tagN (G 1) + 1))
def pushG (t r : Nat) (G : Nat → Nat) : Nat → Nat := setW (setW G (fieldN t r 7) (firstN (G 1))) 1 (topN r (tagN (G 1) + 1))
theorem first_topN {r : Nat} (t : Nat) (h : r < 1048576) : firstN (topN r t) = r := by unfold firstN topN; omega
theorem tag_topN {r : Nat} (t : Nat) (h : r < 1048576) : tagN (topN r t) = t % 17592186044416 := by unfold tagN topN; omega
theorem popG_one (t : Nat) (G : Nat → Nat) : popG t G 1 = topN (firstN (G (fieldN t (firstN (G 1)) 7))) (tagN (G 1) + 1) := by unfold popG setW; rw [if_pos rfl]
theorem pushG_one (t r : Nat) (G : Nat → Nat) : pushG t r G 1 = topN r (tagN (G 1) + 1) := by unfold pushG setW; rw [if_pos rfl]
theorem FreeIs.pop {t : Nat} {G : Nat → Nat} {a : Nat} {l : List Nat} (h : FreeIs t G (a :: l)) : FreeIs t (popG t G) l := by
  unfold FreeIs
  rw [popG_one, first_topN _ (first_lt _), h.1]
  refine Chain.other (fun b hb h1 => ?_) h.2.2
  unfold popG setW
  rw [if_neg (by have := @field_ge t b; omega)]
theorem FreeIs.push {t : Nat} {G : Nat → Nat} {r : Nat} {l : List Nat} (h : FreeIs t G l) (h1 : 1 ≤ r) (hr : r < 1048576) (hn : r ∉ l) : FreeIs t (pushG t r G) (r :: l) := by
  unfold FreeIs
  rw [pushG_one, first_topN _ hr]
  refine ⟨rfl, h1, ?_⟩
  have e : pushG t r G (fieldN t r 7) = firstN (G 1) := by
    unfold pushG setW
    rw [if_neg (by have := @field_ge t r; omega), if_pos rfl]
  rw [e, show firstN (firstN (G 1)) = firstN (G 1) by unfold firstN; omega]
  refine Chain.other (fun b hb hb1 => ?_) h
  unfold pushG setW
  rw [if_neg (by have := @field_ge t b; omega), if_neg (fun he => hn (field_inj hb1 h1 he ▸ hb))]
theorem tag_pop (t : Nat) (G : Nat → Nat) : tagN (popG t G 1) = (tagN (G 1) + 1) % 17592186044416 := by rw [popG_one, tag_topN _ (first_lt _)]
theorem tag_push (t r : Nat) (G : Nat → Nat) (hr : r < 1048576) : tagN (pushG t r G 1) = (tagN (G 1) + 1) % 17592186044416 := by rw [pushG_one, tag_topN _ hr]
theorem popG_lt {t : Nat} {G : Nat → Nat} (h : ∀ j, G j < 18446744073709551616) (j : Nat) : popG t G j < 18446744073709551616 := by
  unfold popG setW
  split
  · exact topN_lt (first_lt _) _
  · exact h j
theorem pushG_lt {t r : Nat} {G : Nat → Nat} (hr : r < 1048576) (h : ∀ j, G j < 18446744073709551616) (j : Nat) : pushG t r G j < 18446744073709551616 := by
  unfold pushG setW
  split
  · exact topN_lt hr _
  · split
    · have := first_lt (G 1); omega
    · exact h j
section
variable {t c : Nat} {u : Int} {G : Nat → Nat} (hG : ∀ j, G j < 18446744073709551616)
include hG
theorem run_none_free (f : Nat) (h : FreeIs t G []) : aloneRun t 1 u (sizeN t c) (f + 2) [] G = some (0, G) := alone_none hG size_pos f h
theorem run_pop (f : Nat) {a : Nat} {l : List Nat} (h : FreeIs t G (a :: l)) (ha : a ≤ c) : aloneRun t 1 u (sizeN t c) (f + 4) [] G = some (a, popG t G) := by
  have h1 := alone_pop (t := t) (n := sizeN t c) (u := u) hG size_pos f (by rw [h.top.1]; have := h.top.2; omega) (by rw [h.top.1]; exact field_size h.top.2 ha)
  rw [h1]
  unfold popG
  rw [h.top.1]
theorem run_push (f : Nat) {r : Nat} (h1 : 1 ≤ r) (hr : r ≤ c) : aloneRun t 2 (r : Int) (sizeN t c) (f + 4) [] G = some (0, pushG t r G) := alone_push hG size_pos f r (field_size h1 hr)
end
/-- A new memory: all are free, from 1 on. -/
theorem new_link {t c r : Nat} (h1 : 1 ≤ r) : newF t c (fieldN t r 7) = if r < c then r + 1 else 0 := by
  unfold newF
  have h : fieldN t r 7 = 15 + t + 8 * (r - 1) := by unfold fieldN; omega
  rw [h, if_neg (by omega), if_neg (by omega)]
  have e1 : (15 + t + 8 * (r - 1) - (8 + t)) % 8 = 7 := by omega
  have e2 : (15 + t + 8 * (r - 1) - (8 + t)) / 8 = r - 1 := by omega
  rw [e1, e2]
  by_cases hr : r < c
  · rw [if_pos ⟨rfl, by omega⟩, if_pos hr]; omega
  · rw [if_neg (by omega), if_neg hr]
theorem new_chain {t c : Nat} (hc : c < 1048576) : ∀ (m k : Nat), k + m = c + 1 → 1 ≤ k → Chain t (newF t c) (List.range' k m) (if m = 0 then 0 else k)
  | 0, k, h, h1 => rfl
  | m + 1, k, h, h1 => by
    rw [if_neg (by omega)]
    refine ⟨rfl, h1, ?_⟩
    have e : firstN (newF t c (fieldN t k 7)) = if m = 0 then 0 else k + 1 := by
      rw [new_link h1]
      by_cases hm : m = 0
      · rw [if_neg (by omega), if_pos hm]; rfl
      · rw [if_pos (by omega), if_neg hm]; unfold firstN; omega
    rw [e]
    exact new_chain hc m (k + 1) (by omega) (by omega)
theorem new_free {t c : Nat} (hc : c < 1048576) : FreeIs t (newF t c) (List.range' 1 c) := by
  have h := new_chain (t := t) hc c 1 (by omega) (by omega)
  unfold FreeIs
  have e : firstN (newF t c 1) = if c = 0 then 0 else 1 := by
    unfold newF
    rw [if_pos rfl]
    split <;> rfl
  rw [e]
  exact h
theorem new_tag (t c : Nat) : tagN (newF t c 1) = 0 := by
  unfold newF
  rw [if_pos rfl]
  split <;> rfl
end Go.Proofs.Ytadknblgfcgkpaa
