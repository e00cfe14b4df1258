/-
  Texts of one kind, one behind the other: Frm, FrmCalls.
-/
import Derived.Test.YtdbomlclkhkinaaDoorCrcA
import Derived.Test.YtdbomlclkhkinaaDoorBase
import Derived.Lib.SliceRun
namespace Go.Proofs.YtdbomlclkhkinaaDoor

/-- What a text's head says: how many, and their sum. -/
def cntN (s : List Nat) : Nat := numN (s.take 2)
def fSumN (s : List Nat) : Nat := numN ((s.drop 2).take 4)
def bodyN (s : List Nat) : List Nat := (s.drop 6).take (cntN s)
/-- A frame stands at a text's beginning. -/
def Stands (s : List Nat) : Prop := 6 ≤ s.length ∧ 1 ≤ cntN s ∧ cntN s + 6 ≤ s.length ∧ moreN 0 (bodyN s) = fSumN s
instance (s : List Nat) : Decidable (Stands s) := by unfold Stands; infer_instance
def splitF : Nat → List Nat → List (List Nat)
  | 0, _ => []
  | f + 1, s => if Stands s then bodyN s :: splitF f (s.drop (6 + cntN s)) else []
def splitN (s : List Nat) : List (List Nat) := splitF s.length s
def usedN (l : List (List Nat)) : Nat := (l.map fun b => b.length + 6).sum
/-- The frame of bytes. -/
def frameN (b : List Nat) : List Nat := leN 2 b.length ++ (leN 4 (moreN 0 b) ++ b)
def framesN (l : List (List Nat)) : List Nat := l.flatMap frameN
/-- Bytes that have a frame. -/
def May (b : List Nat) : Prop := 1 ≤ b.length ∧ b.length ≤ 65535 ∧ Bytes b

theorem splitF_nil (f : Nat) (s : List Nat) (h : ¬ Stands s) : splitF f s = [] := by
  cases f with
  | zero => rfl
  | succ f => simp [splitF, h]
theorem splitF_stable : ∀ (f g : Nat) (s : List Nat), s.length ≤ f → s.length ≤ g → splitF f s = splitF g s := by
  intro f
  induction f with
  | zero =>
    intro g s hf hg
    rw [splitF_nil _ s (by intro h; have := h.1; omega), splitF_nil _ s (by intro h; have := h.1; omega)]
  | succ f ih =>
    intro g s hf hg
    by_cases hs : Stands s
    · obtain ⟨g, rfl⟩ : ∃ g', g = g' + 1 := ⟨g - 1, by have := hs.1; omega⟩
      simp only [splitF, if_pos hs]
      rw [ih g (s.drop (6 + cntN s)) (by simp; omega) (by simp; omega)]
    · rw [splitF_nil _ s hs, splitF_nil _ s hs]
theorem split_no {s : List Nat} (h : ¬ Stands s) : splitN s = [] := splitF_nil _ s h
theorem split_yes {s : List Nat} (h : Stands s) : splitN s = bodyN s :: splitN (s.drop (6 + cntN s)) := by
  have h6 := h.1
  unfold splitN
  obtain ⟨f, hf⟩ : ∃ f, s.length = f + 1 := ⟨s.length - 1, by omega⟩
  rw [hf]
  simp only [splitF, if_pos h]
  rw [splitF_stable f (s.drop (6 + cntN s)).length _ (by simp; omega) (Nat.le_refl _)]
theorem body_length {s : List Nat} (h : Stands s) : (bodyN s).length = cntN s := by
  have := h.2.2.1
  simp [bodyN]; omega

theorem used_nil : usedN [] = 0 := rfl
theorem used_cons (b : List Nat) (l : List (List Nat)) : usedN (b :: l) = b.length + 6 + usedN l := by simp [usedN]
theorem used_append (l k : List (List Nat)) : usedN (l ++ k) = usedN l + usedN k := by simp [usedN]
theorem used_snoc (l : List (List Nat)) (b : List Nat) : usedN (l ++ [b]) = usedN l + (6 + b.length) := by rw [used_append, used_cons, used_nil]; omega
theorem frame_length (b : List Nat) : (frameN b).length = b.length + 6 := by simp [frameN, leN_length]; omega
theorem frames_length (l : List (List Nat)) : (framesN l).length = usedN l := by
  induction l with
  | nil => rfl
  | cons b l ih => rw [used_cons, ← ih]; simp [framesN, frame_length]
theorem frames_nil : framesN [] = [] := rfl
theorem frames_cons (b : List Nat) (l : List (List Nat)) : framesN (b :: l) = frameN b ++ framesN l := by simp [framesN]
theorem frames_append (l k : List (List Nat)) : framesN (l ++ k) = framesN l ++ framesN k := by simp [framesN]
theorem frames_snoc (l : List (List Nat)) (b : List Nat) : framesN (l ++ [b]) = framesN l ++ frameN b := by simp [framesN]
theorem frame_bytes {b : List Nat} (h : Bytes b) : Bytes (frameN b) := by
  intro x hx
  simp only [frameN, List.mem_append] at hx
  rcases hx with hx | hx | hx
  · exact leN_bytes _ _ x hx
  · exact leN_bytes _ _ x hx
  · exact h x hx
theorem frames_bytes {l : List (List Nat)} (h : ∀ b ∈ l, Bytes b) : Bytes (framesN l) := by
  intro x hx
  simp only [framesN, List.mem_flatMap] at hx
  obtain ⟨b, hb, hx⟩ := hx
  exact frame_bytes (h b hb) x hx

/-- A text that begins with a head of six bytes. -/
theorem cnt_head (h s b : List Nat) (h2 : h.length = 2) : cntN (h ++ (s ++ b)) = numN h := by
  unfold cntN
  rw [← h2, List.take_left]
theorem sum_head (h s b : List Nat) (h2 : h.length = 2) (h4 : s.length = 4) : fSumN (h ++ (s ++ b)) = numN s := by
  unfold fSumN
  rw [← h2, List.drop_left, ← h4, List.take_left]
theorem drop_head (h s b : List Nat) (h2 : h.length = 2) (h4 : s.length = 4) : (h ++ (s ++ b)).drop 6 = b := by
  rw [← List.append_assoc, show (6 : Nat) = (h ++ s).length by simp [h2, h4], List.drop_left]

theorem frame_cnt {b : List Nat} (t : List Nat) (hb : b.length ≤ 65535) : cntN (frameN b ++ t) = b.length := by
  rw [frameN, List.append_assoc, List.append_assoc, cnt_head _ _ _ (leN_length _ _)]
  exact numN_le2 _ (by omega)
theorem frame_sum {b : List Nat} (t : List Nat) : fSumN (frameN b ++ t) = moreN 0 b := by
  rw [frameN, List.append_assoc, List.append_assoc, sum_head _ _ _ (leN_length _ _) (leN_length _ _)]
  exact numN_le4 _ (more_lt _ _)
theorem frame_drop (b t : List Nat) : (frameN b ++ t).drop 6 = b ++ t := by
  rw [frameN, List.append_assoc, List.append_assoc, drop_head _ _ _ (leN_length _ _) (leN_length _ _)]
theorem frame_body {b : List Nat} (t : List Nat) (hb : b.length ≤ 65535) : bodyN (frameN b ++ t) = b := by
  unfold bodyN
  rw [frame_drop, frame_cnt t hb, List.take_left]
theorem frame_stands {b : List Nat} (t : List Nat) (hb : May b) : Stands (frameN b ++ t) := by
  refine ⟨by simp [frame_length]; omega, by rw [frame_cnt t hb.2.1]; exact hb.1, by rw [frame_cnt t hb.2.1]; simp [frame_length], by rw [frame_body t hb.2.1, frame_sum]⟩
theorem split_frame {b : List Nat} (t : List Nat) (hb : May b) : splitN (frameN b ++ t) = b :: splitN t := by
  rw [split_yes (frame_stands t hb), frame_body t hb.2.1, frame_cnt t hb.2.1]
  congr 2
  rw [show 6 + b.length = (frameN b).length by rw [frame_length]; omega, List.drop_left]
/-- Frames that are put one behind the other are told again, whatever stands behind. -/
theorem split_frames {l : List (List Nat)} (t : List Nat) (h : ∀ b ∈ l, May b) : splitN (framesN l ++ t) = l ++ splitN t := by
  induction l with
  | nil => rfl
  | cons b l ih =>
    rw [frames_cons, List.append_assoc, split_frame _ (h b (by simp)), ih (fun c hc => h c (by simp [hc]))]
    rfl

theorem num_lt2 {l : List Nat} (h : Bytes l) (hl : l.length ≤ 2) : numN l < 65536 := by
  match l, hl with
  | [], _ => simp [numN]
  | [a], _ => have := h a (by simp); simp [numN]; omega
  | [a, b], _ => have := h a (by simp); have := h b (by simp); simp [numN]; omega
theorem num_lt4 {l : List Nat} (h : Bytes l) (hl : l.length ≤ 4) : numN l < 4294967296 := by
  match l, hl with
  | [], _ => simp [numN]
  | [a], _ => have := h a (by simp); simp [numN]; omega
  | [a, b], _ => have := h a (by simp); have := h b (by simp); simp [numN]; omega
  | [a, b, c], _ => have := h a (by simp); have := h b (by simp); have := h c (by simp); simp [numN]; omega
  | [a, b, c, d], _ => have := h a (by simp); have := h b (by simp); have := h c (by simp); have := h d (by simp); simp [numN]; omega
theorem num_inj2 {l : List Nat} (h : Bytes l) (hl : l.length = 2) : leN 2 (numN l) = l := by
  match l, hl with
  | [a, b], _ => have := h a (by simp); have := h b (by simp); simp [numN, leN]; omega
theorem num_inj4 {l : List Nat} (h : Bytes l) (hl : l.length = 4) : leN 4 (numN l) = l := by
  match l, hl with
  | [a, b, c, d], _ => have := h a (by simp); have := h b (by simp); have := h c (by simp); have := h d (by simp); simp [numN, leN]; omega
theorem Bytes.drop {xs : List Nat} (h : Bytes xs) (k : Nat) : Bytes (xs.drop k) := fun x hx => h x (List.mem_of_mem_drop hx)
theorem fCnt_lt {s : List Nat} (h : Bytes s) : cntN s < 65536 := num_lt2 (h.take 2) (by simp; omega)
theorem body_may {s : List Nat} (h : Stands s) (hs : Bytes s) : May (bodyN s) :=
  ⟨by rw [body_length h]; exact h.2.1, by rw [body_length h]; have := fCnt_lt hs; omega, (hs.drop 6).take _⟩
/-- What stands is the frame of its body, and what is left. -/
theorem stands_frame {s : List Nat} (h : Stands s) (hs : Bytes s) : s = frameN (bodyN s) ++ s.drop (6 + cntN s) := by
  have h6 := h.1
  have hc := h.2.2.1
  have e1 : leN 2 (bodyN s).length = s.take 2 := by rw [body_length h]; exact num_inj2 (hs.take 2) (by simp; omega)
  have e2 : leN 4 (moreN 0 (bodyN s)) = (s.drop 2).take 4 := by rw [h.2.2.2]; exact num_inj4 ((hs.drop 2).take 4) (by simp; omega)
  rw [frameN, e1, e2, List.append_assoc, List.append_assoc]
  have e3 : bodyN s ++ s.drop (6 + cntN s) = s.drop 6 := by
    unfold bodyN
    rw [← List.drop_drop, List.take_append_drop]
  have e4 : (s.drop 2).take 4 ++ s.drop 6 = s.drop 2 := by
    rw [show s.drop 6 = (s.drop 2).drop 4 by rw [List.drop_drop], List.take_append_drop]
  rw [e3, e4, List.take_append_drop]
/-- What is split off, put into frames again, is the text, as far as it was used. -/
theorem split_again : ∀ (n : Nat) (s : List Nat), s.length ≤ n → Bytes s → (∀ b ∈ splitN s, May b) ∧ ∃ t, s = framesN (splitN s) ++ t ∧ ¬ Stands t := by
  intro n
  induction n with
  | zero =>
    intro s hn hs
    have : ¬ Stands s := fun h => by have := h.1; omega
    rw [split_no this]
    exact ⟨by simp, s, rfl, this⟩
  | succ n ih =>
    intro s hn hs
    by_cases h : Stands s
    · have h6 := h.1
      obtain ⟨h1, t, h2, h3⟩ := ih (s.drop (6 + cntN s)) (by simp; omega) (hs.drop _)
      rw [split_yes h]
      refine ⟨?_, t, ?_, h3⟩
      · intro b hb
        rcases List.mem_cons.1 hb with rfl | hb
        · exact body_may h hs
        · exact h1 b hb
      · rw [frames_cons, List.append_assoc, ← h2]
        exact stands_frame h hs
    · rw [split_no h]
      exact ⟨by simp, s, rfl, h⟩
theorem split_may {s : List Nat} (hs : Bytes s) : ∀ b ∈ splitN s, May b := (split_again s.length s (Nat.le_refl _) hs).1
theorem split_take {s : List Nat} (hs : Bytes s) : framesN (splitN s) = s.take (usedN (splitN s)) := by
  obtain ⟨_, t, h, _⟩ := split_again s.length s (Nat.le_refl _) hs
  have h' : s.take (usedN (splitN s)) = (framesN (splitN s) ++ t).take (framesN (splitN s)).length := by rw [← h, frames_length]
  rw [h', List.take_left]
theorem used_le {s : List Nat} (hs : Bytes s) : usedN (splitN s) ≤ s.length := by
  obtain ⟨_, t, h, _⟩ := split_again s.length s (Nat.le_refl _) hs
  have := congrArg List.length h
  rw [List.length_append, frames_length] at this
  omega
theorem count_le {s : List Nat} (hs : Bytes s) : (splitN s).length ≤ s.length := by
  have h1 := used_le hs
  have h2 : ∀ l : List (List Nat), l.length ≤ usedN l := by
    intro l
    induction l with
    | nil => simp
    | cons b l ih => rw [used_cons]; simp; omega
  exact Nat.le_trans (h2 _) h1
/-- What a text is split into, whole, and what another one is, are what both are. -/
theorem split_joins {s : List Nat} (t : List Nat) (hs : Bytes s) : splitN (s.take (usedN (splitN s)) ++ t) = splitN s ++ splitN t := by
  rw [← split_take hs, split_frames t (split_may hs)]

theorem split_short {s : List Nat} (h : s.length < 7) : splitN s = [] := split_no fun hs => by have := hs.2.1; have := hs.2.2.1; omega
theorem split_noughts (s : List Nat) : splitN (0 :: 0 :: s) = [] := split_no fun hs => by have := hs.2.1; simp [cntN, numN] at this

/-- Cut within a frame: none stands. -/
theorem cut_no {b : List Nat} (t : List Nat) (hb : b.length ≤ 65535) {j : Nat} (hj : j < b.length + 6) : ¬ Stands ((frameN b ++ t).take j) := by
  intro h
  have h6 := h.1
  have hc := h.2.2.1
  have hl : ((frameN b ++ t).take j).length = j := by rw [List.length_take, List.length_append, frame_length]; omega
  have : cntN ((frameN b ++ t).take j) = b.length := by
    have e : ((frameN b ++ t).take j).take 2 = (frameN b ++ t).take 2 := by rw [List.take_take, Nat.min_eq_left (by omega)]
    rw [cntN, e]
    exact frame_cnt t hb
  omega
theorem split_cut {l : List (List Nat)} (h : ∀ b ∈ l, May b) {k w : Nat} (hw : w ≤ l.length) (h1 : usedN (l.take w) ≤ k) (h2 : w < l.length → k < usedN (l.take (w + 1))) :
    splitN ((framesN l).take k) = l.take w := by
  have hsp : framesN l = framesN (l.take w) ++ framesN (l.drop w) := by rw [← frames_append, List.take_append_drop]
  have hm : ∀ b ∈ l.take w, May b := fun b hb => h b (List.mem_of_mem_take hb)
  rw [hsp, List.take_append, List.take_of_length_le (by rw [frames_length]; exact h1), split_frames _ hm, frames_length]
  by_cases hlt : w < l.length
  · have e : l.drop w = l[w] :: l.drop (w + 1) := List.drop_eq_getElem_cons hlt
    have hk := h2 hlt
    rw [List.take_succ_eq_append_getElem hlt, used_snoc] at hk
    rw [e, frames_cons, split_no (cut_no _ (h l[w] (List.getElem_mem _)).2.1 (by omega)), List.append_nil]
  · rw [List.drop_of_length_le (by omega), frames_nil, List.take_nil, split_short (by simp), List.append_nil]

theorem num_set {l : List Nat} (hl : l.length = 4) {i y : Nat} (hi : i < 4) (hy : y ≠ l.getD i 0) : numN (l.set i y) ≠ numN l ∨ 256 ≤ y ∨ ¬ Bytes l := by
  by_cases hb : Bytes l
  · by_cases h256 : 256 ≤ y
    · exact .inr (.inl h256)
    · refine .inl ?_
      match l, hl with
      | [a, b, c, d], _ =>
        have := hb a (by simp); have := hb b (by simp); have := hb c (by simp); have := hb d (by simp)
        have : i = 0 ∨ i = 1 ∨ i = 2 ∨ i = 3 := by omega
        rcases this with rfl | rfl | rfl | rfl <;> simp at hy <;> simp [numN] <;> omega
  · exact .inr (.inr hb)
theorem more_set {b : List Nat} (hb : Bytes b) {i y : Nat} (hi : i < b.length) (hy : y < 256) (hne : y ≠ b.getD i 0) : moreN 0 (b.set i y) ≠ moreN 0 b := by
  have hx := hb.getD i
  have e1 : b = b.take i ++ ([b.getD i 0] ++ b.drop (i + 1)) := by
    rw [← List.append_assoc, ← take_snoc b i hi, List.take_append_drop]
  have e2 : b.set i y = b.take i ++ ([y] ++ b.drop (i + 1)) := by
    rw [List.set_eq_take_append_cons_drop, if_pos hi]; rfl
  have hx1 : ∀ x, x < 256 → Bytes [x] := fun x h z hz => by simp at hz; omega
  intro h
  rw [e2] at h
  rw [show moreN 0 b = moreN 0 (b.take i ++ ([b.getD i 0] ++ b.drop (i + 1))) from congrArg _ e1] at h
  generalize b.getD i 0 = x at *
  rw [← more_append 0 _ _ (by omega) (hb.take i), ← more_append 0 _ _ (by omega) (hb.take i)] at h
  have hm := more_lt 0 (b.take i)
  generalize moreN 0 (b.take i) = m at *
  rw [← more_append m _ _ hm (hx1 y hy), ← more_append m _ _ hm (hx1 x hx)] at h
  have h2 := (more_inj (more_lt m [y]) (more_lt m [x]) (hb.drop (i + 1))).1 h
  have h3 : byteN (4294967295 - m) y = byteN (4294967295 - m) x := by
    have l1 := byte_lt (s := 4294967295 - m) (by omega) hy
    have l2 := byte_lt (s := 4294967295 - m) (by omega) hx
    have : 4294967295 - byteN (4294967295 - m) y = 4294967295 - byteN (4294967295 - m) x := h2
    omega
  have x1 : (4294967295 - m) ^^^ y < 4294967296 := Nat.xor_lt_two_pow (n := 32) (by omega) (by omega)
  have x2 : (4294967295 - m) ^^^ x < 4294967296 := Nat.xor_lt_two_pow (n := 32) (by omega) (by omega)
  have h4 := step8_inj x1 x2 h3
  rw [Nat.xor_comm _ y, Nat.xor_comm _ x] at h4
  exact hne (xor_canc h4)
/-- One byte of a frame's bytes, or of its Sum, is turned: none stands. -/
theorem turned_no {b : List Nat} (t : List Nat) (hb : May b) {p y : Nat} (h2 : 2 ≤ p) (hp : p < b.length + 6) (hy : y < 256) (hne : y ≠ (frameN b).getD p 0) : ¬ Stands ((frameN b).set p y ++ t) := by
  have hn2 := leN_length 2 b.length
  have hn4 := leN_length 4 (moreN 0 b)
  intro h
  by_cases h6 : p < 6
  · have e : (frameN b).set p y = leN 2 b.length ++ ((leN 4 (moreN 0 b)).set (p - 2) y ++ b) := by
      rw [frameN, List.set_append, if_neg (by omega), List.set_append, if_pos (by omega), hn2]
    have hg : (frameN b).getD p 0 = (leN 4 (moreN 0 b)).getD (p - 2) 0 := by
      simp only [frameN, List.getD_eq_getElem?_getD]
      rw [List.getElem?_append_right (by omega), List.getElem?_append_left (by omega), hn2]
    have hs := h.2.2.2
    rw [e, List.append_assoc, List.append_assoc, sum_head _ _ _ hn2 (by simp [hn4])] at hs
    have hbody : bodyN (leN 2 b.length ++ ((leN 4 (moreN 0 b)).set (p - 2) y ++ (b ++ t))) = b := by
      unfold bodyN
      rw [drop_head _ _ _ hn2 (by simp [hn4]), cnt_head _ _ _ hn2, numN_le2 _ (by have := hb.2.1; omega), List.take_left]
    rw [hbody, ← numN_le4 (moreN 0 b) (more_lt _ _)] at hs
    rcases num_set hn4 (show p - 2 < 4 by omega) (by rw [← hg]; exact hne) with h1 | h1 | h1
    · rw [numN_le4 _ (more_lt _ _)] at hs h1
      exact h1 hs.symm
    · omega
    · exact h1 (leN_bytes _ _)
  · have e : (frameN b).set p y = leN 2 b.length ++ (leN 4 (moreN 0 b) ++ b.set (p - 6) y) := by
      rw [frameN, List.set_append, if_neg (by omega), List.set_append, if_neg (by omega), hn2, hn4]
      congr 3
    have hg : (frameN b).getD p 0 = b.getD (p - 6) 0 := by
      simp only [frameN, List.getD_eq_getElem?_getD]
      rw [List.getElem?_append_right (by omega), List.getElem?_append_right (by omega), hn2, hn4, show p - 2 - 4 = p - 6 by omega]
    have hs := h.2.2.2
    rw [e, List.append_assoc, List.append_assoc, sum_head _ _ _ hn2 hn4, numN_le4 _ (more_lt _ _)] at hs
    have hbody : bodyN (leN 2 b.length ++ (leN 4 (moreN 0 b) ++ (b.set (p - 6) y ++ t))) = b.set (p - 6) y := by
      unfold bodyN
      rw [drop_head _ _ _ hn2 hn4, cnt_head _ _ _ hn2, numN_le2 _ (by have := hb.2.1; omega)]
      rw [show b.length = (b.set (p - 6) y).length by simp, List.take_left]
    rw [hbody] at hs
    exact more_set hb.2.2 (by omega) hy (by rw [← hg]; exact hne) hs
theorem frames_set {l : List (List Nat)} {k p y : Nat} (hk : k < l.length) (hp : p < (l.getD k []).length + 6) :
    (framesN l).set (usedN (l.take k) + p) y = framesN (l.take k) ++ ((frameN (l.getD k [])).set p y ++ framesN (l.drop (k + 1))) := by
  have e : framesN l = framesN (l.take k) ++ (frameN (l.getD k []) ++ framesN (l.drop (k + 1))) := by
    have : l.getD k [] = l[k] := by rw [List.getD_eq_getElem?_getD, List.getElem?_eq_getElem hk]; rfl
    rw [this, ← frames_cons, ← List.drop_eq_getElem_cons hk, ← frames_append, List.take_append_drop]
  rw [e, List.set_append, if_neg (by rw [frames_length]; omega), frames_length, List.set_append, if_pos (by rw [frame_length]; omega)]
  congr 3
  omega
theorem split_turned {l : List (List Nat)} (h : ∀ b ∈ l, May b) {k p y : Nat} (hk : k < l.length) (h2 : 2 ≤ p) (hp : p < (l.getD k []).length + 6) (hy : y < 256)
    (hne : y ≠ (framesN l).getD (usedN (l.take k) + p) 0) : splitN ((framesN l).set (usedN (l.take k) + p) y) = l.take k := by
  have hm : l.getD k [] ∈ l := by rw [List.getD_eq_getElem?_getD, List.getElem?_eq_getElem hk]; exact List.getElem_mem _
  have hg : (framesN l).getD (usedN (l.take k) + p) 0 = (frameN (l.getD k [])).getD p 0 := by
    have e : framesN l = framesN (l.take k) ++ (frameN (l.getD k []) ++ framesN (l.drop (k + 1))) := by
      have : l.getD k [] = l[k] := by rw [List.getD_eq_getElem?_getD, List.getElem?_eq_getElem hk]; rfl
      rw [this, ← frames_cons, ← List.drop_eq_getElem_cons hk, ← frames_append, List.take_append_drop]
    rw [List.getD_eq_getElem?_getD, e, List.getElem?_append_right (by rw [frames_length]; omega), frames_length, List.getElem?_append_left (by rw [frame_length]; omega), List.getD_eq_getElem?_getD]
    congr 2
    omega
  rw [frames_set hk hp, split_frames _ (fun b hb => h b (List.mem_of_mem_take hb)), split_no (turned_no _ (h _ hm) h2 hp hy (by rw [← hg]; exact hne)), List.append_nil]
theorem take2_at {s : List Nat} {t : Nat} (h : t + 2 ≤ s.length) : (s.drop t).take 2 = [s.getD t 0, s.getD (t + 1) 0] := by
  apply List.ext_getElem
  · simp; omega
  · intro i h1 h2
    have hi : i = 0 ∨ i = 1 := by simp at h2; omega
    rcases hi with rfl | rfl
    · simp [List.getD_eq_getElem?_getD, List.getElem?_eq_getElem (show t < s.length by omega)]
    · simp [List.getD_eq_getElem?_getD, List.getElem?_eq_getElem (show t + 1 < s.length by omega)]
theorem cnt_at {s : List Nat} {t : Nat} (h : t + 2 ≤ s.length) : cntN (s.drop t) = s.getD t 0 + 256 * s.getD (t + 1) 0 := by
  rw [cntN, take2_at h]; simp [numN]
/-- Whether the sum stands is told byte by byte. -/
theorem sum_bytes {s : List Nat} {t : Nat} (hs : Bytes s) (h6 : t + 6 ≤ s.length) (h1 : 1 ≤ cntN (s.drop t)) (h2 : t + 6 + cntN (s.drop t) ≤ s.length) :
    Stands (s.drop t) ↔ ∀ k, 2 ≤ k → k < 6 → (frameN (bodyN (s.drop t))).getD k 0 = s.getD (t + k) 0 := by
  have hl4 := leN_length 4 (moreN 0 (bodyN (s.drop t)))
  have hl2 := leN_length 2 (bodyN (s.drop t)).length
  have hbl : (bodyN (s.drop t)).length = cntN (s.drop t) := by unfold bodyN; rw [List.length_take, List.length_drop, List.length_drop]; omega
  have e1 : ∀ k, 2 ≤ k → k < 6 → (frameN (bodyN (s.drop t))).getD k 0 = (leN 4 (moreN 0 (bodyN (s.drop t)))).getD (k - 2) 0 := fun k h2 h6 => by
    simp only [frameN, List.getD_eq_getElem?_getD]
    rw [List.getElem?_append_right (by omega), List.getElem?_append_left (by omega), hl2]
  have e2 : ∀ j, j < 4 → (((s.drop t).drop 2).take 4).getD j 0 = s.getD (t + (j + 2)) 0 := fun j hj => by
    simp only [List.getD_eq_getElem?_getD]
    rw [List.getElem?_take, if_pos hj, List.getElem?_drop, List.getElem?_drop]
    congr 2; omega
  have hlt : (((s.drop t).drop 2).take 4).length = 4 := by simp; omega
  constructor
  · intro h k hk2 hk6
    rw [e1 k hk2 hk6, h.2.2.2, fSumN, num_inj4 (((hs.drop t).drop 2).take 4) hlt, e2 (k - 2) (by omega)]
    congr 2; omega
  · intro h
    refine ⟨by simp; omega, h1, by simp; omega, ?_⟩
    have : leN 4 (moreN 0 (bodyN (s.drop t))) = ((s.drop t).drop 2).take 4 := by
      apply List.ext_getElem
      · rw [hl4, hlt]
      · intro i hi1 hi2
        have := h (i + 2) (by omega) (by omega)
        rw [e1 (i + 2) (by omega) (by omega), Nat.add_sub_cancel, ← e2 i (by omega)] at this
        rw [List.getD_eq_getElem?_getD, List.getElem?_eq_getElem hi1, List.getD_eq_getElem?_getD, List.getElem?_eq_getElem hi2] at this
        exact this
    rw [fSumN, ← this, numN_le4 _ (more_lt _ _)]
end Go.Proofs.YtdbomlclkhkinaaDoor
namespace Go.Proofs.YtdbomlclkhkinaaDoor
open Go.ChangeShapes Go.WideShapes Go.ChangeAt Go.RowKit
set_option linter.unusedVariables false
set_option maxRecDepth 100000

set_option maxHeartbeats 1000000 in
theorem lay_any (v : Value) (base m : Nat) (xs : List Nat) (x n : Nat) (hx : x < 4294967296) (w : World) (hown : Hid (Own w base v m xs)) (hbase : base ≤ w.heap.size) (hb : m + n ≤ 140737488355328) :
    Calls Tryd.prog 107 #[v, .int .u32 (x : Int), .int .i64 (n : Int)] w (OwnPost w base (m + n) (xs ++ leN n x)) := by
  go_enter Tryd.func107, Tryd.ntmps107
  go_wp2_with fail
  go_loopw [0, 1, 8] (fun u y i wr => ∃ k : Nat, k ≤ n ∧ i = .int .i64 k ∧ y = .int .u32 ((shN k x : Nat) : Int) ∧ LayRel w base m xs x wr u k) (fun _ _ i _ => n - (intOf i).toNat)
  case atStart => exact ⟨0, Nat.zero_le _, rfl, by rw [shN_zero], by show Own _ _ _ (m + 0) (xs ++ []); rw [List.append_nil]; exact hown.out, Below.refl _ _⟩
  case round =>
    obtain ⟨k, hk, rfl, rfl, hrel⟩ := hrel
    have HR := Lib.hid hrel
    have hsz := hrel.2.size
    clear hrel hown
    by_cases hlt : k < n
    · have hs := shN_le k x
      have hs2 := Lib.hid (shN_succ k x)
      have S1 : Hid (Own wr base u0 (m + k) (xs ++ leN k x)) := Lib.hid HR.out.1
      generalize hq : shN k x = q at *
      have hq' := Lib.hid hq
      clear hq
      go_wp2_with (at_builtin; (refine wpList_append_bytes (by rfl) (.tmp 10) (.tmp 13) (by rfl) base u0 (m + k) (xs ++ leN k x) (by rfl) (Own.alloc S1.out _) (some ⟨wr.heap.size, 0, none⟩) 1 1 [q % 256] (by rfl) (AtB.one (by omega) (by simp)) (by omega) (by simp; omega) ?_); (intro v' w' hown' hgrow'; have S := Lib.hid (HR.out.step hbase (by rw [hq'.out]; exact hown') hgrow'); clear hown' hgrow'))
      go_roundw
      case rel => exact ⟨k + 1, by omega, by go_num, by rw [hs2.out]; go_num, S.out⟩
      case measure => simp [intOf]; omega
    · obtain rfl : k = n := by omega
      go_wp2_with fail
      go_ret
      exact ⟨u0, rfl, HR.out.1, HR.out.2⟩

theorem or_at {f y m : Nat} (i : Nat) (hm : m = 2 ^ i) (hf : f < m) (hb : f < 4294967296) (hy : m * y < 4294967296) : bits .or .u32 (f : Int) ((y : Int) * (m : Int)) = ((f + m * y : Nat) : Int) := by
  have := u32_or_nat f (m * y) hb hy
  rw [hm, or_beside y (by rw [← hm]; exact hf), ← hm] at this
  rw [← this]
  congr 1
  rw [Int.natCast_mul, Int.mul_comm]
def FirstPost (w : World) (v : Value) (b : Bool) (e : Ending) (w' : World) : Prop := e = .returned (.tuple #[v, .bool b]) ∧ ∃ n, w' = w.drewN n
/-- Where the bytes of the frame lie that a text begins with. -/
def bodyA (A : Option Addr) (cap : Nat) : Option Addr := cutA (cutA A cap 6) (cap - 6) 0

theorem clone_nil (w : World) : Calls Tryd.prog 91 #[.slice none 0 0] w (OwnPost w w.heap.size 0 []) := by
  have kn := fun (w : World) (a : Option Addr) (n c n' c' : Nat) => Lib.run_eql_slice_nil (P := Tryd.prog) w 48 5 a n c n' c' Tryd.underlying48
  go_enter Tryd.func91, Tryd.ntmps91
  go_wp2_with fail
  go_ret
  exact ⟨_, rfl, ⟨fun x hx => by simp at hx, World.ownsRow_nil _ _ _ _⟩, Below.refl _ _⟩
theorem fClone_at (ad : Addr) (len cap : Nat) (xs : List Nat) (w : World) (hA : Hid (AtB w (some ad) len xs)) (hb : len ≤ 140737488355328) :
    Calls Tryd.prog 91 #[.slice (some ad) len cap] w (OwnPost w w.heap.size len xs) := by
  have kn := fun (w : World) (a : Option Addr) (n c n' c' : Nat) => Lib.run_eql_slice_nil (P := Tryd.prog) w 48 5 a n c n' c' Tryd.underlying48
  go_enter Tryd.func91, Tryd.ntmps91
  go_wp2_with (at_builtin; refine wpList_append_bytes (by rfl) (.tmp 5) (.tmp 6) (by rfl) w.heap.size _ 0 [] (by rfl) (Own.made w) (some ad) len cap xs (by rfl) (AtB.later hA (below_made w)) (by omega) (by simp) ?_; intro v1 w2 hown1 hgrow1; have B1 := Lib.hid (Own.below hgrow1); have O1 := Lib.hid hown1; clear hown1 hgrow1)
  go_ret
  exact ⟨v1, rfl, by have := O1.out; rwa [Nat.zero_add, List.nil_append] at this, B1.out⟩

theorem lay2 (v : Value) (base m : Nat) (xs : List Nat) (x : Nat) (hx : x < 4294967296) (w : World) (hown : Hid (Own w base v m xs)) (hbase : base ≤ w.heap.size) (hb : m + 2 ≤ 140737488355328) :
    Calls Tryd.prog 107 #[v, .int .u32 (x : Int), .int .i64 2] w (OwnPost w base (m + 2) (xs ++ leN 2 x)) := lay_any v base m xs x 2 hx w hown hbase hb
theorem lay4 (v : Value) (base m : Nat) (xs : List Nat) (x : Nat) (hx : x < 4294967296) (w : World) (hown : Hid (Own w base v m xs)) (hbase : base ≤ w.heap.size) (hb : m + 4 ≤ 140737488355328) :
    Calls Tryd.prog 107 #[v, .int .u32 (x : Int), .int .i64 4] w (OwnPost w base (m + 4) (xs ++ leN 4 x)) := lay_any v base m xs x 4 hx w hown hbase hb

def PutPost (w : World) (n : Nat) (xs : List Nat) (e : Ending) (w' : World) : Prop := ∃ v, e = .returned (.tuple #[v, .int .i64 0]) ∧ Own w' w.heap.size v n xs ∧ Below w.heap.size w w'
theorem put_no (A : Option Addr) (len cap : Nat) (h : len < 1 ∨ 65535 < len) (w : World) :
    Calls Tryd.prog 99 #[.slice A len cap] w fun e w' => e = .returned (.tuple #[.slice none 0 0, .int .i64 1]) ∧ w = w' := by
  rcases h with h | h
  · obtain rfl : len = 0 := by omega
    go_enter Tryd.func99, Tryd.ntmps99
    go_wp2_with fail
    go_ret2
    exact ⟨rfl, rfl⟩
  · have d1 : ((len : Int) == 0) = false := by rw [beq_eq_false_iff_ne]; omega
    have d2 : decide ((65535 : Int) < (len : Int)) = true := by rw [decide_eq_true_iff]; omega
    go_enter Tryd.func99, Tryd.ntmps99
    go_wp2_with fail
    go_ret2
    exact ⟨rfl, rfl⟩

set_option maxHeartbeats 1000000 in
theorem put_yes (A : Option Addr) (len cap : Nat) (xs : List Nat) (h1 : 1 ≤ len) (h2 : len ≤ 65535) (w : World) (hT : Hid (Tab w)) (hA : Hid (AtB w A len xs)) (m : Nat) (lm : m < 4294967296) (hm : Hid (moreN 0 xs = m)) :
    Calls Tryd.prog 99 #[.slice A len cap] w (PutPost w (len + 6) (frameN xs)) := by
  have d1 : ((len : Int) == 0) = false := by rw [beq_eq_false_iff_ne]; omega
  have d2 : decide ((65535 : Int) < (len : Int)) = false := by rw [decide_eq_false_iff_not]; omega
  have HF : Hid ([] ++ leN 2 len ++ leN 4 m ++ xs = frameN xs) := Lib.hid (by rw [frameN, hA.out.1, hm.out]; simp)
  obtain ⟨i0, hi0, hz0, hz1, hz2⟩ := info_parts info5
  have HI := Lib.hid hi0
  have HZ0 := Lib.hid hz0
  have HZ1 := Lib.hid hz1
  have hz2' : i0.bytes * (6 + len) ≤ 281474976710656 := by rw [hz2]; omega
  clear hi0 hz0 hz1 hz2
  go_enter Tryd.func99, Tryd.ntmps99
  go_wp2_with (first
    | (at_make; (refine wpList_make_own w rfl (.const (.int .i64 0)) (.tmp 15) 48 rfl w.heap.size 5 i0 (.int .u8 0) 1 Tryd.underlying48 HI.out HZ0.out HZ1.out .i64 .i64 (6 + (len : Int)) (6 + len) rfl rfl (by omega) hz2' (by unfold maxLen; omega) (Nat.le_refl _) ?_); (intro w1 hown hgrow; have B1 := Lib.hid ((Below.refl w.heap.size w).grown hgrow (Nat.le_refl _) (fun k hk => by cases hk)); have O1 : Hid (Own w1 w.heap.size (.slice (some ⟨w.heap.size, 0, none⟩) 0 (6 + len)) 0 []) := Lib.hid ⟨fun x hx => by simp at hx, hown⟩; clear hown hgrow)))
  (with_reducible refine (lay2 _ w.heap.size 0 [] len (by omega) w1 O1 B1.out.size (by omega)).mono ?_)
  rintro e w2 ⟨v2, rfl, hO2, hB2⟩
  have B2 := Lib.hid (B1.out.trans hB2)
  have O2 := Lib.hid hO2
  have T2 := Lib.hid (hT.out.below B2.out hT.out.pos)
  have A2 := Lib.hid (AtB.later hA B2.out)
  clear hO2 hB2
  go_wp2_with fail
  (with_reducible refine (sum_is' A len cap xs m _ T2 A2.out hm.out).mono ?_)
  rintro e w' ⟨rfl, rfl⟩
  go_wp2_with fail
  (with_reducible refine (lay4 _ w.heap.size _ _ m lm w2 O2 B2.out.size (by omega)).mono ?_)
  rintro e w3 ⟨v3, rfl, hO3, hB3⟩
  have B3 := Lib.hid (B2.out.trans hB3)
  have O3 := Lib.hid hO3
  have A3 := Lib.hid (AtB.later hA B3.out)
  clear hO3 hB3
  go_wp2_with (at_builtin; (refine wpList_append_bytes (by rfl) (.tmp 26) (.tmp 27) (by rfl) w.heap.size v3 _ _ (by rfl) O3.out A len cap xs (by rfl) A3.out (by omega) B3.out.size ?_); (intro v4 w4 hown4 hgrow4; have B4 := Lib.hid (B3.out.grown hgrow4 B3.out.size (fun k hk => (O3.out.2.lt k hk).1)); have O4 := Lib.hid hown4; clear hown4 hgrow4))
  go_ret2
  exact ⟨v4, rfl, by have := O4.out; rwa [HF.out, show 0 + 2 + 4 + len = len + 6 by omega] at this, B4.out⟩
theorem put_at (A : Option Addr) (len cap : Nat) (xs : List Nat) (h1 : 1 ≤ len) (h2 : len ≤ 65535) (w : World) (hT : Hid (Tab w)) (hA : Hid (AtB w A len xs)) :
    Calls Tryd.prog 99 #[.slice A len cap] w (PutPost w (len + 6) (frameN xs)) := put_yes A len cap xs h1 h2 w hT hA _ (more_lt 0 xs) (Lib.hid rfl)
end Go.Proofs.YtdbomlclkhkinaaDoor
