/-
  EpochAlone's states, plain: what is had, each record once; nobody pinned.
-/
import Derived.Test.YthcifknnppohfaaEpcHeld
namespace Go.Proofs.Ythcifknnppohfaa
open Go.ChangeShapes Go.WideShapes Go.ChangeAt Go.RowKit Go.BigFrame Go.Deep
set_option linter.unusedVariables false
set_option maxRecDepth 100000

def EA (c i : Nat) (G : Nat → Nat) (hs : List Nat) : Prop := ∃ free lim, EpcM 3 c G free lim hs ∧ pins0 3 G ∧ G 3 ≤ 3 * i
theorem EA.start {c : Nat} (hc : c ≤ 65536) : EA c 0 (newF 3 c) [] := ⟨_, _, EpcM.new hc, pins0.new 3 c, Nat.le_of_eq (newF_low (by decide) (by decide))⟩
theorem EA.le {c i : Nat} {G : Nat → Nat} {hs : List Nat} (h : EA c i G hs) : hs.length ≤ c := by
  obtain ⟨free, lim, hM, _⟩ := h
  have := hM.limN_le
  omega
theorem EA.mem {c i : Nat} {G : Nat → Nat} {hs : List Nat} (h : EA c i G hs) : ∀ a ∈ hs, 1 ≤ a ∧ a ≤ c := by
  obtain ⟨free, lim, hM, _⟩ := h
  exact fun a ha => hM.le a (List.mem_append_right _ ha)
theorem EA.alloc {c i me : Nat} {G : Nat → Nat} {hs : List Nat} (h : EA c i G hs) (hi : i < 40) (hc : c ≤ 8) (hme : me < 3) :
    ∃ a G' G2, Ops 3 me 6 0 (sizeN 3 c) G a G' (40 + 20 * c) ∧ Ops 3 me 4 0 (sizeN 3 c) G' 0 G2 9 ∧ ((a = 0 ∧ hs.length = c ∧ EA c (i + 1) G2 hs) ∨ (1 ≤ a ∧ a ≤ c ∧ a ∉ hs ∧ hs.length < c ∧ EA c (i + 1) G2 (hs ++ [a]))) := by
  obtain ⟨free, lim, hM, hp, h3⟩ := h
  obtain ⟨a, G', o, free', lim', hh, hpp, h3'⟩ := hM.alloc_ops (u := 0) (me := me) (by omega) hme (by omega) (fun j hj _ => hp j hj)
  have hp2 : pins0 3 (setW G' (pinN me) 0) := fun j hj => by
    by_cases e : j = me
    · rw [e, setW_at]
    · rw [setW_off _ _ (by unfold pinN; omega)]; exact hpp j hj e
  have h32 : setW G' (pinN me) 0 3 ≤ 3 * (i + 1) := by rw [setW_off _ _ (by unfold pinN; omega)]; omega
  refine ⟨a, G', _, o.mono (by omega), (ops_unpin hme).mono (by decide), ?_⟩
  rcases hh with ⟨rfl, hl, hM'⟩ | ⟨h1, h2, hM'⟩
  · exact .inl ⟨rfl, hl, _, _, hM'.pin hme (by decide), hp2, h32⟩
  · have hn := hM'.nodup
    have hlen := hM'.limN_le
    simp only [List.length_append, List.length_cons, List.length_nil] at hlen
    refine .inr ⟨h1, h2, fun hin => ?_, by omega, _, _, hM'.pin hme (by decide), hp2, h32⟩
    have hn2 := (List.nodup_append.1 hn).2.1
    rw [List.nodup_append] at hn2
    exact hn2.2.2 a hin a (by simp) rfl
theorem EA.retire {c i me m q : Nat} {G : Nat → Nat} {hs : List Nat} (h : EA c i G hs) (hc : c ≤ 8) (hq : hs[m]? = some q) :
    1 ≤ q ∧ q ≤ c ∧ Ops 3 me 5 (q : Int) (sizeN 3 c) G 0 (retG 3 q G) 9 ∧ EA c (i + 1) (retG 3 q G) (hs.take m ++ hs.drop (m + 1)) := by
  have hm := h.mem q (List.mem_of_getElem? hq)
  obtain ⟨free, lim, hM, hp, h3⟩ := h
  exact ⟨hm.1, hm.2, (ops_retire hM.lt hm.1 hm.2).mono (by decide), _, _, hM.retire (perm_at hq) (by omega), hp.ret hm.1, by rw [retG_three]; omega⟩
end Go.Proofs.Ythcifknnppohfaa
