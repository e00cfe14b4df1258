/-
  Plain facts on rows of bytes. Nothing of the program stands here.
-/
namespace Go.Proofs.Ytjbhichgojjakaa

def Bytes (xs : List Nat) : Prop := ∀ x ∈ xs, x < 256
theorem Bytes.tail {x : Nat} {xs : List Nat} (h : Bytes (x :: xs)) : Bytes xs := fun y hy => h y (List.mem_cons_of_mem _ hy)
theorem Bytes.head {x : Nat} {xs : List Nat} (h : Bytes (x :: xs)) : x < 256 := h x List.mem_cons_self

theorem take_snoc (xs : List Nat) (k : Nat) (h : k < xs.length) : xs.take (k + 1) = xs.take k ++ [xs.getD k 0] := by
  rw [List.take_succ_eq_append_getElem h, List.getD_eq_getElem?_getD, List.getElem?_eq_getElem h]; rfl

theorem Bytes.take {xs : List Nat} (h : Bytes xs) (k : Nat) : Bytes (xs.take k) := fun x hx => h x (List.mem_of_mem_take hx)
theorem Bytes.getD {xs : List Nat} (h : Bytes xs) (k : Nat) : xs.getD k 0 < 256 := by
  by_cases hk : k < xs.length
  · rw [List.getD_eq_getElem?_getD, List.getElem?_eq_getElem hk]; exact h _ (List.getElem_mem _)
  · rw [List.getD_eq_getElem?_getD, List.getElem?_eq_none (by omega)]; decide

end Go.Proofs.Ytjbhichgojjakaa
