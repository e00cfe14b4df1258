/-
  The contracts of package entry (layer 5) for every argument: Encode where an entry may be, Decode of whatever bytes.
-/
import Derived.Test.YtioheffdolnciaaEntDec
namespace Go.Proofs.Ytioheffdolnciaa
open Go.ChangeShapes Go.WideShapes Go.ChangeAt Go.RowKit
set_option linter.unusedVariables false

theorem encode_yes (k : Int) (s y u v x : Nat) (hf : (Ent.mk k s y u v x).fit) (h : (Ent.mk k s y u v x).mayB = true) (n : Nat) (ys : List Nat) (hn : (Ent.mk k s y u v x).bytes.length = n) (hy : (Ent.mk k s y u v x).bytes = ys) (w : World) :
    Calls Try.prog 8 #[.agg #[.int .i64 k, .int .u64 (s : Int), .int .u64 (y : Int), .int .u64 (u : Int), .int .u64 (v : Int), .int .u64 (x : Int)]] w (EncPost w n ys) := by
  obtain ⟨f1, f2, f3, f4, f5⟩ := hf
  have hm : (Ent.mk k s y u v x).may := of_decide_eq_true h
  subst hn hy
  rw [Ent.bytes_length]
  rcases Ent.kinds hm with h1 | h1 | h1
  · simp only at h1
    subst h1
    have := encode_birth s y u v x f1 f2 f3 f4 f5 h w
    have e : encJ 1 [s, y, u, v, x] 5 = (Ent.mk 1 s y u v x).bytes := by simp [encJ, Ent.bytes]
    rw [e] at this
    exact this
  · simp only at h1
    subst h1
    have := encode_death s y u v x f1 f2 f3 f4 f5 h w
    have e : encJ 2 [s] 1 = (Ent.mk 2 s y u v x).bytes := by simp [encJ, Ent.bytes]
    rw [e] at this
    exact this
  · simp only at h1
    subst h1
    have := encode_head s y u v x f1 f2 f3 f4 f5 h w
    have e : encJ 3 [s] 1 = (Ent.mk 3 s y u v x).bytes := by simp [encJ, Ent.bytes]
    rw [e] at this
    exact this

theorem fields_le (k : Int) : fieldsI k ≤ 5 := by unfold fieldsI; split <;> (try split) <;> omega
theorem dec_bif {xs : List Nat} {my : Bool} {w : World} {e : Ending} {w' : World} (hm : (rawN xs).mayB = my) (h1 : 1 ≤ xs.length) (h2 : xs.length = 1 + 8 * fieldsI (xs.getD 0 0 : Nat))
    (h : (bif my then DecPost w (rawN xs).k (rawN xs).s (rawN xs).y (rawN xs).u (rawN xs).v (rawN xs).x 0 else DecPost w 0 0 0 0 0 0 2) e w') :
    DecPost w (decN xs).k (decN xs).s (decN xs).y (decN xs).u (decN xs).v (decN xs).x (decE xs) e w' := by
  cases my
  · have hr : ¬ Reads xs := fun hr => by rw [Ent.mayB_yes hr.2.2] at hm; cases hm
    rw [(dec_no hr).1, (dec_no hr).2]
    exact h
  · have hr : Reads xs := ⟨h1, h2, of_decide_eq_true hm⟩
    rw [(dec_yes hr).1, (dec_yes hr).2]
    exact h
theorem decode_at (A : Option Addr) (len cap : Nat) (xs : List Nat) (hl : len ≤ cap) (w : World) (hA : Hid (AtB w A len xs)) :
    Calls Try.prog 10 #[.slice A len cap] w (DecPost w (decN xs).k (decN xs).s (decN xs).y (decN xs).u (decN xs).v (decN xs).x (decE xs)) := by
  obtain ⟨hlen, hB, hbig, hc⟩ := hA.out
  by_cases h0 : len = 0
  · subst h0
    have hr : ¬ Reads xs := fun hr => by have := hr.1; omega
    rw [(dec_no hr).1, (dec_no hr).2]
    exact decode_empty A cap w
  obtain ⟨b, off, rfl, hlt, hc⟩ := hc (by omega)
  have hc0 := hc 0 (by omega)
  rw [Nat.add_zero] at hc0
  have hk := hB.getD 0
  by_cases h1 : len = 1 + 8 * fieldsI ((xs.getD 0 0 : Nat) : Int)
  · have nl : ∀ i, numN ((xs.drop i).take 8) < 18446744073709551616 := fun i => num_lt8 ((hB.drop' i).take 8) (by simp; omega)
    by_cases k1 : xs.getD 0 0 = 1
    · have el : len = 41 := by rw [k1] at h1; exact h1
      subst el
      have hr : rawN xs = ⟨1, numN ((xs.drop 1).take 8), numN ((xs.drop 9).take 8), numN ((xs.drop 17).take 8), numN ((xs.drop 25).take 8), numN ((xs.drop 33).take 8)⟩ := by
        unfold rawN; rw [if_pos hlen, k1]; rfl
      obtain ⟨q, rfl⟩ : ∃ q, cap = q + 1 := ⟨cap - 1, by omega⟩
      refine (decode_41 b off q xs _ (nl 1) _ (nl 9) _ (nl 17) _ (nl 25) _ (nl 33) (by omega) w hA hlt (by rw [hc0, k1]; rfl) (Lib.hid rfl) (Lib.hid rfl) (Lib.hid rfl) (Lib.hid rfl) (Lib.hid rfl) (rawN xs).mayB (by rw [hr])).mono fun e w' h => dec_bif rfl (by omega) (by rw [hlen]; exact h1) ?_
      rw [hr] at h ⊢
      exact h
    · have e9 : ∀ k : Int, ((xs.getD 0 0 : Nat) : Int) = k → len ≠ 41 → rawN xs = ⟨k, numN ((xs.drop 1).take 8), 0, 0, 0, 0⟩ := fun k hk hl => by
        unfold rawN; rw [if_neg (by omega), hk]
      by_cases k2 : xs.getD 0 0 = 2
      · have el : len = 9 := by rw [k2] at h1; exact h1
        subst el
        have hr := e9 2 (by rw [k2]; rfl) (by omega)
        obtain ⟨q, rfl⟩ : ∃ q, cap = q + 1 := ⟨cap - 1, by omega⟩
        refine (decode_death b off q xs _ (nl 1) (by omega) w hA hlt (by rw [hc0, k2]; rfl) (Lib.hid rfl) (rawN xs).mayB (by rw [hr])).mono fun e w' h => dec_bif rfl (by omega) (by rw [hlen]; exact h1) ?_
        rw [hr] at h ⊢
        exact h
      · by_cases k3 : xs.getD 0 0 = 3
        · have el : len = 9 := by rw [k3] at h1; exact h1
          subst el
          have hr := e9 3 (by rw [k3]; rfl) (by omega)
          obtain ⟨q, rfl⟩ : ∃ q, cap = q + 1 := ⟨cap - 1, by omega⟩
          refine (decode_head b off q xs _ (nl 1) (by omega) w hA hlt (by rw [hc0, k3]; rfl) (Lib.hid rfl) (rawN xs).mayB (by rw [hr])).mono fun e w' h => dec_bif rfl (by omega) (by rw [hlen]; exact h1) ?_
          rw [hr] at h ⊢
          exact h
        · have hf : fieldsI ((xs.getD 0 0 : Nat) : Int) = 0 := by unfold fieldsI; rw [if_neg (by omega), if_neg (by omega)]
          have el : len = 1 := by rw [hf] at h1; exact h1
          subst el
          have hr := e9 _ rfl (by omega)
          have hz : numN ((xs.drop 1).take 8) = 0 := by
            have : xs.drop 1 = [] := List.drop_eq_nil_of_le (by omega)
            rw [this]; rfl
          rw [hz] at hr
          obtain ⟨q, rfl⟩ : ∃ q, cap = q + 1 := ⟨cap - 1, by omega⟩
          refine (decode_else b off q (xs.getD 0 0) hk hf xs (by omega) w hA hlt hc0 (rawN xs).mayB (by rw [hr])).mono fun e w' h => dec_bif rfl (by omega) (by rw [hlen]; exact h1) ?_
          rw [hr] at h ⊢
          exact h
  · have hr : ¬ Reads xs := fun hr => h1 (by rw [← hlen]; exact hr.2.1)
    rw [(dec_no hr).1, (dec_no hr).2]
    exact decode_length b off len cap (xs.getD 0 0) _ (by omega) hl hbig hk rfl (fields_le _) h1 w hlt hc0
end Go.Proofs.Ytioheffdolnciaa
