/-
  WordHas: for every stamp and bits, a flag that gets a bit more has it, and what it had; its stamp stays; one stamp more, and the same bits, is another flag. No condition.
-/
import Derived.Test.YtpliipmbgblbaaaWrdShown
import Derived.Test.YtpliipmbgblbaaaLaw
import Derived.Test.YtpliipmbgblbaaaFields
namespace Go.Proofs.Ytpliipmbgblbaaa.wordHas
open Go.ChangeShapes Go.WideShapes Go.ChangeAt Go.RowKit Go.Deep
set_option linter.unusedVariables false
theorem own : ownKnob Try.prog.godebug = none := by kernel_rfl

theorem or_small (s x y : Nat) (hx : x < 4) (hy : y < 4) : (4 * s + x) ||| y = 4 * s + (x ||| y) := by
  have h1 : ((4 * s + x) ||| y) / 4 = (4 * s + x) / 4 ||| y / 4 := by simpa using Nat.or_div_two_pow (a := 4 * s + x) (b := y) (n := 2)
  have h2 : ((4 * s + x) ||| y) % 4 = ((4 * s + x) % 4 ||| y % 4) := by simpa using Nat.or_mod_two_pow (a := 4 * s + x) (b := y) (n := 2)
  have e1 : (4 * s + x) / 4 = s := by omega
  have e2 : y / 4 = 0 := by omega
  have e3 : (4 * s + x) % 4 = x := by omega
  have e4 : y % 4 = y := by omega
  rw [e1, e2, Nat.or_zero] at h1
  rw [e3, e4] at h2
  omega
theorem walk1 (st a b s x y f g : Nat) (p : Bool) (ha0 : a < 256) (hb0 : b < 256) (hx0 : x < 4) (hy0 : y < 4) (ha : (a : Int) % 4 = (x : Int)) (ha' : (a : Int).tmod 4 = (x : Int)) (hb : (b : Int) % 4 = (y : Int)) (hb' : (b : Int).tmod 4 = (y : Int)) (hs : (st : Int) / 16 = (s : Int)) (h60 : s < 1152921504606846976) (hf : f < 4611686018427387904) (hg : g < 4611686018427387904)
    (hor : bits .or .u64 (f : Int) (y : Int) = (g : Int)) (hp : ((g : Int) == (f : Int)) = p)
    (c1 : ∀ w, Calls Try.prog 18 #[.int .u64 (s : Int), .int .i64 (x : Int)] w (fun e w' => e = .returned (.int .u64 (f : Int)) ∧ w = w'))
    (c2 : ∀ w, Calls Try.prog 22 #[.int .u64 (g : Int), .int .i64 (x : Int)] w (fun e w' => e = .returned (.bool true) ∧ w = w'))
    (c3 : ∀ w, Calls Try.prog 22 #[.int .u64 (g : Int), .int .i64 (y : Int)] w (fun e w' => e = .returned (.bool true) ∧ w = w'))
    (c4 : ∀ w, Calls Try.prog 20 #[.int .u64 (g : Int)] w (fun e w' => e = .returned (.int .u64 (s : Int)) ∧ w = w'))
    (c5 : ∀ w, Calls Try.prog 18 #[.int .u64 ((s : Int) + 1), .int .i64 (x : Int)] w (fun e w' => e = .returned (.int .u64 ((f : Int) + 4)) ∧ w = w'))
    (c6 : ∀ w, Calls Try.prog 22 #[.int .u64 (f : Int), .int .i64 (y : Int)] w (fun e w' => e = .returned (.bool p) ∧ w = w')) (w : World) :
    Calls Try.prog 7 #[.int .u64 (st : Int), .int .u8 (a : Int), .int .u8 (b : Int)] w fun e w' => e = .returned (.bool true) ∧ Below w.heap.size w w' := by
  go_enter Try.func7, Try.ntmps7
  go_wp2_with (first | (go_at_call 8; (with_reducible refine (shown_any _).mono ?_); rintro e w' ⟨rfl, rfl⟩) | (go_at_call 18; (with_reducible refine (c1 _).mono ?_); rintro e w' ⟨rfl, rfl⟩) | (go_at_call 22; (with_reducible refine (c2 _).mono ?_); rintro e w' ⟨rfl, rfl⟩) | (go_at_call 22; (with_reducible refine (c3 _).mono ?_); rintro e w' ⟨rfl, rfl⟩) | (go_at_call 20; (with_reducible refine (c4 _).mono ?_); rintro e w' ⟨rfl, rfl⟩) | (go_at_call 18; (with_reducible refine (c5 _).mono ?_); rintro e w' ⟨rfl, rfl⟩) | (go_at_call 22; (with_reducible refine (c6 _).mono ?_); rintro e w' ⟨rfl, rfl⟩))
  go_ret
  exact ⟨rfl, by first | exact Below.refl _ _ | exact (Below.refl _ w).alloc (Nat.le_refl _) _ | exact Below.drew ((Below.refl _ w).alloc (Nat.le_refl _) _) | exact ((Below.refl _ w).alloc (Nat.le_refl _) _).alloc (by simp) _ | exact (((Below.refl _ w).alloc (Nat.le_refl _) _).alloc (by simp) _).alloc (by simp; omega) _⟩

theorem bits_small {x : Nat} (h : x < 4) : bitsN (x : Int) = x := by unfold bitsN; omega
theorem flag_small {s x : Nat} (h : s < 4611686018427387904) (hx : x < 4) : flagN s (x : Int) = 4 * s + x := by unfold flagN; rw [bits_small hx]; omega
theorem has_small {s x y : Nat} (hx : x < 4) (hy : y < 4) : hasB (4 * s + x) (y : Int) = ((y % 2 == 0 || x % 2 == 1) && (decide (y < 2) || x / 2 == 1)) := by
  unfold hasB
  rw [bits_small hy, Bool.eq_iff_iff]
  simp only [Bool.and_eq_true, Bool.or_eq_true, beq_iff_eq, decide_eq_true_iff]
  omega
theorem sub_or : ∀ x, x < 4 → ∀ y, y < 4 → (x ||| y) < 4 ∧ ((x % 2 == 0 || (x ||| y) % 2 == 1) && (decide (x < 2) || (x ||| y) / 2 == 1)) = true ∧ ((y % 2 == 0 || (x ||| y) % 2 == 1) && (decide (y < 2) || (x ||| y) / 2 == 1)) = true ∧ ((y % 2 == 0 || x % 2 == 1) && (decide (y < 2) || x / 2 == 1)) = ((x ||| y) == x) := by decide
theorem walk (st a b : Nat) (hst : st < 18446744073709551616) (ha0 : a < 256) (hb0 : b < 256) (w : World) :
    Calls Try.prog 7 #[.int .u64 (st : Int), .int .u8 (a : Int), .int .u8 (b : Int)] w fun e w' => e = .returned (.bool true) ∧ Below w.heap.size w w' := by
  have hx : a % 4 < 4 := Nat.mod_lt _ (by decide)
  have hy : b % 4 < 4 := Nat.mod_lt _ (by decide)
  have hs : st / 16 < 1152921504606846976 := by omega
  obtain ⟨h1, h2, h3, h4⟩ := sub_or _ hx _ hy
  have hf := flag_small (s := st / 16) (by omega) hx
  have ho := or_small (st / 16) _ _ hx hy
  refine walk1 st a b (st / 16) (a % 4) (b % 4) (4 * (st / 16) + a % 4) (4 * (st / 16) + (a % 4 ||| b % 4)) ((a % 4 ||| b % 4) == a % 4) ha0 hb0 hx hy (by omega) (by rw [Int.tmod_eq_emod_of_nonneg (by omega)]; omega) (by omega) (by rw [Int.tmod_eq_emod_of_nonneg (by omega)]; omega) (by omega) hs (by omega) (by omega) ?_ ?_ ?_ ?_ ?_ ?_ ?_ ?_ w
  · rw [u64_or_nat _ _ (by omega) (by omega), ho]
  · rw [Bool.eq_iff_iff, beq_iff_eq, beq_iff_eq]; omega
  · intro w
    have h := flag_any (st / 16) ((a % 4 : Nat) : Int) w
    rw [hf] at h
    exact h
  · intro w
    have h := has_any (4 * (st / 16) + (a % 4 ||| b % 4)) ((a % 4 : Nat) : Int) (by omega) w
    rw [has_small h1 hx, h2] at h
    exact h
  · intro w
    have h := has_any (4 * (st / 16) + (a % 4 ||| b % 4)) ((b % 4 : Nat) : Int) (by omega) w
    rw [has_small h1 hy, h3] at h
    exact h
  · intro w
    have h := stamp_any (4 * (st / 16) + (a % 4 ||| b % 4)) w
    rw [show stampN (4 * (st / 16) + (a % 4 ||| b % 4)) = st / 16 by unfold stampN; omega] at h
    exact h
  · intro w
    have h := flag_any (st / 16 + 1) ((a % 4 : Nat) : Int) w
    rw [flag_small (by omega) hx, show 4 * (st / 16 + 1) + a % 4 = 4 * (st / 16) + a % 4 + 4 by omega] at h
    exact h
  · intro w
    have h := has_any (4 * (st / 16) + a % 4) ((b % 4 : Nat) : Int) (by omega) w
    rw [has_small hx hy, h4] at h
    exact h
section
variable {H : Type} {enc : TypeId × Value → H} {w : World}
theorem open_st {v : Value} {d : DataW H} {ps : List MemPlace} {base : Nat} (hval : Value.okWide Try.prog w .any base 22 v) (h : DataW.Trod enc Try.prog w 0 (fun _ => true) true 22 v d ps) (hs : Sized Try.prog 22 d) (hlt : ∀ z ∈ ps, z.block < w.heap.size) :
    ∃ (st : Nat), v = .int .u64 (st : Int) ∧ st < 18446744073709551616 := by
  obtain ⟨a0, rfl⟩ := okWide_int Try.underlying22 hval
  obtain ⟨fuel, hf0⟩ := h
  have hf : DataW.trod enc Try.prog w 0 (fun _ => true) true fuel 22 [.int .u64 a0] = some (d, ps) := hf0
  obtain ⟨st, e0, hst⟩ := leaf_u64 Try.underlying22 hf
  cases e0
  exact ⟨_, rfl, hst⟩
theorem open_a {v : Value} {d : DataW H} {ps : List MemPlace} {base : Nat} (hval : Value.okWide Try.prog w .any base 5 v) (h : DataW.Trod enc Try.prog w 0 (fun _ => true) true 5 v d ps) (hs : Sized Try.prog 5 d) (hlt : ∀ z ∈ ps, z.block < w.heap.size) :
    ∃ (a : Nat), v = .int .u8 (a : Int) ∧ a < 256 := by
  obtain ⟨a0, rfl⟩ := okWide_int Try.underlying5 hval
  obtain ⟨fuel, hf0⟩ := h
  have hf : DataW.trod enc Try.prog w 0 (fun _ => true) true fuel 5 [.int .u8 a0] = some (d, ps) := hf0
  obtain ⟨a, e0, ha⟩ := leaf_u8 Try.underlying5 hf
  cases e0
  exact ⟨_, rfl, ha⟩
theorem open_b {v : Value} {d : DataW H} {ps : List MemPlace} {base : Nat} (hval : Value.okWide Try.prog w .any base 5 v) (h : DataW.Trod enc Try.prog w 0 (fun _ => true) true 5 v d ps) (hs : Sized Try.prog 5 d) (hlt : ∀ z ∈ ps, z.block < w.heap.size) :
    ∃ (b : Nat), v = .int .u8 (b : Int) ∧ b < 256 := by
  obtain ⟨a0, rfl⟩ := okWide_int Try.underlying5 hval
  obtain ⟨fuel, hf0⟩ := h
  have hf : DataW.trod enc Try.prog w 0 (fun _ => true) true fuel 5 [.int .u8 a0] = some (d, ps) := hf0
  obtain ⟨b, e0, hb⟩ := leaf_u8 Try.underlying5 hf
  cases e0
  exact ⟨_, rfl, hb⟩
end

set_option maxRecDepth 100000 in
theorem lifted (os : Os) (started : os.Started) (H : Type) (enc : TypeId × Value → H) :
    ReturnsInHanded {} Try.checked os 7 .any (Rows.wordHasSpec.pre6 enc Try.prog Try.f7 Rows.wordHasRow.domain false) (Rows.wordHasSpec.post enc Try.prog Try.f7 false true false false) := by
  refine law_lifted (C := Try.checked) own started (by kernel_rfl) Try.func7
    (ChangeSpec.witness6 (enc := enc) (C := Try.checked) false ⟨#[], #[.int .u64 0, .int .u8 0, .int .u8 0], []⟩ 8 (by kernel_rfl) (by kernel_rfl) (by kernel_rfl) (by kernel_rfl))
    (by kernel_rfl) (by kernel_rfl) Try.underlying4 rfl (by kernel_rfl) ?_
  intro W base args ds before hval hA hwt hlt
  have hA' : DataW.TrodAll enc Try.prog W 0 (fun _ => true) true Try.f7.params.toList args.toList ds before := hA
  have hval' : ∀ (j : Nat) t v, Try.f7.params[j]? = some t → args[j]? = some v → Value.okWide Try.prog W .any base t v := hval
  have hwt' : (DataW.weightsEach Try.prog Try.f7.params.toList ds).all (· ≤ reachBytes) = true := hwt
  rw [Try.params7] at hA' hval' hwt'
  obtain ⟨v0, vs0, d0, ds0, p0, q0, hargs, rfl, rfl, k0, r0⟩ := trodAll_cons hA'
  obtain ⟨v1, vs1, d1, ds1, p1, q1, rfl, rfl, rfl, k1, r1⟩ := trodAll_cons r0
  obtain ⟨v2, vs2, d2, ds2, p2, q2, rfl, rfl, rfl, k2, r2⟩ := trodAll_cons r1
  obtain ⟨rfl, rfl, rfl⟩ := trodAll_nil r2
  obtain rfl : args = #[v0, v1, v2] := by cases args; simp_all
  obtain ⟨st, rfl, hst⟩ := open_st (hval' 0 22 v0 rfl rfl) k0 (sized_of hwt' (j := 0) (t := 22) rfl rfl) (fun x hx => hlt x (by simp [hx]))
  obtain ⟨a, rfl, ha⟩ := open_a (hval' 1 5 v1 rfl rfl) k1 (sized_of hwt' (j := 1) (t := 5) rfl rfl) (fun x hx => hlt x (by simp [hx]))
  obtain ⟨b, rfl, hb⟩ := open_b (hval' 2 5 v2 rfl rfl) k2 (sized_of hwt' (j := 2) (t := 5) rfl rfl) (fun x hx => hlt x (by simp [hx]))
  refine ⟨rfl, ?_⟩
  exact walk st a b hst ha hb W

theorem over : Rows.wordHasRow.holds Try.pinned (OpenSpec.ofChange Rows.wordHasSpec) :=
  OpenClaim.holds_of_wide 7 Try.f7 rfl rfl rfl rfl rfl rfl rfl ⟨rfl, rfl, rfl, rfl, rfl⟩ rfl rfl rfl rfl rfl (by kernel_rfl) Try.func7 (by kernel_rfl)
    (of_decide_eq_true (by kernel_rfl)) (by unfold Func.isWrapper; first | (rw [if_pos (by decide +kernel)]; kernel_rfl) | (rw [if_neg (by decide +kernel)]; exact ⟨rfl, rfl⟩))
    (fun os started H enc _ => lifted os started H enc)

/-- The statement. -/
theorem proved : Rows.WordHasSaid :=
  over
#print axioms proved
end Go.Proofs.Ytpliipmbgblbaaa.wordHas
