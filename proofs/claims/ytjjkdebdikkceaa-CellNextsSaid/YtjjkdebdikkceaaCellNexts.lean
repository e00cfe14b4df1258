/-
  CellNexts: for every numbers of threads and records and two records, what follows a record stands at a place of its own, the head first; all are words of the memory, and of a new one nought. No condition.
-/
import Derived.Test.YtjjkdebdikkceaaCllSame
import Derived.Test.YtjjkdebdikkceaaLaw
import Derived.Test.YtjjkdebdikkceaaFields
namespace Go.Proofs.Ytjjkdebdikkceaa.cellNexts
open Go.ChangeShapes Go.WideShapes Go.ChangeAt Go.RowKit Go.Deep Go.BigFrame
set_option linter.unusedVariables false
theorem own : ownKnob Try.prog.godebug = none := by kernel_rfl

theorem next_eq (n a b : Nat) : nextN n a = nextN n b ↔ a = b := by
  unfold nextN fieldN
  constructor
  · intro h
    split at h <;> split at h <;> omega
  · rintro rfl; rfl
theorem next_zero (n a : Nat) : nextN n a = 0 ↔ a = 0 := by
  unfold nextN fieldN
  split <;> omega
theorem next_new (n k a : Nat) (h1 : 1 ≤ n) (ha : a ≤ k) : newF n k (nextN n a) = 0 ∧ nextN n a < sizeN n k := by
  unfold nextN
  split
  · exact ⟨by unfold newF; rw [if_neg (by omega), if_pos (by omega)], by unfold sizeN; omega⟩
  · refine ⟨?_, by unfold fieldN sizeN; omega⟩
    unfold newF fieldN
    rw [if_neg (by omega), if_neg (by omega), if_neg (by omega)]
set_option maxRecDepth 100000 in
set_option maxHeartbeats 4000000 in
theorem walk1 (t c r v n k q kc a b x y sz : Nat) (f : Nat → Nat) (p : Bool) (ht : t < 256) (hc : c < 65536) (hr : r < 65536) (hv : v < 65536)
    (e1 : (t : Int) % 64 = (q : Int)) (e1' : (t : Int).tmod 64 = (q : Int)) (e2 : 1 + (q : Int) = (n : Int)) (e3 : (c : Int) % 300 = (kc : Int)) (e3' : (c : Int).tmod 300 = (kc : Int)) (e4 : 1 + (kc : Int) = (k : Int))
    (e5 : (r : Int) % ((k : Int) + 1) = (a : Int)) (e5' : (r : Int).tmod ((k : Int) + 1) = (a : Int)) (e6 : (v : Int) % ((k : Int) + 1) = (b : Int)) (e6' : (v : Int).tmod ((k : Int) + 1) = (b : Int))
    (hk : k ≤ 300) (hx : x < sz) (hp1 : ((x : Int) == (y : Int)) = p) (hp2 : ((a : Int) == (b : Int)) = p) (hz1 : ((x : Int) == 0) = true) (hz2 : ((a : Int) == 0) = true) (w : World)
    (cN : ∀ w, Calls Try.prog 9 #[.int .i64 (n : Int), .int .i64 (k : Int)] w (MemPost w n k sz f 0))
    (hf : f x = 0)
    (c1 : ∀ w, Calls Try.prog 18 #[.int .i64 (n : Int), .int .i64 (a : Int)] w (fun e w' => e = .returned (.int .i64 (x : Int)) ∧ w = w'))
    (c2 : ∀ w, Calls Try.prog 18 #[.int .i64 (n : Int), .int .i64 (b : Int)] w (fun e w' => e = .returned (.int .i64 (y : Int)) ∧ w = w')) :
    Calls Try.prog 7 #[.agg #[.int .u8 (t : Int), .int .u16 (c : Int), .int .u16 (r : Int), .int .u16 (v : Int)]] w fun e w' => e = .returned (.bool true) ∧ Below w.heap.size w w' := by
  go_enter Try.func7, Try.ntmps7
  go_wp2_with fail
  refine (shown_any _).mono ?_
  rintro e w1 ⟨rfl, hb⟩
  have BB := Lib.hid (below_box hb)
  clear hb
  go_wp2_with fail
  refine (cN _).mono ?_
  rintro e w2 ⟨A2, rfl, ha2, hb2⟩
  obtain ⟨x2, hx2⟩ : ∃ x, w2.alloc (.cells #[.int .i64 (n : Int), .int .i64 (k : Int), .slice A2 sz sz] 24) = x := ⟨_, rfl⟩
  have hbx : Below w2.heap.size w2 x2 := by rw [← hx2]; exact al_below _ _
  have M2 : Hid (MemAt x2 w2.heap.size n k A2 sz sz f) := Lib.hid (by rw [← hx2]; exact MemAt.made w2 n k sz ha2)
  have BB2 := Lib.hid (BB.out.trans ((hb2.trans (hbx.mono hb2.size)).mono BB.out.size))
  clear ha2 hb2 hbx BB cN
  obtain ⟨hz, m0, m1, m2, _, _, _⟩ := M2.out.1.three
  obtain ⟨b2, o2, rfl, hl, hcell⟩ := M2.out.2.2 (by omega)
  have cx := hcell x hx
  rw [hf] at cx
  have hx2' : (x : Int) < (sz : Int) := by omega
  have d1 : decide ((x : Int) < 0) = false := decide_eq_false (by omega)
  clear hcell hl hf
  go_wp2_with (first | (go_at_call 18; (with_reducible refine (c1 _).mono ?_); rintro e w' ⟨rfl, rfl⟩) | (go_at_call 18; (with_reducible refine (c2 _).mono ?_); rintro e w' ⟨rfl, rfl⟩))
  go_ret
  exact ⟨rfl, BB2.out⟩
set_option maxRecDepth 100000 in
set_option maxHeartbeats 4000000 in
theorem walk2 (t c r v n k q kc a b x y sz : Nat) (f : Nat → Nat) (p : Bool) (ht : t < 256) (hc : c < 65536) (hr : r < 65536) (hv : v < 65536)
    (e1 : (t : Int) % 64 = (q : Int)) (e1' : (t : Int).tmod 64 = (q : Int)) (e2 : 1 + (q : Int) = (n : Int)) (e3 : (c : Int) % 300 = (kc : Int)) (e3' : (c : Int).tmod 300 = (kc : Int)) (e4 : 1 + (kc : Int) = (k : Int))
    (e5 : (r : Int) % ((k : Int) + 1) = (a : Int)) (e5' : (r : Int).tmod ((k : Int) + 1) = (a : Int)) (e6 : (v : Int) % ((k : Int) + 1) = (b : Int)) (e6' : (v : Int).tmod ((k : Int) + 1) = (b : Int))
    (hk : k ≤ 300) (hx : x < sz) (hp1 : ((x : Int) == (y : Int)) = p) (hp2 : ((a : Int) == (b : Int)) = p) (hz1 : ((x : Int) == 0) = false) (hz2 : ((a : Int) == 0) = false) (w : World)
    (cN : ∀ w, Calls Try.prog 9 #[.int .i64 (n : Int), .int .i64 (k : Int)] w (MemPost w n k sz f 0))
    (hf : f x = 0)
    (c1 : ∀ w, Calls Try.prog 18 #[.int .i64 (n : Int), .int .i64 (a : Int)] w (fun e w' => e = .returned (.int .i64 (x : Int)) ∧ w = w'))
    (c2 : ∀ w, Calls Try.prog 18 #[.int .i64 (n : Int), .int .i64 (b : Int)] w (fun e w' => e = .returned (.int .i64 (y : Int)) ∧ w = w'))
    (c3 : ∀ w, Calls Try.prog 16 #[.int .i64 (n : Int), .int .i64 (a : Int), .int .i64 0] w (fun e w' => e = .returned (.int .i64 (x : Int)) ∧ w = w')) :
    Calls Try.prog 7 #[.agg #[.int .u8 (t : Int), .int .u16 (c : Int), .int .u16 (r : Int), .int .u16 (v : Int)]] w fun e w' => e = .returned (.bool true) ∧ Below w.heap.size w w' := by
  go_enter Try.func7, Try.ntmps7
  go_wp2_with fail
  refine (shown_any _).mono ?_
  rintro e w1 ⟨rfl, hb⟩
  have BB := Lib.hid (below_box hb)
  clear hb
  go_wp2_with fail
  refine (cN _).mono ?_
  rintro e w2 ⟨A2, rfl, ha2, hb2⟩
  obtain ⟨x2, hx2⟩ : ∃ x, w2.alloc (.cells #[.int .i64 (n : Int), .int .i64 (k : Int), .slice A2 sz sz] 24) = x := ⟨_, rfl⟩
  have hbx : Below w2.heap.size w2 x2 := by rw [← hx2]; exact al_below _ _
  have M2 : Hid (MemAt x2 w2.heap.size n k A2 sz sz f) := Lib.hid (by rw [← hx2]; exact MemAt.made w2 n k sz ha2)
  have BB2 := Lib.hid (BB.out.trans ((hb2.trans (hbx.mono hb2.size)).mono BB.out.size))
  clear ha2 hb2 hbx BB cN
  obtain ⟨hz, m0, m1, m2, _, _, _⟩ := M2.out.1.three
  obtain ⟨b2, o2, rfl, hl, hcell⟩ := M2.out.2.2 (by omega)
  have cx := hcell x hx
  rw [hf] at cx
  have hx2' : (x : Int) < (sz : Int) := by omega
  have d1 : decide ((x : Int) < 0) = false := decide_eq_false (by omega)
  clear hcell hl hf
  go_wp2_with (first | (go_at_call 18; (with_reducible refine (c1 _).mono ?_); rintro e w' ⟨rfl, rfl⟩) | (go_at_call 18; (with_reducible refine (c2 _).mono ?_); rintro e w' ⟨rfl, rfl⟩) | (go_at_call 16; (with_reducible refine (c3 _).mono ?_); rintro e w' ⟨rfl, rfl⟩))
  go_ret
  exact ⟨rfl, BB2.out⟩
section
variable {H : Type} {enc : TypeId × Value → H} {w : World}
theorem open_a {v : Value} {d : DataW H} {ps : List MemPlace} {base : Nat} (hval : Value.okWide Try.prog w .any base 49 v) (h : DataW.Trod enc Try.prog w 0 (fun _ => true) true 49 v d ps) (hs : Sized Try.prog 49 d) (hlt : ∀ z ∈ ps, z.block < w.heap.size) :
    ∃ (aT : Nat) (aC : Nat) (aR : Nat) (aS : Nat), v = .agg #[.int .u8 (aT : Int), .int .u16 (aC : Int), .int .u16 (aR : Int), .int .u16 (aS : Int)] ∧ aT < 256 ∧ aC < 65536 ∧ aR < 65536 ∧ aS < 65536 := by
  obtain ⟨cs, rfl, hsz⟩ := okWide_struct Try.underlying49 hval
  obtain ⟨fuel, hf⟩ := h
  have hcs : (Value.agg cs).cells.toList = cs.toList := rfl
  rw [hcs] at hf
  have hcl : cs.toList.length = 4 := by rw [Array.length_toList, hsz]; kernel_rfl
  obtain ⟨c0, c1, c2, c3, hL⟩ : ∃ c0 c1 c2 c3, cs.toList = [c0, c1, c2, c3] := ⟨_, _, _, _, cells_of hcl .nilIface⟩
  rw [hL] at hf
  rw [list_agg hL]
  clear hcl hL hsz hcs
  obtain ⟨y0, n0, g0, s0, q0⟩ := field_at Try.underlying49 hf 0 _ rfl 5 0 1 [c0] rfl rfl (by kernel_rfl) rfl hs hlt
  obtain ⟨aT, e1, haT⟩ := leaf_u8 Try.underlying5 g0
  cases e1
  obtain ⟨y2, n2, g2, s2, q2⟩ := field_at Try.underlying49 hf 1 _ rfl 25 1 1 [c1] rfl rfl (by kernel_rfl) rfl hs hlt
  obtain ⟨aC, e3, haC⟩ := leaf_u16 Try.underlying25 g2
  cases e3
  obtain ⟨y4, n4, g4, s4, q4⟩ := field_at Try.underlying49 hf 2 _ rfl 25 2 1 [c2] rfl rfl (by kernel_rfl) rfl hs hlt
  obtain ⟨aR, e5, haR⟩ := leaf_u16 Try.underlying25 g4
  cases e5
  obtain ⟨y6, n6, g6, s6, q6⟩ := field_at Try.underlying49 hf 3 _ rfl 25 3 1 [c3] rfl rfl (by kernel_rfl) rfl hs hlt
  obtain ⟨aS, e7, haS⟩ := leaf_u16 Try.underlying25 g6
  cases e7
  exact ⟨aT, aC, aR, aS, rfl, haT, haC, haR, haS⟩
end

set_option maxRecDepth 100000 in
theorem lifted (os : Os) (started : os.Started) (H : Type) (enc : TypeId × Value → H) :
    ReturnsInHanded {} Try.checked os 7 .any (Rows.cellNextsSpec.pre6 enc Try.prog Try.f7 Rows.cellNextsRow.domain false) (Rows.cellNextsSpec.post enc Try.prog Try.f7 false true false false) := by
  refine law_lifted (C := Try.checked) own started (by kernel_rfl) Try.func7
    (ChangeSpec.witness6 (enc := enc) (C := Try.checked) false ⟨#[], #[.agg #[.int .u8 0, .int .u16 0, .int .u16 0, .int .u16 0]], []⟩ 8 (by kernel_rfl) (by kernel_rfl) (by kernel_rfl) (by kernel_rfl))
    (by kernel_rfl) (by kernel_rfl) Try.underlying4 rfl (by kernel_rfl) ?_
  intro W base args ds before hval hA hwt hlt
  have hA' : DataW.TrodAll enc Try.prog W 0 (fun _ => true) true Try.f7.params.toList args.toList ds before := hA
  have hval' : ∀ (j : Nat) t v, Try.f7.params[j]? = some t → args[j]? = some v → Value.okWide Try.prog W .any base t v := hval
  have hwt' : (DataW.weightsEach Try.prog Try.f7.params.toList ds).all (· ≤ reachBytes) = true := hwt
  rw [Try.params7] at hA' hval' hwt'
  obtain ⟨v0, vs0, d0, ds0, p0, q0, hargs, rfl, rfl, k0, r0⟩ := trodAll_cons hA'
  obtain ⟨rfl, rfl, rfl⟩ := trodAll_nil r0
  obtain rfl : args = #[v0] := by cases args; simp_all
  obtain ⟨aT, aC, aR, aS, rfl, haT, haC, haR, haS⟩ := open_a (hval' 0 49 v0 rfl rfl) k0 (sized_of hwt' (j := 0) (t := 49) rfl rfl) (fun x hx => hlt x (by simp [hx]))
  refine ⟨rfl, ?_⟩
  obtain ⟨q, hq⟩ : ∃ q, aT % 64 = q := ⟨_, rfl⟩
  obtain ⟨kc, hkc⟩ : ∃ q, aC % 300 = q := ⟨_, rfl⟩
  obtain ⟨a, ha⟩ : ∃ q, aR % (kc + 1 + 1) = q := ⟨_, rfl⟩
  obtain ⟨b, hb⟩ : ∃ q, aS % (kc + 1 + 1) = q := ⟨_, rfl⟩
  have ha2 : a < kc + 1 + 1 := by rw [← ha]; exact Nat.mod_lt _ (by omega)
  have hnew := next_new (q + 1) (kc + 1) a (by omega) (by omega)
  have m1 : (aR : Int) % (((kc + 1 : Nat) : Int) + 1) = (a : Int) := by rw [← ha]; rfl
  have m2 : (aS : Int) % (((kc + 1 : Nat) : Int) + 1) = (b : Int) := by rw [← hb]; rfl
  have hb2 : b < kc + 1 + 1 := by rw [← hb]; exact Nat.mod_lt _ (by omega)
  have cN : ∀ w, Calls Try.prog 9 #[.int .i64 ((q + 1 : Nat) : Int), .int .i64 ((kc + 1 : Nat) : Int)] w (MemPost w (q + 1 : Nat) (kc + 1 : Nat) (sizeN (q + 1) (kc + 1)) (newF (q + 1) (kc + 1)) 0) :=
    fun w => (new_yes (q + 1) (kc + 1) (by omega) (by omega) (by omega) w).mono fun e w' ⟨g, he, _, hr, hb⟩ => ⟨_, he, hr.at_, hb⟩
  have hpp : (((nextN (q + 1) a : Nat) : Int) == ((nextN (q + 1) b : Nat) : Int)) = ((a : Int) == (b : Int)) := by
    have := next_eq (q + 1) a b
    rw [Bool.eq_iff_iff, beq_iff_eq, beq_iff_eq]
    omega
  have hz := next_zero (q + 1) a
  by_cases h0 : a = 0
  · exact walk1 aT aC aR aS (q + 1) (kc + 1) q kc a b (nextN (q + 1) a) (nextN (q + 1) b) (sizeN (q + 1) (kc + 1)) (newF (q + 1) (kc + 1)) ((a : Int) == (b : Int)) haT haC haR haS (by omega) (by rw [Int.tmod_eq_emod_of_nonneg (by omega)]; omega) (by omega) (by omega) (by rw [Int.tmod_eq_emod_of_nonneg (by omega)]; omega) (by omega)
      m1 (by rw [Int.tmod_eq_emod_of_nonneg (by omega)]; exact m1) m2 (by rw [Int.tmod_eq_emod_of_nonneg (by omega)]; exact m2) (by omega) hnew.2 hpp rfl (by rw [beq_iff_eq]; omega) (by rw [beq_iff_eq]; omega) W cN hnew.1 (fun w => next_any _ _ (by omega) (by omega) w) (fun w => next_any _ _ (by omega) (by omega) w)
  · have c3 : ∀ w, Calls Try.prog 16 #[.int .i64 ((q + 1 : Nat) : Int), .int .i64 (a : Int), .int .i64 0] w (fun e w' => e = .returned (.int .i64 ((nextN (q + 1) a : Nat) : Int)) ∧ w = w') := fun w => by
      have h := field_any (q + 1) a 0 (by omega) (by omega) (by omega) (by decide) w
      rw [show fieldN (q + 1) a 0 = nextN (q + 1) a by unfold nextN; rw [if_neg h0]] at h
      exact h
    exact walk2 aT aC aR aS (q + 1) (kc + 1) q kc a b (nextN (q + 1) a) (nextN (q + 1) b) (sizeN (q + 1) (kc + 1)) (newF (q + 1) (kc + 1)) ((a : Int) == (b : Int)) haT haC haR haS (by omega) (by rw [Int.tmod_eq_emod_of_nonneg (by omega)]; omega) (by omega) (by omega) (by rw [Int.tmod_eq_emod_of_nonneg (by omega)]; omega) (by omega)
      m1 (by rw [Int.tmod_eq_emod_of_nonneg (by omega)]; exact m1) m2 (by rw [Int.tmod_eq_emod_of_nonneg (by omega)]; exact m2) (by omega) hnew.2 hpp rfl (by rw [beq_eq_false_iff_ne]; omega) (by rw [beq_eq_false_iff_ne]; omega) W cN hnew.1 (fun w => next_any _ _ (by omega) (by omega) w) (fun w => next_any _ _ (by omega) (by omega) w) c3

theorem over : Rows.cellNextsRow.holds Try.pinned (OpenSpec.ofChange Rows.cellNextsSpec) :=
  OpenClaim.holds_of_wide 7 Try.f7 rfl rfl rfl rfl rfl rfl rfl ⟨rfl, rfl, rfl, rfl, rfl⟩ rfl rfl rfl rfl rfl (by kernel_rfl) Try.func7 (by kernel_rfl)
    (of_decide_eq_true (by kernel_rfl)) (by unfold Func.isWrapper; first | (rw [if_pos (by decide +kernel)]; kernel_rfl) | (rw [if_neg (by decide +kernel)]; exact ⟨rfl, rfl⟩))
    (fun os started H enc _ => lifted os started H enc)

/-- The statement. -/
theorem proved : Rows.CellNextsSaid :=
  over
#print axioms proved
end Go.Proofs.Ytjjkdebdikkceaa.cellNexts
