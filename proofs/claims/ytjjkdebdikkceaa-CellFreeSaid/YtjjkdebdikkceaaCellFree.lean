/-
  CellFree: for every numbers of threads and records, of a new memory all records are free, each once: from the top on by their links. No condition.
-/
import Derived.Test.YtjjkdebdikkceaaCllSame
import Derived.Test.YtjjkdebdikkceaaLaw
import Derived.Test.YtjjkdebdikkceaaFields
namespace Go.Proofs.Ytjjkdebdikkceaa.cellFree
open Go.ChangeShapes Go.WideShapes Go.ChangeAt Go.RowKit Go.Deep Go.BigFrame
set_option linter.unusedVariables false
theorem own : ownKnob Try.prog.godebug = none := by kernel_rfl

/-- The sum of the first words. -/
def sumF (f : Nat → Nat) : Nat → Nat
  | 0 => 0
  | i + 1 => sumF f i + f i
theorem new_link (n k r : Nat) (h1 : 1 ≤ n) (hr : r < k) : newF n k (8 + n + 8 * r + 7) = if r + 1 < k then r + 2 else 0 := by
  unfold newF
  rw [if_neg (by omega), if_neg (by omega)]
  have e1 : (8 + n + 8 * r + 7 - (8 + n)) % 8 = 7 := by omega
  have e2 : (8 + n + 8 * r + 7 - (8 + n)) / 8 = r := by omega
  rw [e1, e2]
  by_cases h : r + 1 < k
  · rw [if_pos ⟨rfl, h⟩, if_pos h]
  · rw [if_neg (by omega), if_neg h]
theorem new_plain (n k r y : Nat) (h1 : 1 ≤ n) (hy : y < 7) : newF n k (8 + n + 8 * r + y) = 0 := by
  unfold newF
  rw [if_neg (by omega), if_neg (by omega), if_neg (by omega)]
theorem sum_head (n k : Nat) (h1 : 1 ≤ n) : ∀ j, j + 2 ≤ 8 + n → sumF (newF n k) (j + 2) = if k = 0 then 0 else 1
  | 0, _ => by
    have h0 : newF n k 0 = 0 := by unfold newF; rw [if_neg (by omega), if_pos (by omega)]
    have h1 : newF n k 1 = if k = 0 then 0 else 1 := by unfold newF; rw [if_pos rfl]
    show 0 + newF n k 0 + newF n k 1 = _
    rw [h0, h1, Nat.zero_add]
  | j + 1, h => by
    show sumF (newF n k) (j + 2) + newF n k (j + 2) = _
    rw [sum_head n k h1 j (by omega), show newF n k (j + 2) = 0 by unfold newF; rw [if_neg (by omega), if_pos (by omega)], Nat.add_zero]
theorem sum_block (n k r : Nat) (h1 : 1 ≤ n) (hr : r < k) : sumF (newF n k) (8 + n + 8 * (r + 1)) = sumF (newF n k) (8 + n + 8 * r) + if r + 1 < k then r + 2 else 0 := by
  rw [show 8 + n + 8 * (r + 1) = (8 + n + 8 * r) + 7 + 1 by omega]
  show sumF (newF n k) (8 + n + 8 * r) + newF n k (8 + n + 8 * r + 0) + newF n k (8 + n + 8 * r + 1) + newF n k (8 + n + 8 * r + 2) + newF n k (8 + n + 8 * r + 3) + newF n k (8 + n + 8 * r + 4) + newF n k (8 + n + 8 * r + 5) + newF n k (8 + n + 8 * r + 6) + newF n k (8 + n + 8 * r + 7) = _
  rw [new_plain n k r 0 h1 (by omega), new_plain n k r 1 h1 (by omega), new_plain n k r 2 h1 (by omega), new_plain n k r 3 h1 (by omega), new_plain n k r 4 h1 (by omega), new_plain n k r 5 h1 (by omega), new_plain n k r 6 h1 (by omega), new_link n k r h1 hr]
  simp only [Nat.add_zero]
theorem sum_blocks (n k : Nat) (h1 : 1 ≤ n) (hk : 1 ≤ k) : ∀ r, r < k → 2 * sumF (newF n k) (8 + n + 8 * r) = (r + 1) * (r + 2)
  | 0, _ => by
    rw [show 8 + n + 8 * 0 = (6 + n) + 2 by omega, sum_head n k h1 (6 + n) (by omega), if_neg (by omega)]
  | r + 1, h => by
    have ih := sum_blocks n k h1 hk r (by omega)
    rw [sum_block n k r h1 (by omega), if_pos (by omega), Nat.mul_add, ih]
    simp only [Nat.add_mul, Nat.mul_add]
    omega
theorem sum_all (n k : Nat) (h1 : 1 ≤ n) : sumF (newF n k) (sizeN n k) = k * (k + 1) / 2 := by
  unfold sizeN
  rcases Nat.eq_zero_or_pos k with rfl | hk
  · rw [show 8 + n + 8 * 0 = (6 + n) + 2 by omega, sum_head n 0 h1 (6 + n) (by omega), if_pos rfl]
  · obtain ⟨r, rfl⟩ : ∃ r, k = r + 1 := ⟨k - 1, by omega⟩
    have h := sum_blocks n (r + 1) h1 hk r (by omega)
    rw [sum_block n (r + 1) r h1 (by omega), if_neg (by omega), Nat.add_zero]
    have e : (r + 1) * (r + 1 + 1) = (r + 1) * (r + 2) := rfl
    rw [e, ← h]
    omega
theorem sum_le (f : Nat → Nat) (b : Nat) (h : ∀ j, f j ≤ b) : ∀ i, sumF f i ≤ i * b
  | 0 => by simp [sumF]
  | i + 1 => by
    have := sum_le f b h i
    have := h i
    show sumF f i + f i ≤ _
    rw [Nat.add_mul, Nat.one_mul]
    omega
theorem newF_small (n k i : Nat) : newF n k i ≤ k + 1 := by
  unfold newF
  split
  · split <;> omega
  · split
    · omega
    · split <;> omega
/-- Where the walk from link to link stands. -/
def atN (k i : Nat) : Nat := if i < k then i + 1 else 0
def FreeRel (n k : Nat) (W : World) (b : Nat) (A : Option Addr) (sz : Nat) (f : Nat → Nat) (wr : World) : Prop := MemAt wr b n k A sz sz f ∧ Below W.heap.size W wr
theorem FreeRel.drewN {n k : Nat} {W : World} {b : Nat} {A : Option Addr} {sz : Nat} {f : Nat → Nat} {wr : World} (h : FreeRel n k W b A sz f wr) (q : Nat) : FreeRel n k W b A sz f (wr.drewN q) := ⟨⟨h.1.1.drewN q, h.1.2⟩, below_draw h.2 q⟩
set_option maxRecDepth 100000 in
set_option maxHeartbeats 4000000 in
theorem walk1 (t c n k q sz kk tw : Nat) (f : Nat → Nat) (ht : t < 256) (hc : c < 65536)
    (e1 : (t : Int) % 64 = (q : Int)) (e1' : (t : Int).tmod 64 = (q : Int)) (e2 : 1 + (q : Int) = (n : Int)) (e3 : (c : Int) % 301 = (k : Int)) (e3' : (c : Int).tmod 301 = (k : Int)) (hn : 1 ≤ n) (hn2 : n ≤ 64) (hk : k ≤ 300) (hsz : 8 ≤ sz) (hsz2 : sz ≤ 10000) (w : World)
    (cN : ∀ w, Calls Try.prog 9 #[.int .i64 (n : Int), .int .i64 (k : Int)] w (MemPost w n k sz f 0))
    (cR : ∀ (A : Option Addr) (w : World), Calls Try.prog 12 #[.agg #[.int .i64 (n : Int), .int .i64 (k : Int), .slice A sz sz]] w (Kept w (.bool true)))
    (HF0 : Hid (f 1 = atN k 0)) (HF : Hid (∀ i, i < k → fieldN n (i + 1) 7 < sz ∧ f (fieldN n (i + 1) 7) = atN k (i + 1))) (HS : Hid (∀ i, sumF f i ≤ i * 400)) (HT : Hid (sumF f sz = tw))
    (w1 : (k : Int) * ((k : Int) + 1) = (kk : Int)) (w2 : (kk : Int) / 2 = (tw : Int)) (w3 : (kk : Int).tdiv 2 = (tw : Int)) (hkk : kk ≤ 1000000) :
    Calls Try.prog 5 #[.int .u8 (t : Int), .int .u16 (c : Int)] w fun e w' => e = .returned (.bool true) ∧ Below w.heap.size w w' := by
  go_enter Try.func5, Try.ntmps5
  go_wp2_with fail
  refine (shown_any _).mono ?_
  rintro e w1 ⟨rfl, hb⟩
  have BB := Lib.hid hb
  clear hb
  go_wp2_with fail
  refine (cN _).mono ?_
  rintro e w2 ⟨A2, rfl, ha2, hb2⟩
  obtain ⟨x2, hx2⟩ : ∃ x, w2.alloc (.cells #[.int .i64 (n : Int), .int .i64 (k : Int), .slice A2 sz sz] 24) = x := ⟨_, rfl⟩
  have hbx : Below w2.heap.size w2 x2 := by rw [← hx2]; exact al_below _ _
  have M2 : Hid (MemAt x2 w2.heap.size n k A2 sz sz f) := Lib.hid (by rw [← hx2]; exact MemAt.made w2 n k sz ha2)
  have BB2 := Lib.hid (BB.out.trans ((hb2.trans (hbx.mono hb2.size)).mono BB.out.size))
  clear ha2 hb2 hbx BB cN
  obtain ⟨hz, m0, m1, m2, _, _, _⟩ := M2.out.1.three
  go_wp2_with fail
  refine (cR A2 _).mono ?_
  rintro e w3 ⟨rfl, hb3⟩
  have M3 := Lib.hid (M2.out.later hb3)
  have BB3 := Lib.hid (BB2.out.trans (hb3.mono BB2.out.size))
  clear M2 BB2 hb3 hz m0 m1 m2 hx2 cR
  obtain ⟨hz, m0, m1, m2, _, _, _⟩ := M3.out.1.three
  have hsz8 : decide ((sz : Int) < 8) = false := decide_eq_false (by omega)
  obtain ⟨b2, o2, rfl, hl, hcell⟩ := M3.out.2.2 (by omega)
  have cx := hcell 1 (by omega)
  rw [HF0.out] at cx
  have i0 : (1 : Int) < (sz : Int) := by omega
  have ha0 : atN k 0 ≤ 300 := by unfold atN; split <;> omega
  have HX : Hid (FreeRel n k w w2.heap.size (some ⟨b2, o2, none⟩) sz f w3) := Lib.hid ⟨M3.out, BB3.out⟩
  have HZ := Lib.hid hsz2
  have HK := Lib.hid hk
  clear hcell hl hz M3 BB3
  go_wp2_with fail
  clear m0 m1 m2 cx
  go_loopw [10, 11] (fun a i wr => ∃ j : Nat, j ≤ k ∧ a = .int .i64 ((atN k j : Nat) : Int) ∧ i = .int .i64 (j : Int) ∧ FreeRel n k w w2.heap.size (some ⟨b2, o2, none⟩) sz f wr) (fun _ i _ => k - (intOf i).toNat)
  case atStart => exact ⟨0, Nat.zero_le _, rfl, rfl, HX.out⟩
  case round =>
    obtain ⟨j, hj, rfl, rfl, hrel⟩ := hrel
    have HR := Lib.hid hrel
    obtain ⟨hmem, _⟩ := hrel
    obtain ⟨hz, m0, m1, m2, _, _, _⟩ := hmem.1.three
    by_cases hlt : j < k
    · obtain ⟨hp, hfp⟩ := HF.out j hlt
      obtain ⟨b3, o3, e, _, hcell⟩ := hmem.2.2 (by omega)
      cases e
      have cx := hcell (fieldN n (j + 1) 7) hp
      rw [hfp] at cx
      have hF : ∀ w, Calls Try.prog 16 #[.int .i64 (n : Int), .int .i64 ((atN k j : Nat) : Int), .int .i64 7] w (fun e w' => e = .returned (.int .i64 (fieldN n (j + 1) 7 : Nat)) ∧ w = w') := fun w => by
        rw [show atN k j = j + 1 by unfold atN; rw [if_pos hlt]]
        exact field_any n (j + 1) 7 (by omega) (by omega) (by omega) (by decide) w
      have hd : decide ((j : Int) < (k : Int)) = true := decide_eq_true (by omega)
      have s1 : IntKind.i64.wrap ((j : Int) + 1) = ((atN k j : Nat) : Int) := by rw [IntKind.wrap_i64]; unfold atN; rw [if_pos hlt]; omega
      have s2 : IntKind.i64.wrap ((atN k (j + 1) : Nat) : Int) = ((atN k (j + 1) : Nat) : Int) := by rw [IntKind.wrap_i64]; unfold atN; split <;> omega
      have HLT := Lib.hid hlt
      have HNX : Hid (∃ b1, atN k (j + 1) = b1) := Lib.hid ⟨_, rfl⟩
      have ip : ((fieldN n (j + 1) 7 : Nat) : Int) < (sz : Int) := by omega
      have iq : (0 : Int) ≤ ((fieldN n (j + 1) 7 : Nat) : Int) := by omega
      clear hmem hcell hfp hz hlt
      have HP : Hid (∀ b1 : Nat, atN k (j + 1) = b1 → ∀ wr', FreeRel n k w w2.heap.size (some ⟨b2, o2, none⟩) sz f wr' → ∃ i : Nat, i ≤ k ∧ Value.int .i64 (b1 : Int) = .int .i64 ((atN k i : Nat) : Int) ∧ Value.int .i64 ((j : Int) + 1) = .int .i64 (i : Int) ∧ FreeRel n k w w2.heap.size (some ⟨b2, o2, none⟩) sz f wr') :=
        Lib.hid fun b1 e wr' h => ⟨j + 1, by have := HLT.out; omega, by rw [e], rfl, h⟩
      generalize fieldN n (j + 1) 7 = p at *
      generalize atN k j = a1 at *
      generalize hb1 : atN k (j + 1) = b1 at *
      have HB1 := Lib.hid hb1
      clear hb1
      go_wp2_with fail
      go_quiet (first | (go_at_call 16; with_reducible exact quiet_call (hF _)))
      clear s1
      go_wp2_with fail
      have HR5 := Lib.hid (HR.out.drewN nq)
      have n0 : (wr.drewN nq).cell? ⟨w2.heap.size, 0, none⟩ = some (.int .i64 (n : Int)) := m0
      have n1 : (wr.drewN nq).cell? ⟨w2.heap.size, 1, none⟩ = some (.int .i64 (k : Int)) := m1
      have n2 : (wr.drewN nq).cell? ⟨w2.heap.size, 2, none⟩ = some (.slice (some ⟨b2, o2, none⟩) sz sz) := m2
      have nx : (wr.drewN nq).cell? ⟨b2, o2 + p, none⟩ = some (.int .u64 (b1 : Int)) := cx
      clear m0 m1 m2 cx HR
      generalize wr.drewN nq = w5 at *
      go_quiet (first | (go_at_call 16; with_reducible exact quiet_call (hF _)))
      clear s2
      go_wp2_with fail
      go_roundw
      case rel => exact HP.out b1 rfl _ (HR5.out.drewN nq)
      case measure => have := HLT.out; simp [intOf]; omega
    · obtain rfl : j = k := by omega
      have e0 : atN j j = 0 := by unfold atN; rw [if_neg (by omega)]
      have ec : ((atN j j : Nat) : Int) = 0 := by rw [e0]; rfl
      rw [ec]
      clear hlt hz m0 m1 m2 e0 ec hmem
      go_wp2_with fail
      go_loopw [12, 13] (fun a i wr => ∃ i0 : Nat, i0 ≤ sz ∧ a = .int .u64 ((sumF f i0 : Nat) : Int) ∧ i = .int .i64 (i0 : Int) ∧ FreeRel n j w w2.heap.size (some ⟨b2, o2, none⟩) sz f wr) (fun _ i _ => sz - (intOf i).toNat)
      case atStart => exact ⟨0, Nat.zero_le _, rfl, rfl, HR.out⟩
      case round =>
        obtain ⟨i, hi, rfl, rfl, hrel⟩ := hrel
        have HR := Lib.hid hrel
        obtain ⟨hmem, _⟩ := hrel
        obtain ⟨hz, m0, m1, m2, _, _, _⟩ := hmem.1.three
        by_cases hlt : i < sz
        · obtain ⟨b3, o3, e, _, hcell⟩ := hmem.2.2 (by omega)
          cases e
          have cx := hcell i hlt
          have hd : decide ((i : Int) < (sz : Int)) = true := decide_eq_true (by omega)
          have ip : (i : Int) < (sz : Int) := by omega
          have iq : (0 : Int) ≤ (i : Int) := by omega
          have b1 := HS.out i
          have b2' := HS.out (i + 1)
          have hs : sumF f (i + 1) = sumF f i + f i := rfl
          have hb : sumF f i + f i ≤ 4000400 := by rw [← hs]; have : (i + 1) * 400 ≤ 10001 * 400 := Nat.mul_le_mul (by have := HZ.out; omega) (Nat.le_refl _); omega
          have HP : Hid (∀ wr', FreeRel n j w w2.heap.size (some ⟨b2, o2, none⟩) sz f wr' → ∃ i0 : Nat, i0 ≤ sz ∧ Value.int .u64 (((sumF f i : Nat) : Int) + ((f i : Nat) : Int)) = .int .u64 ((sumF f i0 : Nat) : Int) ∧ Value.int .i64 ((i : Int) + 1) = .int .i64 (i0 : Int) ∧ FreeRel n j w w2.heap.size (some ⟨b2, o2, none⟩) sz f wr') :=
            Lib.hid fun wr' h => ⟨i + 1, by omega, by rw [hs]; rfl, rfl, h⟩
          have HLT := Lib.hid hlt
          clear hmem hcell hz hlt b1 b2' hs
          generalize f i = v at *
          generalize sumF f i = u at *
          go_wp2_with fail
          go_roundw
          case rel => exact HP.out _ HR.out
          case measure => have := HLT.out; simp [intOf]; omega
        · obtain rfl : i = sz := by omega
          rw [HT.out]
          clear hlt hz m0 m1 hmem
          go_wp2_with fail
          go_ret
          exact ⟨rfl, HR.out.2⟩
section
variable {H : Type} {enc : TypeId × Value → H} {w : World}
theorem open_t {v : Value} {d : DataW H} {ps : List MemPlace} {base : Nat} (hval : Value.okWide Try.prog w .any base 5 v) (h : DataW.Trod enc Try.prog w 0 (fun _ => true) true 5 v d ps) (hs : Sized Try.prog 5 d) (hlt : ∀ z ∈ ps, z.block < w.heap.size) :
    ∃ (t : Nat), v = .int .u8 (t : Int) ∧ t < 256 := by
  obtain ⟨a0, rfl⟩ := okWide_int Try.underlying5 hval
  obtain ⟨fuel, hf0⟩ := h
  have hf : DataW.trod enc Try.prog w 0 (fun _ => true) true fuel 5 [.int .u8 a0] = some (d, ps) := hf0
  obtain ⟨t, e0, ht⟩ := leaf_u8 Try.underlying5 hf
  cases e0
  exact ⟨_, rfl, ht⟩
theorem open_c {v : Value} {d : DataW H} {ps : List MemPlace} {base : Nat} (hval : Value.okWide Try.prog w .any base 25 v) (h : DataW.Trod enc Try.prog w 0 (fun _ => true) true 25 v d ps) (hs : Sized Try.prog 25 d) (hlt : ∀ z ∈ ps, z.block < w.heap.size) :
    ∃ (c : Nat), v = .int .u16 (c : Int) ∧ c < 65536 := by
  obtain ⟨a0, rfl⟩ := okWide_int Try.underlying25 hval
  obtain ⟨fuel, hf0⟩ := h
  have hf : DataW.trod enc Try.prog w 0 (fun _ => true) true fuel 25 [.int .u16 a0] = some (d, ps) := hf0
  obtain ⟨c, e0, hc⟩ := leaf_u16 Try.underlying25 hf
  cases e0
  exact ⟨_, rfl, hc⟩
end

set_option maxRecDepth 100000 in
theorem lifted (os : Os) (started : os.Started) (H : Type) (enc : TypeId × Value → H) :
    ReturnsInHanded {} Try.checked os 5 .any (Rows.cellFreeSpec.pre6 enc Try.prog Try.f5 Rows.cellFreeRow.domain false) (Rows.cellFreeSpec.post enc Try.prog Try.f5 false true false false) := by
  refine law_lifted (C := Try.checked) own started (by kernel_rfl) Try.func5
    (ChangeSpec.witness6 (enc := enc) (C := Try.checked) false ⟨#[], #[.int .u8 0, .int .u16 0], []⟩ 8 (by kernel_rfl) (by kernel_rfl) (by kernel_rfl) (by kernel_rfl))
    (by kernel_rfl) (by kernel_rfl) Try.underlying4 rfl (by kernel_rfl) ?_
  intro W base args ds before hval hA hwt hlt
  have hA' : DataW.TrodAll enc Try.prog W 0 (fun _ => true) true Try.f5.params.toList args.toList ds before := hA
  have hval' : ∀ (j : Nat) t v, Try.f5.params[j]? = some t → args[j]? = some v → Value.okWide Try.prog W .any base t v := hval
  have hwt' : (DataW.weightsEach Try.prog Try.f5.params.toList ds).all (· ≤ reachBytes) = true := hwt
  rw [Try.params5] at hA' hval' hwt'
  obtain ⟨v0, vs0, d0, ds0, p0, q0, hargs, rfl, rfl, k0, r0⟩ := trodAll_cons hA'
  obtain ⟨v1, vs1, d1, ds1, p1, q1, rfl, rfl, rfl, k1, r1⟩ := trodAll_cons r0
  obtain ⟨rfl, rfl, rfl⟩ := trodAll_nil r1
  obtain rfl : args = #[v0, v1] := by cases args; simp_all
  obtain ⟨t, rfl, ht⟩ := open_t (hval' 0 5 v0 rfl rfl) k0 (sized_of hwt' (j := 0) (t := 5) rfl rfl) (fun x hx => hlt x (by simp [hx]))
  obtain ⟨c, rfl, hc⟩ := open_c (hval' 1 25 v1 rfl rfl) k1 (sized_of hwt' (j := 1) (t := 25) rfl rfl) (fun x hx => hlt x (by simp [hx]))
  refine ⟨rfl, ?_⟩
  obtain ⟨q, hq⟩ : ∃ q, t % 64 = q := ⟨_, rfl⟩
  obtain ⟨k, hk⟩ : ∃ q, c % 301 = q := ⟨_, rfl⟩
  have hkk : k * (k + 1) ≤ 300 * 301 := Nat.mul_le_mul (by omega) (by omega)
  have w1 : (k : Int) * ((k : Int) + 1) = ((k * (k + 1) : Nat) : Int) := by rw [Int.natCast_mul]; rfl
  refine walk1 t c (q + 1) k q (sizeN (q + 1) k) (k * (k + 1)) (k * (k + 1) / 2) (newF (q + 1) k) ht hc (by omega) (by rw [Int.tmod_eq_emod_of_nonneg (by omega)]; omega) (by omega) (by omega) (by rw [Int.tmod_eq_emod_of_nonneg (by omega)]; omega) (by omega) (by omega) (by omega) (by unfold sizeN; omega) (by unfold sizeN; omega) W
    (fun w => (new_yes (q + 1) k (by omega) (by omega) (by omega) w).mono fun e w' ⟨g, he, _, hr, hb⟩ => ⟨_, he, hr.at_, hb⟩) (fun A w => ?_) (Lib.hid ?_) (Lib.hid fun i hi => ?_) (Lib.hid fun i => ?_) (Lib.hid (sum_all (q + 1) k (by omega))) w1 (by omega) (by rw [Int.tdiv_eq_ediv_of_nonneg (by omega)]; omega) (by omega)
  · have h := right_memory ((q + 1 : Nat) : Int) (k : Int) A (sizeN (q + 1) k) (sizeN (q + 1) k) w
    rw [rightM_yes (by omega) (by omega) (by omega)] at h
    exact h
  · unfold newF atN
    rw [if_pos rfl]
    by_cases h0 : k = 0
    · rw [if_pos h0, if_neg (by omega)]
    · rw [if_neg h0, if_pos (by omega)]
  · have e : fieldN (q + 1) (i + 1) 7 = 8 + (q + 1) + 8 * i + 7 := by unfold fieldN; omega
    refine ⟨by rw [e]; unfold sizeN; omega, ?_⟩
    rw [e, new_link (q + 1) k i (by omega) hi]
    rfl
  · have := sum_le (newF (q + 1) k) 400 (fun j => by have := newF_small (q + 1) k j; omega) i
    exact this

theorem over : Rows.cellFreeRow.holds Try.pinned (OpenSpec.ofChange Rows.cellFreeSpec) :=
  OpenClaim.holds_of_wide 5 Try.f5 rfl rfl rfl rfl rfl rfl rfl ⟨rfl, rfl, rfl, rfl, rfl⟩ rfl rfl rfl rfl rfl (by kernel_rfl) Try.func5 (by kernel_rfl)
    (of_decide_eq_true (by kernel_rfl)) (by unfold Func.isWrapper; first | (rw [if_pos (by decide +kernel)]; kernel_rfl) | (rw [if_neg (by decide +kernel)]; exact ⟨rfl, rfl⟩))
    (fun os started H enc _ => lifted os started H enc)

/-- The statement. -/
theorem proved : Rows.CellFreeSaid :=
  over
#print axioms proved
end Go.Proofs.Ytjjkdebdikkceaa.cellFree
