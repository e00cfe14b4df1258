/-
  pool.Next: the tape as who makes accesses; answer, the program of Next, and Run of it, for every log.
-/
import Derived.Test.YtadknblgfcgkpaaPolCalls
import Derived.Test.YtadknblgfcgkpaaPlyLine
import Derived.Deep.Cut
namespace Go.Proofs.Ytadknblgfcgkpaa
open Go.ChangeShapes Go.WideShapes Go.ChangeAt Go.RowKit Go.BigFrame
set_option linter.unusedVariables false
set_option maxRecDepth 100000

/-! ### The tape, as who makes accesses -/
theorem askT_left (g : Nat) (k i : Int) (a b : Nat) (pv : Value) (P : World → Prop) (w : World) (h : Calls Try.prog 59 #[.pointer (some ⟨g, 0, none⟩), .agg #[.int .i64 k, .int .i64 i, .int .u64 (a : Int), .int .u64 (b : Int), .slice none 0 0, .slice none 0 0]] w (Quits pv P)) :
    Calls Try.prog 51 #[.func (.func 59) #[.pointer (some ⟨g, 0, none⟩)] #[], .int .i64 k, .int .i64 i, .int .u64 (a : Int), .int .u64 (b : Int)] w (Quits pv P) := by
  have he := eql_do
  have hf := field_n
  go_enter Try.func51, Try.ntmps51
  go_wp2_with fail
  (with_reducible refine h.mono ?_)
  rintro e w' ⟨rfl, hp⟩
  exact ⟨rfl, rfl, hp⟩
def accK (k i : Int) (a b : Nat) : Acc := ⟨k, i, a, b, [], 0, fun _ => 0⟩
theorem accK_P {k i : Int} {a b : Nat} (h : Bnd k i a b) (w : World) : AccP w (accK k i a b) none 0 none 0 := ⟨h.1, h.2.1, h.2.2.1, h.2.2.2, ⟨Nat.le_refl 0, Nat.zero_le _⟩, ⟨Nat.le_refl 0, Nat.zero_le _⟩, AtB.nil _ _, AtW.nil _ _⟩
def tapeTell : List Res → Int → Int → Nat → Nat → Tell (List Res)
  | [], _, _, _, _ => .left
  | r :: rest, _, _, _, _ => .told (r.n % 18446744073709551616) rest
abbrev doV (g : Nat) : Value := .func (.func 59) #[.pointer (some ⟨g, 0, none⟩)] #[]
theorem VarAt.lower {w w' : World} {b B : Nat} {vs : List Value} (h : VarAt w b vs) (hb : b < B) (hB : Below B w w') : VarAt w' b vs :=
  ⟨Nat.lt_of_lt_of_le h.1 hB.size, fun j v hj => (hB.cell (p := ⟨b, j, none⟩) hb).trans (h.2.1 j v hj), fun j hj => (hB.frozen (p := ⟨b, j, none⟩) hb).trans (h.2.2 j hj)⟩
theorem But.later' {g : Nat} {w w' w2 : World} (h : But g w w') (hb : Below w.heap.size w' w2) (hg : g ≤ w.heap.size) : But g w w2 :=
  ⟨h.below.trans (hb.mono hg), fun b hlt hne => (hb.block b hlt).trans (h.block b hlt hne)⟩
/-- The tape at block g holds what is left of a log, which lies in w0; but for the tape all is as it was in wb. -/
def TapeI (g : Nat) (w0 wb : World) (s : List Res) (w : World) : Prop :=
  (∃ A cap, VarAt w g (tapeV A s.length cap true false (.int .i64 0) (.int .i64 0) (.int .u64 0) (.int .u64 0) (.slice none 0 0) (.slice none 0 0)) ∧ LogAt w0 A s.length s ∧ s.length ≤ cap) ∧ But g wb w
def tapeSrv (g : Nat) (w0 wb : World) (hg : w0.heap.size ≤ g) (hgw : g < wb.heap.size) (hb : Below w0.heap.size w0 wb) : Srv (doV g) (List Res) where
  I := TapeI g w0 wb
  g := g
  tell := tapeTell
  pv := .iface 91 (.pointer (some ⟨g, 0, none⟩))
  L k i a b w' := ∃ e, LeftPost wb g (accK k i a b) true e w'
  isFn := ⟨_, _, _, rfl⟩
  small := by
    intro s k i a b n s' h
    cases s with
    | nil => cases h
    | cons r rest => cases h; exact Nat.mod_lt _ (by decide)
  B _ := wb.heap.size
  ble := fun h => h.2.size
  stay := by
    rintro s w w' ⟨⟨A, cap, hv, hl, hc⟩, hB⟩ hb'
    exact ⟨⟨A, cap, hv.lower hgw hb', hl, hc⟩, hB.later' hb' (by omega)⟩
  told := by
    rintro s k i a b n s' h hbd w ⟨⟨A, cap, hv, hl, hc⟩, hB⟩
    obtain _ | ⟨r, rest⟩ := s
    · cases h
    · obtain ⟨rfl, rfl⟩ : r.n % 18446744073709551616 = n ∧ rest = s' := by cases h; exact ⟨rfl, rfl⟩
      refine askT g k i a b _ _ w ((do_told g A (r :: rest).length rest.length cap rfl r rest true false (.int .i64 0) (.int .i64 0) (.int .u64 0) (.int .u64 0) (.slice none 0 0) (.slice none 0 0) k i a b none 0 0 none 0 0 w0 w (Lib.hid hv) (Lib.hid hl) hc (Lib.hid (hb.trans (hB.below.mono hg))) hg).mono ?_)
      rintro e w' ⟨B, bc, A', cap', rfl, hr, hv', hl', hc', hB'⟩
      refine ⟨_, _, by rw [Nat.mod_eq_of_lt hr.n], ⟨⟨A', cap', hv', hl', hc'⟩, hB.trans hB'⟩, hB'⟩
  left := by
    rintro s k i a b h hbd w ⟨⟨A, cap, hv, hl, hc⟩, hB⟩
    cases s with
    | cons r rest => cases h
    | nil =>
      refine askT_left g k i a b _ _ w ((do_left g A cap true (.int .i64 0) (.int .i64 0) (.int .u64 0) (.int .u64 0) (.slice none 0 0) (.slice none 0 0) (accK k i a b) (Nat.zero_le _) none 0 none 0 w0 w (Lib.hid hv) (Lib.hid (accK_P hbd w0)) (Lib.hid (hb.trans (hB.below.mono hg))) hg).mono ?_)
      rintro e w' ⟨D, dc, E, ec, A', cap', rfl, hT, hX, hB', hD, hE⟩
      have hsz := hB.size
      exact ⟨rfl, _, D, dc, E, ec, A', cap', rfl, hT, hX, hB.trans hB', hD.mono fun b h => by omega, hE.mono fun b h => by omega⟩

/-! ### A log is enough -/
theorem popTape (t : Nat) : ∀ (n : Nat) (s : List Res), s.length < n → popRun tapeTell t n s ≠ .bad
  | 0, s, h => by omega
  | n + 1, s, h => by
    unfold popRun tapeTell
    rcases s with _ | ⟨r, _ | ⟨r2, _ | ⟨r3, s⟩⟩⟩
    · simp
    · simp only; split <;> simp
    · simp only; split <;> simp
    · simp only
      split
      · simp
      · split
        · simp
        · exact popTape t n s (by simp at h; omega)
theorem pushTape (t r : Nat) : ∀ (n : Nat) (s : List Res), s.length < n → pushRun tapeTell t r n s ≠ .bad
  | 0, s, h => by omega
  | n + 1, s, h => by
    unfold pushRun tapeTell
    rcases s with _ | ⟨r1, _ | ⟨r2, _ | ⟨r3, s⟩⟩⟩
    · simp
    · simp
    · simp
    · simp only
      split
      · simp
      · exact pushTape t r n s (by simp at h; omega)

/-! ### answer -/
def ansRun {S : Type} (T : S → Int → Int → Nat → Nat → Tell S) (t : Nat) (k u : Int) (n : Nat) (s : S) : Ran S :=
  if k = 1 then popRun T t n s else if k = 2 then pushRun T t u.toNat n s else .done 0 s
def ansE (k : Int) : Int := if k = 1 ∨ k = 2 then 0 else 1
def outV (er : Int) (r : Nat) : Value := .agg #[.int .i64 er, .bool false, .int .i64 (r : Int), .int .u64 0, .slice none 0 0]
theorem run_none {S : Type} {T : S → Int → Int → Nat → Nat → Tell S} {t n r : Nat} {s : S} : ∀ {d x}, pushRun T t r n s = .done d x → d = 0 := by
  induction n generalizing s with
  | zero => intro d x h; cases h
  | succ n ih =>
    intro d x h
    unfold pushRun at h
    split at h <;> try cases h
    split at h <;> try cases h
    split at h <;> try cases h
    split at h
    · cases h; rfl
    · exact ih h
section
variable {dv : Value} {S : Type} (V : Srv dv S)
set_option maxHeartbeats 2000000 in
set_option maxRecDepth 100000 in
theorem answer_at (t : Nat) (ht : t ≤ 64) (k u v : Int) (x : Nat) (hu : k = 2 → 1 ≤ u ∧ u < 1048576) (n : Nat) (s : S) (R : Ran S) (hR : ansRun V.tell t k u n s = R) (hb : R ≠ .bad) (w : World) (hI : V.I s w) (hgw : V.g < w.heap.size) (hBw : ∀ y, V.B y ≤ w.heap.size) :
    Calls Try.prog 24 #[dv, .int .i64 (t : Int), .agg #[.int .i64 k, .int .i64 u, .int .i64 v, .int .u64 (x : Int)]] w (RunEnd V w (outV (ansE k)) R) := by
  obtain ⟨gv, hgv⟩ : ∃ g, V.g = g := ⟨_, rfl⟩
  unfold ansRun at hR
  have n1 : ¬ (w.heap.size = gv) := by omega
  have n2 : ¬ (w.heap.size + 1 = gv) := by omega
  have n3 : ¬ (w.heap.size + 1 + 1 = gv) := by omega
  by_cases h1 : k = 1
  · subst h1
    rw [if_pos rfl] at hR
    have he : ansE 1 = 0 := rfl
    rw [he]
    have HC := pop_at V t ht n s R hR hb
    clear hu he
    have HI := Lib.hid hI
    have HGV := Lib.hid hgv
    have HBW := Lib.hid hBw
    clear hI hR ht hgv hBw
    go_enter Try.func24, Try.ntmps24
    go_wp2_with fail
    refine gen_w (P := fun W => Calls _ _ _ W _) (fun y => Below w.heap.size w y ∧ y.heap.size = w.heap.size + 1 + 1 + 1 ∧ VarAt y (w.heap.size + 1) [.int .i64 0, .bool false, .int .i64 0, .int .u64 0, .slice none 0 0] ∧ VarAt y (w.heap.size + 1 + 1) [.int .i64 0, .bool false, .int .i64 0, .int .u64 0, .slice none 0 0]) ⟨(by repeat (first | with_reducible assumption | with_reducible exact Below.refl _ _ | with_reducible refine Below.drew ?_ | with_reducible refine below_al ?_ | (with_reducible refine below_set1 (by omega) _ ?_))), by simp, VarAt.mk5 (by simp) (by go_simp) (by go_simp) (by go_simp) (by go_simp) (by go_simp) (by go_simp) (by go_simp) (by go_simp) (by go_simp) (by go_simp), VarAt.mk5 (by simp) (by go_simp) (by go_simp) (by go_simp) (by go_simp) (by go_simp) (by go_simp) (by go_simp) (by go_simp) (by go_simp) (by go_simp)⟩ ?_
    rintro y ⟨k0, k1, k2, k3⟩
    have K0 := Lib.hid k0
    have K1 := Lib.hid k1
    have K2 := Lib.hid k2
    have K3 := Lib.hid k3
    clear k0 k1 k2 k3
    refine (HC y (V.later HI.out K0.out)).mono ?_
    clear HC
    cases R with
    | bad => exact absurd rfl hb
    | left k i a b =>
      rintro e w2 ⟨rfl, hl⟩
      exact ⟨rfl, rfl, hl⟩
    | done r s2 =>
      rintro e w2 ⟨rfl, hi, hbt⟩
      have hyz := K1.out
      have hg := HGV.out
      rw [hg] at hbt
      obtain ⟨_, ⟨a1, a2, a3, a4, a5⟩, b1, b2, b3, b4, b5⟩ := (K2.out.but hbt n2).five
      obtain ⟨_, ⟨c1, c2, c3, c4, c5⟩, d1, d2, d3, d4, d5⟩ := (K3.out.but hbt n3).five
      have hsz := hbt.size
      have m1 : w.heap.size + 1 < w2.heap.size := by omega
      have m2 : w.heap.size + 1 + 1 < w2.heap.size := by omega
      have HW : Hid (But gv w w2) := Lib.hid ((But.of K0.out (by omega)).trans hbt)
      have HI2 := Lib.hid hi
      clear hi hbt hyz hg
      go_wp2_with fail
      have hg := HGV.out
      have hbw := HW.out
      refine bodyPost_ret (v := outV 0 r) (by simp [results, Try.results24, go_sem, outV, a1, a2, a3, a4, a5]) rfl ⟨rfl, V.stay HI2.out (Below.mono (B := w.heap.size) (by repeat (first | with_reducible exact Below.refl _ _ | with_reducible refine Below.drew ?_ | with_reducible refine below_al ?_ | (refine Below.setCell ?_ (show w.heap.size ≤ _ by (try simp only []); omega) _))) (HBW.out _)), ?_⟩
      rw [hg]
      exact (by repeat (first | with_reducible assumption | with_reducible exact But.refl _ _ | with_reducible refine But.drew ?_ | (with_reducible refine But.alloc ?_ _ (by omega)) | (with_reducible refine But.set ?_ _ _) | (with_reducible refine But.new ?_ _ _ _ (by omega) (by omega))))
  by_cases h2 : k = 2
  · subst h2
    rw [if_neg h1, if_pos rfl] at hR
    have he : ansE 2 = 0 := rfl
    rw [he]
    obtain ⟨u1, u2⟩ := hu rfl
    obtain ⟨ur, rfl⟩ : ∃ ur : Nat, u = (ur : Int) := ⟨u.toNat, by omega⟩
    rw [Int.toNat_natCast] at hR
    have HC := push_at V t ht ur (by omega) (by omega) n s R hR hb
    have HR0 := Lib.hid (fun d (x : S) (h : R = .done d x) => run_none (hR.trans h))
    clear hu he u1 u2 h1
    have HI := Lib.hid hI
    have HGV := Lib.hid hgv
    have HBW := Lib.hid hBw
    clear hI hR ht hgv hBw
    go_enter Try.func24, Try.ntmps24
    go_wp2_with fail
    refine gen_w (P := fun W => Calls _ _ _ W _) (fun y => Below w.heap.size w y ∧ y.heap.size = w.heap.size + 1 + 1 + 1 ∧ VarAt y (w.heap.size + 1) [.int .i64 0, .bool false, .int .i64 0, .int .u64 0, .slice none 0 0] ∧ VarAt y (w.heap.size + 1 + 1) [.int .i64 0, .bool false, .int .i64 0, .int .u64 0, .slice none 0 0]) ⟨(by repeat (first | with_reducible assumption | with_reducible exact Below.refl _ _ | with_reducible refine Below.drew ?_ | with_reducible refine below_al ?_ | (with_reducible refine below_set1 (by omega) _ ?_))), by simp, VarAt.mk5 (by simp) (by go_simp) (by go_simp) (by go_simp) (by go_simp) (by go_simp) (by go_simp) (by go_simp) (by go_simp) (by go_simp) (by go_simp), VarAt.mk5 (by simp) (by go_simp) (by go_simp) (by go_simp) (by go_simp) (by go_simp) (by go_simp) (by go_simp) (by go_simp) (by go_simp) (by go_simp)⟩ ?_
    rintro y ⟨k0, k1, k2, k3⟩
    have K0 := Lib.hid k0
    have K1 := Lib.hid k1
    have K2 := Lib.hid k2
    have K3 := Lib.hid k3
    clear k0 k1 k2 k3
    refine (HC y (V.later HI.out K0.out)).mono ?_
    clear HC
    cases R with
    | bad => exact absurd rfl hb
    | left k i a b =>
      rintro e w2 ⟨rfl, hl⟩
      exact ⟨rfl, rfl, hl⟩
    | done r s2 =>
      rintro e w2 ⟨rfl, hi, hbt⟩
      have hyz := K1.out
      have hg := HGV.out
      rw [hg] at hbt
      obtain ⟨_, ⟨a1, a2, a3, a4, a5⟩, b1, b2, b3, b4, b5⟩ := (K2.out.but hbt n2).five
      obtain ⟨_, ⟨c1, c2, c3, c4, c5⟩, d1, d2, d3, d4, d5⟩ := (K3.out.but hbt n3).five
      have hsz := hbt.size
      have m1 : w.heap.size + 1 < w2.heap.size := by omega
      have m2 : w.heap.size + 1 + 1 < w2.heap.size := by omega
      have HW : Hid (But gv w w2) := Lib.hid ((But.of K0.out (by omega)).trans hbt)
      have HI2 := Lib.hid hi
      clear hi hbt hyz hg
      go_wp2_with fail
      obtain rfl : r = 0 := HR0.out _ _ rfl
      have hg := HGV.out
      have hbw := HW.out
      refine bodyPost_ret (v := outV 0 0) (by simp [results, Try.results24, go_sem, outV, a1, a2, a3, a4, a5]) rfl ⟨rfl, V.stay HI2.out (Below.mono (B := w.heap.size) (by repeat (first | with_reducible exact Below.refl _ _ | with_reducible refine Below.drew ?_ | with_reducible refine below_al ?_ | (refine Below.setCell ?_ (show w.heap.size ≤ _ by (try simp only []); omega) _))) (HBW.out _)), ?_⟩
      rw [hg]
      exact (by repeat (first | with_reducible assumption | with_reducible exact But.refl _ _ | with_reducible refine But.drew ?_ | (with_reducible refine But.alloc ?_ _ (by omega)) | (with_reducible refine But.set ?_ _ _) | (with_reducible refine But.new ?_ _ _ _ (by omega) (by omega))))
  · rw [if_neg h1, if_neg h2] at hR
    have he : ansE k = 1 := by unfold ansE; rw [if_neg (by omega)]
    rw [he, ← hR]
    have e1 : ((k : Int) == 1) = false := by rw [beq_eq_false_iff_ne]; exact h1
    have e2 : ((k : Int) == 2) = false := by rw [beq_eq_false_iff_ne]; exact h2
    have HI := Lib.hid hI
    have HGV := Lib.hid hgv
    have HBW := Lib.hid hBw
    clear hI hR ht hgv hBw he hu h1 h2 hb
    go_enter Try.func24, Try.ntmps24
    go_wp2_with fail
    have hg := HGV.out
    refine bodyPost_ret (v := outV 1 0) (by simp [results, Try.results24, go_sem, outV]) rfl ⟨rfl, V.stay HI.out (Below.mono (B := w.heap.size) (by repeat (first | with_reducible exact Below.refl _ _ | with_reducible refine Below.drew ?_ | with_reducible refine below_al ?_ | (refine Below.setCell ?_ (show w.heap.size ≤ _ by (try simp only []); omega) _))) (HBW.out _)), ?_⟩
    rw [hg]
    have hbw : But gv w w := But.refl _ _
    exact (by repeat (first | with_reducible assumption | with_reducible exact But.refl _ _ | with_reducible refine But.drew ?_ | (with_reducible refine But.alloc ?_ _ (by omega)) | (with_reducible refine But.set ?_ _ _) | (with_reducible refine But.new ?_ _ _ _ (by omega) (by omega))))
end
end Go.Proofs.Ytadknblgfcgkpaa
