/-
  Texts of one kind, one behind the other: EpcAlone, EpcSteps, PolShown, EpcShown.
-/
import Derived.Test.YthcifknnppohfaaEpcB
import Derived.Test.YthcifknnppohfaaPolB
import Derived.Test.YthcifknnppohfaaEpcA
import Derived.Test.YthcifknnppohfaaAccOther
import Derived.Deep.Cut
namespace Go.Proofs.Ythcifknnppohfaa
open Go.ChangeShapes Go.WideShapes Go.ChangeAt Go.RowKit Go.BigFrame Go.Deep
set_option linter.unusedVariables false
set_option maxRecDepth 100000

/-! ### Counts that are greater -/
/-- The other is the same, but where this one is bad. -/
inductive Prg.Ext : Prg → Prg → Prop
  | bad (q : Prg) : Ext .bad q
  | ret (d : Nat) : Ext (.ret d) (.ret d)
  | ask (k i : Int) (a b : Nat) (f g : Nat → Prg) (h : ∀ x, Ext (f x) (g x)) : Ext (.ask k i a b f) (.ask k i a b g)
namespace Prg
theorem Ext.refl : ∀ p : Prg, Ext p p
  | .bad => .bad _
  | .ret d => .ret d
  | .ask k i a b f => .ask k i a b f f fun x => Ext.refl (f x)
theorem Ext.bind {p p' : Prg} {q q' : Nat → Prg} (h : Ext p p') (hq : ∀ d, Ext (q d) (q' d)) : Ext (p.bind q) (p'.bind q') := by
  induction h with
  | bad p => exact .bad _
  | ret d => exact hq d
  | ask k i a b f g h ih => exact .ask _ _ _ _ _ _ ih
theorem Ext.run {S : Type} {T : S → Int → Int → Nat → Nat → Tell S} {p p' : Prg} (h : Ext p p') (s : S) (hb : p.run T s ≠ .bad) : p.run T s = p'.run T s := by
  induction h generalizing s with
  | bad p => exact absurd rfl hb
  | ret d => rfl
  | ask k i a b f g h ih =>
    simp only [Prg.run] at hb ⊢
    cases hT : T s k i a b with
    | bad => rfl
    | left => rfl
    | told n s' =>
      rw [hT] at hb
      exact ih _ _ hb
theorem ext_pop (t : Nat) : ∀ {n m : Nat}, n ≤ m → Ext (pop t n) (pop t m)
  | 0, m, _ => .bad _
  | n + 1, 0, h => by omega
  | n + 1, m + 1, h => by
    unfold pop
    refine .ask _ _ _ _ _ _ fun w => ?_
    split
    · exact Ext.refl _
    · refine .ask _ _ _ _ _ _ fun x => .ask _ _ _ _ _ _ fun d => ?_
      split
      · exact Ext.refl _
      · exact ext_pop t (by omega)
theorem ext_push (t r : Nat) : ∀ {n m : Nat}, n ≤ m → Ext (push t r n) (push t r m)
  | 0, m, _ => .bad _
  | n + 1, 0, h => by omega
  | n + 1, m + 1, h => by
    unfold push
    refine .ask _ _ _ _ _ _ fun w => .ask _ _ _ _ _ _ fun x => .ask _ _ _ _ _ _ fun d => ?_
    split
    · exact Ext.refl _
    · exact ext_push t r (by omega)
theorem ext_retireL (t r l : Nat) : ∀ {n m : Nat}, n ≤ m → Ext (retireL t r l n) (retireL t r l m)
  | 0, m, _ => .bad _
  | n + 1, 0, h => by omega
  | n + 1, m + 1, h => by
    unfold retireL
    refine .ask _ _ _ _ _ _ fun w => .ask _ _ _ _ _ _ fun x => .ask _ _ _ _ _ _ fun d => ?_
    split
    · exact Ext.refl _
    · exact ext_retireL t r l (by omega)
theorem ext_pins (e : Nat) {q q' : Prg} (h : Ext q q') : ∀ (k i : Nat), Ext (pins e q i k) (pins e q' i k)
  | 0, i => h
  | k + 1, i => by
    unfold pins
    refine .ask _ _ _ _ _ _ fun p => ?_
    split
    · exact ext_pins e h k (i + 1)
    · exact Ext.refl _
theorem ext_chain (t : Nat) {a b : Nat} (hab : a ≤ b) : ∀ {n m : Nat} (r : Nat), n ≤ m → Ext (chain t a n r) (chain t b m r)
  | 0, m, r, _ => .bad _
  | n + 1, 0, r, h => by omega
  | n + 1, m + 1, r, h => by
    unfold chain
    split
    · exact Ext.refl _
    · exact .ask _ _ _ _ _ _ fun x => (ext_push t r hab).bind fun _ => ext_chain t hab _ (by omega)
theorem ext_advance (t : Nat) {a b n m : Nat} (hab : a ≤ b) (hnm : n ≤ m) : Ext (advance t a n) (advance t b m) := by
  refine .ask _ _ _ _ _ _ fun e => ext_pins e ?_ t 0
  refine .ask _ _ _ _ _ _ fun d => ?_
  split
  · exact .ask _ _ _ _ _ _ fun h => ext_chain t hab _ hnm
  · exact Ext.refl _
theorem ext_allocL (t me : Nat) {a b n m : Nat} (hab : a ≤ b) (hnm : n ≤ m) : ∀ (k r : Nat), Ext (allocL t me a n k r) (allocL t me b m k r)
  | 0, r => Ext.refl _
  | k + 1, r => by
    unfold allocL
    split
    · exact Ext.refl _
    · exact (Ext.refl _).bind fun _ => (ext_advance t hab hnm).bind fun _ => (ext_pop t hab).bind fun r => ext_allocL t me hab hnm k r
end Prg
theorem ePrg_ext (t me : Nat) (k u : Int) {n m : Nat} (h : n ≤ m) : Prg.Ext (ePrg t me k u n) (ePrg t me k u m) := by
  unfold ePrg
  split
  · exact Prg.Ext.refl _
  · split
    · exact Prg.Ext.refl _
    · split
      · exact .ask _ _ _ _ _ _ fun e => Prg.ext_retireL _ _ _ h
      · split
        · exact Prg.ext_advance t h h
        · split
          · exact (Prg.ext_pop t h).bind fun r => Prg.ext_allocL t me h h 3 r
          · exact Prg.Ext.refl _
theorem eNextR_same {t me : Nat} {k u : Int} {log : List Res} {m : Nat} (h : log.length < m) : eNextR t me k u log = (ePrg t me k u m).run tapeTell log :=
  (ePrg_ext t me k u (by omega)).run log (eNextR_ok t me k u log)

/-- What alone tells, done. -/
def AloneEndE (w : World) (t c : Int) (A : Option Addr) (n r : Nat) (R S : Option Addr) (m : Nat) (G : Nat → Nat) (l0 l1 : List Stm) (er : Int) (oi : Bool) (N : Int) (e : Ending) (w' : World) : Prop :=
  ∃ A' ka R' ra S' sa, e = .returned (.tuple #[.agg #[.int .i64 t, .int .i64 c, .slice A' n ka, .int .u64 (r : Int), .slice R' m ra, .slice S' m sa], .agg #[.int .i64 er, .bool oi, .int .i64 N, .int .u64 0, .slice none 0 0], .bool true]) ∧ AtW w' A' n G ∧ StmsAt w' R' m l0 ∧ StmsAt w' S' m l1 ∧ Below w.heap.size w w' ∧
    ∀ P, From w w.heap.size A n R S m P → OffW P A' n ∧ OffS P w' R' m ∧ OffS P w' S' m
set_option maxHeartbeats 16000000 in
set_option maxRecDepth 100000 in
theorem eAlone_at (t : Nat) (ht : t ≤ 64) (me : Nat) (hme : me < 1000000) (c k u v : Int) (q : Nat) (hu : k = 5 → 1 ≤ u ∧ u < 1048576) (most : Nat) (hm : most ≤ 1000) (A : Option Addr) (n ka r : Nat) (R : Option Addr) (m ra : Nat) (S : Option Addr) (sa : Nat) (hn : n ≤ 1000000) (G : Nat → Nat) (l0 l1 : List Stm) (N : Nat) (GF : Nat → Nat)
    (hrun : Prg.alone (ePrg t me k u 2000) n (most + 1) [] G = some (N, GF)) (w : World) (HA : Hid (AtW w A n G)) (H0 : Hid (StmsAt w R m l0)) (H1 : Hid (StmsAt w S m l1)) :
    Calls Try.prog 16 #[.agg #[.int .i64 (t : Int), .int .i64 c, .slice A n ka, .int .u64 (r : Int), .slice R m ra, .slice S m sa], .int .i64 (me : Int), .agg #[.int .i64 k, .int .i64 u, .int .i64 v, .int .u64 (q : Int)], .int .i64 (most : Int)] w (AloneEndE w t c A n r R S m GF l0 l1 (eErr k) (eIs k N) (eN k N : Int)) := by
  have hPP : ∀ log : List Res, log.length < 2000 → eNextR t me k u log = (ePrg t me k u 2000).run tapeTell log := fun log h => eNextR_same h
  generalize ePrg t me k u 2000 = PP at *
  have HL : ∀ (la : Option Addr) (j cap : Nat) (log : List Res) (x : World), j ≤ cap → Hid (LogAt x la j log) → log.length < 2000 → ∀ K i a b, PP.run tapeTell log = .left K i a b → Calls Try.prog 11 #[.int .i64 (t : Int), .int .i64 c, .int .i64 (me : Int), .agg #[.int .i64 k, .int .i64 u, .int .i64 v, .int .u64 (q : Int)], .slice la j cap] x (NextK K i a b x) := by
    intro la j cap log x hc hl hz K i a b hN
    rw [← hPP log hz] at hN
    refine (eNext_left t ht me hme c k u v q hu la j cap log hc x hl K i a b hN).mono ?_
    rintro e w' ⟨D, dc, E, ec, rfl, hX, hb, _, _⟩
    exact ⟨D, dc, E, ec, rfl, hX.a, hX.b, hb⟩
  have HD : ∀ (la : Option Addr) (j cap : Nat) (log : List Res) (x : World), j ≤ cap → Hid (LogAt x la j log) → log.length < 2000 → ∀ r' s, PP.run tapeTell log = .done r' s → Calls Try.prog 11 #[.int .i64 (t : Int), .int .i64 c, .int .i64 (me : Int), .agg #[.int .i64 k, .int .i64 u, .int .i64 v, .int .u64 (q : Int)], .slice la j cap] x (RunE (eErr k) (eIs k r') (eN k r' : Int) 0 x) :=
    fun la j cap log x hc hl hz r' s hN => eNext_done t ht me hme c k u v q hu la j cap log hc x hl r' s (by rw [hPP log hz]; exact hN)
  have HDO : ∀ (A : Option Addr) (ka : Nat) (G : Nat → Nat) (R : Option Addr) (ra : Nat) (S : Option Addr) (sa K i a b : Nat) (D : Option Addr) (dc : Nat) (E : Option Addr) (ec : Nat) (x : World), K < 5 → i < n → a < 18446744073709551616 → b < 18446744073709551616 → Hid (AtW x A n G) → Hid (StmsAt x R m l0) → Hid (StmsAt x S m l1) →
      Calls Try.prog 18 #[.agg #[.int .i64 (t : Int), .int .i64 c, .slice A n ka, .int .u64 (r : Int), .slice R m ra, .slice S m sa], .int .i64 (me : Int), .agg #[.int .i64 (K : Int), .int .i64 (i : Int), .int .u64 (a : Int), .int .u64 (b : Int), .slice D 0 dc, .slice E 0 ec], .bool false] x (DoK x t c A n r R S m (setW G i (isN K a b (G i))) l0 l1 (toldN K a b (G i))) := by
    intro A ka G R ra S sa K i a b D dc E ec x hK hi ha hb h0 h1 h2
    refine (doWord (t : Int) c A n ka G r R S m ra sa l0 l1 (me : Int) a b D 0 dc E 0 ec K i hK hi hn h0.out.1 ha hb false x h0 h1 h2).mono ?_
    rintro e w' ⟨A', ka', R', ra', S', sa', X, kx, rfl, h1, h2, h3, h4, h5, h6, h7⟩
    exact ⟨A', ka', R', ra', S', sa', X, kx, rfl, h1, h2, h3, h6, fun P p0 p1 p2 p3 => ⟨(h7 P p0 p1 p2 p3).1, (h7 P p0 p1 p2 p3).2.1, (h7 P p0 p1 p2 p3).2.2.1⟩⟩
  have HM := Lib.hid hm
  have HRUN := Lib.hid hrun
  clear hrun hu ht hm hPP hme
  go_enter Try.func16, Try.ntmps16
  go_upto_region 2 with fail
  refine gen_w (P := fun W => Code.wp _ _ _ _ W) (fun y => RunA w w.heap.size (w.heap.size + 1 + 1 + 1 + 1) (From w (w.heap.size + 1 + 1 + 1 + 1) A n R S m) [(w.heap.size + 1, [.int .i64 k, .int .i64 u, .int .i64 v, .int .u64 (q : Int)]), (w.heap.size + 1 + 1, [.int .i64 0, .int .i64 0, .slice none 0 0, .int .u64 0, .slice none 0 0, .slice none 0 0]), (w.heap.size + 1 + 1 + 1, [.int .i64 0, .bool false, .int .i64 0, .int .u64 0, .slice none 0 0])] t c n r m l0 l1 (.slice none 0 0) [] G y) ⟨(by repeat (first | with_reducible assumption | with_reducible exact Below.refl _ _ | with_reducible refine Below.drew ?_ | with_reducible refine below_al ?_ | (with_reducible refine below_set1 (by omega) _ ?_))), by simp, by omega, ?vars, ?vlt, ?run, ⟨[], World.ownsRow_nil _ _ _ _, LogRaw.nil _ _⟩⟩ ?_
  case vars =>
    intro p hp
    simp only [List.mem_cons, List.not_mem_nil, or_false] at hp
    rcases hp with rfl | rfl | rfl
    · exact VarAt.mk4 (by simp <;> omega) (by go_simp) (by go_simp) (by go_simp) (by go_simp) (by go_simp) (by go_simp) (by go_simp) (by go_simp)
    · exact VarAt.of6 (by simp <;> omega) (by go_simp) (by go_simp) (by go_simp) (by go_simp) (by go_simp) (by go_simp) (by go_simp) (by go_simp) (by go_simp) (by go_simp) (by go_simp) (by go_simp)
    · exact VarAt.mk5 (by simp <;> omega) (by go_simp) (by go_simp) (by go_simp) (by go_simp) (by go_simp) (by go_simp) (by go_simp) (by go_simp) (by go_simp) (by go_simp)
  case vlt =>
    intro p hp
    simp only [List.mem_cons, List.not_mem_nil, or_false] at hp
    rcases hp with rfl | rfl | rfl <;> simp only [] <;> omega
  case run =>
    have hb : Below w.heap.size w ((((w.alloc (.cells #[.int .i64 (t : Int), .int .i64 c, .slice A n ka, .int .u64 (r : Int), .slice R m ra, .slice S m sa] 51)).alloc (.cells #[.int .i64 k, .int .i64 u, .int .i64 v, .int .u64 (q : Int)] 24)).alloc (.cells #[.int .i64 0, .int .i64 0, .slice none 0 0, .int .u64 0, .slice none 0 0, .slice none 0 0] 51)).alloc (.cells #[.int .i64 0, .bool false, .int .i64 0, .int .u64 0, .slice none 0 0] 37)) := (by repeat (first | with_reducible assumption | with_reducible exact Below.refl _ _ | with_reducible refine Below.drew ?_ | with_reducible refine below_al ?_ | (with_reducible refine below_set1 (by omega) _ ?_)))
    have nt : ∀ b, b < w.heap.size → Nt w.heap.size w.heap.size (.slice none 0 0) b := fun b hb => ⟨by omega, by omega, fun k hk => by cases hk⟩
    exact ⟨A, ka, R, ra, S, sa, ⟨VarAt.of6 (by simp <;> omega) (by go_simp) (by go_simp) (by go_simp) (by go_simp) (by go_simp) (by go_simp) (by go_simp) (by go_simp) (by go_simp) (by go_simp) (by go_simp) (by go_simp), HA.out.later hb, H0.out.later hb, H1.out.later hb⟩, HA.out.old.mono nt, (H0.out.old.mono nt).later H0.out hb, (H1.out.old.mono nt).later H1.out hb, fun P hF => ⟨hF.2.1, hF.2.2.1.later H0.out hb, hF.2.2.2.later H1.out hb⟩⟩
  rintro y hy
  have HZ := Lib.hid hy
  clear hy
  obtain ⟨Nw, hNw⟩ : ∃ N, w.heap.size = N := ⟨_, rfl⟩
  rw [hNw] at HZ ⊢
  have HNW := Lib.hid hNw
  clear hNw
  go_wp2_with fail
  go_loopw [11, 12] (fun u11 u12 wr => ∃ (j : Nat) (log : List Res) (G : Nat → Nat), u12 = .int .i64 (j : Int) ∧ log.length = j ∧ Prg.alone PP n (most + 1 - j) log G = some (N, GF) ∧ RunA w Nw (Nw + 1 + 1 + 1 + 1) (From w (Nw + 1 + 1 + 1 + 1) A n R S m) [(Nw + 1, [.int .i64 k, .int .i64 u, .int .i64 v, .int .u64 (q : Int)]), (Nw + 1 + 1, [.int .i64 0, .int .i64 0, .slice none 0 0, .int .u64 0, .slice none 0 0, .slice none 0 0]), (Nw + 1 + 1 + 1, [.int .i64 0, .bool false, .int .i64 0, .int .u64 0, .slice none 0 0])] t c n r m l0 l1 u11 log G wr) (fun _ i _ => most + 1 - (intOf i).toNat)
  case atStart => exact ⟨0, [], G, rfl, rfl, HRUN.out, HZ.out⟩
  case round =>
    clear HZ HRUN
    clear y
    obtain ⟨j, log, G, rfl, hlen, hR, hrun⟩ := hrel
    have HR := Lib.hid hrun
    clear hrun
    have hjm : j ≤ most := by
      rcases Nat.lt_or_ge most j with h | h
      · rw [show most + 1 - j = 0 by omega] at hR; cases hR
      · exact h
    obtain ⟨f, hf⟩ : ∃ f, most + 1 - j = f + 1 := ⟨most - j, by omega⟩
    rw [hf] at hR
    have d1 : decide ((j : Int) ≤ (most : Int)) = true := by rw [decide_eq_true_iff]; omega
    have d1' : decide (j ≤ most) = true := by rw [decide_eq_true_iff]; omega
    obtain ⟨vs, hown, hraw⟩ := HR.out.log
    rw [hlen] at hown
    obtain ⟨la, cap, rfl, hcap, hlog, _⟩ := hraw.raw.at_ hown (by have := HM.out; omega)
    have HOWN := Lib.hid hown
    have HRAW := Lib.hid hraw
    have HLEN := Lib.hid hlen
    have HLOG := Lib.hid hlog
    have HF := Lib.hid hf
    have HV := Lib.hid HR.out.vars
    obtain ⟨A1, ka1, R1, ra1, S1, sa1, hW, o0, o1, o2, hP⟩ := HR.out.run
    have W1 := Lib.hid hW
    have O1 := Lib.hid (And.intro o0 (And.intro o1 (And.intro o2 hP)))
    have HBW := Lib.hid HR.out.below
    have HSZ := Lib.hid HR.out.size
    clear hlog hown hraw hW o0 o1 o2 hP hf HR
    obtain ⟨c0, c1, c2, c3, c4, c5⟩ := W1.out.cells
    have v1 := HV.out (Nw + 1, [.int .i64 k, .int .i64 u, .int .i64 v, .int .u64 (q : Int)]) (by simp)
    obtain ⟨b0, b1, b2, b3⟩ : wr.cell? ⟨Nw + 1, 0, none⟩ = some (.int .i64 k) ∧ wr.cell? ⟨Nw + 1, 1, none⟩ = some (.int .i64 u) ∧ wr.cell? ⟨Nw + 1, 2, none⟩ = some (.int .i64 v) ∧ wr.cell? ⟨Nw + 1, 3, none⟩ = some (.int .u64 (q : Int)) := ⟨v1.2.1 0 _ rfl, v1.2.1 1 _ rfl, v1.2.1 2 _ rfl, v1.2.1 3 _ rfl⟩
    clear v1
    unfold Prg.alone at hR
    have hz : log.length < 2000 := by have := HM.out; omega
    cases hN : PP.run tapeTell log with
    | bad => rw [hN] at hR; cases hR
    | done r' s =>
      rw [hN] at hR
      cases hR
      have HDj := HD la j cap log wr hcap HLOG hz _ _ hN
      clear hN HD HL HDO hz hlen hcap
      go_wp2_with fail
      (with_reducible refine HDj.mono ?_)
      clear HDj
      rintro e w3 ⟨rfl, hb3⟩
      go_upto_region 7 with fail
      have hbx3 : Below w3.heap.size w3 ((w3.alloc (.cells #[.int .i64 0, .int .i64 0, .int .u64 0, .int .u64 0, .slice none 0 0, .slice none 0 0] 33)).alloc (.cells #[.int .i64 (eErr k), .bool (eIs k N), .int .i64 (eN k N : Int), .int .u64 0, .slice none 0 0] 37)) := below_pair _ _ _
      have V3 := VarAt.made1 w3 (.cells #[.int .i64 0, .int .i64 0, .int .u64 0, .int .u64 0, .slice none 0 0, .slice none 0 0] 33) #[.int .i64 (eErr k), .bool (eIs k N), .int .i64 (eN k N : Int), .int .u64 0, .slice none 0 0] 37
      have BX := hb3.trans (hbx3.mono hb3.size)
      generalize (w3.alloc (.cells #[.int .i64 0, .int .i64 0, .int .u64 0, .int .u64 0, .slice none 0 0, .slice none 0 0] 33)).alloc (.cells #[.int .i64 (eErr k), .bool (eIs k N), .int .i64 (eN k N : Int), .int .u64 0, .slice none 0 0] 37) = x3 at hbx3 V3 BX ⊢
      have W3 := Lib.hid (W1.out.later BX)
      have hV3 := HV.out.below BX
      have HBW3 := Lib.hid (HBW.out.trans (BX.mono HBW.out.size))
      have OP3 : Hid (∀ P, From w (Nw + 1 + 1 + 1 + 1) A n R S m P → OffW P A1 n ∧ OffS P x3 R1 m ∧ OffS P x3 S1 m) := Lib.hid (fun P hF => ⟨(O1.out.2.2.2 P hF).1, (O1.out.2.2.2 P hF).2.1.later W1.out.2.2.1 BX, (O1.out.2.2.2 P hF).2.2.later W1.out.2.2.2 BX⟩)
      have hs3 : Nw + 1 + 1 + 1 + 1 ≤ w3.heap.size := Nat.le_trans HSZ.out hb3.size
      have HS3 := Lib.hid hs3
      obtain ⟨_, ⟨e1, e2, e3, e4, e5⟩, _⟩ := V3.five
      obtain ⟨m8, ⟨p0, p1, p2, p3, p4, p5⟩, q0, q1, q2, q3, q4, q5⟩ := (hV3 (Nw + 1 + 1, [.int .i64 0, .int .i64 0, .slice none 0 0, .int .u64 0, .slice none 0 0, .slice none 0 0]) (by simp)).six
      obtain ⟨m9, ⟨s1, s2, s3, s4, s5⟩, z1, z2, z3, z4, z5⟩ := (hV3 (Nw + 1 + 1 + 1, [.int .i64 0, .bool false, .int .i64 0, .int .u64 0, .slice none 0 0]) (by simp)).five
      clear hb3 hbx3 V3 BX hV3 c0 c1 c2 c3 c4 c5 b0 b1 b2 b3
      obtain ⟨c0, c1, c2, c3, c4, c5⟩ := W3.out.cells
      generalize w3.heap.size = b14 at e1 e2 e3 e4 e5 hs3 HS3 ⊢
      have n1 : ¬ (b14 + 1 = Nw + 1 + 1) := by omega
      have n2 : ¬ (Nw + 1 + 1 = b14 + 1) := by omega
      have n3 : ¬ (b14 + 1 = Nw + 1 + 1 + 1) := by omega
      have n4 : ¬ (Nw + 1 + 1 + 1 = b14 + 1) := by omega
      go_region
      all_goals
        go_wp2_with fail
        have hnw := HNW.out
        have hbw := HBW3.out
        have hPP := OP3.out (fun b => b < Nw ∨ Nw + 1 + 1 + 1 + 1 ≤ b) ⟨fun b hb => .inr hb, HA.out.old.mono fun b hb => .inl (by omega), H0.out.old.mono fun b hb => .inl (by omega), H1.out.old.mono fun b hb => .inl (by omega)⟩
        exact bodyPost_ret (v := .tuple #[.agg #[.int .i64 (t : Int), .int .i64 c, .slice A1 n ka1, .int .u64 (r : Int), .slice R1 m ra1, .slice S1 m sa1], .agg #[.int .i64 (eErr k), .bool (eIs k N), .int .i64 (eN k N : Int), .int .u64 0, .slice none 0 0], .bool true]) (by simp [results, Try.results16, go_sem, p0, p1, p2, p3, p4, p5, s1, s2, s3, s4, s5]) rfl
          ⟨A1, ka1, R1, ra1, S1, sa1, rfl, W3.out.2.1.keep (Q := fun b => b < Nw ∨ Nw + 1 + 1 + 1 + 1 ≤ b) (by repeat (first | with_reducible exact Keep.refl _ _ | with_reducible refine Keep.drew ?_ | with_reducible refine Keep.alloc ?_ _ | (with_reducible refine Keep.set ?_ _ _ _ (by omega)))) hPP.1, W3.out.2.2.1.keep (Q := fun b => b < Nw ∨ Nw + 1 + 1 + 1 + 1 ≤ b) (by repeat (first | with_reducible exact Keep.refl _ _ | with_reducible refine Keep.drew ?_ | with_reducible refine Keep.alloc ?_ _ | (with_reducible refine Keep.set ?_ _ _ _ (by omega)))) hPP.2.1, W3.out.2.2.2.keep (Q := fun b => b < Nw ∨ Nw + 1 + 1 + 1 + 1 ≤ b) (by repeat (first | with_reducible exact Keep.refl _ _ | with_reducible refine Keep.drew ?_ | with_reducible refine Keep.alloc ?_ _ | (with_reducible refine Keep.set ?_ _ _ _ (by omega)))) hPP.2.2, (by repeat (first | with_reducible assumption | with_reducible refine Below.drew ?_ | with_reducible refine below_al ?_ | (with_reducible refine below_set1 (by omega) _ ?_))), fun P hF => ⟨(OP3.out P ⟨fun b hb => hF.1 b (by omega), hF.2⟩).1, (OP3.out P ⟨fun b hb => hF.1 b (by omega), hF.2⟩).2.1.keep W3.out.2.2.1 (Q := fun b => b < Nw ∨ Nw + 1 + 1 + 1 + 1 ≤ b) (by repeat (first | with_reducible exact Keep.refl _ _ | with_reducible refine Keep.drew ?_ | with_reducible refine Keep.alloc ?_ _ | (with_reducible refine Keep.set ?_ _ _ _ (by omega)))) hPP.2.1, (OP3.out P ⟨fun b hb => hF.1 b (by omega), hF.2⟩).2.2.keep W3.out.2.2.2 (Q := fun b => b < Nw ∨ Nw + 1 + 1 + 1 + 1 ≤ b) (by repeat (first | with_reducible exact Keep.refl _ _ | with_reducible refine Keep.drew ?_ | with_reducible refine Keep.alloc ?_ _ | (with_reducible refine Keep.set ?_ _ _ _ (by omega)))) hPP.2.2⟩⟩
    | left K i a b =>
      rw [hN] at hR
      dsimp only at hR
      by_cases hcd : 0 ≤ K ∧ K < 5 ∧ 0 ≤ i ∧ i < n
      case neg => rw [if_neg hcd] at hR; cases hR
      rw [if_pos hcd] at hR
      obtain ⟨hk0, hk5, hi0, hin⟩ := hcd
      obtain ⟨Kn, rfl⟩ : ∃ Kn : Nat, K = (Kn : Int) := ⟨K.toNat, by omega⟩
      obtain ⟨ix, rfl⟩ : ∃ ix : Nat, i = (ix : Int) := ⟨i.toNat, by omega⟩
      rw [Int.toNat_natCast, Int.toNat_natCast] at hR
      have hj1 : j < most := by
        cases f with
        | zero => cases hR
        | succ f => have := HF.out; omega
      have HJ1 := Lib.hid hj1
      have HLj := HL la j cap log wr hcap HLOG hz _ _ _ _ hN
      have HDj := fun D dc E ec x ha hb h0 h1 h2 => HDO A1 ka1 G R1 ra1 S1 sa1 Kn ix a b D dc E ec x (by omega) (by omega) ha hb h0 h1 h2
      have hN5 : toldN Kn a b (G ix) < 18446744073709551616 := toldN_lt (W1.out.2.1.1 ix)
      have HN5 := Lib.hid hN5
      have HRN := Lib.hid hR
      generalize toldN Kn a b (G ix) = N5 at *
      generalize setW G ix (isN Kn a b (G ix)) = G5 at *
      clear hN HD HL HDO hz hlen hcap hk0 hk5 hi0 hin hN5 hR
      go_wp2_with fail
      (with_reducible refine HLj.mono ?_)
      clear HLj
      rintro e w3 ⟨D3, dc3, E3, ec3, rfl, ha3, hb3', hb3⟩
      go_upto_region 8 with fail
      have hbx3 : Below w3.heap.size w3 ((w3.alloc (.cells #[.int .i64 (Kn : Int), .int .i64 (ix : Int), .int .u64 (a : Int), .int .u64 (b : Int), .slice D3 0 dc3, .slice E3 0 ec3] 33)).alloc (.cells #[.int .i64 0, .bool false, .int .i64 0, .int .u64 0, .slice none 0 0] 37)) := below_pair _ _ _
      have V3 := (VarAt.made w3 #[.int .i64 (Kn : Int), .int .i64 (ix : Int), .int .u64 (a : Int), .int .u64 (b : Int), .slice D3 0 dc3, .slice E3 0 ec3] 33).below (al_below _ (.cells #[.int .i64 0, .bool false, .int .i64 0, .int .u64 0, .slice none 0 0] 37))
      have BX := hb3.trans (hbx3.mono hb3.size)
      generalize (w3.alloc (.cells #[.int .i64 (Kn : Int), .int .i64 (ix : Int), .int .u64 (a : Int), .int .u64 (b : Int), .slice D3 0 dc3, .slice E3 0 ec3] 33)).alloc (.cells #[.int .i64 0, .bool false, .int .i64 0, .int .u64 0, .slice none 0 0] 37) = x3 at hbx3 V3 BX ⊢
      generalize w3.heap.size = b14 at V3 ⊢
      have W3 := Lib.hid (W1.out.later BX)
      have HV3 := Lib.hid (HV.out.below BX)
      have HBW3 := Lib.hid (HBW.out.trans (BX.mono HBW.out.size))
      have O3 := Lib.hid (And.intro O1.out.1 (And.intro (O1.out.2.1.later W1.out.2.2.1 BX) (O1.out.2.2.1.later W1.out.2.2.2 BX)))
      have OP3 : Hid (∀ P, From w (Nw + 1 + 1 + 1 + 1) A n R S m P → OffW P A1 n ∧ OffS P x3 R1 m ∧ OffS P x3 S1 m) := Lib.hid (fun P hF => ⟨(O1.out.2.2.2 P hF).1, (O1.out.2.2.2 P hF).2.1.later W1.out.2.2.1 BX, (O1.out.2.2.2 P hF).2.2.later W1.out.2.2.2 BX⟩)
      have HOWN3 := Lib.hid (ownsRow_laterR HOWN.out BX)
      have HRAW3 := Lib.hid (HRAW.out.later BX)
      have HSZ3 := Lib.hid (Nat.le_trans HSZ.out BX.size)
      obtain ⟨_, ⟨a0, a1, a2, a3, a4, a5⟩, _⟩ := V3.six
      clear hb3 hbx3 V3 BX c0 c1 c2 c3 c4 c5 b0 b1 b2 b3 W1 HV HBW O1 HOWN HRAW HSZ HLOG
      obtain ⟨c0, c1, c2, c3, c4, c5⟩ := W3.out.cells
      go_wp2_with fail
      clear c0 c1 c2 c3 c4 c5 a0 a1 a2 a3 a4 a5
      (with_reducible refine (HDj _ _ _ _ _ ha3 hb3' W3.out.gA W3.out.g0 W3.out.g1).mono ?_)
      clear HDj
      rintro e w5 ⟨A5, k5, R5, ra5, S5, sa5, X5, kx5, rfl, ha, hs0, hs1, hb, hP⟩
      go_upto_region 9 with fail
      have hbx5 : Below w5.heap.size w5 ((w5.alloc (.cells #[.int .i64 (t : Int), .int .i64 c, .slice A5 n k5, .int .u64 (r : Int), .slice R5 m ra5, .slice S5 m sa5] 51)).alloc (.cells #[.int .u64 (N5 : Int), .slice X5 0 kx5, .bool false] 59)) := below_pair _ _ _
      have W5 := Lib.hid (WdAt.made (t := (t : Int)) (c := c) (k := k5) (r := r) (ra := ra5) (sa := sa5) w5 (.cells #[.int .u64 (N5 : Int), .slice X5 0 kx5, .bool false] 59) 51 ha hs0 hs1)
      have V5 := Lib.hid (VarAt.made1 w5 (.cells #[.int .i64 (t : Int), .int .i64 c, .slice A5 n k5, .int .u64 (r : Int), .slice R5 m ra5, .slice S5 m sa5] 51) #[.int .u64 (N5 : Int), .slice X5 0 kx5, .bool false] 59)
      have hbn5 := hb.trans (hbx5.mono hb.size)
      have OS5 := Lib.hid hs0
      have OT5 := Lib.hid hs1
      generalize (w5.alloc (.cells #[.int .i64 (t : Int), .int .i64 c, .slice A5 n k5, .int .u64 (r : Int), .slice R5 m ra5, .slice S5 m sa5] 51)).alloc (.cells #[.int .u64 (N5 : Int), .slice X5 0 kx5, .bool false] 59) = x5 at hbx5 W5 V5 hbn5 ⊢
      have hgx : Nw < x3.heap.size := W3.out.1.1
      have hvb : ∀ k, (Value.slice la j cap).ownBlock = some k → k < x3.heap.size := fun k hk => (HOWN3.out.lt k hk).2
      have O5 : Hid (OffW (Nt Nw Nw (.slice la j cap)) A5 n ∧ OffS (Nt Nw Nw (.slice la j cap)) x5 R5 m ∧ OffS (Nt Nw Nw (.slice la j cap)) x5 S5 m) := Lib.hid (by
        obtain ⟨q0, q1, q2⟩ := hP (Nt Nw Nw (.slice la j cap)) (fun b hb => ⟨by omega, by omega, fun k hk => by have := hvb k hk; omega⟩) O3.out.1 O3.out.2.1 O3.out.2.2
        exact ⟨q0, q1.later hs0 hbx5, q2.later hs1 hbx5⟩)
      have OP5 : Hid (∀ P, From w (Nw + 1 + 1 + 1 + 1) A n R S m P → OffW P A5 n ∧ OffS P x5 R5 m ∧ OffS P x5 S5 m) := Lib.hid (fun P hF => by
        obtain ⟨q0, q1, q2⟩ := OP3.out P hF
        obtain ⟨q3, q4, q5⟩ := hP P (fun b hb => hF.1 b (Nat.le_trans HSZ3.out hb)) q0 q1 q2
        exact ⟨q3, q4.later hs0 hbx5, q5.later hs1 hbx5⟩)
      have h5s : x3.heap.size ≤ w5.heap.size := hb.size
      have h5x : w5.heap.size + 1 < x5.heap.size := V5.out.1
      clear ha hs0 hs1 hb hP hbx5 OS5 OT5 hgx hvb OP3
      generalize w5.heap.size = b17 at W5 V5 h5s h5x ⊢
      have WX := Lib.hid (W3.out.1.below hbn5)
      have HOWNn := Lib.hid (ownsRow_laterR HOWN3.out hbn5); clear HOWN3; have HOWN := HOWNn; clear HOWNn
      have HRAWn := Lib.hid (HRAW3.out.later hbn5); clear HRAW3; have HRAW := HRAWn; clear HRAWn
      have HV5 := Lib.hid (HV3.out.below hbn5)
      have HBW5 := Lib.hid (HBW3.out.trans (hbn5.mono HBW3.out.size))
      have HSZ5 := Lib.hid (Nat.le_trans HSZ3.out hbn5.size)
      have hgx3 : Nw < x3.heap.size := W3.out.1.1
      clear hbn5 W3 HV3 HBW3 O3
      have n5 : ¬ (b17 = Nw) := by omega
      have n7 : ¬ (b17 + 1 = Nw) := by omega
      have n15 : ¬ (Nw = b17) := by omega
      have hs35 := HSZ3.out
      obtain ⟨_, ⟨c0, c1, c2, c3, c4, c5⟩, _⟩ := W5.out.1.six
      obtain ⟨_, g0, g1, g2, _⟩ := V5.out.three
      obtain ⟨zx, ⟨x0, x1, x2, x3', x4', x5'⟩, y0, y1, y2, y3, y4, y5⟩ := WX.out.six
      go_upto_region 10 with fail
      have hrow : ∀ k, (Value.slice la j cap).ownBlock = some k → Nw + 1 + 1 + 1 + 1 ≤ k := fun k hk => (HOWN.out.lt k hk).1
      have hbw5 := HBW5.out
      have hsz5 := HSZ5.out
      have hnw := HNW.out
      have hlen := HLEN.out
      refine gen_w (P := fun W => Code.wp _ _ _ _ W) (fun z => RunZA w Nw (Nw + 1 + 1 + 1 + 1) (From w (Nw + 1 + 1 + 1 + 1) A n R S m) [(Nw + 1, [.int .i64 k, .int .i64 u, .int .i64 v, .int .u64 (q : Int)]), (Nw + 1 + 1, [.int .i64 0, .int .i64 0, .slice none 0 0, .int .u64 0, .slice none 0 0, .slice none 0 0]), (Nw + 1 + 1 + 1, [.int .i64 0, .bool false, .int .i64 0, .int .u64 0, .slice none 0 0])] t c n r m l0 l1 (.slice la j cap) log vs X5 kx5 N5 G5 z ∧ VarAt z (b17 + 1) [.int .u64 (N5 : Int), .slice X5 0 kx5, .bool false]) ⟨⟨(by repeat (first | with_reducible exact hbw5 | with_reducible refine Below.drew ?_ | with_reducible refine below_al ?_ | (with_reducible refine below_set1 (by omega) _ ?_))), by simp; omega, by omega, (by have hv := HV5.out; repeat (first | with_reducible exact hv | (with_reducible refine Vars.apart ?_ _ _ (by intro p hp; simp only [List.mem_cons, List.not_mem_nil, or_false] at hp; rcases hp with rfl | rfl | rfl <;> simp only [] <;> omega)))), (by intro p hp; simp only [List.mem_cons, List.not_mem_nil, or_false] at hp; rcases hp with rfl | rfl | rfl <;> simp only [] <;> omega), ⟨A5, k5, R5, ra5, S5, sa5, ⟨VarAt.of6 (by simp; omega) (by go_simp) (by go_simp) (by go_simp) (by go_simp) (by go_simp) (by go_simp) (by go_simp) (by go_simp) (by go_simp) (by go_simp) (by go_simp) (by go_simp), W5.out.2.1.keep (by repeat (first | with_reducible exact Keep.refl _ _ | with_reducible refine Keep.drew ?_ | with_reducible refine Keep.alloc ?_ _ | (with_reducible refine Keep.set ?_ _ _ _ (by unfold Nt; omega)))) O5.out.1, W5.out.2.2.1.keep (by repeat (first | with_reducible exact Keep.refl _ _ | with_reducible refine Keep.drew ?_ | with_reducible refine Keep.alloc ?_ _ | (with_reducible refine Keep.set ?_ _ _ _ (by unfold Nt; omega)))) O5.out.2.1, W5.out.2.2.2.keep (by repeat (first | with_reducible exact Keep.refl _ _ | with_reducible refine Keep.drew ?_ | with_reducible refine Keep.alloc ?_ _ | (with_reducible refine Keep.set ?_ _ _ _ (by unfold Nt; omega)))) O5.out.2.2⟩, O5.out.1, O5.out.2.1.keep W5.out.2.2.1 (by repeat (first | with_reducible exact Keep.refl _ _ | with_reducible refine Keep.drew ?_ | with_reducible refine Keep.alloc ?_ _ | (with_reducible refine Keep.set ?_ _ _ _ (by unfold Nt; omega)))) O5.out.2.1, O5.out.2.2.keep W5.out.2.2.2 (by repeat (first | with_reducible exact Keep.refl _ _ | with_reducible refine Keep.drew ?_ | with_reducible refine Keep.alloc ?_ _ | (with_reducible refine Keep.set ?_ _ _ _ (by unfold Nt; omega)))) O5.out.2.2, fun P hF => ⟨(OP5.out P hF).1, (OP5.out P hF).2.1.keep W5.out.2.2.1 (by repeat (first | with_reducible exact Keep.refl _ _ | with_reducible refine Keep.drew ?_ | with_reducible refine Keep.alloc ?_ _ | (with_reducible refine Keep.set ?_ _ _ _ (by unfold Nt; omega)))) O5.out.2.1, (OP5.out P hF).2.2.keep W5.out.2.2.2 (by repeat (first | with_reducible exact Keep.refl _ _ | with_reducible refine Keep.drew ?_ | with_reducible refine Keep.alloc ?_ _ | (with_reducible refine Keep.set ?_ _ _ _ (by unfold Nt; omega)))) O5.out.2.2⟩⟩, by rw [hlen]; exact (by repeat (first | with_reducible exact HOWN.out | (with_reducible refine ownsRow_apart ?_ _ _ _ (by omega)))), HRAW.out.keep (by repeat (first | with_reducible exact Keep.refl _ _ | with_reducible refine Keep.drew ?_ | with_reducible refine Keep.alloc ?_ _ | (with_reducible refine Keep.set ?_ _ _ _ (by unfold Nt; omega)))), HN5.out⟩, (by repeat (first | with_reducible exact V5.out | (with_reducible refine VarAt.apart ?_ _ _ (by omega))))⟩ ?_
      rintro z ⟨k0, k1⟩
      obtain ⟨zz, g0, g1, g2, _⟩ := k1.three
      have KZ := Lib.hid k0
      have HOZ : Hid (∀ o, (z.alloc o).ownsRow (Nw + 1 + 1 + 1 + 1) 59 3 (.slice la j cap) j vs) := Lib.hid (fun o => by have h := (k0.later (al_below z o)).own; rw [hlen] at h; exact h)
      have hjk : j ≤ 1000 := by have := HM.out; omega
      have HJ : Hid (j ≤ 900000) := Lib.hid (by have := HM.out; omega)
      have HLQ : Hid (log.length = j) := HLEN
      clear k0 k1 c0 c1 c2 c3 c4 c5 zx x0 x1 x2 x3' x4' x5' y0 y1 y2 y3 y4 y5 hrow hbw5 hsz5 hnw h5s h5x hgx3 hs35
      clear WX W5 V5 HOWN HRAW HV5 HBW5 O5 OP5
      go_wp2_with (at_builtin; (refine wpList_appendR1 (by rfl) (.tmp 48) (.tmp 50) (by rfl) (Nw + 1 + 1 + 1 + 1) (.slice la j cap) j vs (by rfl) (HOZ.out _) z.heap.size 1 ⟨N5, [], false⟩ X5 kx5 (by rfl) (by go_simp) (by go_simp) (by go_simp) HJ.out (by have := KZ.out.size; simp; omega) ?_); (intro v9 w9 hown9 hg9 hv9; have HNX : Hid (RunA w Nw (Nw + 1 + 1 + 1 + 1) (From w (Nw + 1 + 1 + 1 + 1) A n R S m) [(Nw + 1, [.int .i64 k, .int .i64 u, .int .i64 v, .int .u64 (q : Int)]), (Nw + 1 + 1, [.int .i64 0, .int .i64 0, .slice none 0 0, .int .u64 0, .slice none 0 0, .slice none 0 0]), (Nw + 1 + 1 + 1, [.int .i64 0, .bool false, .int .i64 0, .int .u64 0, .slice none 0 0])] t c n r m l0 l1 v9 (log ++ [⟨N5, [], false⟩]) G5 w9) := Lib.hid ((KZ.out.later (al_below z _)).next (by rw [HLQ.out]; exact hown9) hg9 hv9); clear hown9 hg9 hv9))
      go_roundw
      case rel =>
        refine ⟨j + 1, log ++ [⟨N5, [], false⟩], G5, by go_num, by rw [List.length_append, HLQ.out]; rfl, ?_, HNX.out⟩
        rw [show most + 1 - (j + 1) = f by have := HF.out; omega]
        exact HRN.out
      case measure => have := HJ1.out; simp [intOf]; omega
end Go.Proofs.Ythcifknnppohfaa
namespace Go.Proofs.Ythcifknnppohfaa
open Go.ChangeShapes Go.WideShapes Go.ChangeAt Go.RowKit Go.BigFrame
set_option linter.unusedVariables false
set_option maxRecDepth 100000

namespace Prg
section
variable {n : Nat} {G : Nat → Nat}
theorem st_load {i : Nat} (h : G i < 18446744073709551616) (f : Nat → Prg) : (load i f).steps n G = 1 + (f (G i)).steps n G := by
  simp [load, steps, toldN, isN, mod64 h, setW_same]
theorem st_store {i a : Nat} (p : Prg) : (store i a p).steps n G = 1 + p.steps n (setW G i a) := by
  have h1 : ((1 : Int)).toNat = 1 := rfl
  simp [store, steps, isN, h1]
theorem st_cas {i b : Nat} (f : Nat → Prg) : (cas i (G i) b f).steps n G = 1 + (f 1).steps n (setW G i b) := by
  have h1 : ((2 : Int)).toNat = 2 := rfl
  simp [cas, steps, toldN, isN, h1]
theorem st_swap {i a : Nat} (h : G i < 18446744073709551616) (f : Nat → Prg) : (swap i a f).steps n G = 1 + (f (G i)).steps n (setW G i a) := by
  have h1 : ((4 : Int)).toNat = 4 := rfl
  simp [swap, steps, toldN, isN, h1, mod64 h]
theorem st_pin (hG : ∀ j, G j < 18446744073709551616) (me : Nat) : (pin me).steps n G = 2 := by
  unfold pin
  rw [st_load (hG 3), st_store]
  rfl
theorem st_unpin (me : Nat) : (unpin me).steps n G = 1 := by
  unfold unpin
  rw [st_store]
  rfl
theorem st_retire (hG : ∀ j, G j < 18446744073709551616) (t r m : Nat) : (retire t r (m + 1)).steps n G = 4 := by
  have hne : ¬ (limboN (G 3) = fieldN t r 7) := by have := @field_ge t r; unfold limboN; omega
  unfold retire retireL
  rw [st_load (hG 3), st_load (hG _), st_store]
  have he : setW G (fieldN t r 7) (G (limboN (G 3))) (limboN (G 3)) = G (limboN (G 3)) := by unfold setW; rw [if_neg hne]
  have hc := st_cas (n := n) (G := setW G (fieldN t r 7) (G (limboN (G 3)))) (i := limboN (G 3)) (b := r) (fun d => if d = 1 then ret 0 else retireL t r (limboN (G 3)) m)
  rw [he] at hc
  rw [hc]
  rfl
theorem st_pop (hG : ∀ j, G j < 18446744073709551616) (t m : Nat) : (pop t (m + 1)).steps n G ≤ 3 := by
  have h : pop t (m + 1) = load 1 fun w => if firstN w = 0 then ret 0 else load (fieldN t (firstN w) 7) fun x => cas 1 w (topN (firstN x) (tagN w + 1)) fun d => if d = 1 then ret (firstN w) else pop t m := rfl
  rw [h, st_load (hG 1)]
  split
  · show 1 + 0 ≤ 3; omega
  · rw [st_load (hG _), st_cas]
    show 1 + (1 + (1 + 0)) ≤ 3
    omega
theorem st_push (hG : ∀ j, G j < 18446744073709551616) (t r m : Nat) : (push t r (m + 1)).steps n G = 3 := by
  have hne : ¬ (1 = fieldN t r 7) := by have := @field_ge t r; omega
  have h : push t r (m + 1) = load 1 fun w => store (fieldN t r 7) (firstN w) (cas 1 w (topN r (tagN w + 1)) fun d => if d = 1 then ret 0 else push t r m) := rfl
  rw [h, st_load (hG 1), st_store]
  have he : setW G (fieldN t r 7) (firstN (G 1)) 1 = G 1 := by unfold setW; rw [if_neg hne]
  have hc := st_cas (n := n) (G := setW G (fieldN t r 7) (firstN (G 1))) (i := 1) (b := topN r (tagN (G 1) + 1)) (fun d => if d = 1 then ret 0 else push t r m)
  rw [he] at hc
  rw [hc]
  rfl
theorem st_pins {e : Nat} {q : Prg} (hG : ∀ j, G j < 18446744073709551616) : ∀ (k i : Nat), (pins e q i k).steps n G ≤ k + q.steps n G
  | 0, i => by unfold pins; omega
  | k + 1, i => by
    unfold pins
    rw [st_load (hG _)]
    split
    · have := st_pins (q := q) (e := e) hG k (i + 1)
      omega
    · show 1 + 0 ≤ _; omega
end
theorem st_chain {t c m : Nat} (hc : c < 1048576) : ∀ (l : List Nat) (r f : Nat) (G : Nat → Nat), (∀ j, G j < 18446744073709551616) → Chain t G l r → l.Nodup → (∀ a ∈ l, a ≤ c) → l.length < f → (chain t (m + 1) f r).steps (sizeN t c) G = 4 * l.length
  | _, _, 0, _, _, _, _, _, hf => absurd hf (Nat.not_lt_zero _)
  | [], r, f + 1, G, hG, hch, _, _, _ => by
    have hr : r = 0 := hch
    unfold chain
    rw [if_pos hr]
    rfl
  | a :: l, r, f + 1, G, hG, hch, hn, hl, hf => by
    obtain ⟨hra, h1, h2⟩ := hch
    have hac := hl a (List.mem_cons_self ..)
    rw [List.nodup_cons] at hn
    have hpr : (push t a (m + 1)).run (memTell (sizeN t c)) G = .done 0 (pushG t a G) := by rw [push_run, mem_push hG m a h1 hac]
    unfold chain
    rw [if_neg (by omega), hra, st_load (hG _), steps_bind _ _ _ hpr, st_push hG]
    have hch2 : Chain t (pushG t a G) l (firstN (G (fieldN t a 7))) := by
      refine Chain.other (fun b hb hb1 => ?_) h2
      exact pushG_off (by have := @field_ge t b; omega) fun he => hn.1 (field_inj hb1 h1 he ▸ hb)
    have ih := st_chain (m := m) hc l _ f _ (pushG_lt (by omega) hG) hch2 hn.2 (fun b hb => hl b (List.mem_cons_of_mem _ hb)) (by simp at hf; omega)
    rw [ih]
    simp only [List.length_cons]
    omega
end Prg
theorem EpcM.st_advance {t c : Nat} {G : Nat → Nat} {free hs : List Nat} {lim : Nat → List Nat} (h : EpcM t c G free lim hs) (hc : c < 1048576) {m f : Nat} (hf : c < f) : (Prg.advance t (m + 1) f).steps (sizeN t c) G ≤ t + 3 + 4 * (lim (upN (G 3) 2 % 3)).length := by
  have hk : upN (G 3) 2 % 3 < 3 := Nat.mod_lt _ (by decide)
  have hl4 : limboN (upN (G 3) 2) = 4 + upN (G 3) 2 % 3 := rfl
  generalize hkk : upN (G 3) 2 % 3 = k at *
  obtain ⟨hnd, hlen⟩ := h.sub hk
  have hle : ∀ a ∈ lim k, 1 ≤ a ∧ a ≤ c := fun a ha => h.le a (h.in_ hk ha)
  have hw1 : ∀ j, setW G 3 (upN (G 3) 1) j < 18446744073709551616 := setW_lt h.lt (upN_lt _ _)
  have hw2 : ∀ j, setW (setW G 3 (upN (G 3) 1)) (4 + k) 0 j < 18446744073709551616 := setW_lt hw1 (by decide)
  have hoth : ∀ (l : List Nat) (r : Nat), Chain t G l r → Chain t (setW (setW G 3 (upN (G 3) 1)) (4 + k) 0) l r := fun l r hch => Chain.other (fun b _ _ => by rw [setW_off _ _ (by have := @field_ge t b; omega), setW_off _ _ (by have := @field_ge t b; omega)]) hch
  have hch := Prg.st_chain (m := m) hc (lim k) _ f _ hw2 (hoth _ _ (h.isLim k hk)) (List.nodup_append.1 hnd).1 (fun a ha => (hle a ha).2) (by omega)
  unfold Prg.advance
  rw [Prg.st_load (h.lt 3)]
  have hp := Prg.st_pins (n := sizeN t c) (e := G 3) (q := Prg.cas 3 (G 3) (upN (G 3) 1) fun d => if d = 1 then Prg.swap (limboN (upN (G 3) 2)) 0 fun h => Prg.chain t (m + 1) f (firstN h) else .ret 0) h.lt t 0
  have hq : (Prg.cas 3 (G 3) (upN (G 3) 1) fun d => if d = 1 then Prg.swap (limboN (upN (G 3) 2)) 0 fun h => Prg.chain t (m + 1) f (firstN h) else .ret 0).steps (sizeN t c) G = 1 + (1 + 4 * (lim k).length) := by
    rw [Prg.st_cas, if_pos rfl, hl4, Prg.st_swap (hw1 _), setW_off _ _ (by omega), hch]
  omega
/-! ### As alone runs them -/
/-- An operation steps alone, within so many steps. -/
def Ops (t me : Nat) (k u : Int) (n : Nat) (G : Nat → Nat) (d : Nat) (G' : Nat → Nat) (s : Nat) : Prop := (ePrg t me k u 2000).run (memTell n) G = .done d G' ∧ (ePrg t me k u 2000).steps n G ≤ s
theorem Ops.alone {t me : Nat} {k u : Int} {n : Nat} {G : Nat → Nat} {d : Nat} {G' : Nat → Nat} {s most : Nat} (h : Ops t me k u n G d G' s) (hs : s ≤ most) : Prg.alone (ePrg t me k u 2000) n (most + 1) [] G = some (d, G') := Prg.alone_of h.1 (by have := h.2; omega)
theorem Ops.mono {t me : Nat} {k u : Int} {n : Nat} {G : Nat → Nat} {d : Nat} {G' : Nat → Nat} {s s' : Nat} (h : Ops t me k u n G d G' s) (hs : s ≤ s') : Ops t me k u n G d G' s' := ⟨h.1, Nat.le_trans h.2 hs⟩
section
variable {t c me : Nat} {G : Nat → Nat} {u : Int} (hme : me < t)
include hme
theorem ops_pin (hG : ∀ j, G j < 18446744073709551616) : Ops t me 3 u (sizeN t c) G 0 (setW G (pinN me) (upN (G 3) 1)) 2 := by
  have e : ePrg t me 3 u 2000 = Prg.pin me := rfl
  unfold Ops
  rw [e]
  exact ⟨Prg.mem_pin hG (by unfold sizeN; omega) (by unfold pinN sizeN; omega), by rw [Prg.st_pin hG]; exact Nat.le_refl 2⟩
theorem ops_unpin : Ops t me 4 u (sizeN t c) G 0 (setW G (pinN me) 0) 1 := by
  have e : ePrg t me 4 u 2000 = Prg.unpin me := rfl
  unfold Ops
  rw [e]
  exact ⟨Prg.mem_unpin (by unfold pinN sizeN; omega), by rw [Prg.st_unpin]; exact Nat.le_refl 1⟩
end
theorem ops_retire {t c me r : Nat} {G : Nat → Nat} (hG : ∀ j, G j < 18446744073709551616) (h1 : 1 ≤ r) (hr : r ≤ c) : Ops t me 5 (r : Int) (sizeN t c) G 0 (retG t r G) 4 := by
  have e : ePrg t me 5 (r : Int) 2000 = Prg.retire t r (1999 + 1) := by unfold ePrg; rw [Int.toNat_natCast]; rfl
  unfold Ops
  rw [e]
  exact ⟨Prg.mem_retire hG (by have := @field_size t c r h1 hr; have := @field_ge t r; omega) (field_size h1 hr), by rw [Prg.st_retire hG]; exact Nat.le_refl 4⟩
theorem EpcM.ops_go {t c me : Nat} {u : Int} {G : Nat → Nat} {free hs : List Nat} {lim : Nat → List Nat} (h : EpcM t c G free lim hs) (hc : c < 2000) (hp : ∀ j, j < t → G (pinN j) = 0 ∨ G (pinN j) = upN (G 3) 1) :
    Ops t me 19 u (sizeN t c) G 1 (advG t (lim (upN (G 3) 2 % 3)) G) (t + 3 + 4 * c) := by
  have e : ePrg t me 19 u 2000 = Prg.advance t (1999 + 1) 2000 := rfl
  unfold Ops
  rw [e]
  refine ⟨(h.advance (by omega) hc hp).1, Nat.le_trans (h.st_advance (by omega) hc) ?_⟩
  have := (h.sub (Nat.mod_lt (upN (G 3) 2) (by decide : 0 < 3))).2
  omega
theorem EpcM.ops_held {t c me j : Nat} {u : Int} {G : Nat → Nat} {free hs : List Nat} {lim : Nat → List Nat} (h : EpcM t c G free lim hs) (hc : c < 2000) (hjt : j < t) (hj : G (pinN j) ≠ 0 ∧ G (pinN j) ≠ upN (G 3) 1) :
    Ops t me 19 u (sizeN t c) G 0 G (t + 3 + 4 * c) := by
  have e : ePrg t me 19 u 2000 = Prg.advance t (1999 + 1) 2000 := rfl
  unfold Ops
  rw [e]
  refine ⟨Prg.mem_held h.lt hjt hj, Nat.le_trans (h.st_advance (by omega) hc) ?_⟩
  have := (h.sub (Nat.mod_lt (upN (G 3) 2) (by decide : 0 < 3))).2
  omega
/-! ### Alloc, whoever is pinned -/
def limN (lim : Nat → List Nat) : Nat := (lim 0).length + ((lim 1).length + (lim 2).length)
theorem limN_emptied {lim : Nat → List Nat} {k : Nat} (hk : k < 3) : limN (emptied lim k) + (lim k).length = limN lim := by
  unfold limN emptied
  rcases (show k = 0 ∨ k = 1 ∨ k = 2 by omega) with rfl | rfl | rfl <;> simp <;> omega
theorem EpcM.limN_le {t c : Nat} {G : Nat → Nat} {free hs : List Nat} {lim : Nat → List Nat} (h : EpcM t c G free lim hs) : limN lim + free.length + hs.length = c := by
  have := h.len
  simp only [allOf, List.length_append] at this
  unfold limN
  omega
/-- Advance, whoever is pinned. -/
theorem EpcM.adv_any {t c : Nat} {G : Nat → Nat} {free hs : List Nat} {lim : Nat → List Nat} (h : EpcM t c G free lim hs) (hc : c < 1048576) {m f : Nat} (hf : c < f) :
    ∃ d G' free' lim', (Prg.advance t (m + 1) f).run (memTell (sizeN t c)) G = .done d G' ∧ EpcM t c G' free' lim' hs ∧ (Prg.advance t (m + 1) f).steps (sizeN t c) G + 4 * limN lim' ≤ t + 3 + 4 * limN lim ∧ (∀ j, j < t → G' (pinN j) = G (pinN j)) ∧ (d = 0 ∨ d = 1) := by
  by_cases hp : ∀ j, j < t → G (pinN j) = 0 ∨ G (pinN j) = upN (G 3) 1
  · obtain ⟨hr, hM⟩ := h.advance hc (m := m) hf hp
    have hk : upN (G 3) 2 % 3 < 3 := Nat.mod_lt _ (by decide)
    refine ⟨_, _, _, _, hr, hM, ?_, fun j hj => ?_, .inr rfl⟩
    · have h1 := h.st_advance hc (m := m) hf
      have h2 := limN_emptied (lim := lim) hk
      omega
    · have hle : ∀ a ∈ lim (upN (G 3) 2 % 3), 1 ≤ a := fun a ha => (h.le a (h.in_ hk ha)).1
      exact advG_off (by unfold pinN; omega) (by unfold pinN; omega) (by unfold pinN limboN; omega) (fun a ha => by have := hle a ha; unfold pinN fieldN; omega)
  · obtain ⟨j, hj⟩ := Classical.not_forall.1 hp
    obtain ⟨hjt, hj⟩ := Classical.not_imp.1 hj
    have hj2 : G (pinN j) ≠ 0 ∧ G (pinN j) ≠ upN (G 3) 1 := ⟨fun e => hj (.inl e), fun e => hj (.inr e)⟩
    refine ⟨0, G, free, lim, Prg.mem_held h.lt hjt hj2, h, ?_, fun _ _ => rfl, .inl rfl⟩
    have h1 : (Prg.advance t (m + 1) f).steps (sizeN t c) G ≤ t + 3 := by
      have hq : ∀ (k i : Nat), i ≤ j → j < i + k → (Prg.pins (G 3) (Prg.cas 3 (G 3) (upN (G 3) 1) fun d => if d = 1 then Prg.swap (limboN (upN (G 3) 2)) 0 fun h => Prg.chain t (m + 1) f (firstN h) else .ret 0) i k).steps (sizeN t c) G ≤ k := by
        intro k
        induction k with
        | zero => intro i h1 h2; omega
        | succ k ih =>
          intro i h1 h2
          unfold Prg.pins
          rw [Prg.st_load (h.lt _)]
          by_cases hpi : G (pinN i) = 0 ∨ G (pinN i) = upN (G 3) 1
          · rw [if_pos hpi]
            have hne : i ≠ j := fun he => by subst he; exact hpi.elim hj2.1 hj2.2
            have := ih (i + 1) (by omega) (by omega)
            omega
          · rw [if_neg hpi]
            show 1 + 0 ≤ _
            omega
      unfold Prg.advance
      rw [Prg.st_load (h.lt 3)]
      have := hq t 0 (Nat.zero_le _) (by omega)
      omega
    omega
/-- What Alloc ends with, whoever is pinned. -/
def AllocAny (t c me : Nat) (hs : List Nat) (G : Nat → Nat) (p : Prg) (s : Nat) : Prop :=
  ∃ a G' free' lim', p.run (memTell (sizeN t c)) G = .done a G' ∧ p.steps (sizeN t c) G ≤ s ∧ ((a = 0 ∧ EpcM t c G' free' lim' hs) ∨ (1 ≤ a ∧ a ≤ c ∧ EpcM t c G' free' lim' (hs ++ [a]))) ∧ ∀ j, j < t → j ≠ me → G' (pinN j) = G (pinN j)
theorem EpcM.got_any {t c me m f k : Nat} {G : Nat → Nat} {free hs : List Nat} {lim : Nat → List Nat} (hrec : ∀ lim, EpcM t c G [] lim hs → AllocAny t c me hs G (Prg.allocL t me (m + 1) f k 0) (k * (t + 8) + 4 * limN lim)) (h : EpcM t c G free lim hs) :
    AllocAny t c me hs G ((Prg.pop t (m + 1)).bind fun r => Prg.allocL t me (m + 1) f k r) (3 + k * (t + 8) + 4 * limN lim) := by
  have hsp := Prg.st_pop (n := sizeN t c) h.lt t m
  cases free with
  | nil =>
    have hr := Prg.mem_noneP (c := c) (m := m) h.lt h.isFree
    obtain ⟨a, G', free', lim', r1, r2, r3, r4⟩ := hrec lim h
    refine ⟨a, G', free', lim', ?_, ?_, r3, r4⟩
    · rw [Prg.run_bind, hr]; exact r1
    · rw [Prg.steps_bind _ _ _ hr]; omega
  | cons a free =>
    have ha := h.le a (by simp [allOf])
    have hr := Prg.mem_popP (m := m) h.lt h.isFree ha.2
    have hz : ∀ (n : Nat) (G' : Nat → Nat), (Prg.allocL t me (m + 1) f k a).run (memTell n) G' = .done a G' ∧ (Prg.allocL t me (m + 1) f k a).steps n G' = 0 := by
      intro n G'
      cases k with
      | zero => exact ⟨rfl, rfl⟩
      | succ k => unfold Prg.allocL; rw [if_pos (by omega)]; exact ⟨rfl, rfl⟩
    refine ⟨a, popG t G, free, lim, ?_, ?_, .inr ⟨ha.1, ha.2, h.pop⟩, fun j h1 h2 => popG_off (by unfold pinN; omega)⟩
    · rw [Prg.run_bind, hr]; exact (hz _ _).1
    · rw [Prg.steps_bind _ _ _ hr, (hz _ _).2]; omega
theorem EpcM.allocL_any {t c me : Nat} (hc : c < 1048576) {m f : Nat} (hf : c < f) (hme : me < t) {hs : List Nat} : ∀ (k : Nat) (G : Nat → Nat) (lim : Nat → List Nat), EpcM t c G [] lim hs → AllocAny t c me hs G (Prg.allocL t me (m + 1) f k 0) (k * (t + 8) + 4 * limN lim)
  | 0, G, lim, h => ⟨0, G, [], lim, rfl, Nat.zero_le _, .inl ⟨rfl, h⟩, fun _ _ _ => rfl⟩
  | k + 1, G, lim, h => by
    have hpn : pinN me < sizeN t c := by unfold pinN sizeN; omega
    have hr1 := Prg.mem_pin h.lt (n := sizeN t c) (me := me) (by unfold sizeN; omega) hpn
    have hM1 := h.pin (v := upN (G 3) 1) hme (upN_lt _ _)
    obtain ⟨d, G2, free2, lim2, hr2, hM2, hs2, hp2, _⟩ := hM1.adv_any hc (m := m) hf
    obtain ⟨a, G3, free3, lim3, r1, r2, r3, r4⟩ := hM2.got_any (me := me) (f := f) (k := k) (m := m) fun lim' h' => EpcM.allocL_any hc hf hme k G2 lim' h'
    have e : Prg.allocL t me (m + 1) f (k + 1) 0 = (Prg.pin me).bind fun _ => (Prg.advance t (m + 1) f).bind fun _ => (Prg.pop t (m + 1)).bind fun r => Prg.allocL t me (m + 1) f k r := by
      conv => lhs; unfold Prg.allocL
      rw [if_neg (by simp)]
    refine ⟨a, G3, free3, lim3, ?_, ?_, r3, fun j h1 h2 => ?_⟩
    · rw [e, Prg.run_bind, hr1]
      show ((Prg.advance t (m + 1) f).bind _).run _ _ = _
      rw [Prg.run_bind, hr2]
      exact r1
    · rw [e, Prg.steps_bind _ _ _ hr1, Prg.st_pin h.lt, Prg.steps_bind _ _ _ hr2]
      have : (k + 1) * (t + 8) = k * (t + 8) + (t + 8) := by rw [Nat.add_mul, Nat.one_mul]
      omega
    · rw [r4 j h1 h2, hp2 j h1, setW_off _ _ (by unfold pinN; omega)]
theorem EpcM.alloc_any {t c me : Nat} {u : Int} {G : Nat → Nat} {free hs : List Nat} {lim : Nat → List Nat} (h : EpcM t c G free lim hs) (hc : c < 2000) (hme : me < t) :
    ∃ a G', Ops t me 6 u (sizeN t c) G a G' (3 * t + 27 + 4 * c) ∧ ∃ free' lim', ((a = 0 ∧ EpcM t c G' free' lim' hs) ∨ (1 ≤ a ∧ a ≤ c ∧ EpcM t c G' free' lim' (hs ++ [a]))) ∧ ∀ j, j < t → j ≠ me → G' (pinN j) = G (pinN j) := by
  have e : ePrg t me 6 u 2000 = Prg.alloc t me (1999 + 1) 2000 := rfl
  obtain ⟨a, G', free', lim', r1, r2, r3, r4⟩ := h.got_any (me := me) (f := 2000) (k := 3) (m := 1999) fun lim' h' => EpcM.allocL_any (by omega) hc hme 3 G lim' h'
  refine ⟨a, G', ⟨by rw [e]; exact r1, by rw [e]; refine Nat.le_trans r2 ?_; have := h.limN_le; omega⟩, free', lim', r3, r4⟩
/-- None is had but what is free: a record, or none where all are had. -/
theorem EpcM.alloc_ops {t c me : Nat} {u : Int} {G : Nat → Nat} {free hs : List Nat} {lim : Nat → List Nat} (h : EpcM t c G free lim hs) (hc : c < 2000) (hme : me < t) (he : G 3 + 6 < 18446744073709551616) (hp : ∀ j, j < t → j ≠ me → G (pinN j) = 0) :
    ∃ a G', Ops t me 6 u (sizeN t c) G a G' (3 * t + 27 + 4 * c) ∧ ∃ free' lim', ((a = 0 ∧ hs.length = c ∧ EpcM t c G' free' lim' hs) ∨ (1 ≤ a ∧ a ≤ c ∧ EpcM t c G' free' lim' (hs ++ [a]))) ∧ (∀ j, j < t → j ≠ me → G' (pinN j) = 0) ∧ G' 3 ≤ G 3 + 3 := by
  have e : ePrg t me 6 u 2000 = Prg.alloc t me (1999 + 1) 2000 := rfl
  obtain ⟨a, G', hops, _⟩ := h.alloc_any (u := u) hc hme
  obtain ⟨a2, G2, free', lim', hr, h1, h2, h3⟩ := h.alloc (me := me) (m := 1999) (f := 2000) (by omega) hc hme he hp
  have hr' := hops.1
  rw [e, hr] at hr'
  cases hr'
  exact ⟨a, G', hops, free', lim', h1, h2, h3⟩
end Go.Proofs.Ythcifknnppohfaa
namespace Go.Proofs.Ythcifknnppohfaa
open Go.ChangeShapes Go.WideShapes Go.ChangeAt Go.RowKit Go.BigFrame Go.Deep
set_option linter.unusedVariables false
set_option maxRecDepth 100000

/-- A new world, its root a letter. -/
def NewWdR (w : World) (t c : Int) (m sz : Nat) (nf : Nat → Nat) (r : Nat) (e : Ending) (w' : World) : Prop :=
  ∃ A k R ra S sa, e = .returned (.agg #[.int .i64 t, .int .i64 c, .slice A sz k, .int .u64 (r : Int), .slice R m ra, .slice S m sa]) ∧ AtW w' A sz nf ∧ StmsAt w' R m (zerosS m) ∧ StmsAt w' S m (zerosS m) ∧ Below w.heap.size w w' ∧
    ∀ P : Nat → Prop, (∀ b, w.heap.size ≤ b → P b) → OffW P A sz ∧ OffS P w' R m ∧ OffS P w' S m
theorem newWdR (t c : Nat) (h1 : 1 ≤ t) (h2 : t ≤ 64) (h3 : c ≤ 65536) {r : Nat} (hr : r = 0) (w : World) : Calls Try.prog 15 #[.int .i64 (t : Int), .int .i64 (c : Int)] w (NewWdR w t c t (sizeN t c) (newF t c) r) := by
  subst hr
  exact newWd_at t c h1 h2 h3 w
/-- Four operations alone on a new memory for two threads of three records. -/
theorem shown_runs : ∃ G1 G2 G3 G4 : Nat → Nat, aloneRun 2 1 0 (sizeN 2 3) 10 [] (newF 2 3) = some (1, G1) ∧ aloneRun 2 1 0 (sizeN 2 3) 10 [] G1 = some (2, G2) ∧ aloneRun 2 2 ((1 : Nat) : Int) (sizeN 2 3) 10 [] G2 = some (0, G3) ∧ aloneRun 2 1 0 (sizeN 2 3) 10 [] G3 = some (1, G4) := by
  have g0 : ∀ j, newF 2 3 j < 18446744073709551616 := newF_lt (by decide)
  have f0 : FreeIs 2 (newF 2 3) [1, 2, 3] := new_free (t := 2) (c := 3) (by decide)
  have g1 : ∀ j, popG 2 (newF 2 3) j < 18446744073709551616 := popG_lt g0
  have g2 : ∀ j, popG 2 (popG 2 (newF 2 3)) j < 18446744073709551616 := popG_lt g1
  have f2 := f0.pop.pop
  have g3 : ∀ j, pushG 2 1 (popG 2 (popG 2 (newF 2 3))) j < 18446744073709551616 := pushG_lt (by decide) g2
  have f3 := f2.push (r := 1) (by decide) (by decide) (by decide)
  exact ⟨_, _, _, _, run_pop g0 6 f0 (by decide), run_pop g1 6 f0.pop (by decide), run_push g2 6 (by decide) (by decide), run_pop g3 6 f3 (by decide)⟩
theorem dims_any (t c : Int) (w : World) : Calls Try.prog 10 #[.int .i64 t, .int .i64 c] w fun e w' => e = .returned (.bool (mayB t c)) ∧ w = w' := by
  by_cases h1 : 1 ≤ t
  case neg =>
    have e : mayB t c = false := by unfold mayB; rw [decide_eq_false_iff_not]; omega
    have d1 : decide (1 ≤ t) = false := decide_eq_false h1
    rw [e]
    clear e h1
    go_enter Try.func10, Try.ntmps10
    go_wp2_with fail
    go_ret
    exact ⟨rfl, rfl⟩
  by_cases h2 : t ≤ 64
  case neg =>
    have e : mayB t c = false := by unfold mayB; rw [decide_eq_false_iff_not]; omega
    have d1 : decide (1 ≤ t) = true := decide_eq_true h1
    have d2 : decide (t ≤ 64) = false := decide_eq_false h2
    rw [e]
    clear e h1 h2
    go_enter Try.func10, Try.ntmps10
    go_wp2_with fail
    go_ret
    exact ⟨rfl, rfl⟩
  by_cases h3 : 0 ≤ c
  case neg =>
    have e : mayB t c = false := by unfold mayB; rw [decide_eq_false_iff_not]; omega
    have d1 : decide (1 ≤ t) = true := decide_eq_true h1
    have d2 : decide (t ≤ 64) = true := decide_eq_true h2
    have d3 : decide (0 ≤ c) = false := decide_eq_false h3
    rw [e]
    clear e h1 h2 h3
    go_enter Try.func10, Try.ntmps10
    go_wp2_with fail
    go_ret
    exact ⟨rfl, rfl⟩
  have e : mayB t c = decide (c ≤ 65536) := by
    by_cases h4 : c ≤ 65536
    · rw [decide_eq_true h4]; unfold mayB; rw [decide_eq_true_iff]; omega
    · rw [decide_eq_false h4]; unfold mayB; rw [decide_eq_false_iff_not]; omega
  have d1 : decide (1 ≤ t) = true := decide_eq_true h1
  have d2 : decide (t ≤ 64) = true := decide_eq_true h2
  have d3 : decide (0 ≤ c) = true := decide_eq_true h3
  rw [e]
  generalize hb : decide (c ≤ 65536) = b
  clear e h1 h2 h3
  go_enter Try.func10, Try.ntmps10
  go_wp2_with fail
  go_ret
  exact ⟨ret_bool' (by rw [← hb]), rfl⟩
set_option maxHeartbeats 1000000 in
theorem outsE_same (er : Int) (N S : Int) (w : World) : Calls Try.prog 14 #[.agg #[.int .i64 er, .bool false, .int .i64 N, .int .u64 S, .slice none 0 0], .agg #[.int .i64 er, .bool false, .int .i64 N, .int .u64 S, .slice none 0 0]] w (Kept w (.bool true)) := by
  go_enter Try.func14, Try.ntmps14
  go_wp2_with fail
  go_loopw [5] (fun i wr => i = .int .i64 0 ∧ wr.cell? ⟨w.heap.size, 4, none⟩ = some (.slice none 0 0) ∧ Below w.heap.size w wr) (fun _ _ => 0)
  case atStart => exact ⟨rfl, by go_simp, (by repeat (first | with_reducible assumption | with_reducible exact Below.refl _ _ | with_reducible refine Below.drew ?_ | with_reducible refine below_al ?_ | (with_reducible refine below_set1 (by omega) _ ?_)))⟩
  case round =>
    obtain ⟨rfl, hc, hb⟩ := hrel
    have HB := Lib.hid hb
    clear hb
    go_wp2_with fail
    go_ret
    exact ⟨rfl, HB.out⟩
/-- What the document's own Next tells, by what a run comes to. -/
theorem refR_left {t : Nat} {k u : Int} {log : List Res} {K i : Int} {a b : Nat} (h : nextR t k u log = .left K i a b) : refR t k u log = ⟨K, i, a, b, 0, 0, false⟩ := by unfold refR; rw [h]; rfl
theorem refR_done {t : Nat} {k u : Int} {log : List Res} {r : Nat} {s : List Res} (h : nextR t k u log = .done r s) : refR t k u log = ⟨0, 0, 0, 0, ansE k, r, true⟩ := by unfold refR; rw [h]; rfl

end Go.Proofs.Ythcifknnppohfaa
namespace Go.Proofs.Ythcifknnppohfaa
open Go.ChangeShapes Go.WideShapes Go.ChangeAt Go.RowKit Go.BigFrame Go.Deep
set_option linter.unusedVariables false
set_option maxRecDepth 100000

set_option maxHeartbeats 1000000 in
theorem outsI_same (er : Int) (oi : Bool) (N S : Int) (w : World) : Calls Try.prog 14 #[.agg #[.int .i64 er, .bool oi, .int .i64 N, .int .u64 S, .slice none 0 0], .agg #[.int .i64 er, .bool oi, .int .i64 N, .int .u64 S, .slice none 0 0]] w (Kept w (.bool true)) := by
  have hoo : (oi != oi) = false := by simp
  have hoe : (oi == oi) = true := by simp
  go_enter Try.func14, Try.ntmps14
  go_wp2_with fail
  go_loopw [5] (fun i wr => i = .int .i64 0 ∧ wr.cell? ⟨w.heap.size, 4, none⟩ = some (.slice none 0 0) ∧ Below w.heap.size w wr) (fun _ _ => 0)
  case atStart => exact ⟨rfl, by go_simp, (by repeat (first | with_reducible assumption | with_reducible exact Below.refl _ _ | with_reducible refine Below.drew ?_ | with_reducible refine below_al ?_ | (with_reducible refine below_set1 (by omega) _ ?_)))⟩
  case round =>
    obtain ⟨rfl, hc, hb⟩ := hrel
    have HB := Lib.hid hb
    clear hb
    go_wp2_with fail
    go_ret
    exact ⟨rfl, HB.out⟩
/-- Operations alone on a new memory for two threads of one record. -/
theorem eShown_runs : ∃ G1 G2 G3 G4 : Nat → Nat, Ops 2 0 6 0 (sizeN 2 1) (newF 2 1) 1 G1 99 ∧ Ops 2 0 5 ((1 : Nat) : Int) (sizeN 2 1) G1 0 G2 99 ∧ Ops 2 1 6 0 (sizeN 2 1) G2 1 G3 99 ∧ Ops 2 0 6 0 (sizeN 2 1) G3 0 G4 99 ∧ Ops 2 1 3 0 (sizeN 2 1) (newF 2 1) 0 (setW (newF 2 1) (pinN 1) 1) 9 := by
  have M0 := EpcM.new (t := 2) (c := 1) (by decide)
  have p0 : ∀ j, j < 2 → newF 2 1 (pinN j) = 0 := fun j hj => newF_low (by unfold pinN; omega) (by unfold pinN; omega)
  have e0 : newF 2 1 3 = 0 := newF_low (by decide) (by decide)
  obtain ⟨a1, G1, o1, f1, l1, h1, q1, z1⟩ := M0.alloc_ops (u := 0) (me := 0) (by decide) (by decide) (by rw [e0]; decide) (fun j h1 h2 => p0 j h1)
  obtain rfl : a1 = 1 := by
    rcases h1 with ⟨_, h, _⟩ | ⟨h1, h2, _⟩
    · simp at h
    · omega
  have M1 : EpcM 2 1 G1 f1 l1 [1] := by
    rcases h1 with ⟨h, _⟩ | ⟨_, _, h⟩
    · cases h
    · exact h
  have hpin : G1 (pinN 0) = 0 := by
    have e : ePrg 2 0 6 0 2000 = Prg.alloc 2 0 (1999 + 1) 2000 := rfl
    have hr := o1.1
    have M0' : EpcM 2 1 (newF 2 1) (1 :: []) (fun _ => []) [] := M0
    have hg := (M0'.got (me := 0) (m := 1999) (f := 2000) (k := 3) (fun j h1 h2 => p0 j h1))
    have hrun : ((Prg.pop 2 (1999 + 1)).bind fun r => Prg.allocL 2 0 (1999 + 1) 2000 3 r).run (memTell (sizeN 2 1)) (newF 2 1) = .done 1 (popG 2 (newF 2 1)) := by
      rw [Prg.run_bind, Prg.mem_popP M0'.lt M0'.isFree (by decide)]
      rfl
    rw [e] at hr
    have : (Ran.done 1 G1 : Ran (Nat → Nat)) = .done 1 (popG 2 (newF 2 1)) := hr.symm.trans hrun
    cases this
    rw [popG_off (by decide)]
    exact p0 0 (by decide)
  have o2 := ops_retire (t := 2) (c := 1) (me := 0) (r := 1) M1.lt (by decide) (by decide)
  have M2 := M1.retire (q := 1) (hs' := []) (List.Perm.refl _) (by decide)
  have p2 : ∀ j, j < 2 → retG 2 1 G1 (pinN j) = 0 := fun j hj => by
    have hj0 : G1 (pinN j) = 0 := by
      rcases (show j = 0 ∨ j = 1 by omega) with rfl | rfl
      · exact hpin
      · exact q1 1 (by decide) (by decide)
    unfold retG
    rw [setW_off _ _ (by unfold pinN limboN; omega), setW_off _ _ (by unfold pinN fieldN; omega)]
    exact hj0
  have e2 : retG 2 1 G1 3 ≤ 3 := by
    unfold retG
    rw [setW_off _ _ (by unfold limboN; omega), setW_off _ _ (by unfold fieldN; omega)]
    omega
  obtain ⟨a3, G3, o3, f3, l3, h3, q3, z3⟩ := M2.alloc_ops (u := 0) (me := 1) (by decide) (by decide) (by omega) (fun j h1 h2 => p2 j h1)
  obtain rfl : a3 = 1 := by
    rcases h3 with ⟨_, h, _⟩ | ⟨h1, h2, _⟩
    · simp at h
    · omega
  have M3 : EpcM 2 1 G3 f3 l3 [1] := by
    rcases h3 with ⟨h, _⟩ | ⟨_, _, h⟩
    · cases h
    · exact h
  obtain ⟨a4, G4, o4, f4, l4, h4, _⟩ := M3.alloc_any (u := 0) (me := 0) (by decide) (by decide)
  obtain rfl : a4 = 0 := by
    rcases h4 with ⟨h, _⟩ | ⟨_, _, h⟩
    · exact h
    · have := h.len
      simp at this
  have o5 := ops_pin (t := 2) (c := 1) (me := 1) (u := 0) (by decide) M0.lt
  rw [e0] at o5
  exact ⟨G1, _, G3, G4, o1.mono (by decide), o2.mono (by decide), o3.mono (by decide), o4.mono (by decide), o5.mono (by decide)⟩
set_option maxHeartbeats 8000000 in
set_option maxRecDepth 100000 in
theorem epcShown (w : World) : Calls Try.prog 9 #[] w (Kept w (.bool true)) := by
  obtain ⟨G1, G2, G3, G4, r1, r2, r3, r4, r5⟩ := eShown_runs
  obtain ⟨r, hr⟩ : ∃ r : Nat, r = 0 := ⟨0, rfl⟩
  have HN : ∀ w, Calls Try.prog 15 #[.int .i64 2, .int .i64 1] w (NewWdR w 2 1 2 (sizeN 2 1) (newF 2 1) r) := fun w => newWdR 2 1 (by decide) (by decide) (by decide) hr w
  have hsz : sizeN 2 1 ≤ 1000000 := by decide
  have HC : ∀ (me : Nat) (k u : Int) (N : Nat) (er : Int) (oi : Bool) (NI : Int) (most : Nat) (G GF : Nat → Nat), me < 2 → most ≤ 1000 → (k = 5 → 1 ≤ u ∧ u < 1048576) → Ops 2 me k u (sizeN 2 1) G N GF most → eErr k = er → eIs k N = oi → (eN k N : Int) = NI → ∀ (A : Option Addr) (ka : Nat) (R : Option Addr) (ra : Nat) (S : Option Addr) (sa : Nat) (w : World), Hid (AtW w A (sizeN 2 1) G) → Hid (StmsAt w R 2 (zerosS 2)) → Hid (StmsAt w S 2 (zerosS 2)) →
      Calls Try.prog 16 #[.agg #[.int .i64 2, .int .i64 1, .slice A (sizeN 2 1) ka, .int .u64 (r : Int), .slice R 2 ra, .slice S 2 sa], .int .i64 (me : Int), .agg #[.int .i64 k, .int .i64 u, .int .i64 0, .int .u64 0], .int .i64 (most : Int)] w (AloneEndE w 2 1 A (sizeN 2 1) r R S 2 GF (zerosS 2) (zerosS 2) er oi NI) := by
    intro me k u N er oi NI most G GF hme hmo hu hrr he ho hN A ka R ra S sa w h0 h1 h2
    subst he ho hN
    exact eAlone_at 2 (by decide) me (by omega) 1 k u 0 0 hu most hmo A (sizeN 2 1) ka r R 2 ra S sa hsz G (zerosS 2) (zerosS 2) N GF (hrr.alone (Nat.le_refl _)) w h0 h1 h2
  have C1 : ∀ (A : Option Addr) (ka : Nat) (R : Option Addr) (ra : Nat) (S : Option Addr) (sa : Nat) (w : World), Hid (AtW w A (sizeN 2 1) (newF 2 1)) → Hid (StmsAt w R 2 (zerosS 2)) → Hid (StmsAt w S 2 (zerosS 2)) →
      Calls Try.prog 16 #[.agg #[.int .i64 2, .int .i64 1, .slice A (sizeN 2 1) ka, .int .u64 (r : Int), .slice R 2 ra, .slice S 2 sa], .int .i64 0, .agg #[.int .i64 6, .int .i64 0, .int .i64 0, .int .u64 0], .int .i64 99] w (AloneEndE w 2 1 A (sizeN 2 1) r R S 2 G1 (zerosS 2) (zerosS 2) 0 false 1) := HC 0 6 0 1 0 false 1 99 _ _ (by decide) (by decide) (by decide) r1 rfl rfl rfl
  have C2 : ∀ (A : Option Addr) (ka : Nat) (R : Option Addr) (ra : Nat) (S : Option Addr) (sa : Nat) (w : World), Hid (AtW w A (sizeN 2 1) G1) → Hid (StmsAt w R 2 (zerosS 2)) → Hid (StmsAt w S 2 (zerosS 2)) →
      Calls Try.prog 16 #[.agg #[.int .i64 2, .int .i64 1, .slice A (sizeN 2 1) ka, .int .u64 (r : Int), .slice R 2 ra, .slice S 2 sa], .int .i64 0, .agg #[.int .i64 5, .int .i64 1, .int .i64 0, .int .u64 0], .int .i64 99] w (AloneEndE w 2 1 A (sizeN 2 1) r R S 2 G2 (zerosS 2) (zerosS 2) 0 false 0) := HC 0 5 1 0 0 false 0 99 _ _ (by decide) (by decide) (by decide) r2 rfl rfl rfl
  have C3 : ∀ (A : Option Addr) (ka : Nat) (R : Option Addr) (ra : Nat) (S : Option Addr) (sa : Nat) (w : World), Hid (AtW w A (sizeN 2 1) G2) → Hid (StmsAt w R 2 (zerosS 2)) → Hid (StmsAt w S 2 (zerosS 2)) →
      Calls Try.prog 16 #[.agg #[.int .i64 2, .int .i64 1, .slice A (sizeN 2 1) ka, .int .u64 (r : Int), .slice R 2 ra, .slice S 2 sa], .int .i64 1, .agg #[.int .i64 6, .int .i64 0, .int .i64 0, .int .u64 0], .int .i64 99] w (AloneEndE w 2 1 A (sizeN 2 1) r R S 2 G3 (zerosS 2) (zerosS 2) 0 false 1) := HC 1 6 0 1 0 false 1 99 _ _ (by decide) (by decide) (by decide) r3 rfl rfl rfl
  have C4 : ∀ (A : Option Addr) (ka : Nat) (R : Option Addr) (ra : Nat) (S : Option Addr) (sa : Nat) (w : World), Hid (AtW w A (sizeN 2 1) G3) → Hid (StmsAt w R 2 (zerosS 2)) → Hid (StmsAt w S 2 (zerosS 2)) →
      Calls Try.prog 16 #[.agg #[.int .i64 2, .int .i64 1, .slice A (sizeN 2 1) ka, .int .u64 (r : Int), .slice R 2 ra, .slice S 2 sa], .int .i64 0, .agg #[.int .i64 6, .int .i64 0, .int .i64 0, .int .u64 0], .int .i64 99] w (AloneEndE w 2 1 A (sizeN 2 1) r R S 2 G4 (zerosS 2) (zerosS 2) 0 false 0) := HC 0 6 0 0 0 false 0 99 _ _ (by decide) (by decide) (by decide) r4 rfl rfl rfl
  have C5 : ∀ (A : Option Addr) (ka : Nat) (R : Option Addr) (ra : Nat) (S : Option Addr) (sa : Nat) (w : World), Hid (AtW w A (sizeN 2 1) (newF 2 1)) → Hid (StmsAt w R 2 (zerosS 2)) → Hid (StmsAt w S 2 (zerosS 2)) →
      Calls Try.prog 16 #[.agg #[.int .i64 2, .int .i64 1, .slice A (sizeN 2 1) ka, .int .u64 (r : Int), .slice R 2 ra, .slice S 2 sa], .int .i64 1, .agg #[.int .i64 3, .int .i64 0, .int .i64 0, .int .u64 0], .int .i64 9] w (AloneEndE w 2 1 A (sizeN 2 1) r R S 2 (setW (newF 2 1) (pinN 1) 1) (zerosS 2) (zerosS 2) 0 false 0) := HC 1 3 0 0 0 false 0 9 _ _ (by decide) (by decide) (by decide) r5 rfl rfl rfl
  have h9 : setW (newF 2 1) (pinN 1) 1 9 = 1 := by unfold setW pinN; rfl
  have hn : 10 ≤ sizeN 2 1 := by decide
  clear HC r1 r2 r3 r4 r5 hsz hr
  generalize setW (newF 2 1) (pinN 1) 1 = G5 at *
  generalize sizeN 2 1 = n at *
  have hn10 : decide ((n : Int) < 10) = false := by rw [decide_eq_false_iff_not]; omega
  have hn10' : decide (n < 10) = false := by rw [decide_eq_false_iff_not]; omega
  generalize newF 2 1 = G0 at *
  go_enter Try.func9, Try.ntmps9
  go_wp2_with fail
  (with_reducible refine (HN _).mono ?_)
  clear HN
  rintro e w0 ⟨A0, ka0, R0, ra0, S0, sa0, rfl, ha, hs0, hs1, hb, _⟩
  go_upto_region 2 with fail
  have W0 := Lib.hid (WdAt.made0 (t := 2) (c := 1) (k := ka0) (r := r) (ra := ra0) (sa := sa0) w0 51 ha hs0 hs1)
  have BB := Lib.hid (hb.trans ((al_below w0 (.cells #[.int .i64 2, .int .i64 1, .slice A0 n ka0, .int .u64 (r : Int), .slice R0 2 ra0, .slice S0 2 sa0] 51)).mono hb.size))
  clear ha hs0 hs1 hb
  generalize w0.alloc (.cells #[.int .i64 2, .int .i64 1, .slice A0 n ka0, .int .u64 (r : Int), .slice R0 2 ra0, .slice S0 2 sa0] 51) = x0 at W0 BB ⊢
  generalize w0.heap.size = b0 at W0 ⊢
  obtain ⟨c0, c1, c2, c3, c4, c5⟩ := W0.out.cells
  go_wp2_with fail
  (with_reducible refine (C1 A0 ka0 R0 ra0 S0 sa0 _ W0.out.gA W0.out.g0 W0.out.g1).mono ?_)
  clear c0 c1 c2 c3 c4 c5
  rintro e w1 ⟨A1, ka1, R1, ra1, S1, sa1, rfl, ha, hs0, hs1, hb, hP⟩
  go_upto_region 3 with fail
  have hbx : Below w1.heap.size w1 ((w1.alloc (.cells #[.int .i64 2, .int .i64 1, .slice A1 n ka1, .int .u64 (r : Int), .slice R1 2 ra1, .slice S1 2 sa1] 51)).alloc (.cells #[.int .i64 0, .bool false, .int .i64 1, .int .u64 0, .slice none 0 0] 37)) := below_pair _ _ _
  have W1 := Lib.hid (WdAt.made (t := 2) (c := 1) (k := ka1) (r := r) (ra := ra1) (sa := sa1) w1 (.cells #[.int .i64 0, .bool false, .int .i64 1, .int .u64 0, .slice none 0 0] 37) 51 ha hs0 hs1)
  have O1 := Lib.hid (VarAt.made1 w1 (.cells #[.int .i64 2, .int .i64 1, .slice A1 n ka1, .int .u64 (r : Int), .slice R1 2 ra1, .slice S1 2 sa1] 51) #[.int .i64 0, .bool false, .int .i64 1, .int .u64 0, .slice none 0 0] 37)
  have hbn := hb.trans (hbx.mono hb.size)
  have HS1 := Lib.hid (And.intro hs0 hs1)
  have HX1 := Lib.hid hbx
  have HB1 := Lib.hid hb
  have HP1 := Lib.hid hP
  generalize (w1.alloc (.cells #[.int .i64 2, .int .i64 1, .slice A1 n ka1, .int .u64 (r : Int), .slice R1 2 ra1, .slice S1 2 sa1] 51)).alloc (.cells #[.int .i64 0, .bool false, .int .i64 1, .int .u64 0, .slice none 0 0] 37) = x1 at hbx hbn W1 O1 HX1 ⊢
  have W0n := Lib.hid (W0.out.later hbn); clear W0; have W0 := W0n; clear W0n
  have BBn := Lib.hid (BB.out.trans (hbn.mono BB.out.size)); clear BB; have BB := BBn; clear BBn
  clear ha hs0 hs1 hb hP hbx hbn
  generalize w1.heap.size = b1 at W1 O1 ⊢
  obtain ⟨c0, c1, c2, c3, c4, c5⟩ := W1.out.cells
  go_wp2_with fail
  (with_reducible refine (C2 A1 ka1 R1 ra1 S1 sa1 _ W1.out.gA W1.out.g0 W1.out.g1).mono ?_)
  clear c0 c1 c2 c3 c4 c5
  rintro e w2 ⟨A2, ka2, R2, ra2, S2, sa2, rfl, ha, hs0, hs1, hb, hP⟩
  go_upto_region 4 with fail
  have hbx : Below w2.heap.size w2 ((w2.alloc (.cells #[.int .i64 2, .int .i64 1, .slice A2 n ka2, .int .u64 (r : Int), .slice R2 2 ra2, .slice S2 2 sa2] 51)).alloc (.cells #[.int .i64 0, .bool false, .int .i64 0, .int .u64 0, .slice none 0 0] 37)) := below_pair _ _ _
  have W2 := Lib.hid (WdAt.made (t := 2) (c := 1) (k := ka2) (r := r) (ra := ra2) (sa := sa2) w2 (.cells #[.int .i64 0, .bool false, .int .i64 0, .int .u64 0, .slice none 0 0] 37) 51 ha hs0 hs1)
  have O2 := Lib.hid (VarAt.made1 w2 (.cells #[.int .i64 2, .int .i64 1, .slice A2 n ka2, .int .u64 (r : Int), .slice R2 2 ra2, .slice S2 2 sa2] 51) #[.int .i64 0, .bool false, .int .i64 0, .int .u64 0, .slice none 0 0] 37)
  have hbn := hb.trans (hbx.mono hb.size)
  have HS2 := Lib.hid (And.intro hs0 hs1)
  have HX2 := Lib.hid hbx
  have HB2 := Lib.hid hb
  have HP2 := Lib.hid hP
  generalize (w2.alloc (.cells #[.int .i64 2, .int .i64 1, .slice A2 n ka2, .int .u64 (r : Int), .slice R2 2 ra2, .slice S2 2 sa2] 51)).alloc (.cells #[.int .i64 0, .bool false, .int .i64 0, .int .u64 0, .slice none 0 0] 37) = x2 at hbx hbn W2 O2 HX2 ⊢
  have W0n := Lib.hid (W0.out.later hbn); clear W0; have W0 := W0n; clear W0n
  have O1n := Lib.hid (O1.out.below hbn); clear O1; have O1 := O1n; clear O1n
  have BBn := Lib.hid (BB.out.trans (hbn.mono BB.out.size)); clear BB; have BB := BBn; clear BBn
  clear ha hs0 hs1 hb hP hbx hbn
  clear W1
  generalize w2.heap.size = b2 at W2 O2 ⊢
  obtain ⟨c0, c1, c2, c3, c4, c5⟩ := W2.out.cells
  go_wp2_with fail
  (with_reducible refine (C3 A2 ka2 R2 ra2 S2 sa2 _ W2.out.gA W2.out.g0 W2.out.g1).mono ?_)
  clear c0 c1 c2 c3 c4 c5
  rintro e w3 ⟨A3, ka3, R3, ra3, S3, sa3, rfl, ha, hs0, hs1, hb, hP⟩
  go_upto_region 5 with fail
  have hbx : Below w3.heap.size w3 ((w3.alloc (.cells #[.int .i64 2, .int .i64 1, .slice A3 n ka3, .int .u64 (r : Int), .slice R3 2 ra3, .slice S3 2 sa3] 51)).alloc (.cells #[.int .i64 0, .bool false, .int .i64 1, .int .u64 0, .slice none 0 0] 37)) := below_pair _ _ _
  have W3 := Lib.hid (WdAt.made (t := 2) (c := 1) (k := ka3) (r := r) (ra := ra3) (sa := sa3) w3 (.cells #[.int .i64 0, .bool false, .int .i64 1, .int .u64 0, .slice none 0 0] 37) 51 ha hs0 hs1)
  have O3 := Lib.hid (VarAt.made1 w3 (.cells #[.int .i64 2, .int .i64 1, .slice A3 n ka3, .int .u64 (r : Int), .slice R3 2 ra3, .slice S3 2 sa3] 51) #[.int .i64 0, .bool false, .int .i64 1, .int .u64 0, .slice none 0 0] 37)
  have hbn := hb.trans (hbx.mono hb.size)
  have HS3 := Lib.hid (And.intro hs0 hs1)
  have HX3 := Lib.hid hbx
  have HB3 := Lib.hid hb
  have HP3 := Lib.hid hP
  generalize (w3.alloc (.cells #[.int .i64 2, .int .i64 1, .slice A3 n ka3, .int .u64 (r : Int), .slice R3 2 ra3, .slice S3 2 sa3] 51)).alloc (.cells #[.int .i64 0, .bool false, .int .i64 1, .int .u64 0, .slice none 0 0] 37) = x3 at hbx hbn W3 O3 HX3 ⊢
  have W0n := Lib.hid (W0.out.later hbn); clear W0; have W0 := W0n; clear W0n
  have O1n := Lib.hid (O1.out.below hbn); clear O1; have O1 := O1n; clear O1n
  have O2n := Lib.hid (O2.out.below hbn); clear O2; have O2 := O2n; clear O2n
  have BBn := Lib.hid (BB.out.trans (hbn.mono BB.out.size)); clear BB; have BB := BBn; clear BBn
  clear ha hs0 hs1 hb hP hbx hbn
  clear W2
  generalize w3.heap.size = b3 at W3 O3 ⊢
  obtain ⟨c0, c1, c2, c3, c4, c5⟩ := W3.out.cells
  go_wp2_with fail
  (with_reducible refine (C4 A3 ka3 R3 ra3 S3 sa3 _ W3.out.gA W3.out.g0 W3.out.g1).mono ?_)
  clear c0 c1 c2 c3 c4 c5
  rintro e w4 ⟨A4, ka4, R4, ra4, S4, sa4, rfl, ha, hs0, hs1, hb, hP⟩
  go_upto_region 6 with fail
  have hbx : Below w4.heap.size w4 ((w4.alloc (.cells #[.int .i64 2, .int .i64 1, .slice A4 n ka4, .int .u64 (r : Int), .slice R4 2 ra4, .slice S4 2 sa4] 51)).alloc (.cells #[.int .i64 0, .bool false, .int .i64 0, .int .u64 0, .slice none 0 0] 37)) := below_pair _ _ _
  have W4 := Lib.hid (WdAt.made (t := 2) (c := 1) (k := ka4) (r := r) (ra := ra4) (sa := sa4) w4 (.cells #[.int .i64 0, .bool false, .int .i64 0, .int .u64 0, .slice none 0 0] 37) 51 ha hs0 hs1)
  have O4 := Lib.hid (VarAt.made1 w4 (.cells #[.int .i64 2, .int .i64 1, .slice A4 n ka4, .int .u64 (r : Int), .slice R4 2 ra4, .slice S4 2 sa4] 51) #[.int .i64 0, .bool false, .int .i64 0, .int .u64 0, .slice none 0 0] 37)
  have hbn := hb.trans (hbx.mono hb.size)
  have HS4 := Lib.hid (And.intro hs0 hs1)
  have HX4 := Lib.hid hbx
  have HB4 := Lib.hid hb
  have HP4 := Lib.hid hP
  generalize (w4.alloc (.cells #[.int .i64 2, .int .i64 1, .slice A4 n ka4, .int .u64 (r : Int), .slice R4 2 ra4, .slice S4 2 sa4] 51)).alloc (.cells #[.int .i64 0, .bool false, .int .i64 0, .int .u64 0, .slice none 0 0] 37) = x4 at hbx hbn W4 O4 HX4 ⊢
  have W0n := Lib.hid (W0.out.later hbn); clear W0; have W0 := W0n; clear W0n
  have O1n := Lib.hid (O1.out.below hbn); clear O1; have O1 := O1n; clear O1n
  have O2n := Lib.hid (O2.out.below hbn); clear O2; have O2 := O2n; clear O2n
  have O3n := Lib.hid (O3.out.below hbn); clear O3; have O3 := O3n; clear O3n
  have BBn := Lib.hid (BB.out.trans (hbn.mono BB.out.size)); clear BB; have BB := BBn; clear BBn
  clear ha hs0 hs1 hb hP hbx hbn
  clear W3
  generalize w4.heap.size = b4 at W4 O4 ⊢
  obtain ⟨c0, c1, c2, c3, c4, c5⟩ := W0.out.cells
  go_wp2_with fail
  (with_reducible refine (C5 A0 ka0 R0 ra0 S0 sa0 _ W0.out.gA W0.out.g0 W0.out.g1).mono ?_)
  clear c0 c1 c2 c3 c4 c5
  rintro e w5 ⟨A5, ka5, R5, ra5, S5, sa5, rfl, ha, hs0, hs1, hb, hP⟩
  go_upto_region 7 with fail
  have hbx : Below w5.heap.size w5 ((w5.alloc (.cells #[.int .i64 2, .int .i64 1, .slice A5 n ka5, .int .u64 (r : Int), .slice R5 2 ra5, .slice S5 2 sa5] 51)).alloc (.cells #[.int .i64 0, .bool false, .int .i64 0, .int .u64 0, .slice none 0 0] 37)) := below_pair _ _ _
  have W5 := Lib.hid (WdAt.made (t := 2) (c := 1) (k := ka5) (r := r) (ra := ra5) (sa := sa5) w5 (.cells #[.int .i64 0, .bool false, .int .i64 0, .int .u64 0, .slice none 0 0] 37) 51 ha hs0 hs1)
  have O5 := Lib.hid (VarAt.made1 w5 (.cells #[.int .i64 2, .int .i64 1, .slice A5 n ka5, .int .u64 (r : Int), .slice R5 2 ra5, .slice S5 2 sa5] 51) #[.int .i64 0, .bool false, .int .i64 0, .int .u64 0, .slice none 0 0] 37)
  have hbn := hb.trans (hbx.mono hb.size)
  have HS5 := Lib.hid (And.intro hs0 hs1)
  have HX5 := Lib.hid hbx
  have HB5 := Lib.hid hb
  have HP5 := Lib.hid hP
  generalize (w5.alloc (.cells #[.int .i64 2, .int .i64 1, .slice A5 n ka5, .int .u64 (r : Int), .slice R5 2 ra5, .slice S5 2 sa5] 51)).alloc (.cells #[.int .i64 0, .bool false, .int .i64 0, .int .u64 0, .slice none 0 0] 37) = x5 at hbx hbn W5 O5 HX5 ⊢
  have W0n := Lib.hid (W0.out.later hbn); clear W0; have W0 := W0n; clear W0n
  have O1n := Lib.hid (O1.out.below hbn); clear O1; have O1 := O1n; clear O1n
  have O2n := Lib.hid (O2.out.below hbn); clear O2; have O2 := O2n; clear O2n
  have O3n := Lib.hid (O3.out.below hbn); clear O3; have O3 := O3n; clear O3n
  have O4n := Lib.hid (O4.out.below hbn); clear O4; have O4 := O4n; clear O4n
  have BBn := Lib.hid (BB.out.trans (hbn.mono BB.out.size)); clear BB; have BB := BBn; clear BBn
  clear ha hs0 hs1 hb hP hbx hbn
  clear W4
  generalize w5.heap.size = b5 at W5 O5 ⊢
  obtain ⟨_, ⟨p1, p2, p3, p4, p5⟩, _⟩ := O1.out.five
  obtain ⟨_, ⟨q1, q2, q3, q4, q5⟩, _⟩ := O3.out.five
  obtain ⟨_, ⟨s1, s2, s3, s4, s5⟩, _⟩ := O4.out.five
  obtain ⟨b9, o9, rfl, hb9, hc9⟩ := W5.out.2.1.2 (by omega)
  obtain ⟨c0, c1, c2, c3, c4, c5⟩ := W5.out.cells
  have w9c := hc9 9 (by omega)
  rw [h9] at w9c
  have i1 : (9 : Int) < (n : Int) := by omega
  clear hc9
  go_wp2_with fail
  go_ret
  exact ⟨rfl, BB.out⟩
end Go.Proofs.Ythcifknnppohfaa
