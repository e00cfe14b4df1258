/- VrtExt, VrtAlone, VrtShown, VrtAloneR -/
import Derived.Test.YtibpfkcackdbgaaGreatDoorVrtA
import Derived.Test.YtibpfkcackdbgaaGreatDoorLstC
import Derived.Test.YtibpfkcackdbgaaGreatDoorPolB
import Derived.Test.YtibpfkcackdbgaaGreatDoorSmal
import Derived.Deep.Cut
namespace Go.Proofs.YtibpfkcackdbgaaGreatDoor
open Go.ChangeShapes Go.WideShapes Go.ChangeAt Go.RowKit Go.BigFrame
set_option linter.unusedVariables false
set_option maxRecDepth 100000
inductive Prg.Ext : Prg → Prg → Prop
 | bad (q : Prg) : Ext .bad q
 | ret (d : Nat) : Ext (.ret d) (.ret d)
 | ask (k i : Int) (a b : Nat) (f g : Nat → Prg) (h : ∀ x, Ext (f x) (g x)) : Ext (.ask k i a b f) (.ask k i a b g)
namespace Prg
theorem Ext.refl : ∀ p : Prg, Ext p p
 | .bad => .bad _
 | .ret d => .ret d
 | .ask k i a b f => .ask k i a b f f fun x => Ext.refl (f x)
theorem Ext.bind {p p' : Prg} {q q' : Nat → Prg} (h : Ext p p') (hq : ∀ d, Ext (q d) (q' d)) : Ext (p.bind q) (p'.bind q') := by
 induction h with
 | bad p => exact .bad _
 | ret d => exact hq d
 | ask k i a b f g h ih => exact .ask _ _ _ _ _ _ ih
theorem Ext.run {S : Type} {T : S → Int → Int → Nat → Nat → Tell S} {p p' : Prg} (h : Ext p p') (s : S) (hb : p.run T s ≠ .bad) : p.run T s = p'.run T s := by
 induction h generalizing s with
 | bad p => exact absurd rfl hb
 | ret d => rfl
 | ask k i a b f g h ih =>
  simp only [Prg.run] at hb ⊢
  cases hT : T s k i a b with
  | bad => rfl
  | left => rfl
  | told n s' =>
   rw [hT] at hb
   exact ih _ _ hb
theorem ext_pop (t : Nat) : ∀ {n m : Nat}, n ≤ m → Ext (pop t n) (pop t m)
 | 0, m, _ => .bad _
 | n + 1, 0, h => by omega
 | n + 1, m + 1, h => by
  unfold pop
  refine .ask _ _ _ _ _ _ fun w => ?_
  split
  ·exact Ext.refl _
  ·refine .ask _ _ _ _ _ _ fun x => .ask _ _ _ _ _ _ fun d => ?_
   split
   ·exact Ext.refl _
   ·exact ext_pop t (by omega)
theorem ext_push (t r : Nat) : ∀ {n m : Nat}, n ≤ m → Ext (push t r n) (push t r m)
 | 0, m, _ => .bad _
 | n + 1, 0, h => by omega
 | n + 1, m + 1, h => by
  unfold push
  refine .ask _ _ _ _ _ _ fun w => .ask _ _ _ _ _ _ fun x => .ask _ _ _ _ _ _ fun d => ?_
  split
  ·exact Ext.refl _
  ·exact ext_push t r (by omega)
theorem ext_pins (e : Nat) {q q' : Prg} (h : Ext q q') : ∀ (k i : Nat), Ext (pins e q i k) (pins e q' i k)
 | 0, i => h
 | k + 1, i => by
  unfold pins
  refine .ask _ _ _ _ _ _ fun p => ?_
  split
  ·exact ext_pins e h k (i + 1)
  ·exact Ext.refl _
theorem ext_chain (t : Nat) {a b : Nat} (hab : a ≤ b) : ∀ {n m : Nat} (r : Nat), n ≤ m → Ext (chain t a n r) (chain t b m r)
 | 0, m, r, _ => .bad _
 | n + 1, 0, r, h => by omega
 | n + 1, m + 1, r, h => by
  unfold chain
  split
  ·exact Ext.refl _
  ·exact .ask _ _ _ _ _ _ fun x => (ext_push t r hab).bind fun _ => ext_chain t hab _ (by omega)
theorem ext_advance (t : Nat) {a b n m : Nat} (hab : a ≤ b) (hnm : n ≤ m) : Ext (advance t a n) (advance t b m) := by
 refine .ask _ _ _ _ _ _ fun e => ext_pins e ?_ t 0
 refine .ask _ _ _ _ _ _ fun d => ?_
 split
 ·exact .ask _ _ _ _ _ _ fun h => ext_chain t hab _ hnm
 ·exact Ext.refl _
theorem ext_allocL (t me : Nat) {a b n m : Nat} (hab : a ≤ b) (hnm : n ≤ m) : ∀ (k r : Nat), Ext (allocL t me a n k r) (allocL t me b m k r)
 | 0, r => Ext.refl _
 | k + 1, r => by
  unfold allocL
  split
  ·exact Ext.refl _
  ·exact (Ext.refl _).bind fun _ => (ext_advance t hab hnm).bind fun _ => (ext_pop t hab).bind fun r => ext_allocL t me hab hnm k r
end Prg
theorem ext_up {p q : Prg} (h : Prg.Ext p q) : Prd.ExtD p.up q.up := by
 induction h with
 | bad q => exact .bad _
 | ret d => exact .ret d
 | ask k i a b f g h ih => exact .ask k i a b [] _ _ ih
namespace Prd
theorem ext_search (t k : Nat) {n m : Nat} (h : n ≤ m) : ExtD (search t k n) (search t k m) := ext_start _ _ _ (fun _ _ => ExtD.refl _) h
theorem ext_there (t x : Nat) {n m : Nat} (h : n ≤ m) : ExtD (vThere t x n) (vThere t x m) := (ext_save _ _ _ h).bind fun _ => ExtD.refl _
theorem ext_vLink (t r k : Nat) {n m : Nat} (h : n ≤ m) : ∀ {f g : Nat}, f ≤ g → ExtD (vLink t r k n f) (vLink t r k m g)
 | 0, _, _ => .bad _
 | f + 1, 0, h => by omega
 | f + 1, g + 1, hf => by
  unfold vLink
  refine (ext_search t k h).bind fun d => ?_
  split
  ·exact (ext_up (Prg.ext_push t r h)).bind fun _ => ExtD.refl _
  ·split
   ·exact (ext_up (Prg.ext_push t r h)).bind fun _ => ext_there t _ h
   ·refine (ExtD.refl _).bind fun e => ?_
    split
    ·exact (ext_save _ _ _ h).bind fun _ => ExtD.refl _
    ·exact ext_vLink t r k h (by omega)
theorem ext_vAdd (t me k : Nat) {n m : Nat} (h : n ≤ m) : ExtD (vAdd t me k n) (vAdd t me k m) := (ext_search t k h).bind fun d => by
 split
 ·exact ExtD.refl _
 ·split
  ·exact ext_there t _ h
  ·refine (ext_up ((Prg.ext_pop t h).bind fun r => Prg.ext_allocL t me h h 3 r)).bind fun r => ?_
   split
   ·exact ExtD.refl _
   ·exact (ExtD.refl _).bind fun _ => ext_vLink t r k h h
theorem ext_vRem (t k : Nat) {n m : Nat} (h : n ≤ m) : ∀ {f g : Nat}, f ≤ g → ExtD (vRem t k n f) (vRem t k m g)
 | 0, _, _ => .bad _
 | f + 1, 0, h => by omega
 | f + 1, g + 1, hf => by
  unfold vRem
  refine (ext_search t k h).bind fun d => ?_
  split
  ·exact ExtD.refl _
  ·split
   ·refine (ExtD.refl _).bind fun e => ?_
    split
    ·refine .ask _ _ _ _ _ _ _ fun fl => (ext_save _ _ _ h).bind fun s => ?_
     split
     ·exact (ext_start _ _ _ (fun x w => ext_lookW _ _ x w h) h).bind fun _ => ExtD.refl _
     ·exact ExtD.refl _
    ·exact ext_vRem t k h (by omega)
   ·exact ExtD.refl _
theorem ext_vHas (t k : Nat) {n m : Nat} (h : n ≤ m) : ExtD (vHas t k n) (vHas t k m) := by
 have h1 : ExtD (seek t 0 k n) (seek t 0 k m) := .ask _ _ _ _ _ _ _ fun w => ext_seekL _ _ _ h
 refine h1.bind fun d => ?_
 split
 ·refine .ask _ _ _ _ _ _ _ fun w => ?_
  split
  ·exact (ext_save _ _ _ h).bind fun _ => ExtD.refl _
  ·exact (ext_save _ _ _ h).bind fun _ => ExtD.refl _
 ·exact ExtD.refl _
theorem ext_inP (me : Nat) (ok : Nat → Bool) {b b' : Prd} (h : ExtD b b') : ExtD (inP me ok b) (inP me ok b') := .ask _ _ _ _ _ _ _ fun s => by
 split
 ·exact (ExtD.refl _).bind fun _ => h.bind fun _ => ExtD.refl _
 ·exact ExtD.refl _
end Prd
theorem vPrg_ext (t me : Nat) (k u : Int) {n m : Nat} (h : n ≤ m) : Prd.ExtD (vPrg t me k u n) (vPrg t me k u m) := by
 unfold vPrg
 split
 ·split
  ·refine Prd.ext_inP me _ ?_
   unfold vBody
   split
   ·exact Prd.ext_vAdd t me _ h
   ·split
    ·exact Prd.ext_vRem t _ h h
    ·exact Prd.ext_vHas t _ h
  ·exact Prd.ExtD.refl _
 ·exact Prd.ExtD.refl _
def outR : RanD (WS × Nat) → Nat
 | .done d _ => d
 | _ => 1000
def wldR : RanD (WS × Nat) → WS
 | .done _ (W, _) => W
 | _ => (fun _ => 0, [])
def cntR : RanD (WS × Nat) → Nat
 | .done _ (_, j) => j
 | _ => 1000000
def isR : RanD (WS × Nat) → Bool
 | .done _ _ => true
 | _ => false
theorem run_is {R : RanD (WS × Nat)} (h : isR R = true) : R = .done (outR R) (wldR R, cntR R) := by
 cases R with
 | done d s => rfl
 | left => cases h
 | bad => cases h
def vRun (t c me : Nat) (k u : Int) (W : WS) : RanD (WS × Nat) := (vPrg t me k u 2000).run (Prd.wTell (sizeN t c) me (fun _ => false)) (W, 0)
end Go.Proofs.YtibpfkcackdbgaaGreatDoor
namespace Go.Proofs.YtibpfkcackdbgaaGreatDoor
open Go.ChangeShapes Go.WideShapes Go.ChangeAt Go.RowKit Go.BigFrame Go.Deep
set_option linter.unusedVariables false
set_option maxRecDepth 100000
theorem vNextR_same {t me : Nat} {k u : Int} {log : List Res} {m : Nat} (h : log.length < m) : vNextR t me k u log = (vPrg t me k u m).run tapeTellD log :=
 (vPrg_ext t me k u (by omega)).run log (vNextR_ok t me k u log)
section
variable {m : Nat}
set_option maxHeartbeats 16000000 in
set_option maxRecDepth 100000 in
theorem vAlone_at (t : Nat) (ht : t ≤ 64) (me : Nat) (hme : me < m) (c k u v : Int) (q : Nat) (most : Nat) (hm : most ≤ 1000) (A : Option Addr) (n ka : Nat) (R : Option Addr) (ra : Nat) (S : Option Addr) (sa : Nat) (hn : n ≤ 1000000) (hm8 : m ≤ 8) (G : Nat → Nat) (l0 l1 : List Stm) (N : Nat) (WF : WS)
  (hrun : Prd.aloneD (vPrg t me k u 2000) n me (fun _ => false) (most + 1) [] (G, l0) = some (N, WF)) (w : World) (HTab : Hid (Tab w)) (HA : Hid (AtW w A n G)) (H0 : Hid (StmsAt w R m l0)) (H1 : Hid (StmsAt w S m l1)) :
  Calls Tryz.prog 33 #[.agg #[.int .i64 (t : Int), .int .i64 c, .slice A n ka, .int .u64 0, .slice R m ra, .slice S m sa], .int .i64 (me : Int), .agg #[.int .i64 k, .int .i64 u, .int .i64 v, .int .u64 (q : Int)], .int .i64 (most : Int)] w (AloneL w t c A n R S m WF.1 WF.2 l1 (vErr N) (vIs N) 0 0) := by
 have HME := Lib.hid (show me < 1000000 by omega)
 have hPP : ∀ log : List Res, log.length < 2000 → vNextR t me k u log = (vPrg t me k u 2000).run tapeTellD log := fun log h => vNextR_same h
 generalize vPrg t me k u 2000 = PP at *
 have HL : ∀ (la : Option Addr) (j cap : Nat) (log : List Res) (x : World), j ≤ cap → Tab x → Hid (LogAt x la j log) → log.length < 2000 → ∀ K i a b d, PP.run tapeTellD log = .left K i a b d → Calls Tryz.prog 30 #[.int .i64 (t : Int), .int .i64 c, .int .i64 (me : Int), .agg #[.int .i64 k, .int .i64 u, .int .i64 v, .int .u64 (q : Int)], .slice la j cap] x (NextS K i a b d x) := by
  intro la j cap log x hc htx hl hz K i a b d hN
  rw [← hPP log hz] at hN
  refine (vNext_left t ht c me (by have := HME.out; omega) k u v q la j cap log hc x htx hl K i a b d hN).mono ?_
  rintro e w' ⟨D, dc, E, ec, rfl, hX, hb, _, _⟩
  exact ⟨D, dc, E, ec, rfl, hX, hb⟩
 have HD : ∀ (la : Option Addr) (j cap : Nat) (log : List Res) (x : World), j ≤ cap → Tab x → Hid (LogAt x la j log) → log.length < 2000 → ∀ r' s, PP.run tapeTellD log = .done r' s → Calls Tryz.prog 30 #[.int .i64 (t : Int), .int .i64 c, .int .i64 (me : Int), .agg #[.int .i64 k, .int .i64 u, .int .i64 v, .int .u64 (q : Int)], .slice la j cap] x (RunE (vErr r') (vIs r') 0 0 x) :=
  fun la j cap log x hc htx hl hz r' s hN => vNext_done t ht c me (by have := HME.out; omega) k u v q la j cap log hc x htx hl r' s (by rw [hPP log hz]; exact hN)
 have HDO := fun (A : Option Addr) (ka : Nat) (G : Nat → Nat) (R : Option Addr) (ra : Nat) (S : Option Addr) (sa : Nat) (l0 : List Stm) (K i : Int) (a b : Nat) (d : List Nat) (fa : Bool) (N : Nat) (fl : Bool) (W' : WS) hs D dc E ec x hx h0 h1 h2 => doS (t : Int) c A n ka G R S m ra sa l0 l1 me hme hm8 K i a b d fa N fl W' hn hs D dc E ec x hx h0 h1 h2
 have HM := Lib.hid hm
 have HRUN := Lib.hid hrun
 clear hrun ht hm hPP hme hm8
 go_enter Tryz.func33, Tryz.ntmps33
 go_upto_region 2 with fail
 refine gen_w (P := fun W => Code.wp _ _ _ _ W) (fun y => RunA w w.heap.size (w.heap.size + 1 + 1 + 1 + 1) (From w (w.heap.size + 1 + 1 + 1 + 1) A n R S m) [(w.heap.size + 1, [.int .i64 k, .int .i64 u, .int .i64 v, .int .u64 (q : Int)]), (w.heap.size + 1 + 1, [.int .i64 0, .int .i64 0, .slice none 0 0, .int .u64 0, .slice none 0 0, .slice none 0 0]), (w.heap.size + 1 + 1 + 1, [.int .i64 0, .bool false, .int .i64 0, .int .u64 0, .slice none 0 0])] t c n 0 m l0 l1 (.slice none 0 0) [] G y) ⟨belA, by simp, by omega, ?vars, ?vlt, ?run, ⟨[], World.ownsRow_nil _ _ _ _, LogRaw.nil _ _⟩⟩ ?_
 case vars =>
  intro p hp
  simp only [List.mem_cons, List.not_mem_nil, or_false] at hp
  rcases hp with rfl | rfl | rfl
  ·exact VarAt.mk4 (by simp <;> omega)
  ·exact VarAt.of6 (by simp <;> omega) (by go_simp) (by go_simp) (by go_simp) (by go_simp) (by go_simp) (by go_simp) (by go_simp) (by go_simp) (by go_simp) (by go_simp) (by go_simp) (by go_simp)
  ·exact VarAt.mk5 (by simp <;> omega)
 case vlt =>
  intro p hp
  simp only [List.mem_cons, List.not_mem_nil, or_false] at hp
  rcases hp with rfl | rfl | rfl <;> simp only [] <;> omega
 case run =>
  have hb : Below w.heap.size w ((((w.alloc (.cells #[.int .i64 (t : Int), .int .i64 c, .slice A n ka, .int .u64 0, .slice R m ra, .slice S m sa] 33)).alloc (.cells #[.int .i64 k, .int .i64 u, .int .i64 v, .int .u64 (q : Int)] 42)).alloc (.cells #[.int .i64 0, .int .i64 0, .slice none 0 0, .int .u64 0, .slice none 0 0, .slice none 0 0] 33)).alloc (.cells #[.int .i64 0, .bool false, .int .i64 0, .int .u64 0, .slice none 0 0] 38)) := belA
  have nt : ∀ b, b < w.heap.size → Nt w.heap.size w.heap.size (.slice none 0 0) b := fun b hb => ⟨by omega, by omega, fun k hk => by cases hk⟩
  exact ⟨A, ka, R, ra, S, sa, ⟨VarAt.of6 (by simp <;> omega) (by go_simp) (by go_simp) (by go_simp) (by go_simp) (by go_simp) (by go_simp) (by go_simp) (by go_simp) (by go_simp) (by go_simp) (by go_simp) (by go_simp), HA.out.later hb, H0.out.later hb, H1.out.later hb⟩, HA.out.old.mono nt, (H0.out.old.mono nt).later H0.out hb, (H1.out.old.mono nt).later H1.out hb, fun P hF => ⟨hF.2.1, hF.2.2.1.later H0.out hb, hF.2.2.2.later H1.out hb⟩⟩
 rintro y hy
 have HZ := Lib.hid hy
 clear hy
 obtain ⟨Nw, hNw⟩ : ∃ N, w.heap.size = N := ⟨_, rfl⟩
 rw [hNw] at HZ ⊢
 have HNW := Lib.hid hNw
 clear hNw
 go_wp2_with fail
 go_loopw [11, 12] (fun u11 u12 wr => ∃ (j : Nat) (log : List Res) (G : Nat → Nat) (l0 : List Stm), u12 = .int .i64 (j : Int) ∧ log.length = j ∧ Prd.aloneD PP n me (fun _ => false) (most + 1 - j) log (G, l0) = some (N, WF) ∧ RunA w Nw (Nw + 1 + 1 + 1 + 1) (From w (Nw + 1 + 1 + 1 + 1) A n R S m) [(Nw + 1, [.int .i64 k, .int .i64 u, .int .i64 v, .int .u64 (q : Int)]), (Nw + 1 + 1, [.int .i64 0, .int .i64 0, .slice none 0 0, .int .u64 0, .slice none 0 0, .slice none 0 0]), (Nw + 1 + 1 + 1, [.int .i64 0, .bool false, .int .i64 0, .int .u64 0, .slice none 0 0])] t c n 0 m l0 l1 u11 log G wr) (fun _ i _ => most + 1 - (intOf i).toNat)
 case atStart => exact ⟨0, [], G, l0, rfl, rfl, HRUN.out, HZ.out⟩
 case round =>
  clear HZ HRUN
  have HOS : Hid (StmsAt w R m l0) := H0
  clear y
  obtain ⟨j, log, G, l0, rfl, hlen, hR, hrun⟩ := hrel
  have HR := Lib.hid hrun
  clear hrun
  have hjm : j ≤ most := by
   rcases Nat.lt_or_ge most j with h | h
   ·rw [show most + 1 - j = 0 by omega] at hR; cases hR
   ·exact h
  obtain ⟨f, hf⟩ : ∃ f, most + 1 - j = f + 1 := ⟨most - j, by omega⟩
  rw [hf] at hR
  have d1 : decide ((j : Int) ≤ (most : Int)) = true := by rw [decide_eq_true_iff]; omega
  have d1' : decide (j ≤ most) = true := by rw [decide_eq_true_iff]; omega
  obtain ⟨vs, hown, hraw⟩ := HR.out.log
  rw [hlen] at hown
  obtain ⟨la, cap, rfl, hcap, hlog, _⟩ := hraw.raw.at_ hown (by have := HM.out; omega)
  have HOWN := Lib.hid hown
  have HRAW := Lib.hid hraw
  have HLEN := Lib.hid hlen
  have HLOG := Lib.hid hlog
  have HF := Lib.hid hf
  have HV := Lib.hid HR.out.vars
  obtain ⟨A1, ka1, R1, ra1, S1, sa1, hW, o0, o1, o2, hP⟩ := HR.out.run
  have W1 := Lib.hid hW
  have O1 := Lib.hid (And.intro o0 (And.intro o1 (And.intro o2 hP)))
  have HBW := Lib.hid HR.out.below
  have HSZ := Lib.hid HR.out.size
  clear hlog hown hraw hW o0 o1 o2 hP hf HR
  obtain ⟨c0, c1, c2, c3, c4, c5⟩ := W1.out.cells
  have v1 := HV.out (Nw + 1, [.int .i64 k, .int .i64 u, .int .i64 v, .int .u64 (q : Int)]) (by simp)
  obtain ⟨b0, b1, b2, b3⟩ : wr.cell? ⟨Nw + 1, 0, none⟩ = some (.int .i64 k) ∧ wr.cell? ⟨Nw + 1, 1, none⟩ = some (.int .i64 u) ∧ wr.cell? ⟨Nw + 1, 2, none⟩ = some (.int .i64 v) ∧ wr.cell? ⟨Nw + 1, 3, none⟩ = some (.int .u64 (q : Int)) := ⟨v1.2.1 0 _ rfl, v1.2.1 1 _ rfl, v1.2.1 2 _ rfl, v1.2.1 3 _ rfl⟩
  clear v1
  unfold Prd.aloneD at hR
  have hz : log.length < 2000 := by have := HM.out; omega
  have htb := HTab.out.below HBW.out HTab.out.pos
  cases hN : PP.run tapeTellD log with
  | bad => rw [hN] at hR; cases hR
  | done r' s =>
   rw [hN] at hR
   cases hR
   have HDj := HD la j cap log wr hcap htb HLOG hz _ _ hN
   clear hN HD HL HDO hz hlen hcap htb
   go_wp2_with fail
   (with_reducible refine HDj.mono ?_)
   clear HDj
   rintro e w3 ⟨rfl, hb3⟩
   go_upto_region 7 with fail
   have hbx3 : Below w3.heap.size w3 ((w3.alloc (.cells #[.int .i64 0, .int .i64 0, .int .u64 0, .int .u64 0, .slice none 0 0, .slice none 0 0] 70)).alloc (.cells #[.int .i64 (vErr N), .bool (vIs N), .int .i64 0, .int .u64 0, .slice none 0 0] 38)) := below_pair _ _ _
   have V3 := VarAt.made1 w3 (.cells #[.int .i64 0, .int .i64 0, .int .u64 0, .int .u64 0, .slice none 0 0, .slice none 0 0] 70) #[.int .i64 (vErr N), .bool (vIs N), .int .i64 0, .int .u64 0, .slice none 0 0] 38
   have BX := hb3.trans (hbx3.mono hb3.size)
   generalize (w3.alloc (.cells #[.int .i64 0, .int .i64 0, .int .u64 0, .int .u64 0, .slice none 0 0, .slice none 0 0] 70)).alloc (.cells #[.int .i64 (vErr N), .bool (vIs N), .int .i64 0, .int .u64 0, .slice none 0 0] 38) = x3 at hbx3 V3 BX ⊢
   have W3 := Lib.hid (W1.out.later BX)
   have hV3 := HV.out.below BX
   have HBW3 := Lib.hid (HBW.out.trans (BX.mono HBW.out.size))
   have OP3 : Hid (∀ P, From w (Nw + 1 + 1 + 1 + 1) A n R S m P → OffW P A1 n ∧ OffS P x3 R1 m ∧ OffS P x3 S1 m) := Lib.hid (fun P hF => ⟨(O1.out.2.2.2 P hF).1, (O1.out.2.2.2 P hF).2.1.later W1.out.2.2.1 BX, (O1.out.2.2.2 P hF).2.2.later W1.out.2.2.2 BX⟩)
   have hs3 : Nw + 1 + 1 + 1 + 1 ≤ w3.heap.size := Nat.le_trans HSZ.out hb3.size
   have HS3 := Lib.hid hs3
   obtain ⟨_, ⟨e1, e2, e3, e4, e5⟩, _⟩ := V3.five
   obtain ⟨m8, ⟨p0, p1, p2, p3, p4, p5⟩, q0, q1, q2, q3, q4, q5⟩ := (hV3 (Nw + 1 + 1, [.int .i64 0, .int .i64 0, .slice none 0 0, .int .u64 0, .slice none 0 0, .slice none 0 0]) (by simp)).six
   obtain ⟨m9, ⟨s1, s2, s3, s4, s5⟩, z1, z2, z3, z4, z5⟩ := (hV3 (Nw + 1 + 1 + 1, [.int .i64 0, .bool false, .int .i64 0, .int .u64 0, .slice none 0 0]) (by simp)).five
   clear hb3 hbx3 V3 BX hV3 c0 c1 c2 c3 c4 c5 b0 b1 b2 b3
   obtain ⟨c0, c1, c2, c3, c4, c5⟩ := W3.out.cells
   generalize w3.heap.size = b14 at e1 e2 e3 e4 e5 hs3 HS3 ⊢
   have n1 : ¬ (b14 + 1 = Nw + 1 + 1) := by omega
   have n2 : ¬ (Nw + 1 + 1 = b14 + 1) := by omega
   have n3 : ¬ (b14 + 1 = Nw + 1 + 1 + 1) := by omega
   have n4 : ¬ (Nw + 1 + 1 + 1 = b14 + 1) := by omega
   go_region
   all_goals
    go_wp2_with fail
    have hnw := HNW.out
    have hbw := HBW3.out
    have hPP := OP3.out (fun b => b < Nw ∨ Nw + 1 + 1 + 1 + 1 ≤ b) ⟨fun b hb => .inr hb, HA.out.old.mono fun b hb => .inl (by omega), H0.out.old.mono fun b hb => .inl (by omega), H1.out.old.mono fun b hb => .inl (by omega)⟩
    exact bodyPost_ret (v := .tuple #[.agg #[.int .i64 (t : Int), .int .i64 c, .slice A1 n ka1, .int .u64 0, .slice R1 m ra1, .slice S1 m sa1], .agg #[.int .i64 (vErr N), .bool (vIs N), .int .i64 0, .int .u64 0, .slice none 0 0], .bool true]) (by simp [results, Tryz.results33, go_sem, p0, p1, p2, p3, p4, p5, s1, s2, s3, s4, s5]) rfl
     ⟨A1, ka1, R1, ra1, S1, sa1, rfl, W3.out.2.1.keep (Q := fun b => b < Nw ∨ Nw + 1 + 1 + 1 + 1 ≤ b) (by repeat (first | with_reducible exact Keep.refl _ _ | with_reducible refine Keep.drew ?_ | with_reducible refine Keep.alloc ?_ _ | (with_reducible refine Keep.set ?_ _ _ _ (by omega)))) hPP.1, W3.out.2.2.1.keep (Q := fun b => b < Nw ∨ Nw + 1 + 1 + 1 + 1 ≤ b) (by repeat (first | with_reducible exact Keep.refl _ _ | with_reducible refine Keep.drew ?_ | with_reducible refine Keep.alloc ?_ _ | (with_reducible refine Keep.set ?_ _ _ _ (by omega)))) hPP.2.1, W3.out.2.2.2.keep (Q := fun b => b < Nw ∨ Nw + 1 + 1 + 1 + 1 ≤ b) (by repeat (first | with_reducible exact Keep.refl _ _ | with_reducible refine Keep.drew ?_ | with_reducible refine Keep.alloc ?_ _ | (with_reducible refine Keep.set ?_ _ _ _ (by omega)))) hPP.2.2, (by repeat (first | with_reducible assumption | with_reducible refine Below.drew ?_ | with_reducible refine below_al ?_ | (with_reducible refine below_set1 (by omega) _ ?_))), fun P hF => ⟨(OP3.out P ⟨fun b hb => hF.1 b (by omega), hF.2⟩).1, (OP3.out P ⟨fun b hb => hF.1 b (by omega), hF.2⟩).2.1.keep W3.out.2.2.1 (Q := fun b => b < Nw ∨ Nw + 1 + 1 + 1 + 1 ≤ b) (by repeat (first | with_reducible exact Keep.refl _ _ | with_reducible refine Keep.drew ?_ | with_reducible refine Keep.alloc ?_ _ | (with_reducible refine Keep.set ?_ _ _ _ (by omega)))) hPP.2.1, (OP3.out P ⟨fun b hb => hF.1 b (by omega), hF.2⟩).2.2.keep W3.out.2.2.2 (Q := fun b => b < Nw ∨ Nw + 1 + 1 + 1 + 1 ≤ b) (by repeat (first | with_reducible exact Keep.refl _ _ | with_reducible refine Keep.drew ?_ | with_reducible refine Keep.alloc ?_ _ | (with_reducible refine Keep.set ?_ _ _ _ (by omega)))) hPP.2.2⟩⟩
  | left K i a b d =>
   rw [hN] at hR
   dsimp only at hR
   cases hst : stepS n me K i a b d false (G, l0) with
   | none => rw [hst] at hR; cases hR
   | some qq =>
   obtain ⟨N5, fl5, W5⟩ := qq
   rw [hst] at hR
   dsimp only at hR
   obtain ⟨G5, l5⟩ := W5
   have hj1 : j < most := by
    cases f with
    | zero => cases hR
    | succ f => have := HF.out; omega
   have HJ1 := Lib.hid hj1
   have HLj := HL la j cap log wr hcap htb HLOG hz _ _ _ _ _ hN
   have HDj := fun D dc E ec x hx h0 h1 h2 => HDO A1 ka1 G R1 ra1 S1 sa1 l0 K i a b d false N5 fl5 (G5, l5) hst D dc E ec x hx h0 h1 h2
   have HN5 := Lib.hid (stepS_lt hst W1.out.2.1.1)
   have HRN := Lib.hid hR
   clear hN HD HL HDO hz hlen hcap hst hR htb
   obtain ⟨nd, hnd⟩ : ∃ m, d.length = m := ⟨_, rfl⟩
   unfold NextS at HLj
   rw [hnd] at HLj HDj
   clear hnd
   go_wp2_with fail
   (with_reducible refine HLj.mono ?_)
   clear HLj
   rintro e w3 ⟨D3, dc3, E3, ec3, rfl, ha3, hb3⟩
   go_upto_region 8 with fail
   have hbx3 : Below w3.heap.size w3 ((w3.alloc (.cells #[.int .i64 K, .int .i64 i, .int .u64 (a : Int), .int .u64 (b : Int), .slice D3 nd dc3, .slice E3 0 ec3] 70)).alloc (.cells #[.int .i64 0, .bool false, .int .i64 0, .int .u64 0, .slice none 0 0] 38)) := below_pair _ _ _
   have V3 := (VarAt.made w3 #[.int .i64 K, .int .i64 i, .int .u64 (a : Int), .int .u64 (b : Int), .slice D3 nd dc3, .slice E3 0 ec3] 70).below (al_below _ (.cells #[.int .i64 0, .bool false, .int .i64 0, .int .u64 0, .slice none 0 0] 38))
   have BX := hb3.trans (hbx3.mono hb3.size)
   generalize (w3.alloc (.cells #[.int .i64 K, .int .i64 i, .int .u64 (a : Int), .int .u64 (b : Int), .slice D3 nd dc3, .slice E3 0 ec3] 70)).alloc (.cells #[.int .i64 0, .bool false, .int .i64 0, .int .u64 0, .slice none 0 0] 38) = x3 at hbx3 V3 BX ⊢
   generalize w3.heap.size = b14 at V3 ⊢
   have W3 := Lib.hid (W1.out.later BX)
   have HAP := ha3.later hbx3
   have HV3 := Lib.hid (HV.out.below BX)
   have HBW3 := Lib.hid (HBW.out.trans (BX.mono HBW.out.size))
   have O3 := Lib.hid (And.intro O1.out.1 (And.intro (O1.out.2.1.later W1.out.2.2.1 BX) (O1.out.2.2.1.later W1.out.2.2.2 BX)))
   have OP3 : Hid (∀ P, From w (Nw + 1 + 1 + 1 + 1) A n R S m P → OffW P A1 n ∧ OffS P x3 R1 m ∧ OffS P x3 S1 m) := Lib.hid (fun P hF => ⟨(O1.out.2.2.2 P hF).1, (O1.out.2.2.2 P hF).2.1.later W1.out.2.2.1 BX, (O1.out.2.2.2 P hF).2.2.later W1.out.2.2.2 BX⟩)
   have HOWN3 := Lib.hid (ownsRow_laterR HOWN.out BX)
   have HRAW3 := Lib.hid (HRAW.out.later BX)
   have HSZ3 := Lib.hid (Nat.le_trans HSZ.out BX.size)
   obtain ⟨_, ⟨a0, a1, a2, a3, a4, a5⟩, _⟩ := V3.six
   clear hb3 hbx3 V3 BX c0 c1 c2 c3 c4 c5 b0 b1 b2 b3 W1 HV HBW O1 HOWN HRAW HSZ HLOG
   obtain ⟨c0, c1, c2, c3, c4, c5⟩ := W3.out.cells
   go_wp2_with fail
   clear c0 c1 c2 c3 c4 c5 a0 a1 a2 a3 a4 a5
   (with_reducible refine (HDj _ _ _ _ _ HAP W3.out.gA W3.out.g0 W3.out.g1).mono ?_)
   clear HDj
   rintro e w5 ⟨A5, k5, R5, ra5, S5, sa5, X5, kx5, rfl, ha, hs0, hs1, hb, hP⟩
   go_upto_region 9 with fail
   have hbx5 : Below w5.heap.size w5 ((w5.alloc (.cells #[.int .i64 (t : Int), .int .i64 c, .slice A5 n k5, .int .u64 0, .slice R5 m ra5, .slice S5 m sa5] 33)).alloc (.cells #[.int .u64 (N5 : Int), .slice X5 0 kx5, .bool fl5] 81)) := below_pair _ _ _
   have W5 := Lib.hid (WdAt.made (t := (t : Int)) (c := c) (k := k5) (r := 0) (ra := ra5) (sa := sa5) w5 (.cells #[.int .u64 (N5 : Int), .slice X5 0 kx5, .bool fl5] 81) 33 ha hs0 hs1)
   have V5 := Lib.hid (VarAt.made1 w5 (.cells #[.int .i64 (t : Int), .int .i64 c, .slice A5 n k5, .int .u64 0, .slice R5 m ra5, .slice S5 m sa5] 33) #[.int .u64 (N5 : Int), .slice X5 0 kx5, .bool fl5] 81)
   have hbn5 := hb.trans (hbx5.mono hb.size)
   have OS5 := Lib.hid hs0
   have OT5 := Lib.hid hs1
   generalize (w5.alloc (.cells #[.int .i64 (t : Int), .int .i64 c, .slice A5 n k5, .int .u64 0, .slice R5 m ra5, .slice S5 m sa5] 33)).alloc (.cells #[.int .u64 (N5 : Int), .slice X5 0 kx5, .bool fl5] 81) = x5 at hbx5 W5 V5 hbn5 ⊢
   have hgx : Nw < x3.heap.size := W3.out.1.1
   have hvb : ∀ k, (Value.slice la j cap).ownBlock = some k → k < x3.heap.size := fun k hk => (HOWN3.out.lt k hk).2
   have O5 : Hid (OffW (Nt Nw Nw (.slice la j cap)) A5 n ∧ OffS (Nt Nw Nw (.slice la j cap)) x5 R5 m ∧ OffS (Nt Nw Nw (.slice la j cap)) x5 S5 m) := Lib.hid (by
    obtain ⟨q0, q1, q2⟩ := hP (Nt Nw Nw (.slice la j cap)) (fun b hb => ⟨by omega, by omega, fun k hk => by have := hvb k hk; omega⟩) O3.out.1 O3.out.2.1 O3.out.2.2
    exact ⟨q0, q1.later hs0 hbx5, q2.later hs1 hbx5⟩)
   have OP5 : Hid (∀ P, From w (Nw + 1 + 1 + 1 + 1) A n R S m P → OffW P A5 n ∧ OffS P x5 R5 m ∧ OffS P x5 S5 m) := Lib.hid (fun P hF => by
    obtain ⟨q0, q1, q2⟩ := OP3.out P hF
    obtain ⟨q3, q4, q5⟩ := hP P (fun b hb => hF.1 b (Nat.le_trans HSZ3.out hb)) q0 q1 q2
    exact ⟨q3, q4.later hs0 hbx5, q5.later hs1 hbx5⟩)
   have h5s : x3.heap.size ≤ w5.heap.size := hb.size
   have h5x : w5.heap.size + 1 < x5.heap.size := V5.out.1
   clear ha hs0 hs1 hb hP hbx5 OS5 OT5 hgx hvb OP3
   generalize w5.heap.size = b17 at W5 V5 h5s h5x ⊢
   have WX := Lib.hid (W3.out.1.below hbn5)
   have HOWNn := Lib.hid (ownsRow_laterR HOWN3.out hbn5); clear HOWN3; have HOWN := HOWNn; clear HOWNn
   have HRAWn := Lib.hid (HRAW3.out.later hbn5); clear HRAW3; have HRAW := HRAWn; clear HRAWn
   have HV5 := Lib.hid (HV3.out.below hbn5)
   have HBW5 := Lib.hid (HBW3.out.trans (hbn5.mono HBW3.out.size))
   have HSZ5 := Lib.hid (Nat.le_trans HSZ3.out hbn5.size)
   have hgx3 : Nw < x3.heap.size := W3.out.1.1
   clear hbn5 W3 HV3 HBW3 O3
   have n5 : ¬ (b17 = Nw) := by omega
   have n7 : ¬ (b17 + 1 = Nw) := by omega
   have n15 : ¬ (Nw = b17) := by omega
   have hs35 := HSZ3.out
   obtain ⟨_, ⟨c0, c1, c2, c3, c4, c5⟩, _⟩ := W5.out.1.six
   obtain ⟨_, g0, g1, g2, _⟩ := V5.out.three
   obtain ⟨zx, ⟨x0, x1, x2, x3', x4', x5'⟩, y0, y1, y2, y3, y4, y5⟩ := WX.out.six
   go_upto_region 10 with fail
   have hrow : ∀ k, (Value.slice la j cap).ownBlock = some k → Nw + 1 + 1 + 1 + 1 ≤ k := fun k hk => (HOWN.out.lt k hk).1
   have hbw5 := HBW5.out
   have hsz5 := HSZ5.out
   have hnw := HNW.out
   have hlen := HLEN.out
   refine gen_w (P := fun W => Code.wp _ _ _ _ W) (fun z => RunZA w Nw (Nw + 1 + 1 + 1 + 1) (From w (Nw + 1 + 1 + 1 + 1) A n R S m) [(Nw + 1, [.int .i64 k, .int .i64 u, .int .i64 v, .int .u64 (q : Int)]), (Nw + 1 + 1, [.int .i64 0, .int .i64 0, .slice none 0 0, .int .u64 0, .slice none 0 0, .slice none 0 0]), (Nw + 1 + 1 + 1, [.int .i64 0, .bool false, .int .i64 0, .int .u64 0, .slice none 0 0])] t c n 0 m l5 l1 (.slice la j cap) log vs X5 kx5 N5 G5 z ∧ VarAt z (b17 + 1) [.int .u64 (N5 : Int), .slice X5 0 kx5, .bool fl5]) ⟨⟨(by repeat (first | with_reducible exact hbw5 | with_reducible refine Below.drew ?_ | with_reducible refine below_al ?_ | (with_reducible refine below_set1 (by omega) _ ?_))), by simp; omega, by omega, (by have hv := HV5.out; repeat (first | with_reducible exact hv | (with_reducible refine Vars.apart ?_ _ _ (by intro p hp; simp only [List.mem_cons, List.not_mem_nil, or_false] at hp; rcases hp with rfl | rfl | rfl <;> simp only [] <;> omega)))), (by intro p hp; simp only [List.mem_cons, List.not_mem_nil, or_false] at hp; rcases hp with rfl | rfl | rfl <;> simp only [] <;> omega), ⟨A5, k5, R5, ra5, S5, sa5, ⟨VarAt.of6 (by simp; omega) (by go_simp) (by go_simp) (by go_simp) (by go_simp) (by go_simp) (by go_simp) (by go_simp) (by go_simp) (by go_simp) (by go_simp) (by go_simp) (by go_simp), W5.out.2.1.keep (by repeat (first | with_reducible exact Keep.refl _ _ | with_reducible refine Keep.drew ?_ | with_reducible refine Keep.alloc ?_ _ | (with_reducible refine Keep.set ?_ _ _ _ (by unfold Nt; omega)))) O5.out.1, W5.out.2.2.1.keep (by repeat (first | with_reducible exact Keep.refl _ _ | with_reducible refine Keep.drew ?_ | with_reducible refine Keep.alloc ?_ _ | (with_reducible refine Keep.set ?_ _ _ _ (by unfold Nt; omega)))) O5.out.2.1, W5.out.2.2.2.keep (by repeat (first | with_reducible exact Keep.refl _ _ | with_reducible refine Keep.drew ?_ | with_reducible refine Keep.alloc ?_ _ | (with_reducible refine Keep.set ?_ _ _ _ (by unfold Nt; omega)))) O5.out.2.2⟩, O5.out.1, O5.out.2.1.keep W5.out.2.2.1 (by repeat (first | with_reducible exact Keep.refl _ _ | with_reducible refine Keep.drew ?_ | with_reducible refine Keep.alloc ?_ _ | (with_reducible refine Keep.set ?_ _ _ _ (by unfold Nt; omega)))) O5.out.2.1, O5.out.2.2.keep W5.out.2.2.2 (by repeat (first | with_reducible exact Keep.refl _ _ | with_reducible refine Keep.drew ?_ | with_reducible refine Keep.alloc ?_ _ | (with_reducible refine Keep.set ?_ _ _ _ (by unfold Nt; omega)))) O5.out.2.2, fun P hF => ⟨(OP5.out P hF).1, (OP5.out P hF).2.1.keep W5.out.2.2.1 (by repeat (first | with_reducible exact Keep.refl _ _ | with_reducible refine Keep.drew ?_ | with_reducible refine Keep.alloc ?_ _ | (with_reducible refine Keep.set ?_ _ _ _ (by unfold Nt; omega)))) O5.out.2.1, (OP5.out P hF).2.2.keep W5.out.2.2.2 (by repeat (first | with_reducible exact Keep.refl _ _ | with_reducible refine Keep.drew ?_ | with_reducible refine Keep.alloc ?_ _ | (with_reducible refine Keep.set ?_ _ _ _ (by unfold Nt; omega)))) O5.out.2.2⟩⟩, by rw [hlen]; exact (by repeat (first | with_reducible exact HOWN.out | (with_reducible refine ownsRow_apart ?_ _ _ _ (by omega)))), HRAW.out.keep (by repeat (first | with_reducible exact Keep.refl _ _ | with_reducible refine Keep.drew ?_ | with_reducible refine Keep.alloc ?_ _ | (with_reducible refine Keep.set ?_ _ _ _ (by unfold Nt; omega)))), HN5.out⟩, (by repeat (first | with_reducible exact V5.out | (with_reducible refine VarAt.apart ?_ _ _ (by omega))))⟩ ?_
   rintro z ⟨k0, k1⟩
   obtain ⟨zz, g0, g1, g2, _⟩ := k1.three
   have KZ := Lib.hid k0
   have HOZ : Hid (∀ o, (z.alloc o).ownsRow (Nw + 1 + 1 + 1 + 1) 81 3 (.slice la j cap) j vs) := Lib.hid (fun o => by have h := (k0.later (al_below z o)).own; rw [hlen] at h; exact h)
   have hjk : j ≤ 1000 := by have := HM.out; omega
   have HJ : Hid (j ≤ 900000) := Lib.hid (by have := HM.out; omega)
   have HLQ : Hid (log.length = j) := HLEN
   clear k0 k1 c0 c1 c2 c3 c4 c5 zx x0 x1 x2 x3' x4' x5' y0 y1 y2 y3 y4 y5 hrow hbw5 hsz5 hnw h5s h5x hgx3 hs35
   clear WX W5 V5 HOWN HRAW HV5 HBW5 O5 OP5
   go_wp2_with (at_builtin; (refine wpList_appendR1 (by rfl) (.tmp 48) (.tmp 50) (by rfl) (Nw + 1 + 1 + 1 + 1) (.slice la j cap) j vs (by rfl) (HOZ.out _) z.heap.size 1 ⟨N5, [], fl5⟩ X5 kx5 (by rfl) (by go_simp) (by go_simp) (by go_simp) HJ.out (by have := KZ.out.size; simp; omega) ?_); (intro v9 w9 hown9 hg9 hv9; have HNX : Hid (RunA w Nw (Nw + 1 + 1 + 1 + 1) (From w (Nw + 1 + 1 + 1 + 1) A n R S m) [(Nw + 1, [.int .i64 k, .int .i64 u, .int .i64 v, .int .u64 (q : Int)]), (Nw + 1 + 1, [.int .i64 0, .int .i64 0, .slice none 0 0, .int .u64 0, .slice none 0 0, .slice none 0 0]), (Nw + 1 + 1 + 1, [.int .i64 0, .bool false, .int .i64 0, .int .u64 0, .slice none 0 0])] t c n 0 m l5 l1 v9 (log ++ [⟨N5, [], fl5⟩]) G5 w9) := Lib.hid ((KZ.out.later (al_below z _)).nextF (by rw [HLQ.out]; exact hown9) hg9 hv9); clear hown9 hg9 hv9))
   go_roundw
   case rel =>
    refine ⟨j + 1, log ++ [⟨N5, [], fl5⟩], G5, l5, by go_num, by rw [List.length_append, HLQ.out]; rfl, ?_, HNX.out⟩
    rw [show most + 1 - (j + 1) = f by have := HF.out; omega]
    exact HRN.out
   case measure => have := HJ1.out; simp [intOf]; omega
theorem vAloneN {m : Nat} (t : Nat) (ht : t ≤ 64) (me : Nat) (hme : me < m) (c k u v : Int) (q : Nat) (most : Nat) (hm : most ≤ 1000) (n : Nat) (hn : n ≤ 1000000) (hm8 : m ≤ 8) (G : Nat → Nat) (l0 l1 : List Stm) (N : Nat) (WF : WS) (j : Nat)
  (hrun : (vPrg t me k u 2000).run (Prd.wTell n me (fun _ => false)) ((G, l0), 0) = .done N (WF, j)) (hj : j ≤ most) (A : Option Addr) (ka : Nat) (R : Option Addr) (ra : Nat) (S : Option Addr) (sa : Nat) (w : World) (HTab : Hid (Tab w)) (HA : Hid (AtW w A n G)) (H0 : Hid (StmsAt w R m l0)) (H1 : Hid (StmsAt w S m l1)) :
  Calls Tryz.prog 33 #[.agg #[.int .i64 (t : Int), .int .i64 c, .slice A n ka, .int .u64 0, .slice R m ra, .slice S m sa], .int .i64 (me : Int), .agg #[.int .i64 k, .int .i64 u, .int .i64 v, .int .u64 (q : Int)], .int .i64 (most : Int)] w (AloneL w t c A n R S m WF.1 WF.2 l1 (vErr N) (vIs N) 0 0) :=
 vAlone_at t ht me hme c k u v q most hm A n ka R ra S sa hn hm8 G l0 l1 N WF (Prd.alone_ofW hrun (by omega)) w HTab HA H0 H1
end
end Go.Proofs.YtibpfkcackdbgaaGreatDoor
namespace Go.Proofs.YtibpfkcackdbgaaGreatDoor
open Go.ChangeShapes Go.WideShapes Go.ChangeAt Go.RowKit Go.BigFrame Go.Deep
set_option linter.unusedVariables false
set_option maxRecDepth 100000
def vsW0 : WS := (newF 2 2, zerosS 2)
def vsW1 : WS := wldR (vRun 2 2 0 11 (3) vsW0)
theorem vs_run1 : (vRun 2 2 0 11 (3) vsW0) = .done 4 (vsW1, cntR (vRun 2 2 0 11 (3) vsW0)) := by
 have h := run_is (R := vRun 2 2 0 11 (3) vsW0) (by kernel_rfl)
 have h2 : outR (vRun 2 2 0 11 (3) vsW0) = 4 := by kernel_rfl
 rw [h2] at h
 exact h
theorem vs_cnt1 : cntR (vRun 2 2 0 11 (3) vsW0) ≤ 99 := by
 have h : decide (cntR (vRun 2 2 0 11 (3) vsW0) ≤ 99) = true := by kernel_rfl
 exact of_decide_eq_true h
def vsW2 : WS := wldR (vRun 2 2 1 11 (3) vsW1)
theorem vs_run2 : (vRun 2 2 1 11 (3) vsW1) = .done 3 (vsW2, cntR (vRun 2 2 1 11 (3) vsW1)) := by
 have h := run_is (R := vRun 2 2 1 11 (3) vsW1) (by kernel_rfl)
 have h2 : outR (vRun 2 2 1 11 (3) vsW1) = 3 := by kernel_rfl
 rw [h2] at h
 exact h
theorem vs_cnt2 : cntR (vRun 2 2 1 11 (3) vsW1) ≤ 99 := by
 have h : decide (cntR (vRun 2 2 1 11 (3) vsW1) ≤ 99) = true := by kernel_rfl
 exact of_decide_eq_true h
def vsW3 : WS := wldR (vRun 2 2 0 13 (3) vsW2)
theorem vs_run3 : (vRun 2 2 0 13 (3) vsW2) = .done 4 (vsW3, cntR (vRun 2 2 0 13 (3) vsW2)) := by
 have h := run_is (R := vRun 2 2 0 13 (3) vsW2) (by kernel_rfl)
 have h2 : outR (vRun 2 2 0 13 (3) vsW2) = 4 := by kernel_rfl
 rw [h2] at h
 exact h
theorem vs_cnt3 : cntR (vRun 2 2 0 13 (3) vsW2) ≤ 99 := by
 have h : decide (cntR (vRun 2 2 0 13 (3) vsW2) ≤ 99) = true := by kernel_rfl
 exact of_decide_eq_true h
def vsW4 : WS := wldR (vRun 2 2 1 12 (3) vsW3)
theorem vs_run4 : (vRun 2 2 1 12 (3) vsW3) = .done 4 (vsW4, cntR (vRun 2 2 1 12 (3) vsW3)) := by
 have h := run_is (R := vRun 2 2 1 12 (3) vsW3) (by kernel_rfl)
 have h2 : outR (vRun 2 2 1 12 (3) vsW3) = 4 := by kernel_rfl
 rw [h2] at h
 exact h
theorem vs_cnt4 : cntR (vRun 2 2 1 12 (3) vsW3) ≤ 99 := by
 have h : decide (cntR (vRun 2 2 1 12 (3) vsW3) ≤ 99) = true := by kernel_rfl
 exact of_decide_eq_true h
def vsW5 : WS := wldR (vRun 2 2 0 13 (3) vsW4)
theorem vs_run5 : (vRun 2 2 0 13 (3) vsW4) = .done 3 (vsW5, cntR (vRun 2 2 0 13 (3) vsW4)) := by
 have h := run_is (R := vRun 2 2 0 13 (3) vsW4) (by kernel_rfl)
 have h2 : outR (vRun 2 2 0 13 (3) vsW4) = 3 := by kernel_rfl
 rw [h2] at h
 exact h
theorem vs_cnt5 : cntR (vRun 2 2 0 13 (3) vsW4) ≤ 99 := by
 have h : decide (cntR (vRun 2 2 0 13 (3) vsW4) ≤ 99) = true := by kernel_rfl
 exact of_decide_eq_true h
def vsW6 : WS := wldR (vRun 2 2 0 13 (-1) vsW0)
theorem vs_run6 : (vRun 2 2 0 13 (-1) vsW0) = .done 100 (vsW6, cntR (vRun 2 2 0 13 (-1) vsW0)) := by
 have h := run_is (R := vRun 2 2 0 13 (-1) vsW0) (by kernel_rfl)
 have h2 : outR (vRun 2 2 0 13 (-1) vsW0) = 100 := by kernel_rfl
 rw [h2] at h
 exact h
theorem vs_cnt6 : cntR (vRun 2 2 0 13 (-1) vsW0) ≤ 0 := by
 have h : decide (cntR (vRun 2 2 0 13 (-1) vsW0) ≤ 0) = true := by kernel_rfl
 exact of_decide_eq_true h
set_option maxHeartbeats 8000000 in
set_option maxRecDepth 100000 in
theorem vrtShown (w : World) (HTab : Hid (Tab w)) : Calls Tryz.prog 28 #[] w (Kept w (.bool true)) := by
 have HN : ∀ w, Calls Tryz.prog 13 #[.int .i64 2, .int .i64 2] w (NewWdO w 2 2 (sizeN 2 2) (newF 2 2)) := fun w => newWdO_at 2 2 (by decide) (by decide) (by decide) w
 have hsz : sizeN 2 2 ≤ 1000000 := by decide
 have C1 : ∀ (A : Option Addr) (ka : Nat) (R : Option Addr) (ra : Nat) (S : Option Addr) (sa : Nat) (w : World), Hid (Tab w) → Hid (AtW w A (sizeN 2 2) vsW0.1) → Hid (StmsAt w R 2 vsW0.2) → Hid (StmsAt w S 2 (zerosS 2)) →
   Calls Tryz.prog 33 #[.agg #[.int .i64 2, .int .i64 2, .slice A (sizeN 2 2) ka, .int .u64 0, .slice R 2 ra, .slice S 2 sa], .int .i64 0, .agg #[.int .i64 11, .int .i64 3, .int .i64 0, .int .u64 0], .int .i64 99] w (AloneL w 2 2 A (sizeN 2 2) R S 2 vsW1.1 vsW1.2 (zerosS 2) 0 true 0 0) := fun A ka R ra S sa w h0 h1 h2 h3 => vAloneN 2 (by decide) 0 (by decide) 2 11 (3) 0 0 99 (by decide) (sizeN 2 2) hsz (by decide) vsW0.1 vsW0.2 (zerosS 2) 4 vsW1 _ vs_run1 vs_cnt1 A ka R ra S sa w h0 h1 h2 h3
 have C2 : ∀ (A : Option Addr) (ka : Nat) (R : Option Addr) (ra : Nat) (S : Option Addr) (sa : Nat) (w : World), Hid (Tab w) → Hid (AtW w A (sizeN 2 2) vsW1.1) → Hid (StmsAt w R 2 vsW1.2) → Hid (StmsAt w S 2 (zerosS 2)) →
   Calls Tryz.prog 33 #[.agg #[.int .i64 2, .int .i64 2, .slice A (sizeN 2 2) ka, .int .u64 0, .slice R 2 ra, .slice S 2 sa], .int .i64 1, .agg #[.int .i64 11, .int .i64 3, .int .i64 0, .int .u64 0], .int .i64 99] w (AloneL w 2 2 A (sizeN 2 2) R S 2 vsW2.1 vsW2.2 (zerosS 2) 0 false 0 0) := fun A ka R ra S sa w h0 h1 h2 h3 => vAloneN 2 (by decide) 1 (by decide) 2 11 (3) 0 0 99 (by decide) (sizeN 2 2) hsz (by decide) vsW1.1 vsW1.2 (zerosS 2) 3 vsW2 _ vs_run2 vs_cnt2 A ka R ra S sa w h0 h1 h2 h3
 have C3 : ∀ (A : Option Addr) (ka : Nat) (R : Option Addr) (ra : Nat) (S : Option Addr) (sa : Nat) (w : World), Hid (Tab w) → Hid (AtW w A (sizeN 2 2) vsW2.1) → Hid (StmsAt w R 2 vsW2.2) → Hid (StmsAt w S 2 (zerosS 2)) →
   Calls Tryz.prog 33 #[.agg #[.int .i64 2, .int .i64 2, .slice A (sizeN 2 2) ka, .int .u64 0, .slice R 2 ra, .slice S 2 sa], .int .i64 0, .agg #[.int .i64 13, .int .i64 3, .int .i64 0, .int .u64 0], .int .i64 99] w (AloneL w 2 2 A (sizeN 2 2) R S 2 vsW3.1 vsW3.2 (zerosS 2) 0 true 0 0) := fun A ka R ra S sa w h0 h1 h2 h3 => vAloneN 2 (by decide) 0 (by decide) 2 13 (3) 0 0 99 (by decide) (sizeN 2 2) hsz (by decide) vsW2.1 vsW2.2 (zerosS 2) 4 vsW3 _ vs_run3 vs_cnt3 A ka R ra S sa w h0 h1 h2 h3
 have C4 : ∀ (A : Option Addr) (ka : Nat) (R : Option Addr) (ra : Nat) (S : Option Addr) (sa : Nat) (w : World), Hid (Tab w) → Hid (AtW w A (sizeN 2 2) vsW3.1) → Hid (StmsAt w R 2 vsW3.2) → Hid (StmsAt w S 2 (zerosS 2)) →
   Calls Tryz.prog 33 #[.agg #[.int .i64 2, .int .i64 2, .slice A (sizeN 2 2) ka, .int .u64 0, .slice R 2 ra, .slice S 2 sa], .int .i64 1, .agg #[.int .i64 12, .int .i64 3, .int .i64 0, .int .u64 0], .int .i64 99] w (AloneL w 2 2 A (sizeN 2 2) R S 2 vsW4.1 vsW4.2 (zerosS 2) 0 true 0 0) := fun A ka R ra S sa w h0 h1 h2 h3 => vAloneN 2 (by decide) 1 (by decide) 2 12 (3) 0 0 99 (by decide) (sizeN 2 2) hsz (by decide) vsW3.1 vsW3.2 (zerosS 2) 4 vsW4 _ vs_run4 vs_cnt4 A ka R ra S sa w h0 h1 h2 h3
 have C5 : ∀ (A : Option Addr) (ka : Nat) (R : Option Addr) (ra : Nat) (S : Option Addr) (sa : Nat) (w : World), Hid (Tab w) → Hid (AtW w A (sizeN 2 2) vsW4.1) → Hid (StmsAt w R 2 vsW4.2) → Hid (StmsAt w S 2 (zerosS 2)) →
   Calls Tryz.prog 33 #[.agg #[.int .i64 2, .int .i64 2, .slice A (sizeN 2 2) ka, .int .u64 0, .slice R 2 ra, .slice S 2 sa], .int .i64 0, .agg #[.int .i64 13, .int .i64 3, .int .i64 0, .int .u64 0], .int .i64 99] w (AloneL w 2 2 A (sizeN 2 2) R S 2 vsW5.1 vsW5.2 (zerosS 2) 0 false 0 0) := fun A ka R ra S sa w h0 h1 h2 h3 => vAloneN 2 (by decide) 0 (by decide) 2 13 (3) 0 0 99 (by decide) (sizeN 2 2) hsz (by decide) vsW4.1 vsW4.2 (zerosS 2) 3 vsW5 _ vs_run5 vs_cnt5 A ka R ra S sa w h0 h1 h2 h3
 have C6 : ∀ (A : Option Addr) (ka : Nat) (R : Option Addr) (ra : Nat) (S : Option Addr) (sa : Nat) (w : World), Hid (Tab w) → Hid (AtW w A (sizeN 2 2) vsW0.1) → Hid (StmsAt w R 2 vsW0.2) → Hid (StmsAt w S 2 (zerosS 2)) →
   Calls Tryz.prog 33 #[.agg #[.int .i64 2, .int .i64 2, .slice A (sizeN 2 2) ka, .int .u64 0, .slice R 2 ra, .slice S 2 sa], .int .i64 0, .agg #[.int .i64 13, .int .i64 (-1), .int .i64 0, .int .u64 0], .int .i64 0] w (AloneL w 2 2 A (sizeN 2 2) R S 2 vsW6.1 vsW6.2 (zerosS 2) 4 false 0 0) := fun A ka R ra S sa w h0 h1 h2 h3 => vAloneN 2 (by decide) 0 (by decide) 2 13 (-1) 0 0 0 (by decide) (sizeN 2 2) hsz (by decide) vsW0.1 vsW0.2 (zerosS 2) 100 vsW6 _ vs_run6 vs_cnt6 A ka R ra S sa w h0 h1 h2 h3
 have hz0 : vsW0 = (newF 2 2, zerosS 2) := rfl
 generalize vsW0 = V0 at *
 generalize vsW1 = V1 at *
 generalize vsW2 = V2 at *
 generalize vsW3 = V3 at *
 generalize vsW4 = V4 at *
 generalize vsW5 = V5 at *
 generalize vsW6 = V6 at *
 have e1 : V0.1 = newF 2 2 := by rw [hz0]
 have e2 : V0.2 = zerosS 2 := by rw [hz0]
 generalize newF 2 2 = F0 at *
 generalize sizeN 2 2 = n at *
 clear hsz hz0
 obtain ⟨G0, l0⟩ := V0
 obtain ⟨G1, l1⟩ := V1
 obtain ⟨G2, l2⟩ := V2
 obtain ⟨G3, l3⟩ := V3
 obtain ⟨G4, l4⟩ := V4
 obtain ⟨G5, l5⟩ := V5
 obtain ⟨G6, l6⟩ := V6
 dsimp only at e1 e2 C1 C2 C3 C4 C5 C6
 subst e1
 subst e2
 have HT := HTab
 go_enter Tryz.func28, Tryz.ntmps28
 go_wp2_with fail
 (with_reducible refine (HN _).mono ?_)
 clear HN
 rintro e w0 ⟨g0, R0, ra0, S0, sa0, rfl, hrow, hs0, hs1, ho0, ho1, hb, hg0⟩
 go_upto_region 2 with fail
 have hbx := al_below w0 (.cells #[.int .i64 2, .int .i64 2, .slice (some ⟨g0, 0, none⟩) n n, .int .u64 0, .slice R0 2 ra0, .slice S0 2 sa0] 33)
 have W0 : Hid (WdO (w0.alloc (.cells #[.int .i64 2, .int .i64 2, .slice (some ⟨g0, 0, none⟩) n n, .int .u64 0, .slice R0 2 ra0, .slice S0 2 sa0] 33)) w0.heap.size 2 2 g0 n R0 2 ra0 S0 sa0 G0 (zerosS 2) (zerosS 2)) := Lib.hid
  ⟨VarAt.made w0 _ _, hrow.later hbx, hs0.later hbx, hs1.later hbx, (ho0.mono fun b hb => hb.1).later hs0 hbx, (ho1.mono fun b hb => hb.1).later hs1 hbx, by have := hrow.1; omega⟩
 have BB := Lib.hid (hb.trans (hbx.mono hb.size))
 clear hrow hs0 hs1 ho0 ho1 hb hg0
 generalize w0.alloc (.cells #[.int .i64 2, .int .i64 2, .slice (some ⟨g0, 0, none⟩) n n, .int .u64 0, .slice R0 2 ra0, .slice S0 2 sa0] 33) = x0 at W0 BB hbx ⊢
 clear hbx
 generalize w0.heap.size = b0 at W0 ⊢
 have HT0 := Tab.later HT BB.out
 obtain ⟨c0, c1, c2, c3, c4, c5⟩ := W0.out.cells
 go_wp2_with fail
 (with_reducible refine (C1 (some ⟨g0, 0, none⟩) n R0 ra0 S0 sa0 _ HT0 (Lib.hid W0.out.row.at_) (Lib.hid W0.out.s0) (Lib.hid W0.out.s1)).mono ?_)
 clear c0 c1 c2 c3 c4 c5 C1
 rintro e w1 ⟨A1, ka1, R1, ra1, S1, sa1, rfl, ha, hs0, hs1, hb, hP⟩
 go_upto_region 3 with fail
 have hbx : Below w1.heap.size w1 ((w1.alloc (.cells #[.int .i64 2, .int .i64 2, .slice A1 n ka1, .int .u64 0, .slice R1 2 ra1, .slice S1 2 sa1] 33)).alloc (.cells #[.int .i64 0, .bool true, .int .i64 0, .int .u64 0, .slice none 0 0] 38)) := below_pair _ _ _
 have W1 := Lib.hid (WdAt.made (t := 2) (c := 2) (k := ka1) (r := 0) (ra := ra1) (sa := sa1) w1 (.cells #[.int .i64 0, .bool true, .int .i64 0, .int .u64 0, .slice none 0 0] 38) 33 ha hs0 hs1)
 have O1 := Lib.hid (VarAt.made1 w1 (.cells #[.int .i64 2, .int .i64 2, .slice A1 n ka1, .int .u64 0, .slice R1 2 ra1, .slice S1 2 sa1] 33) #[.int .i64 0, .bool true, .int .i64 0, .int .u64 0, .slice none 0 0] 38)
 have HBN := Lib.hid (hb.trans (hbx.mono hb.size))
 generalize (w1.alloc (.cells #[.int .i64 2, .int .i64 2, .slice A1 n ka1, .int .u64 0, .slice R1 2 ra1, .slice S1 2 sa1] 33)).alloc (.cells #[.int .i64 0, .bool true, .int .i64 0, .int .u64 0, .slice none 0 0] 38) = x1 at hbx HBN W1 O1 ⊢
 clear ha hs0 hs1 hb hP hbx
 obtain ⟨b1, hb1⟩ : ∃ b, w1.heap.size = b := ⟨_, rfl⟩
 rw [hb1] at W1 O1 ⊢
 clear hb1
 have HT1 := Tab.later HT0 HBN.out
 have BBn := Lib.hid (BB.out.trans (HBN.out.mono BB.out.size)); clear BB; have BB := BBn; clear BBn
 have W0n := Lib.hid (W0.out.later HBN.out); clear W0; have W0 := W0n; clear W0n
 clear HBN
 obtain ⟨c0, c1, c2, c3, c4, c5⟩ := W1.out.cells
 go_wp2_with fail
 (with_reducible refine (C2 A1 ka1 R1 ra1 S1 sa1 _ HT1 W1.out.gA W1.out.g0 W1.out.g1).mono ?_)
 clear c0 c1 c2 c3 c4 c5 C2
 rintro e w2 ⟨A2, ka2, R2, ra2, S2, sa2, rfl, ha, hs0, hs1, hb, hP⟩
 go_upto_region 4 with fail
 have hbx : Below w2.heap.size w2 ((w2.alloc (.cells #[.int .i64 2, .int .i64 2, .slice A2 n ka2, .int .u64 0, .slice R2 2 ra2, .slice S2 2 sa2] 33)).alloc (.cells #[.int .i64 0, .bool false, .int .i64 0, .int .u64 0, .slice none 0 0] 38)) := below_pair _ _ _
 have W2 := Lib.hid (WdAt.made (t := 2) (c := 2) (k := ka2) (r := 0) (ra := ra2) (sa := sa2) w2 (.cells #[.int .i64 0, .bool false, .int .i64 0, .int .u64 0, .slice none 0 0] 38) 33 ha hs0 hs1)
 have O2 := Lib.hid (VarAt.made1 w2 (.cells #[.int .i64 2, .int .i64 2, .slice A2 n ka2, .int .u64 0, .slice R2 2 ra2, .slice S2 2 sa2] 33) #[.int .i64 0, .bool false, .int .i64 0, .int .u64 0, .slice none 0 0] 38)
 have HBN := Lib.hid (hb.trans (hbx.mono hb.size))
 generalize (w2.alloc (.cells #[.int .i64 2, .int .i64 2, .slice A2 n ka2, .int .u64 0, .slice R2 2 ra2, .slice S2 2 sa2] 33)).alloc (.cells #[.int .i64 0, .bool false, .int .i64 0, .int .u64 0, .slice none 0 0] 38) = x2 at hbx HBN W2 O2 ⊢
 clear ha hs0 hs1 hb hP hbx
 obtain ⟨b2, hb2⟩ : ∃ b, w2.heap.size = b := ⟨_, rfl⟩
 rw [hb2] at W2 O2 ⊢
 clear hb2
 have HT2 := Tab.later HT1 HBN.out
 have BBn := Lib.hid (BB.out.trans (HBN.out.mono BB.out.size)); clear BB; have BB := BBn; clear BBn
 have W0n := Lib.hid (W0.out.later HBN.out); clear W0; have W0 := W0n; clear W0n
 have O1n := Lib.hid (O1.out.below HBN.out); clear O1; have O1 := O1n; clear O1n
 clear HBN
 clear W1
 obtain ⟨c0, c1, c2, c3, c4, c5⟩ := W2.out.cells
 go_wp2_with fail
 (with_reducible refine (C3 A2 ka2 R2 ra2 S2 sa2 _ HT2 W2.out.gA W2.out.g0 W2.out.g1).mono ?_)
 clear c0 c1 c2 c3 c4 c5 C3
 rintro e w3 ⟨A3, ka3, R3, ra3, S3, sa3, rfl, ha, hs0, hs1, hb, hP⟩
 go_upto_region 5 with fail
 have hbx : Below w3.heap.size w3 ((w3.alloc (.cells #[.int .i64 2, .int .i64 2, .slice A3 n ka3, .int .u64 0, .slice R3 2 ra3, .slice S3 2 sa3] 33)).alloc (.cells #[.int .i64 0, .bool true, .int .i64 0, .int .u64 0, .slice none 0 0] 38)) := below_pair _ _ _
 have W3 := Lib.hid (WdAt.made (t := 2) (c := 2) (k := ka3) (r := 0) (ra := ra3) (sa := sa3) w3 (.cells #[.int .i64 0, .bool true, .int .i64 0, .int .u64 0, .slice none 0 0] 38) 33 ha hs0 hs1)
 have O3 := Lib.hid (VarAt.made1 w3 (.cells #[.int .i64 2, .int .i64 2, .slice A3 n ka3, .int .u64 0, .slice R3 2 ra3, .slice S3 2 sa3] 33) #[.int .i64 0, .bool true, .int .i64 0, .int .u64 0, .slice none 0 0] 38)
 have HBN := Lib.hid (hb.trans (hbx.mono hb.size))
 generalize (w3.alloc (.cells #[.int .i64 2, .int .i64 2, .slice A3 n ka3, .int .u64 0, .slice R3 2 ra3, .slice S3 2 sa3] 33)).alloc (.cells #[.int .i64 0, .bool true, .int .i64 0, .int .u64 0, .slice none 0 0] 38) = x3 at hbx HBN W3 O3 ⊢
 clear ha hs0 hs1 hb hP hbx
 obtain ⟨b3, hb3⟩ : ∃ b, w3.heap.size = b := ⟨_, rfl⟩
 rw [hb3] at W3 O3 ⊢
 clear hb3
 have HT3 := Tab.later HT2 HBN.out
 have BBn := Lib.hid (BB.out.trans (HBN.out.mono BB.out.size)); clear BB; have BB := BBn; clear BBn
 have W0n := Lib.hid (W0.out.later HBN.out); clear W0; have W0 := W0n; clear W0n
 have O1n := Lib.hid (O1.out.below HBN.out); clear O1; have O1 := O1n; clear O1n
 have O2n := Lib.hid (O2.out.below HBN.out); clear O2; have O2 := O2n; clear O2n
 clear HBN
 clear W2
 obtain ⟨c0, c1, c2, c3, c4, c5⟩ := W3.out.cells
 go_wp2_with fail
 (with_reducible refine (C4 A3 ka3 R3 ra3 S3 sa3 _ HT3 W3.out.gA W3.out.g0 W3.out.g1).mono ?_)
 clear c0 c1 c2 c3 c4 c5 C4
 rintro e w4 ⟨A4, ka4, R4, ra4, S4, sa4, rfl, ha, hs0, hs1, hb, hP⟩
 go_upto_region 6 with fail
 have hbx : Below w4.heap.size w4 ((w4.alloc (.cells #[.int .i64 2, .int .i64 2, .slice A4 n ka4, .int .u64 0, .slice R4 2 ra4, .slice S4 2 sa4] 33)).alloc (.cells #[.int .i64 0, .bool true, .int .i64 0, .int .u64 0, .slice none 0 0] 38)) := below_pair _ _ _
 have W4 := Lib.hid (WdAt.made (t := 2) (c := 2) (k := ka4) (r := 0) (ra := ra4) (sa := sa4) w4 (.cells #[.int .i64 0, .bool true, .int .i64 0, .int .u64 0, .slice none 0 0] 38) 33 ha hs0 hs1)
 have O4 := Lib.hid (VarAt.made1 w4 (.cells #[.int .i64 2, .int .i64 2, .slice A4 n ka4, .int .u64 0, .slice R4 2 ra4, .slice S4 2 sa4] 33) #[.int .i64 0, .bool true, .int .i64 0, .int .u64 0, .slice none 0 0] 38)
 have HBN := Lib.hid (hb.trans (hbx.mono hb.size))
 generalize (w4.alloc (.cells #[.int .i64 2, .int .i64 2, .slice A4 n ka4, .int .u64 0, .slice R4 2 ra4, .slice S4 2 sa4] 33)).alloc (.cells #[.int .i64 0, .bool true, .int .i64 0, .int .u64 0, .slice none 0 0] 38) = x4 at hbx HBN W4 O4 ⊢
 clear ha hs0 hs1 hb hP hbx
 obtain ⟨b4, hb4⟩ : ∃ b, w4.heap.size = b := ⟨_, rfl⟩
 rw [hb4] at W4 O4 ⊢
 clear hb4
 have HT4 := Tab.later HT3 HBN.out
 have BBn := Lib.hid (BB.out.trans (HBN.out.mono BB.out.size)); clear BB; have BB := BBn; clear BBn
 have W0n := Lib.hid (W0.out.later HBN.out); clear W0; have W0 := W0n; clear W0n
 have O1n := Lib.hid (O1.out.below HBN.out); clear O1; have O1 := O1n; clear O1n
 have O2n := Lib.hid (O2.out.below HBN.out); clear O2; have O2 := O2n; clear O2n
 have O3n := Lib.hid (O3.out.below HBN.out); clear O3; have O3 := O3n; clear O3n
 clear HBN
 clear W3
 obtain ⟨c0, c1, c2, c3, c4, c5⟩ := W4.out.cells
 go_wp2_with fail
 (with_reducible refine (C5 A4 ka4 R4 ra4 S4 sa4 _ HT4 W4.out.gA W4.out.g0 W4.out.g1).mono ?_)
 clear c0 c1 c2 c3 c4 c5 C5
 rintro e w5 ⟨A5, ka5, R5, ra5, S5, sa5, rfl, ha, hs0, hs1, hb, hP⟩
 go_upto_region 7 with fail
 have hbx : Below w5.heap.size w5 ((w5.alloc (.cells #[.int .i64 2, .int .i64 2, .slice A5 n ka5, .int .u64 0, .slice R5 2 ra5, .slice S5 2 sa5] 33)).alloc (.cells #[.int .i64 0, .bool false, .int .i64 0, .int .u64 0, .slice none 0 0] 38)) := below_pair _ _ _
 have W5 := Lib.hid (WdAt.made (t := 2) (c := 2) (k := ka5) (r := 0) (ra := ra5) (sa := sa5) w5 (.cells #[.int .i64 0, .bool false, .int .i64 0, .int .u64 0, .slice none 0 0] 38) 33 ha hs0 hs1)
 have O5 := Lib.hid (VarAt.made1 w5 (.cells #[.int .i64 2, .int .i64 2, .slice A5 n ka5, .int .u64 0, .slice R5 2 ra5, .slice S5 2 sa5] 33) #[.int .i64 0, .bool false, .int .i64 0, .int .u64 0, .slice none 0 0] 38)
 have HBN := Lib.hid (hb.trans (hbx.mono hb.size))
 generalize (w5.alloc (.cells #[.int .i64 2, .int .i64 2, .slice A5 n ka5, .int .u64 0, .slice R5 2 ra5, .slice S5 2 sa5] 33)).alloc (.cells #[.int .i64 0, .bool false, .int .i64 0, .int .u64 0, .slice none 0 0] 38) = x5 at hbx HBN W5 O5 ⊢
 clear ha hs0 hs1 hb hP hbx
 obtain ⟨b5, hb5⟩ : ∃ b, w5.heap.size = b := ⟨_, rfl⟩
 rw [hb5] at W5 O5 ⊢
 clear hb5
 have HT5 := Tab.later HT4 HBN.out
 have BBn := Lib.hid (BB.out.trans (HBN.out.mono BB.out.size)); clear BB; have BB := BBn; clear BBn
 have W0n := Lib.hid (W0.out.later HBN.out); clear W0; have W0 := W0n; clear W0n
 have O1n := Lib.hid (O1.out.below HBN.out); clear O1; have O1 := O1n; clear O1n
 have O2n := Lib.hid (O2.out.below HBN.out); clear O2; have O2 := O2n; clear O2n
 have O3n := Lib.hid (O3.out.below HBN.out); clear O3; have O3 := O3n; clear O3n
 have O4n := Lib.hid (O4.out.below HBN.out); clear O4; have O4 := O4n; clear O4n
 clear HBN
 clear W4
 obtain ⟨c0, c1, c2, c3, c4, c5⟩ := W0.out.cells
 go_wp2_with fail
 (with_reducible refine (C6 (some ⟨g0, 0, none⟩) n R0 ra0 S0 sa0 _ HT5 (Lib.hid W0.out.row.at_) (Lib.hid W0.out.s0) (Lib.hid W0.out.s1)).mono ?_)
 clear c0 c1 c2 c3 c4 c5 C6
 rintro e w6 ⟨A6, ka6, R6, ra6, S6, sa6, rfl, ha, hs0, hs1, hb, hP⟩
 go_upto_region 8 with fail
 have hbx : Below w6.heap.size w6 ((w6.alloc (.cells #[.int .i64 2, .int .i64 2, .slice A6 n ka6, .int .u64 0, .slice R6 2 ra6, .slice S6 2 sa6] 33)).alloc (.cells #[.int .i64 4, .bool false, .int .i64 0, .int .u64 0, .slice none 0 0] 38)) := below_pair _ _ _
 have W6 := Lib.hid (WdAt.made (t := 2) (c := 2) (k := ka6) (r := 0) (ra := ra6) (sa := sa6) w6 (.cells #[.int .i64 4, .bool false, .int .i64 0, .int .u64 0, .slice none 0 0] 38) 33 ha hs0 hs1)
 have O6 := Lib.hid (VarAt.made1 w6 (.cells #[.int .i64 2, .int .i64 2, .slice A6 n ka6, .int .u64 0, .slice R6 2 ra6, .slice S6 2 sa6] 33) #[.int .i64 4, .bool false, .int .i64 0, .int .u64 0, .slice none 0 0] 38)
 have HBN := Lib.hid (hb.trans (hbx.mono hb.size))
 clear W0
 generalize (w6.alloc (.cells #[.int .i64 2, .int .i64 2, .slice A6 n ka6, .int .u64 0, .slice R6 2 ra6, .slice S6 2 sa6] 33)).alloc (.cells #[.int .i64 4, .bool false, .int .i64 0, .int .u64 0, .slice none 0 0] 38) = x6 at hbx HBN W6 O6 ⊢
 clear ha hs0 hs1 hb hP hbx
 obtain ⟨b6, hb6⟩ : ∃ b, w6.heap.size = b := ⟨_, rfl⟩
 rw [hb6] at W6 O6 ⊢
 clear hb6
 have HT6 := Tab.later HT5 HBN.out
 have BBn := Lib.hid (BB.out.trans (HBN.out.mono BB.out.size)); clear BB; have BB := BBn; clear BBn
 have O1n := Lib.hid (O1.out.below HBN.out); clear O1; have O1 := O1n; clear O1n
 have O2n := Lib.hid (O2.out.below HBN.out); clear O2; have O2 := O2n; clear O2n
 have O3n := Lib.hid (O3.out.below HBN.out); clear O3; have O3 := O3n; clear O3n
 have O4n := Lib.hid (O4.out.below HBN.out); clear O4; have O4 := O4n; clear O4n
 have O5n := Lib.hid (O5.out.below HBN.out); clear O5; have O5 := O5n; clear O5n
 clear HBN
 clear W5 W6
 obtain ⟨_, ⟨o10, o11, o12, o13, o14⟩, _⟩ := O1.out.five
 obtain ⟨_, ⟨o20, o21, o22, o23, o24⟩, _⟩ := O2.out.five
 obtain ⟨_, ⟨o30, o31, o32, o33, o34⟩, _⟩ := O3.out.five
 obtain ⟨_, ⟨o40, o41, o42, o43, o44⟩, _⟩ := O4.out.five
 obtain ⟨_, ⟨o50, o51, o52, o53, o54⟩, _⟩ := O5.out.five
 obtain ⟨_, ⟨o60, o61, o62, o63, o64⟩, _⟩ := O6.out.five
 go_wp2_with fail
 go_ret
 exact ⟨rfl, BB.out⟩
end Go.Proofs.YtibpfkcackdbgaaGreatDoor
namespace Go.Proofs.YtibpfkcackdbgaaGreatDoor
open Go.ChangeShapes Go.WideShapes Go.ChangeAt Go.RowKit Go.BigFrame Go.Deep
set_option linter.unusedVariables false
set_option maxRecDepth 100000
def stepM (n : Nat) (K i : Int) (a b : Nat) (W : WS) : Option (Nat × Bool × WS) :=
 if 0 ≤ K ∧ K < 5 ∧ 0 ≤ i ∧ i < n then some (toldN K.toNat a b (W.1 i.toNat), false, (setW W.1 i.toNat (isN K.toNat a b (W.1 i.toNat)), W.2)) else none
def aloneM (p : Prd) (n : Nat) : Nat → List Res → WS → Option (Nat × WS)
 | 0, _, _ => none
 | f + 1, log, W =>
  match p.run tapeTellD log with
  | .bad => none
  | .done r _ => some (r, W)
  | .left K i a b d =>
   match stepM n K i a b W with
   | none => none
   | some (N, fl, W') => aloneM p n f (log ++ [⟨N, [], fl⟩]) W'
theorem stepM_lt {n : Nat} {K i : Int} {a b : Nat} {W : WS} {N : Nat} {fl : Bool} {W' : WS} (h : stepM n K i a b W = some (N, fl, W')) (hW : ∀ j, W.1 j < 18446744073709551616) : N < 18446744073709551616 := by
 unfold stepM at h
 split at h
 ·cases h; exact toldN_lt (b := b) (hW _)
 ·cases h
def DoSR (r : Nat) (w : World) (t c : Int) (A : Option Addr) (n : Nat) (R S : Option Addr) (m : Nat) (G : Nat → Nat) (l0 l1 : List Stm) (N : Nat) (fl : Bool) (e : Ending) (w' : World) : Prop :=
 ∃ A' ka R' ra S' sa X kx, e = .returned (.tuple #[.agg #[.int .i64 t, .int .i64 c, .slice A' n ka, .int .u64 (r : Int), .slice R' m ra, .slice S' m sa], .agg #[.int .u64 (N : Int), .slice X 0 kx, .bool fl]]) ∧ AtW w' A' n G ∧ StmsAt w' R' m l0 ∧ StmsAt w' S' m l1 ∧ Below w.heap.size w w' ∧
  ∀ P : Nat → Prop, (∀ b, w.heap.size ≤ b → P b) → OffW P A n → OffS P w R m → OffS P w S m → OffW P A' n ∧ OffS P w' R' m ∧ OffS P w' S' m
theorem DoSR.of {r : Nat} {w : World} {t c : Int} {A : Option Addr} {n : Nat} {R S : Option Addr} {m : Nat} {G : Nat → Nat} {l0 l1 : List Stm} {N : Nat} {fl : Bool} {e : Ending} {w' : World} (h : DoW w t c A n r R S m G l0 l1 N [] fl e w') : DoSR r w t c A n R S m G l0 l1 N fl e w' := by
 obtain ⟨A', ka', R', ra', S', sa', X, kx, rfl, h1, h2, h3, h4, h5, h6, h7⟩ := h
 exact ⟨A', ka', R', ra', S', sa', X, kx, rfl, h1, h2, h3, h6, fun P p0 p1 p2 p3 => ⟨(h7 P p0 p1 p2 p3).1, (h7 P p0 p1 p2 p3).2.1, (h7 P p0 p1 p2 p3).2.2.1⟩⟩
theorem doSR (r : Nat) (t c : Int) (A : Option Addr) (n ka : Nat) (G : Nat → Nat) (R S : Option Addr) (m ra sa : Nat) (l0 l1 : List Stm) (me : Nat) (hme : me < m) (hm8 : m ≤ 8) (K i : Int) (a b : Nat) (d : List Nat) (fa : Bool) (N : Nat) (fl : Bool) (W' : WS) (hn : n ≤ 1000000) (hs : stepM n K i a b (G, l0) = some (N, fl, W')) (D : Option Addr) (dc : Nat) (E : Option Addr) (ec : Nat) (x : World) (hx : AccP x (accD K i a b d) D dc E ec) (h0 : Hid (AtW x A n G)) (h1 : Hid (StmsAt x R m l0)) (h2 : Hid (StmsAt x S m l1)) :
  Calls Tryz.prog 34 #[.agg #[.int .i64 t, .int .i64 c, .slice A n ka, .int .u64 (r : Int), .slice R m ra, .slice S m sa], .int .i64 (me : Int), .agg #[.int .i64 K, .int .i64 i, .int .u64 (a : Int), .int .u64 (b : Int), .slice D d.length dc, .slice E 0 ec], .bool fa] x (DoSR r x t c A n R S m W'.1 W'.2 l1 N fl) := by
 unfold stepM at hs
 split at hs
 case isTrue hc =>
  cases hs
  obtain ⟨hk0, hk5, hi0, hin⟩ := hc
  obtain ⟨Kn, rfl⟩ : ∃ Kn : Nat, K = (Kn : Int) := ⟨K.toNat, by omega⟩
  obtain ⟨ix, rfl⟩ : ∃ ix : Nat, i = (ix : Int) := ⟨i.toNat, by omega⟩
  rw [Int.toNat_natCast, Int.toNat_natCast]
  exact (doWord t c A n ka G r R S m ra sa l0 l1 (me : Int) a b D d.length dc E 0 ec Kn ix (by omega) (by omega) hn h0.out.1 hx.a hx.b fa x h0 h1 h2).mono fun e w' h => DoSR.of h
 case isFalse => cases hs
def AloneR (r : Nat) (w : World) (t c : Int) (A : Option Addr) (n : Nat) (R S : Option Addr) (m : Nat) (G : Nat → Nat) (l0 l1 : List Stm) (er : Int) (oi : Bool) (M N : Nat) (e : Ending) (w' : World) : Prop :=
 ∃ A' ka R' ra S' sa, e = .returned (.tuple #[.agg #[.int .i64 t, .int .i64 c, .slice A' n ka, .int .u64 (r : Int), .slice R' m ra, .slice S' m sa], .agg #[.int .i64 er, .bool oi, .int .i64 (M : Int), .int .u64 (N : Int), .slice none 0 0], .bool true]) ∧ AtW w' A' n G ∧ StmsAt w' R' m l0 ∧ StmsAt w' S' m l1 ∧ Below w.heap.size w w' ∧
  ∀ P, From w w.heap.size A n R S m P → OffW P A' n ∧ OffS P w' R' m ∧ OffS P w' S' m
section
variable {m : Nat}
set_option maxHeartbeats 16000000 in
set_option maxRecDepth 100000 in
theorem vAloneR_at (r : Nat) (t : Nat) (ht : t ≤ 64) (me : Nat) (hme : me < m) (c k u v : Int) (q : Nat) (most : Nat) (hm : most ≤ 1000) (A : Option Addr) (n ka : Nat) (R : Option Addr) (ra : Nat) (S : Option Addr) (sa : Nat) (hn : n ≤ 1000000) (hm8 : m ≤ 8) (G : Nat → Nat) (l0 l1 : List Stm) (N : Nat) (WF : WS)
  (hrun : aloneM (vPrg t me k u 2000) n (most + 1) [] (G, l0) = some (N, WF)) (w : World) (HTab : Hid (Tab w)) (HA : Hid (AtW w A n G)) (H0 : Hid (StmsAt w R m l0)) (H1 : Hid (StmsAt w S m l1)) :
  Calls Tryz.prog 33 #[.agg #[.int .i64 (t : Int), .int .i64 c, .slice A n ka, .int .u64 (r : Int), .slice R m ra, .slice S m sa], .int .i64 (me : Int), .agg #[.int .i64 k, .int .i64 u, .int .i64 v, .int .u64 (q : Int)], .int .i64 (most : Int)] w (AloneR r w t c A n R S m WF.1 WF.2 l1 (vErr N) (vIs N) 0 0) := by
 have HME := Lib.hid (show me < 1000000 by omega)
 have hPP : ∀ log : List Res, log.length < 2000 → vNextR t me k u log = (vPrg t me k u 2000).run tapeTellD log := fun log h => vNextR_same h
 generalize vPrg t me k u 2000 = PP at *
 have HL : ∀ (la : Option Addr) (j cap : Nat) (log : List Res) (x : World), j ≤ cap → Tab x → Hid (LogAt x la j log) → log.length < 2000 → ∀ K i a b d, PP.run tapeTellD log = .left K i a b d → Calls Tryz.prog 30 #[.int .i64 (t : Int), .int .i64 c, .int .i64 (me : Int), .agg #[.int .i64 k, .int .i64 u, .int .i64 v, .int .u64 (q : Int)], .slice la j cap] x (NextS K i a b d x) := by
  intro la j cap log x hc htx hl hz K i a b d hN
  rw [← hPP log hz] at hN
  refine (vNext_left t ht c me (by have := HME.out; omega) k u v q la j cap log hc x htx hl K i a b d hN).mono ?_
  rintro e w' ⟨D, dc, E, ec, rfl, hX, hb, _, _⟩
  exact ⟨D, dc, E, ec, rfl, hX, hb⟩
 have HD : ∀ (la : Option Addr) (j cap : Nat) (log : List Res) (x : World), j ≤ cap → Tab x → Hid (LogAt x la j log) → log.length < 2000 → ∀ r' s, PP.run tapeTellD log = .done r' s → Calls Tryz.prog 30 #[.int .i64 (t : Int), .int .i64 c, .int .i64 (me : Int), .agg #[.int .i64 k, .int .i64 u, .int .i64 v, .int .u64 (q : Int)], .slice la j cap] x (RunE (vErr r') (vIs r') 0 0 x) :=
  fun la j cap log x hc htx hl hz r' s hN => vNext_done t ht c me (by have := HME.out; omega) k u v q la j cap log hc x htx hl r' s (by rw [hPP log hz]; exact hN)
 have HDO := fun (A : Option Addr) (ka : Nat) (G : Nat → Nat) (R : Option Addr) (ra : Nat) (S : Option Addr) (sa : Nat) (l0 : List Stm) (K i : Int) (a b : Nat) (d : List Nat) (fa : Bool) (N : Nat) (fl : Bool) (W' : WS) hs D dc E ec x hx h0 h1 h2 => doSR r (t : Int) c A n ka G R S m ra sa l0 l1 me hme hm8 K i a b d fa N fl W' hn hs D dc E ec x hx h0 h1 h2
 have HM := Lib.hid hm
 have HRUN := Lib.hid hrun
 clear hrun ht hm hPP hme hm8
 go_enter Tryz.func33, Tryz.ntmps33
 go_upto_region 2 with fail
 refine gen_w (P := fun W => Code.wp _ _ _ _ W) (fun y => RunA w w.heap.size (w.heap.size + 1 + 1 + 1 + 1) (From w (w.heap.size + 1 + 1 + 1 + 1) A n R S m) [(w.heap.size + 1, [.int .i64 k, .int .i64 u, .int .i64 v, .int .u64 (q : Int)]), (w.heap.size + 1 + 1, [.int .i64 0, .int .i64 0, .slice none 0 0, .int .u64 0, .slice none 0 0, .slice none 0 0]), (w.heap.size + 1 + 1 + 1, [.int .i64 0, .bool false, .int .i64 0, .int .u64 0, .slice none 0 0])] t c n r m l0 l1 (.slice none 0 0) [] G y) ⟨belA, by simp, by omega, ?vars, ?vlt, ?run, ⟨[], World.ownsRow_nil _ _ _ _, LogRaw.nil _ _⟩⟩ ?_
 case vars =>
  intro p hp
  simp only [List.mem_cons, List.not_mem_nil, or_false] at hp
  rcases hp with rfl | rfl | rfl
  ·exact VarAt.mk4 (by simp <;> omega)
  ·exact VarAt.of6 (by simp <;> omega) (by go_simp) (by go_simp) (by go_simp) (by go_simp) (by go_simp) (by go_simp) (by go_simp) (by go_simp) (by go_simp) (by go_simp) (by go_simp) (by go_simp)
  ·exact VarAt.mk5 (by simp <;> omega)
 case vlt =>
  intro p hp
  simp only [List.mem_cons, List.not_mem_nil, or_false] at hp
  rcases hp with rfl | rfl | rfl <;> simp only [] <;> omega
 case run =>
  have hb : Below w.heap.size w ((((w.alloc (.cells #[.int .i64 (t : Int), .int .i64 c, .slice A n ka, .int .u64 (r : Int), .slice R m ra, .slice S m sa] 33)).alloc (.cells #[.int .i64 k, .int .i64 u, .int .i64 v, .int .u64 (q : Int)] 42)).alloc (.cells #[.int .i64 0, .int .i64 0, .slice none 0 0, .int .u64 0, .slice none 0 0, .slice none 0 0] 33)).alloc (.cells #[.int .i64 0, .bool false, .int .i64 0, .int .u64 0, .slice none 0 0] 38)) := belA
  have nt : ∀ b, b < w.heap.size → Nt w.heap.size w.heap.size (.slice none 0 0) b := fun b hb => ⟨by omega, by omega, fun k hk => by cases hk⟩
  exact ⟨A, ka, R, ra, S, sa, ⟨VarAt.of6 (by simp <;> omega) (by go_simp) (by go_simp) (by go_simp) (by go_simp) (by go_simp) (by go_simp) (by go_simp) (by go_simp) (by go_simp) (by go_simp) (by go_simp) (by go_simp), HA.out.later hb, H0.out.later hb, H1.out.later hb⟩, HA.out.old.mono nt, (H0.out.old.mono nt).later H0.out hb, (H1.out.old.mono nt).later H1.out hb, fun P hF => ⟨hF.2.1, hF.2.2.1.later H0.out hb, hF.2.2.2.later H1.out hb⟩⟩
 rintro y hy
 have HZ := Lib.hid hy
 clear hy
 obtain ⟨Nw, hNw⟩ : ∃ N, w.heap.size = N := ⟨_, rfl⟩
 rw [hNw] at HZ ⊢
 have HNW := Lib.hid hNw
 clear hNw
 go_wp2_with fail
 go_loopw [11, 12] (fun u11 u12 wr => ∃ (j : Nat) (log : List Res) (G : Nat → Nat) (l0 : List Stm), u12 = .int .i64 (j : Int) ∧ log.length = j ∧ aloneM PP n (most + 1 - j) log (G, l0) = some (N, WF) ∧ RunA w Nw (Nw + 1 + 1 + 1 + 1) (From w (Nw + 1 + 1 + 1 + 1) A n R S m) [(Nw + 1, [.int .i64 k, .int .i64 u, .int .i64 v, .int .u64 (q : Int)]), (Nw + 1 + 1, [.int .i64 0, .int .i64 0, .slice none 0 0, .int .u64 0, .slice none 0 0, .slice none 0 0]), (Nw + 1 + 1 + 1, [.int .i64 0, .bool false, .int .i64 0, .int .u64 0, .slice none 0 0])] t c n r m l0 l1 u11 log G wr) (fun _ i _ => most + 1 - (intOf i).toNat)
 case atStart => exact ⟨0, [], G, l0, rfl, rfl, HRUN.out, HZ.out⟩
 case round =>
  clear HZ HRUN
  have HOS : Hid (StmsAt w R m l0) := H0
  clear y
  obtain ⟨j, log, G, l0, rfl, hlen, hR, hrun⟩ := hrel
  have HR := Lib.hid hrun
  clear hrun
  have hjm : j ≤ most := by
   rcases Nat.lt_or_ge most j with h | h
   ·rw [show most + 1 - j = 0 by omega] at hR; cases hR
   ·exact h
  obtain ⟨f, hf⟩ : ∃ f, most + 1 - j = f + 1 := ⟨most - j, by omega⟩
  rw [hf] at hR
  have d1 : decide ((j : Int) ≤ (most : Int)) = true := by rw [decide_eq_true_iff]; omega
  have d1' : decide (j ≤ most) = true := by rw [decide_eq_true_iff]; omega
  obtain ⟨vs, hown, hraw⟩ := HR.out.log
  rw [hlen] at hown
  obtain ⟨la, cap, rfl, hcap, hlog, _⟩ := hraw.raw.at_ hown (by have := HM.out; omega)
  have HOWN := Lib.hid hown
  have HRAW := Lib.hid hraw
  have HLEN := Lib.hid hlen
  have HLOG := Lib.hid hlog
  have HF := Lib.hid hf
  have HV := Lib.hid HR.out.vars
  obtain ⟨A1, ka1, R1, ra1, S1, sa1, hW, o0, o1, o2, hP⟩ := HR.out.run
  have W1 := Lib.hid hW
  have O1 := Lib.hid (And.intro o0 (And.intro o1 (And.intro o2 hP)))
  have HBW := Lib.hid HR.out.below
  have HSZ := Lib.hid HR.out.size
  clear hlog hown hraw hW o0 o1 o2 hP hf HR
  obtain ⟨c0, c1, c2, c3, c4, c5⟩ := W1.out.cells
  have v1 := HV.out (Nw + 1, [.int .i64 k, .int .i64 u, .int .i64 v, .int .u64 (q : Int)]) (by simp)
  obtain ⟨b0, b1, b2, b3⟩ : wr.cell? ⟨Nw + 1, 0, none⟩ = some (.int .i64 k) ∧ wr.cell? ⟨Nw + 1, 1, none⟩ = some (.int .i64 u) ∧ wr.cell? ⟨Nw + 1, 2, none⟩ = some (.int .i64 v) ∧ wr.cell? ⟨Nw + 1, 3, none⟩ = some (.int .u64 (q : Int)) := ⟨v1.2.1 0 _ rfl, v1.2.1 1 _ rfl, v1.2.1 2 _ rfl, v1.2.1 3 _ rfl⟩
  clear v1
  unfold aloneM at hR
  have hz : log.length < 2000 := by have := HM.out; omega
  have htb := HTab.out.below HBW.out HTab.out.pos
  cases hN : PP.run tapeTellD log with
  | bad => rw [hN] at hR; cases hR
  | done r' s =>
   rw [hN] at hR
   cases hR
   have HDj := HD la j cap log wr hcap htb HLOG hz _ _ hN
   clear hN HD HL HDO hz hlen hcap htb
   go_wp2_with fail
   (with_reducible refine HDj.mono ?_)
   clear HDj
   rintro e w3 ⟨rfl, hb3⟩
   go_upto_region 7 with fail
   have hbx3 : Below w3.heap.size w3 ((w3.alloc (.cells #[.int .i64 0, .int .i64 0, .int .u64 0, .int .u64 0, .slice none 0 0, .slice none 0 0] 70)).alloc (.cells #[.int .i64 (vErr N), .bool (vIs N), .int .i64 0, .int .u64 0, .slice none 0 0] 38)) := below_pair _ _ _
   have V3 := VarAt.made1 w3 (.cells #[.int .i64 0, .int .i64 0, .int .u64 0, .int .u64 0, .slice none 0 0, .slice none 0 0] 70) #[.int .i64 (vErr N), .bool (vIs N), .int .i64 0, .int .u64 0, .slice none 0 0] 38
   have BX := hb3.trans (hbx3.mono hb3.size)
   generalize (w3.alloc (.cells #[.int .i64 0, .int .i64 0, .int .u64 0, .int .u64 0, .slice none 0 0, .slice none 0 0] 70)).alloc (.cells #[.int .i64 (vErr N), .bool (vIs N), .int .i64 0, .int .u64 0, .slice none 0 0] 38) = x3 at hbx3 V3 BX ⊢
   have W3 := Lib.hid (W1.out.later BX)
   have hV3 := HV.out.below BX
   have HBW3 := Lib.hid (HBW.out.trans (BX.mono HBW.out.size))
   have OP3 : Hid (∀ P, From w (Nw + 1 + 1 + 1 + 1) A n R S m P → OffW P A1 n ∧ OffS P x3 R1 m ∧ OffS P x3 S1 m) := Lib.hid (fun P hF => ⟨(O1.out.2.2.2 P hF).1, (O1.out.2.2.2 P hF).2.1.later W1.out.2.2.1 BX, (O1.out.2.2.2 P hF).2.2.later W1.out.2.2.2 BX⟩)
   have hs3 : Nw + 1 + 1 + 1 + 1 ≤ w3.heap.size := Nat.le_trans HSZ.out hb3.size
   have HS3 := Lib.hid hs3
   obtain ⟨_, ⟨e1, e2, e3, e4, e5⟩, _⟩ := V3.five
   obtain ⟨m8, ⟨p0, p1, p2, p3, p4, p5⟩, q0, q1, q2, q3, q4, q5⟩ := (hV3 (Nw + 1 + 1, [.int .i64 0, .int .i64 0, .slice none 0 0, .int .u64 0, .slice none 0 0, .slice none 0 0]) (by simp)).six
   obtain ⟨m9, ⟨s1, s2, s3, s4, s5⟩, z1, z2, z3, z4, z5⟩ := (hV3 (Nw + 1 + 1 + 1, [.int .i64 0, .bool false, .int .i64 0, .int .u64 0, .slice none 0 0]) (by simp)).five
   clear hb3 hbx3 V3 BX hV3 c0 c1 c2 c3 c4 c5 b0 b1 b2 b3
   obtain ⟨c0, c1, c2, c3, c4, c5⟩ := W3.out.cells
   generalize w3.heap.size = b14 at e1 e2 e3 e4 e5 hs3 HS3 ⊢
   have n1 : ¬ (b14 + 1 = Nw + 1 + 1) := by omega
   have n2 : ¬ (Nw + 1 + 1 = b14 + 1) := by omega
   have n3 : ¬ (b14 + 1 = Nw + 1 + 1 + 1) := by omega
   have n4 : ¬ (Nw + 1 + 1 + 1 = b14 + 1) := by omega
   go_region
   all_goals
    go_wp2_with fail
    have hnw := HNW.out
    have hbw := HBW3.out
    have hPP := OP3.out (fun b => b < Nw ∨ Nw + 1 + 1 + 1 + 1 ≤ b) ⟨fun b hb => .inr hb, HA.out.old.mono fun b hb => .inl (by omega), H0.out.old.mono fun b hb => .inl (by omega), H1.out.old.mono fun b hb => .inl (by omega)⟩
    exact bodyPost_ret (v := .tuple #[.agg #[.int .i64 (t : Int), .int .i64 c, .slice A1 n ka1, .int .u64 (r : Int), .slice R1 m ra1, .slice S1 m sa1], .agg #[.int .i64 (vErr N), .bool (vIs N), .int .i64 0, .int .u64 0, .slice none 0 0], .bool true]) (by simp [results, Tryz.results33, go_sem, p0, p1, p2, p3, p4, p5, s1, s2, s3, s4, s5]) rfl
     ⟨A1, ka1, R1, ra1, S1, sa1, rfl, W3.out.2.1.keep (Q := fun b => b < Nw ∨ Nw + 1 + 1 + 1 + 1 ≤ b) (by repeat (first | with_reducible exact Keep.refl _ _ | with_reducible refine Keep.drew ?_ | with_reducible refine Keep.alloc ?_ _ | (with_reducible refine Keep.set ?_ _ _ _ (by omega)))) hPP.1, W3.out.2.2.1.keep (Q := fun b => b < Nw ∨ Nw + 1 + 1 + 1 + 1 ≤ b) (by repeat (first | with_reducible exact Keep.refl _ _ | with_reducible refine Keep.drew ?_ | with_reducible refine Keep.alloc ?_ _ | (with_reducible refine Keep.set ?_ _ _ _ (by omega)))) hPP.2.1, W3.out.2.2.2.keep (Q := fun b => b < Nw ∨ Nw + 1 + 1 + 1 + 1 ≤ b) (by repeat (first | with_reducible exact Keep.refl _ _ | with_reducible refine Keep.drew ?_ | with_reducible refine Keep.alloc ?_ _ | (with_reducible refine Keep.set ?_ _ _ _ (by omega)))) hPP.2.2, (by repeat (first | with_reducible assumption | with_reducible refine Below.drew ?_ | with_reducible refine below_al ?_ | (with_reducible refine below_set1 (by omega) _ ?_))), fun P hF => ⟨(OP3.out P ⟨fun b hb => hF.1 b (by omega), hF.2⟩).1, (OP3.out P ⟨fun b hb => hF.1 b (by omega), hF.2⟩).2.1.keep W3.out.2.2.1 (Q := fun b => b < Nw ∨ Nw + 1 + 1 + 1 + 1 ≤ b) (by repeat (first | with_reducible exact Keep.refl _ _ | with_reducible refine Keep.drew ?_ | with_reducible refine Keep.alloc ?_ _ | (with_reducible refine Keep.set ?_ _ _ _ (by omega)))) hPP.2.1, (OP3.out P ⟨fun b hb => hF.1 b (by omega), hF.2⟩).2.2.keep W3.out.2.2.2 (Q := fun b => b < Nw ∨ Nw + 1 + 1 + 1 + 1 ≤ b) (by repeat (first | with_reducible exact Keep.refl _ _ | with_reducible refine Keep.drew ?_ | with_reducible refine Keep.alloc ?_ _ | (with_reducible refine Keep.set ?_ _ _ _ (by omega)))) hPP.2.2⟩⟩
  | left K i a b d =>
   rw [hN] at hR
   dsimp only at hR
   cases hst : stepM n K i a b (G, l0) with
   | none => rw [hst] at hR; cases hR
   | some qq =>
   obtain ⟨N5, fl5, W5⟩ := qq
   rw [hst] at hR
   dsimp only at hR
   obtain ⟨G5, l5⟩ := W5
   have hj1 : j < most := by
    cases f with
    | zero => cases hR
    | succ f => have := HF.out; omega
   have HJ1 := Lib.hid hj1
   have HLj := HL la j cap log wr hcap htb HLOG hz _ _ _ _ _ hN
   have HDj := fun D dc E ec x hx h0 h1 h2 => HDO A1 ka1 G R1 ra1 S1 sa1 l0 K i a b d false N5 fl5 (G5, l5) hst D dc E ec x hx h0 h1 h2
   have HN5 := Lib.hid (stepM_lt hst W1.out.2.1.1)
   have HRN := Lib.hid hR
   clear hN HD HL HDO hz hlen hcap hst hR htb
   obtain ⟨nd, hnd⟩ : ∃ m, d.length = m := ⟨_, rfl⟩
   unfold NextS at HLj
   rw [hnd] at HLj HDj
   clear hnd
   go_wp2_with fail
   (with_reducible refine HLj.mono ?_)
   clear HLj
   rintro e w3 ⟨D3, dc3, E3, ec3, rfl, ha3, hb3⟩
   go_upto_region 8 with fail
   have hbx3 : Below w3.heap.size w3 ((w3.alloc (.cells #[.int .i64 K, .int .i64 i, .int .u64 (a : Int), .int .u64 (b : Int), .slice D3 nd dc3, .slice E3 0 ec3] 70)).alloc (.cells #[.int .i64 0, .bool false, .int .i64 0, .int .u64 0, .slice none 0 0] 38)) := below_pair _ _ _
   have V3 := (VarAt.made w3 #[.int .i64 K, .int .i64 i, .int .u64 (a : Int), .int .u64 (b : Int), .slice D3 nd dc3, .slice E3 0 ec3] 70).below (al_below _ (.cells #[.int .i64 0, .bool false, .int .i64 0, .int .u64 0, .slice none 0 0] 38))
   have BX := hb3.trans (hbx3.mono hb3.size)
   generalize (w3.alloc (.cells #[.int .i64 K, .int .i64 i, .int .u64 (a : Int), .int .u64 (b : Int), .slice D3 nd dc3, .slice E3 0 ec3] 70)).alloc (.cells #[.int .i64 0, .bool false, .int .i64 0, .int .u64 0, .slice none 0 0] 38) = x3 at hbx3 V3 BX ⊢
   generalize w3.heap.size = b14 at V3 ⊢
   have W3 := Lib.hid (W1.out.later BX)
   have HAP := ha3.later hbx3
   have HV3 := Lib.hid (HV.out.below BX)
   have HBW3 := Lib.hid (HBW.out.trans (BX.mono HBW.out.size))
   have O3 := Lib.hid (And.intro O1.out.1 (And.intro (O1.out.2.1.later W1.out.2.2.1 BX) (O1.out.2.2.1.later W1.out.2.2.2 BX)))
   have OP3 : Hid (∀ P, From w (Nw + 1 + 1 + 1 + 1) A n R S m P → OffW P A1 n ∧ OffS P x3 R1 m ∧ OffS P x3 S1 m) := Lib.hid (fun P hF => ⟨(O1.out.2.2.2 P hF).1, (O1.out.2.2.2 P hF).2.1.later W1.out.2.2.1 BX, (O1.out.2.2.2 P hF).2.2.later W1.out.2.2.2 BX⟩)
   have HOWN3 := Lib.hid (ownsRow_laterR HOWN.out BX)
   have HRAW3 := Lib.hid (HRAW.out.later BX)
   have HSZ3 := Lib.hid (Nat.le_trans HSZ.out BX.size)
   obtain ⟨_, ⟨a0, a1, a2, a3, a4, a5⟩, _⟩ := V3.six
   clear hb3 hbx3 V3 BX c0 c1 c2 c3 c4 c5 b0 b1 b2 b3 W1 HV HBW O1 HOWN HRAW HSZ HLOG
   obtain ⟨c0, c1, c2, c3, c4, c5⟩ := W3.out.cells
   go_wp2_with fail
   clear c0 c1 c2 c3 c4 c5 a0 a1 a2 a3 a4 a5
   (with_reducible refine (HDj _ _ _ _ _ HAP W3.out.gA W3.out.g0 W3.out.g1).mono ?_)
   clear HDj
   rintro e w5 ⟨A5, k5, R5, ra5, S5, sa5, X5, kx5, rfl, ha, hs0, hs1, hb, hP⟩
   go_upto_region 9 with fail
   have hbx5 : Below w5.heap.size w5 ((w5.alloc (.cells #[.int .i64 (t : Int), .int .i64 c, .slice A5 n k5, .int .u64 (r : Int), .slice R5 m ra5, .slice S5 m sa5] 33)).alloc (.cells #[.int .u64 (N5 : Int), .slice X5 0 kx5, .bool fl5] 81)) := below_pair _ _ _
   have W5 := Lib.hid (WdAt.made (t := (t : Int)) (c := c) (k := k5) (r := r) (ra := ra5) (sa := sa5) w5 (.cells #[.int .u64 (N5 : Int), .slice X5 0 kx5, .bool fl5] 81) 33 ha hs0 hs1)
   have V5 := Lib.hid (VarAt.made1 w5 (.cells #[.int .i64 (t : Int), .int .i64 c, .slice A5 n k5, .int .u64 (r : Int), .slice R5 m ra5, .slice S5 m sa5] 33) #[.int .u64 (N5 : Int), .slice X5 0 kx5, .bool fl5] 81)
   have hbn5 := hb.trans (hbx5.mono hb.size)
   have OS5 := Lib.hid hs0
   have OT5 := Lib.hid hs1
   generalize (w5.alloc (.cells #[.int .i64 (t : Int), .int .i64 c, .slice A5 n k5, .int .u64 (r : Int), .slice R5 m ra5, .slice S5 m sa5] 33)).alloc (.cells #[.int .u64 (N5 : Int), .slice X5 0 kx5, .bool fl5] 81) = x5 at hbx5 W5 V5 hbn5 ⊢
   have hgx : Nw < x3.heap.size := W3.out.1.1
   have hvb : ∀ k, (Value.slice la j cap).ownBlock = some k → k < x3.heap.size := fun k hk => (HOWN3.out.lt k hk).2
   have O5 : Hid (OffW (Nt Nw Nw (.slice la j cap)) A5 n ∧ OffS (Nt Nw Nw (.slice la j cap)) x5 R5 m ∧ OffS (Nt Nw Nw (.slice la j cap)) x5 S5 m) := Lib.hid (by
    obtain ⟨q0, q1, q2⟩ := hP (Nt Nw Nw (.slice la j cap)) (fun b hb => ⟨by omega, by omega, fun k hk => by have := hvb k hk; omega⟩) O3.out.1 O3.out.2.1 O3.out.2.2
    exact ⟨q0, q1.later hs0 hbx5, q2.later hs1 hbx5⟩)
   have OP5 : Hid (∀ P, From w (Nw + 1 + 1 + 1 + 1) A n R S m P → OffW P A5 n ∧ OffS P x5 R5 m ∧ OffS P x5 S5 m) := Lib.hid (fun P hF => by
    obtain ⟨q0, q1, q2⟩ := OP3.out P hF
    obtain ⟨q3, q4, q5⟩ := hP P (fun b hb => hF.1 b (Nat.le_trans HSZ3.out hb)) q0 q1 q2
    exact ⟨q3, q4.later hs0 hbx5, q5.later hs1 hbx5⟩)
   have h5s : x3.heap.size ≤ w5.heap.size := hb.size
   have h5x : w5.heap.size + 1 < x5.heap.size := V5.out.1
   clear ha hs0 hs1 hb hP hbx5 OS5 OT5 hgx hvb OP3
   generalize w5.heap.size = b17 at W5 V5 h5s h5x ⊢
   have WX := Lib.hid (W3.out.1.below hbn5)
   have HOWNn := Lib.hid (ownsRow_laterR HOWN3.out hbn5); clear HOWN3; have HOWN := HOWNn; clear HOWNn
   have HRAWn := Lib.hid (HRAW3.out.later hbn5); clear HRAW3; have HRAW := HRAWn; clear HRAWn
   have HV5 := Lib.hid (HV3.out.below hbn5)
   have HBW5 := Lib.hid (HBW3.out.trans (hbn5.mono HBW3.out.size))
   have HSZ5 := Lib.hid (Nat.le_trans HSZ3.out hbn5.size)
   have hgx3 : Nw < x3.heap.size := W3.out.1.1
   clear hbn5 W3 HV3 HBW3 O3
   have n5 : ¬ (b17 = Nw) := by omega
   have n7 : ¬ (b17 + 1 = Nw) := by omega
   have n15 : ¬ (Nw = b17) := by omega
   have hs35 := HSZ3.out
   obtain ⟨_, ⟨c0, c1, c2, c3, c4, c5⟩, _⟩ := W5.out.1.six
   obtain ⟨_, g0, g1, g2, _⟩ := V5.out.three
   obtain ⟨zx, ⟨x0, x1, x2, x3', x4', x5'⟩, y0, y1, y2, y3, y4, y5⟩ := WX.out.six
   go_upto_region 10 with fail
   have hrow : ∀ k, (Value.slice la j cap).ownBlock = some k → Nw + 1 + 1 + 1 + 1 ≤ k := fun k hk => (HOWN.out.lt k hk).1
   have hbw5 := HBW5.out
   have hsz5 := HSZ5.out
   have hnw := HNW.out
   have hlen := HLEN.out
   refine gen_w (P := fun W => Code.wp _ _ _ _ W) (fun z => RunZA w Nw (Nw + 1 + 1 + 1 + 1) (From w (Nw + 1 + 1 + 1 + 1) A n R S m) [(Nw + 1, [.int .i64 k, .int .i64 u, .int .i64 v, .int .u64 (q : Int)]), (Nw + 1 + 1, [.int .i64 0, .int .i64 0, .slice none 0 0, .int .u64 0, .slice none 0 0, .slice none 0 0]), (Nw + 1 + 1 + 1, [.int .i64 0, .bool false, .int .i64 0, .int .u64 0, .slice none 0 0])] t c n r m l5 l1 (.slice la j cap) log vs X5 kx5 N5 G5 z ∧ VarAt z (b17 + 1) [.int .u64 (N5 : Int), .slice X5 0 kx5, .bool fl5]) ⟨⟨(by repeat (first | with_reducible exact hbw5 | with_reducible refine Below.drew ?_ | with_reducible refine below_al ?_ | (with_reducible refine below_set1 (by omega) _ ?_))), by simp; omega, by omega, (by have hv := HV5.out; repeat (first | with_reducible exact hv | (with_reducible refine Vars.apart ?_ _ _ (by intro p hp; simp only [List.mem_cons, List.not_mem_nil, or_false] at hp; rcases hp with rfl | rfl | rfl <;> simp only [] <;> omega)))), (by intro p hp; simp only [List.mem_cons, List.not_mem_nil, or_false] at hp; rcases hp with rfl | rfl | rfl <;> simp only [] <;> omega), ⟨A5, k5, R5, ra5, S5, sa5, ⟨VarAt.of6 (by simp; omega) (by go_simp) (by go_simp) (by go_simp) (by go_simp) (by go_simp) (by go_simp) (by go_simp) (by go_simp) (by go_simp) (by go_simp) (by go_simp) (by go_simp), W5.out.2.1.keep (by repeat (first | with_reducible exact Keep.refl _ _ | with_reducible refine Keep.drew ?_ | with_reducible refine Keep.alloc ?_ _ | (with_reducible refine Keep.set ?_ _ _ _ (by unfold Nt; omega)))) O5.out.1, W5.out.2.2.1.keep (by repeat (first | with_reducible exact Keep.refl _ _ | with_reducible refine Keep.drew ?_ | with_reducible refine Keep.alloc ?_ _ | (with_reducible refine Keep.set ?_ _ _ _ (by unfold Nt; omega)))) O5.out.2.1, W5.out.2.2.2.keep (by repeat (first | with_reducible exact Keep.refl _ _ | with_reducible refine Keep.drew ?_ | with_reducible refine Keep.alloc ?_ _ | (with_reducible refine Keep.set ?_ _ _ _ (by unfold Nt; omega)))) O5.out.2.2⟩, O5.out.1, O5.out.2.1.keep W5.out.2.2.1 (by repeat (first | with_reducible exact Keep.refl _ _ | with_reducible refine Keep.drew ?_ | with_reducible refine Keep.alloc ?_ _ | (with_reducible refine Keep.set ?_ _ _ _ (by unfold Nt; omega)))) O5.out.2.1, O5.out.2.2.keep W5.out.2.2.2 (by repeat (first | with_reducible exact Keep.refl _ _ | with_reducible refine Keep.drew ?_ | with_reducible refine Keep.alloc ?_ _ | (with_reducible refine Keep.set ?_ _ _ _ (by unfold Nt; omega)))) O5.out.2.2, fun P hF => ⟨(OP5.out P hF).1, (OP5.out P hF).2.1.keep W5.out.2.2.1 (by repeat (first | with_reducible exact Keep.refl _ _ | with_reducible refine Keep.drew ?_ | with_reducible refine Keep.alloc ?_ _ | (with_reducible refine Keep.set ?_ _ _ _ (by unfold Nt; omega)))) O5.out.2.1, (OP5.out P hF).2.2.keep W5.out.2.2.2 (by repeat (first | with_reducible exact Keep.refl _ _ | with_reducible refine Keep.drew ?_ | with_reducible refine Keep.alloc ?_ _ | (with_reducible refine Keep.set ?_ _ _ _ (by unfold Nt; omega)))) O5.out.2.2⟩⟩, by rw [hlen]; exact (by repeat (first | with_reducible exact HOWN.out | (with_reducible refine ownsRow_apart ?_ _ _ _ (by omega)))), HRAW.out.keep (by repeat (first | with_reducible exact Keep.refl _ _ | with_reducible refine Keep.drew ?_ | with_reducible refine Keep.alloc ?_ _ | (with_reducible refine Keep.set ?_ _ _ _ (by unfold Nt; omega)))), HN5.out⟩, (by repeat (first | with_reducible exact V5.out | (with_reducible refine VarAt.apart ?_ _ _ (by omega))))⟩ ?_
   rintro z ⟨k0, k1⟩
   obtain ⟨zz, g0, g1, g2, _⟩ := k1.three
   have KZ := Lib.hid k0
   have HOZ : Hid (∀ o, (z.alloc o).ownsRow (Nw + 1 + 1 + 1 + 1) 81 3 (.slice la j cap) j vs) := Lib.hid (fun o => by have h := (k0.later (al_below z o)).own; rw [hlen] at h; exact h)
   have hjk : j ≤ 1000 := by have := HM.out; omega
   have HJ : Hid (j ≤ 900000) := Lib.hid (by have := HM.out; omega)
   have HLQ : Hid (log.length = j) := HLEN
   clear k0 k1 c0 c1 c2 c3 c4 c5 zx x0 x1 x2 x3' x4' x5' y0 y1 y2 y3 y4 y5 hrow hbw5 hsz5 hnw h5s h5x hgx3 hs35
   clear WX W5 V5 HOWN HRAW HV5 HBW5 O5 OP5
   go_wp2_with (at_builtin; (refine wpList_appendR1 (by rfl) (.tmp 48) (.tmp 50) (by rfl) (Nw + 1 + 1 + 1 + 1) (.slice la j cap) j vs (by rfl) (HOZ.out _) z.heap.size 1 ⟨N5, [], fl5⟩ X5 kx5 (by rfl) (by go_simp) (by go_simp) (by go_simp) HJ.out (by have := KZ.out.size; simp; omega) ?_); (intro v9 w9 hown9 hg9 hv9; have HNX : Hid (RunA w Nw (Nw + 1 + 1 + 1 + 1) (From w (Nw + 1 + 1 + 1 + 1) A n R S m) [(Nw + 1, [.int .i64 k, .int .i64 u, .int .i64 v, .int .u64 (q : Int)]), (Nw + 1 + 1, [.int .i64 0, .int .i64 0, .slice none 0 0, .int .u64 0, .slice none 0 0, .slice none 0 0]), (Nw + 1 + 1 + 1, [.int .i64 0, .bool false, .int .i64 0, .int .u64 0, .slice none 0 0])] t c n r m l5 l1 v9 (log ++ [⟨N5, [], fl5⟩]) G5 w9) := Lib.hid ((KZ.out.later (al_below z _)).nextF (by rw [HLQ.out]; exact hown9) hg9 hv9); clear hown9 hg9 hv9))
   go_roundw
   case rel =>
    refine ⟨j + 1, log ++ [⟨N5, [], fl5⟩], G5, l5, by go_num, by rw [List.length_append, HLQ.out]; rfl, ?_, HNX.out⟩
    rw [show most + 1 - (j + 1) = f by have := HF.out; omega]
    exact HRN.out
   case measure => have := HJ1.out; simp [intOf]; omega
end
end Go.Proofs.YtibpfkcackdbgaaGreatDoor
