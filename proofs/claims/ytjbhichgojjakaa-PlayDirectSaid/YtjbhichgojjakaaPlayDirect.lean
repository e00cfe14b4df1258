/-
  PlayDirect: made at once, by what is handed in, the five accesses of words do what chapter 10 says, and tell it; a program that is run with a log as long as it needs answers as it does at once; for every two words. No condition beyond the statement's own.
-/
import Derived.Test.YtjbhichgojjakaaPlyShown
import Derived.Test.YtjbhichgojjakaaPlyWord
import Derived.Test.YtjbhichgojjakaaLaw
import Derived.Test.YtjbhichgojjakaaFields
import Derived.Deep.Cut
import Derived.Deep.CutRange
namespace Go.Proofs.Ytjbhichgojjakaa.playDirect
open Go.ChangeShapes Go.WideShapes Go.ChangeAt Go.RowKit Go.Deep Go.BigFrame
set_option linter.unusedVariables false
theorem own : ownKnob Try.prog.godebug = none := by kernel_rfl

theorem setW_at (G : Nat → Nat) (i v : Nat) : setW G i v i = v := by unfold setW; rw [if_pos rfl]
/-! ### The program that is run with a log -/
def TapeP (w0 w : World) (g m : Nat) (rest : List Res) (w' : World) : Prop := ∃ A cap, VarAt w' g (tapeV A m cap true false (.int .i64 0) (.int .i64 0) (.int .u64 0) (.int .u64 0) (.slice none 0 0) (.slice none 0 0)) ∧ LogAt w0 A m rest ∧ m ≤ cap ∧ But g w w'
theorem tape_step (w0 w : World) (g m n : Nat) (hn : n = m + 1) (A : Option Addr) (cap : Nat) (r : Res) (rest : List Res) (k i : Int) (a b : Nat) (hT : VarAt w g (tapeV A n cap true false (.int .i64 0) (.int .i64 0) (.int .u64 0) (.int .u64 0) (.slice none 0 0) (.slice none 0 0))) (hL : LogAt w0 A n (r :: rest)) (hc : n ≤ cap) (h0 : Below w0.heap.size w0 w) (hg : w0.heap.size ≤ g) :
    Calls Try.prog 50 #[.func (.func 72) #[.pointer (some ⟨g, 0, none⟩)] #[], .int .i64 k, .int .i64 i, .int .u64 (a : Int), .int .u64 (b : Int)] w (Tells r.n (TapeP w0 w g m rest)) :=
  askT g k i a b r.n _ w ((do_told g A n m cap hn r rest true false (.int .i64 0) (.int .i64 0) (.int .u64 0) (.int .u64 0) (.slice none 0 0) (.slice none 0 0) k i a b none 0 0 none 0 0 w0 w (Lib.hid hT) (Lib.hid hL) hc (Lib.hid h0) hg).mono fun e w' ⟨B, bc, A', cap', he, _, hT', hL', hc', hb'⟩ => ⟨_, _, he, A', cap', hT', hL', hc', hb'⟩)
set_option maxRecDepth 100000 in
set_option maxHeartbeats 4000000 in
theorem progD (g pa pb a b : Nat) (A : Option Addr) (cap : Nat) (w0 w : World) (hT : Hid (VarAt w g (tapeV A 3 cap true false (.int .i64 0) (.int .i64 0) (.int .u64 0) (.int .u64 0) (.slice none 0 0) (.slice none 0 0)))) (hL : Hid (LogAt w0 A 3 [⟨0, [], false⟩, ⟨a, [], false⟩, ⟨1, [], false⟩])) (hc : 3 ≤ cap) (h0 : Hid (Below w0.heap.size w0 w)) (hg : w0.heap.size ≤ g)
    (hva : Hid (VarAt w pa [.int .u64 (a : Int)])) (hvb : Hid (VarAt w pb [.int .u64 (b : Int)])) (ha : ¬ (pa = g)) (hb : ¬ (pb = g)) :
    Calls Try.prog 28 #[.func (.func 72) #[.pointer (some ⟨g, 0, none⟩)] #[], .pointer (some ⟨pa, 0, none⟩), .pointer (some ⟨pb, 0, none⟩)] w (ProgYes g true 0 (a : Int) false (.int .i64 0) (.int .i64 0) (.int .u64 0) (.int .u64 0) (.slice none 0 0) (.slice none 0 0) w) := by
  have HG := Lib.hid hg
  have HC := Lib.hid hc
  have HGW := Lib.hid hT.out.1
  have ca := hva.out.2.1 0 _ rfl
  have la := hva.out.1
  have n1 : ¬ (pa = w.heap.size) := by omega
  have l1 : pa < w.heap.size + 1 := by omega
  clear hg hc
  go_enter Try.func28, Try.ntmps28
  go_wp2_with fail
  refine gen_w (P := fun W => Calls _ _ _ W _) (fun y => Below w.heap.size w y ∧ VarAt y w.heap.size [.int .i64 0, .bool false, .int .i64 0, .int .u64 0, .slice none 0 0]) ⟨(by repeat (first | with_reducible assumption | with_reducible exact Below.refl _ _ | with_reducible refine Below.drew ?_ | with_reducible refine below_al ?_ | (with_reducible refine below_set1 (by omega) _ ?_))), VarAt.mk5 (by simp) (by go_simp) (by go_simp) (by go_simp) (by go_simp) (by go_simp) (by go_simp) (by go_simp) (by go_simp) (by go_simp) (by go_simp)⟩ ?_
  rintro y ⟨k0, k1⟩
  have K0 := Lib.hid k0
  have K1 := Lib.hid k1
  have hst := store_of (.func (.func 72) #[.pointer (some ⟨g, 0, none⟩)] #[]) 2 a 0 _ y (tape_step w0 y g 2 3 rfl A cap ⟨0, [], false⟩ [⟨a, [], false⟩, ⟨1, [], false⟩] 1 2 a 0 (hT.out.below k0) hL.out HC.out (h0.out.trans (k0.mono h0.out.size)) HG.out)
  clear k0 k1 ca
  (with_reducible refine hst.mono ?_)
  rintro e w2 ⟨rfl, A2, cap2, hT2, hL2, hc2, hb2⟩
  have HT2 := Lib.hid hT2
  have HB2 := Lib.hid hb2
  clear hst hT2 hb2
  go_wp2_with fail
  have hgz := HGW.out
  have h02 : Below w0.heap.size w0 w2 := (h0.out.trans (K0.out.mono h0.out.size)).trans (HB2.out.below.mono HG.out)
  have hld := load_of (.func (.func 72) #[.pointer (some ⟨g, 0, none⟩)] #[]) 2 a _ w2 (tape_step w0 w2 g 1 2 rfl A2 cap2 ⟨a, [], false⟩ [⟨1, [], false⟩] 0 2 0 0 HT2.out hL2 hc2 h02 HG.out)
  clear hL2 hc2 HT2
  (with_reducible refine hld.mono ?_)
  rintro e w3 ⟨rfl, A3, cap3, hT3, hL3, hc3, hb3⟩
  have HT3 := Lib.hid hT3
  have HB3 := Lib.hid (HB2.out.trans hb3)
  have h03 : Below w0.heap.size w0 w3 := h02.trans (hb3.below.mono HG.out)
  clear hld hT3 hb3 h02
  have cb := (((hvb.out.below K0.out).but HB3.out hb).2.1 0 _ rfl)
  go_wp2_with fail
  have hcs := cas_of (.func (.func 72) #[.pointer (some ⟨g, 0, none⟩)] #[]) 2 a b 1 _ w3 (tape_step w0 w3 g 0 1 rfl A3 cap3 ⟨1, [], false⟩ [] 2 2 a b HT3.out hL3 hc3 h03 HG.out)
  clear hL3 hc3 HT3 h03 cb
  (with_reducible refine hcs.mono ?_)
  rintro e w4 ⟨rfl, A4, cap4, hT4, _, _, hb4⟩
  have HT4 := Lib.hid hT4
  have HB4 := Lib.hid (HB3.out.trans hb4)
  have ho : ¬ (w.heap.size = g) := by have := HGW.out; omega
  obtain ⟨oz, ⟨r1, r2, r3, r4, r5⟩, s1, s2, s3, s4, s5⟩ := (K1.out.but HB4.out ho).five
  clear hcs hT4 hb4
  go_wp2_with fail
  have hb := HB4.out
  have hbw : But g w y := But.of K0.out (by omega)
  have hbb := hbw.trans hb
  exact bodyPost_ret (v := .agg #[.int .i64 0, .bool true, .int .i64 0, .int .u64 (a : Int), .slice none 0 0]) (by simp [results, Try.results28, go_sem, r1, r2, r3, r4, r5]) rfl
    ⟨rfl, ⟨A4, _, cap4, (((((HT4.out.apart _ _ ho).apart _ _ ho).apart _ _ ho).apart _ _ ho).apart _ _ ho)⟩, (by repeat (first | with_reducible assumption | with_reducible exact But.refl _ _ | with_reducible refine But.drew ?_ | (with_reducible refine But.alloc ?_ _ (by omega)) | (with_reducible refine But.set ?_ _ _) | (with_reducible refine But.new ?_ _ _ _ (by omega) (by omega))))⟩
def DirectPost (w : World) (g : Nat) (e : Ending) (w' : World) : Prop := ∃ p0 p1, e = .returned (.func (.func 49) #[] #[.pointer (some ⟨p0, 0, none⟩), .pointer (some ⟨p1, 0, none⟩)]) ∧ VarAt w' p0 [.pointer (some ⟨g, 0, none⟩)] ∧ VarAt w' p1 [.int .i64 0] ∧ w.heap.size ≤ p0 ∧ w.heap.size ≤ p1 ∧ Below w.heap.size w w'
theorem direct_at (g : Nat) (w : World) : Calls Try.prog 21 #[.pointer (some ⟨g, 0, none⟩), .int .i64 0] w (DirectPost w g) := by
  have hmf : ∀ (fn : Fn) (first cap : Array Value) (w : World), (Instr.makeFunc fn first cap).run Try.prog w = .ok (.func fn first cap) w := fun _ _ _ _ => rfl
  go_enter Try.func21, Try.ntmps21
  go_wp2_with fail
  go_ret
  exact ⟨_, _, rfl, VarAt.mk1 (by simp <;> omega) (by go_simp) (by go_simp), VarAt.mk1 (by simp <;> omega) (by go_simp) (by go_simp), by omega, by omega, (by repeat (first | with_reducible assumption | with_reducible exact Below.refl _ _ | with_reducible refine Below.drew ?_ | with_reducible refine below_al ?_ | (with_reducible refine below_set1 (by omega) _ ?_)))⟩

/-- One of the five, at once. -/
theorem dir_step (g p0 p1 n : Nat) (G : Nat → Nat) (K i a b s0 : Nat) (hK : K < 5) (hi : i < n) (hn : n ≤ 1000000) (ha : a < 18446744073709551616) (hb : b < 18446744073709551616) (hs0 : toldN K a b (G i) = s0) (h0 : ¬ (p0 = g)) (h1 : ¬ (p1 = g)) (w : World) (hD : Dir g p0 p1 n G w) :
    Calls Try.prog 50 #[.func (.func 49) #[] #[.pointer (some ⟨p0, 0, none⟩), .pointer (some ⟨p1, 0, none⟩)], .int .i64 (K : Int), .int .i64 (i : Int), .int .u64 (a : Int), .int .u64 (b : Int)] w (Tells s0 fun w' => Dir g p0 p1 n (setW G i (isN K a b (G i))) w' ∧ But g w w') :=
  askD p0 p1 K i a b s0 _ w (dir_word g p0 p1 n G K i a b _ s0 hK hi hn ha hb rfl hs0 h0 h1 w (Lib.hid hD))

set_option maxRecDepth 100000 in
set_option maxHeartbeats 16000000 in
theorem walk (a b : Nat) (ha : a < 18446744073709551616) (hb : b < 18446744073709551616) (p : Bool) (hp : ((a : Int) == (b : Int)) = p) (t4 : Nat) (ht4 : (if b = a then 1 else 0) = t4) (hp4 : ((t4 : Int) == 1) = p) (w : World) :
    Calls Try.prog 7 #[.int .u64 (a : Int), .int .u64 (b : Int)] w fun e w' => e = .returned (.bool true) ∧ Below w.heap.size w w' := by
  have hmf : ∀ (fn : Fn) (first cap : Array Value) (w : World), (Instr.makeFunc fn first cap).run Try.prog w = .ok (.func fn first cap) w := fun _ _ _ _ => rfl
  have HLA := Lib.hid ha
  have HLB := Lib.hid hb
  have HT4 := Lib.hid ht4
  clear ha hb ht4
  go_enter Try.func7, Try.ntmps7
  go_wp2_with fail
  (with_reducible refine (playShown _).mono ?_)
  rintro e w1 ⟨rfl, hb⟩
  have VA := Lib.hid (((VarAt.made w #[.int .u64 (a : Int)] 29).below (al_below _ (.cells #[.int .u64 (b : Int)] 29))).below hb)
  have VB := Lib.hid ((VarAt.made1 w (.cells #[.int .u64 (a : Int)] 29) #[.int .u64 (b : Int)] 29).below hb)
  have BB : Hid (Below w.heap.size w w1) := Lib.hid ((below_pair w (.cells #[.int .u64 (a : Int)] 29) (.cells #[.int .u64 (b : Int)] 29)).trans (hb.mono (by simp <;> omega)))
  clear hb
  obtain ⟨pa, hpa⟩ : ∃ p, w.heap.size = p := ⟨_, rfl⟩
  rw [hpa] at VA VB ⊢
  obtain ⟨pb, hpb⟩ : ∃ p, pa + 1 = p := ⟨_, rfl⟩
  rw [hpb] at VB ⊢
  have HPA := Lib.hid hpa
  clear hpa hpb
  go_wp2_with fail
  have hnew : Calls Try.prog 9 #[.int .i64 1, .int .i64 0] w1 (NewWd w1 1 0 (sizeN 1 0) (newF 1 0)) := newWd_at 1 0 (by decide) (by decide) (by decide) w1
  (with_reducible refine hnew.mono ?_)
  rintro e w2 ⟨A2, ka2, R2, ra2, S2, sa2, rfl, ha, hs0, hs1, hb, hP⟩
  clear hnew
  have hsn : 2 < sizeN 1 0 := by decide
  have hsn2 : sizeN 1 0 ≤ 1000000 := by decide
  generalize sizeN 1 0 = n at ha hP hsn hsn2 ⊢
  go_upto_region 3 with fail
  obtain ⟨o0, o1, o2⟩ := hP (fun b => w1.heap.size ≤ b) (fun b hb => hb)
  refine gen_w (P := fun W => Code.wp _ _ _ _ W) (fun x => Below w1.heap.size w1 x ∧ ∃ g, w1.heap.size ≤ g ∧ w2.heap.size = g ∧ (∃ A ka R ra S sa, WdAt x g 1 0 A n ka 0 R 1 ra S sa (newF 1 0) (zerosS 1) (zerosS 1) ∧ OffW (Out g 1) A n ∧ OffS (Out g 1) x R 1 ∧ OffS (Out g 1) x S 1)) ⟨hb.trans ((al_below w2 _).mono hb.size), w2.heap.size, hb.size, rfl, A2, ka2, R2, ra2, S2, sa2, WdAt.made0 w2 _ ha hs0 hs1, ha.old.mono (fun b hb => out_old hb), (hs0.old.mono (fun b hb => (out_old hb : Out w2.heap.size 1 b))).later hs0 (al_below w2 _), (hs1.old.mono (fun b hb => (out_old hb : Out w2.heap.size 1 b))).later hs1 (al_below w2 _)⟩ ?_
  rintro x ⟨k0, g, k1, k2, kr⟩
  rw [k2]
  have hgx : g < x.heap.size := by obtain ⟨A, ka, R, ra, S, sa, hw, _⟩ := kr; exact hw.1.1
  have hga : ¬ (pa = g) := by have := VA.out.1; omega
  have hgb : ¬ (pb = g) := by have := VB.out.1; omega
  have HGW : Hid (w.heap.size ≤ g) := Lib.hid (Nat.le_trans BB.out.size k1)
  have VAn := Lib.hid (VA.out.below k0); clear VA; have VA := VAn; clear VAn
  have VBn := Lib.hid (VB.out.below k0); clear VB; have VB := VBn; clear VBn
  have BBn := Lib.hid (BB.out.trans (k0.mono BB.out.size)); clear BB; have BB := BBn; clear BBn
  have KR := Lib.hid kr
  clear kr ha hs0 hs1 hb hP o0 o1 o2 k0 k1 k2
  go_wp2_with fail
  (with_reducible refine (direct_at g x).mono ?_)
  rintro e w3 ⟨p0, p1, rfl, hv0, hv1, hq0, hq1, hb⟩
  have D0 : Hid (Dir g p0 p1 n (newF 1 0) w3) := Lib.hid (by
    obtain ⟨A, ka, R, ra, S, sa, hw, o0, o1, o2⟩ := KR.out
    exact ⟨⟨A, ka, R, ra, S, sa, hw.later hb, o0, o1.later hw.2.2.1 hb, o2.later hw.2.2.2 hb⟩, hv0, hv1⟩)
  have hp0 : ¬ (p0 = g) := by omega
  have hp1 : ¬ (p1 = g) := by omega
  have VAn := Lib.hid (VA.out.below hb); clear VA; have VA := VAn; clear VAn
  have VBn := Lib.hid (VB.out.below hb); clear VB; have VB := VBn; clear VBn
  have BBn := Lib.hid (BB.out.trans (hb.mono BB.out.size)); clear BB; have BB := BBn; clear BBn
  have HSN := Lib.hid hsn
  have HSN2 := Lib.hid hsn2
  generalize newF 1 0 = G0 at D0
  have hz0 : ∀ (v0 : Nat), v0 = v0 := fun _ => rfl
  clear KR hv0 hv1 hb hsn hsn2 hq0 hq1 hgx hz0
  have hva := VA.out.2.1 0 _ rfl
  have hvb := VB.out.2.1 0 _ rfl
  go_wp2_with fail
  have hst := store_of (.func (.func 49) #[] #[.pointer (some ⟨p0, 0, none⟩), .pointer (some ⟨p1, 0, none⟩)]) 2 a 0 _ w3 (dir_step g p0 p1 n G0 1 2 a 0 0 (by decide) HSN.out HSN2.out HLA.out (by decide) (by rfl) hp0 hp1 w3 D0.out)
  clear hva hvb
  (with_reducible refine hst.mono ?_)
  clear hst
  rintro e w4 ⟨rfl, hd, hb⟩
  obtain ⟨G1, hG, hE⟩ : ∃ G, setW G0 2 (isN 1 a 0 (G0 2)) = G ∧ G 2 = a := ⟨_, rfl, by rw [setW_at]; rfl⟩
  rw [hG] at hd
  have D1 := Lib.hid hd
  have E1 := Lib.hid hE
  have VAn := Lib.hid (VA.out.but hb hga); clear VA; have VA := VAn; clear VAn
  have VBn := Lib.hid (VB.out.but hb hgb); clear VB; have VB := VBn; clear VBn
  have BBn := Lib.hid (BB.out.trans (hb.below.mono HGW.out)); clear BB; have BB := BBn; clear BBn
  have hva := VA.out.2.1 0 _ rfl
  have hvb := VB.out.2.1 0 _ rfl
  clear hG hE hd hb D0
  go_wp2_with fail
  have hst := load_of (.func (.func 49) #[] #[.pointer (some ⟨p0, 0, none⟩), .pointer (some ⟨p1, 0, none⟩)]) 2 a _ w4 (dir_step g p0 p1 n G1 0 2 0 0 a (by decide) HSN.out HSN2.out (by decide) (by decide) (by exact E1.out) hp0 hp1 w4 D1.out)
  clear hva hvb
  (with_reducible refine hst.mono ?_)
  clear hst
  rintro e w5 ⟨rfl, hd, hb⟩
  obtain ⟨G2, hG, hE⟩ : ∃ G, setW G1 2 (isN 0 0 0 (G1 2)) = G ∧ G 2 = a := ⟨_, rfl, by rw [setW_at]; exact E1.out⟩
  rw [hG] at hd
  have D2 := Lib.hid hd
  have E2 := Lib.hid hE
  have VAn := Lib.hid (VA.out.but hb hga); clear VA; have VA := VAn; clear VAn
  have VBn := Lib.hid (VB.out.but hb hgb); clear VB; have VB := VBn; clear VBn
  have BBn := Lib.hid (BB.out.trans (hb.below.mono HGW.out)); clear BB; have BB := BBn; clear BBn
  have hva := VA.out.2.1 0 _ rfl
  have hvb := VB.out.2.1 0 _ rfl
  clear hG hE hd hb D1
  go_wp2_with fail
  have hst := cas_of (.func (.func 49) #[] #[.pointer (some ⟨p0, 0, none⟩), .pointer (some ⟨p1, 0, none⟩)]) 2 a b 1 _ w5 (dir_step g p0 p1 n G2 2 2 a b 1 (by decide) HSN.out HSN2.out HLA.out HLB.out (by rw [E2.out]; exact if_pos rfl) hp0 hp1 w5 D2.out)
  clear hva hvb
  (with_reducible refine hst.mono ?_)
  clear hst
  rintro e w6 ⟨rfl, hd, hb⟩
  obtain ⟨G3, hG, hE⟩ : ∃ G, setW G2 2 (isN 2 a b (G2 2)) = G ∧ G 2 = b := ⟨_, rfl, by rw [setW_at]; rw [E2.out]; exact if_pos rfl⟩
  rw [hG] at hd
  have D3 := Lib.hid hd
  have E3 := Lib.hid hE
  have VAn := Lib.hid (VA.out.but hb hga); clear VA; have VA := VAn; clear VAn
  have VBn := Lib.hid (VB.out.but hb hgb); clear VB; have VB := VBn; clear VBn
  have BBn := Lib.hid (BB.out.trans (hb.below.mono HGW.out)); clear BB; have BB := BBn; clear BBn
  have hva := VA.out.2.1 0 _ rfl
  have hvb := VB.out.2.1 0 _ rfl
  clear hG hE hd hb D2
  go_wp2_with fail
  have hst := cas_of (.func (.func 49) #[] #[.pointer (some ⟨p0, 0, none⟩), .pointer (some ⟨p1, 0, none⟩)]) 2 a a t4 _ w6 (dir_step g p0 p1 n G3 2 2 a a t4 (by decide) HSN.out HSN2.out HLA.out HLA.out (by rw [E3.out]; exact HT4.out) hp0 hp1 w6 D3.out)
  clear hva hvb
  (with_reducible refine hst.mono ?_)
  clear hst
  rintro e w7 ⟨rfl, hd, hb⟩
  obtain ⟨G4, hG, hE⟩ : ∃ G, setW G3 2 (isN 2 a a (G3 2)) = G ∧ G 2 = b := ⟨_, rfl, by rw [setW_at]; rw [E3.out]; show (if b = a then a else b) = b; split <;> omega⟩
  rw [hG] at hd
  have D4 := Lib.hid hd
  have E4 := Lib.hid hE
  have VAn := Lib.hid (VA.out.but hb hga); clear VA; have VA := VAn; clear VAn
  have VBn := Lib.hid (VB.out.but hb hgb); clear VB; have VB := VBn; clear VBn
  have BBn := Lib.hid (BB.out.trans (hb.below.mono HGW.out)); clear BB; have BB := BBn; clear BBn
  have hva := VA.out.2.1 0 _ rfl
  have hvb := VB.out.2.1 0 _ rfl
  clear hG hE hd hb D3
  go_wp2_with fail
  have hst := add_of (.func (.func 49) #[] #[.pointer (some ⟨p0, 0, none⟩), .pointer (some ⟨p1, 0, none⟩)]) 2 3 b _ w7 (dir_step g p0 p1 n G4 3 2 3 0 b (by decide) HSN.out HSN2.out (by decide) (by decide) (by exact E4.out) hp0 hp1 w7 D4.out)
  rw [show ((3 : Nat) : Int) = 3 from rfl] at hst
  clear hva hvb
  (with_reducible refine hst.mono ?_)
  clear hst
  rintro e w8 ⟨rfl, hd, hb⟩
  obtain ⟨G5, hG, hE⟩ : ∃ G, setW G4 2 (isN 3 3 0 (G4 2)) = G ∧ G 2 = ((b + 3) % 18446744073709551616) := ⟨_, rfl, by rw [setW_at]; rw [E4.out]; rfl⟩
  rw [hG] at hd
  have D5 := Lib.hid hd
  have E5 := Lib.hid hE
  have VAn := Lib.hid (VA.out.but hb hga); clear VA; have VA := VAn; clear VAn
  have VBn := Lib.hid (VB.out.but hb hgb); clear VB; have VB := VBn; clear VBn
  have BBn := Lib.hid (BB.out.trans (hb.below.mono HGW.out)); clear BB; have BB := BBn; clear BBn
  have hva := VA.out.2.1 0 _ rfl
  have hvb := VB.out.2.1 0 _ rfl
  clear hG hE hd hb D4
  go_wp2_with fail
  have hst := swap_of (.func (.func 49) #[] #[.pointer (some ⟨p0, 0, none⟩), .pointer (some ⟨p1, 0, none⟩)]) 2 9 ((b + 3) % 18446744073709551616) _ w8 (dir_step g p0 p1 n G5 4 2 9 0 ((b + 3) % 18446744073709551616) (by decide) HSN.out HSN2.out (by decide) (by decide) (by exact E5.out) hp0 hp1 w8 D5.out)
  rw [show ((9 : Nat) : Int) = 9 from rfl] at hst
  clear hva hvb
  (with_reducible refine hst.mono ?_)
  clear hst
  rintro e w9 ⟨rfl, hd, hb⟩
  obtain ⟨G6, hG, hE⟩ : ∃ G, setW G5 2 (isN 4 9 0 (G5 2)) = G ∧ G 2 = 9 := ⟨_, rfl, by rw [setW_at]; rfl⟩
  rw [hG] at hd
  have D6 := Lib.hid hd
  have E6 := Lib.hid hE
  have VAn := Lib.hid (VA.out.but hb hga); clear VA; have VA := VAn; clear VAn
  have VBn := Lib.hid (VB.out.but hb hgb); clear VB; have VB := VBn; clear VBn
  have BBn := Lib.hid (BB.out.trans (hb.below.mono HGW.out)); clear BB; have BB := BBn; clear BBn
  have hva := VA.out.2.1 0 _ rfl
  have hvb := VB.out.2.1 0 _ rfl
  clear hG hE hd hb D5
  go_wp2_with fail
  have hst := load_of (.func (.func 49) #[] #[.pointer (some ⟨p0, 0, none⟩), .pointer (some ⟨p1, 0, none⟩)]) 2 9 _ w9 (dir_step g p0 p1 n G6 0 2 0 0 9 (by decide) HSN.out HSN2.out (by decide) (by decide) (by exact E6.out) hp0 hp1 w9 D6.out)
  clear hva hvb
  (with_reducible refine hst.mono ?_)
  clear hst
  rintro e w10 ⟨rfl, hd, hb⟩
  obtain ⟨G7, hG, hE⟩ : ∃ G, setW G6 2 (isN 0 0 0 (G6 2)) = G ∧ G 2 = 9 := ⟨_, rfl, by rw [setW_at]; exact E6.out⟩
  rw [hG] at hd
  have D7 := Lib.hid hd
  have E7 := Lib.hid hE
  have VAn := Lib.hid (VA.out.but hb hga); clear VA; have VA := VAn; clear VAn
  have VBn := Lib.hid (VB.out.but hb hgb); clear VB; have VB := VBn; clear VBn
  have BBn := Lib.hid (BB.out.trans (hb.below.mono HGW.out)); clear BB; have BB := BBn; clear BBn
  have hva := VA.out.2.1 0 _ rfl
  have hvb := VB.out.2.1 0 _ rfl
  clear hG hE hd hb D6
  go_wp2_with fail
  refine gen_w (P := fun W => Calls _ _ _ W _) (fun y => Below w10.heap.size w10 y ∧ LogAt y (some ⟨w10.heap.size, 0, none⟩) 3 [⟨0, [], false⟩, ⟨a, [], false⟩, ⟨1, [], false⟩]) ⟨(by repeat (first | with_reducible assumption | with_reducible exact Below.refl _ _ | with_reducible refine Below.drew ?_ | with_reducible refine below_al ?_ | (with_reducible refine below_set1 (by omega) _ ?_))), LogAt.three (by simp) (ResP.num _ 0 (by decide)) (ResP.num _ a HLA.out) (ResP.num _ 1 (by decide)) ⟨by go_simp, by go_simp, by go_simp⟩ ⟨by go_simp, by go_simp, by go_simp⟩ ⟨by go_simp, by go_simp, by go_simp⟩⟩ ?_
  rintro y ⟨k0, k1⟩
  have VAn := Lib.hid (VA.out.below k0); clear VA; have VA := VAn; clear VAn
  have VBn := Lib.hid (VB.out.below k0); clear VB; have VB := VBn; clear VBn
  have BBn := Lib.hid (BB.out.trans (k0.mono BB.out.size)); clear BB; have BB := BBn; clear BBn
  have HL := Lib.hid k1
  have hpy := VA.out.1
  have hqy := VB.out.1
  have hp := fun (g1 : Nat) (z : World) (hg : y.heap.size ≤ g1) (hb : Below y.heap.size y z) (hT : VarAt z g1 (tapeV (some ⟨w10.heap.size, 0, none⟩) 3 3 true false (.int .i64 0) (.int .i64 0) (.int .u64 0) (.int .u64 0) (.slice none 0 0) (.slice none 0 0))) =>
    progD g1 pa pb a b (some ⟨w10.heap.size, 0, none⟩) 3 y z (Lib.hid hT) HL (Nat.le_refl 3) (Lib.hid hb) hg (Lib.hid (VA.out.below hb)) (Lib.hid (VB.out.below hb)) (by omega) (by omega)
  have hrun := runD_yes (some ⟨w10.heap.size, 0, none⟩) 3 3 pa pb true 0 (a : Int) y hp
  clear k0 k1 hp hva hvb
  (with_reducible refine hrun.mono ?_)
  clear hrun
  rintro e w11 ⟨rfl, hb⟩
  have hva := (VA.out.below hb).2.1 0 _ rfl
  have hvb := (VB.out.below hb).2.1 0 _ rfl
  have hla := (VA.out.below hb).1
  have hlb := (VB.out.below hb).1
  have BBn := Lib.hid (BB.out.trans (hb.mono BB.out.size)); clear BB; have BB := BBn; clear BBn
  have q1 : ¬ (pa = w11.heap.size) := by omega
  have q2 : ¬ (pa = w11.heap.size + 1) := by omega
  have q3 : ¬ (pb = w11.heap.size) := by omega
  have q4 : ¬ (pb = w11.heap.size + 1) := by omega
  have q5 : pa < w11.heap.size + 1 := by omega
  have q6 : pb < w11.heap.size + 1 := by omega
  have e3 : IntKind.u64.wrap ((b : Int) + 3) = (((b + 3) % 18446744073709551616 : Nat) : Int) := by rw [IntKind.wrap_u64]; omega
  generalize (b + 3) % 18446744073709551616 = q at e3 ⊢
  clear hb hpy hqy
  cases p
  all_goals
    go_wp2_with fail
    have hbb := BB.out
    go_ret
    exact ⟨rfl, (by repeat (first | with_reducible assumption | with_reducible exact Below.refl _ _ | with_reducible refine Below.drew ?_ | with_reducible refine below_al ?_ | (with_reducible refine below_set1 (by omega) _ ?_)))⟩
section
set_option maxRecDepth 100000
set_option maxHeartbeats 2000000
variable {H : Type} {enc : TypeId × Value → H} {w : World}
theorem open_a {v : Value} {d : DataW H} {ps : List MemPlace} {base : Nat} (hval : Value.okWide Try.prog w .any base 29 v) (h : DataW.Trod enc Try.prog w 0 (fun _ => true) true 29 v d ps) (hs : Sized Try.prog 29 d) (hlt : ∀ z ∈ ps, z.block < w.heap.size) :
    ∃ (a : Nat), v = .int .u64 (a : Int) ∧ a < 18446744073709551616 := by
  obtain ⟨a0, rfl⟩ := okWide_int Try.underlying29 hval
  obtain ⟨fuel, hf0⟩ := h
  have hf : DataW.trod enc Try.prog w 0 (fun _ => true) true fuel 29 [.int .u64 a0] = some (d, ps) := hf0
  obtain ⟨a, e0, ha⟩ := leaf_u64 Try.underlying29 hf
  cases e0
  exact ⟨_, rfl, ha⟩
theorem open_b {v : Value} {d : DataW H} {ps : List MemPlace} {base : Nat} (hval : Value.okWide Try.prog w .any base 29 v) (h : DataW.Trod enc Try.prog w 0 (fun _ => true) true 29 v d ps) (hs : Sized Try.prog 29 d) (hlt : ∀ z ∈ ps, z.block < w.heap.size) :
    ∃ (b : Nat), v = .int .u64 (b : Int) ∧ b < 18446744073709551616 := by
  obtain ⟨a0, rfl⟩ := okWide_int Try.underlying29 hval
  obtain ⟨fuel, hf0⟩ := h
  have hf : DataW.trod enc Try.prog w 0 (fun _ => true) true fuel 29 [.int .u64 a0] = some (d, ps) := hf0
  obtain ⟨b, e0, hb⟩ := leaf_u64 Try.underlying29 hf
  cases e0
  exact ⟨_, rfl, hb⟩
end

set_option maxRecDepth 100000 in
set_option maxHeartbeats 8000000 in
theorem lifted (os : Os) (started : os.Started) (H : Type) (enc : TypeId × Value → H) :
    ReturnsInHanded {} Try.checked os 7 .any (Rows.playDirectSpec.pre6 enc Try.prog Try.f7 Rows.playDirectRow.domain false) (Rows.playDirectSpec.post enc Try.prog Try.f7 false true false false) := by
  refine law_lifted (C := Try.checked) own started (by kernel_rfl) Try.func7
    (ChangeSpec.witness6 (enc := enc) (C := Try.checked) false ⟨#[], #[.int .u64 0, .int .u64 0], []⟩ 8 (by kernel_rfl) (by kernel_rfl) (by kernel_rfl) (by kernel_rfl))
    (by kernel_rfl) (by kernel_rfl) Try.underlying4 rfl (by kernel_rfl) ?_
  intro W base args ds before hval hA hwt hlt
  have hA' : DataW.TrodAll enc Try.prog W 0 (fun _ => true) true Try.f7.params.toList args.toList ds before := hA
  have hval' : ∀ (j : Nat) t v, Try.f7.params[j]? = some t → args[j]? = some v → Value.okWide Try.prog W .any base t v := hval
  have hwt' : (DataW.weightsEach Try.prog Try.f7.params.toList ds).all (· ≤ reachBytes) = true := hwt
  rw [Try.params7] at hA' hval' hwt'
  obtain ⟨v0, vs0, d0, ds0, p0, q0, hargs, rfl, rfl, k0, r0⟩ := trodAll_cons hA'
  obtain ⟨v1, vs1, d1, ds1, p1, q1, rfl, rfl, rfl, k1, r1⟩ := trodAll_cons r0
  obtain ⟨rfl, rfl, rfl⟩ := trodAll_nil r1
  obtain rfl : args = #[v0, v1] := by cases args; simp_all
  obtain ⟨a, rfl, ha⟩ := open_a (hval' 0 29 v0 rfl rfl) k0 (sized_of hwt' (j := 0) (t := 29) rfl rfl) (fun x hx => hlt x (by simp [hx]))
  obtain ⟨b, rfl, hb⟩ := open_b (hval' 1 29 v1 rfl rfl) k1 (sized_of hwt' (j := 1) (t := 29) rfl rfl) (fun x hx => hlt x (by simp [hx]))
  refine ⟨rfl, ?_⟩
  exact walk a b ha hb _ rfl _ rfl (by
    by_cases h : a = b
    · subst h; simp
    · have h1 : ¬ (b = a) := fun e => h e.symm
      rw [if_neg h1, beq_eq_false_iff_ne.2 (show (a : Int) ≠ (b : Int) by omega)]; rfl) W

theorem over : Rows.playDirectRow.holds Try.pinned (OpenSpec.ofChange Rows.playDirectSpec) :=
  OpenClaim.holds_of_wide 7 Try.f7 rfl rfl rfl rfl rfl rfl rfl ⟨rfl, rfl, rfl, rfl, rfl⟩ rfl rfl rfl rfl rfl (by kernel_rfl) Try.func7 (by kernel_rfl)
    (of_decide_eq_true (by kernel_rfl)) (by unfold Func.isWrapper; first | (rw [if_pos (by decide +kernel)]; kernel_rfl) | (rw [if_neg (by decide +kernel)]; exact ⟨rfl, rfl⟩))
    (fun os started H enc _ => lifted os started H enc)

/-- The statement. -/
theorem proved : Rows.PlayDirectSaid :=
  over
#print axioms proved
end Go.Proofs.Ytjbhichgojjakaa.playDirect
