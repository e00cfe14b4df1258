/-
  Texts of one kind, one behind the other: PolInts, PolFree, PolLoop, PolTwo, EpcTwo.
-/
import Derived.Test.YthcifknnppohfaaPolB
import Derived.Test.YthcifknnppohfaaWrdRef
import Derived.Test.YthcifknnppohfaaEpcD
namespace Go.Proofs.Ythcifknnppohfaa
open Go.ChangeShapes Go.WideShapes Go.ChangeAt Go.RowKit Go.BigFrame
set_option linter.unusedVariables false
set_option maxRecDepth 100000

def intV (xs : List Nat) : List Value := xs.map fun (x : Nat) => .int .i64 (x : Int)
/-- A row of ints of the call's own. -/
def OwnI (w : World) (B : Nat) (v : Value) (xs : List Nat) : Prop := w.ownsRow B 3 1 v xs.length (intV xs)
theorem intV_len (xs : List Nat) : (intV xs).length = xs.length := by unfold intV; simp
theorem intV_get {xs : List Nat} {j x : Nat} (h : xs[j]? = some x) : (intV xs)[j]? = some (.int .i64 (x : Int)) := by unfold intV; rw [List.getElem?_map, h]; rfl
section
variable {w w' : World} {B : Nat} {v : Value} {xs : List Nat}
theorem OwnI.nil (w : World) (B : Nat) : OwnI w B (.slice none 0 0) [] := World.ownsRow_nil _ _ _ _
theorem OwnI.later (h : OwnI w B v xs) (hb : Below w.heap.size w w') : OwnI w' B v xs :=
  World.ownsRow.kept (row := none) h ⟨hb.os, hb.tape, hb.output, hb.size, fun k hk _ => hb.block k hk⟩ (by
    cases hv : v.ownBlock with
    | none => exact .inl rfl
    | some k => exact .inr (by simp))
theorem OwnI.drew (h : OwnI w B v xs) : OwnI w.drew B v xs := World.ownsRow.drew h
theorem OwnI.apart (h : OwnI w B v xs) (b j : Nat) (u : Value) (hb : b < B) : OwnI (w.setCell ⟨b, j, none⟩ u) B v xs := ownsRow_apart h b j u hb
theorem OwnI.kept {row : Option Nat} (h : OwnI w B v xs) (hg : w.grownBy w' row) (hne : v.ownBlock = none ∨ v.ownBlock ≠ row) : OwnI w' B v xs := World.ownsRow.kept h hg hne
theorem OwnI.lt (h : OwnI w B v xs) : ∀ k, v.ownBlock = some k → B ≤ k ∧ k < w.heap.size := World.ownsRow.lt h
theorem OwnI.low {B' : Nat} (h : OwnI w B v xs) (hb : B' ≤ B) : OwnI w B' v xs := by
  refine ⟨h.1, ?_⟩
  rcases h.2 with hn | ⟨g, cap, cur, h1, h2, h3⟩
  · exact .inl hn
  · exact .inr ⟨g, cap, cur, h1, Nat.le_trans hb h2, h3⟩
theorem OwnI.form (h : OwnI w B v xs) : ∃ a cap, v = .slice a xs.length cap ∧ xs.length ≤ cap ∧ xs.length ≤ maxLen ∧
    ∀ (j x : Nat), xs[j]? = some x → ∃ g, a = some ⟨g, 0, none⟩ ∧ B ≤ g ∧ g < w.heap.size ∧ w.cell? ⟨g, j, none⟩ = some (.int .i64 (x : Int)) := by
  have hc := fun (g : Nat) (hg : v.ownBlock = some g) => World.ownsRow.cells h hg
  rcases h.2 with ⟨rfl, hn⟩ | ⟨g, cap, cur, rfl, hg, hgb, hcap, hm, _⟩
  · refine ⟨none, 0, by rw [hn], by omega, by unfold maxLen; omega, fun j x hx => ?_⟩
    have := (List.getElem?_eq_some_iff.1 hx).1
    omega
  · refine ⟨_, cap, rfl, hcap, Nat.le_trans hcap hm, fun j x hx => ⟨g, rfl, hg, (Array.getElem?_eq_some_iff.1 hgb).1, ?_⟩⟩
    have := hc g rfl j _ (intV_get hx)
    rw [Addr.add_mid, Nat.zero_add] at this
    exact this
theorem OwnI.cut {a : Option Addr} {n cap m : Nat} (h : OwnI w B (.slice a n cap) xs) (hm : m ≤ xs.length) (hz : a ≠ none) : OwnI w B (.slice a m cap) (xs.take m) := by
  have hl : (xs.take m).length = m := by rw [List.length_take]; omega
  refine ⟨by rw [intV_len]; omega, ?_⟩
  rcases h.2 with ⟨e, hn⟩ | ⟨g, cap', cur, e, hg, hgb, hcap, hmx, hs, ht⟩
  · cases e; exact absurd rfl hz
  · cases e
    refine .inr ⟨g, cap, cur, by rw [hl], hg, hgb, by omega, hmx, hs, ?_⟩
    have h1 : intV (xs.take m) = (intV xs).take m := by unfold intV; rw [List.map_take]
    rw [h1, ← ht, List.take_take, hl]
    congr 1
    omega
end
theorem infoI : (Try.prog.info? 3).map (fun i => (i.zero, i.size, i.bytes)) = some (some (.int .i64 0), 1, 8) := by kernel_rfl
/-- A number is appended. -/
theorem wpList_appendI {ops : Array Oper} {rest : List Oper} {o : Oper} {a : Act} {w : World} {Q : Exit → Act → World → Prop} (hw : Region.wanted o (yielded ops a.tmps) = true) (s x : Operand)
    (ho : o.op = .call { callee := .builtin .append, args := #[s, x], argTypes := #[35, 35] }) (base : Nat) (v : Value) (xs : List Nat) (hs : a.eval s = v) (hown : OwnI w base v xs)
    (b c y : Nat) (hx : a.eval x = .slice (some ⟨b, 0, none⟩) 1 c) (c0 : w.cell? ⟨b, 0, none⟩ = some (.int .i64 (y : Int))) (hm : xs.length ≤ 900000) (hb : base ≤ w.heap.size)
    (h : ∀ v' w', OwnI w' base v' (xs ++ [y]) → w.grownBy w' v.ownBlock → (v'.ownBlock = v.ownBlock ∨ v'.ownBlock = some w.heap.size) → wpList Try.prog ops Q rest (a.put o.dst v') w') :
    wpList Try.prog ops Q (o :: rest) a w := by
  obtain ⟨i, hi, hz0, hz1, hz2⟩ := info_parts infoI
  have hcell : ∀ j u, ([.int .i64 (y : Int)] : List Value)[j]? = some u → w.cell? ((⟨b, 0, none⟩ : Addr).add j) = some u := by
    intro j u hu
    rw [Addr.add_mid, Nat.zero_add]
    obtain rfl : j = 0 := by have := (List.getElem?_eq_some_iff.1 hu).1; simp at this; omega
    cases hu; exact c0
  have hone : ∀ u ∈ ([.int .i64 (y : Int)] : List Value), u.oneCell' = true := by
    intro u hu
    simp only [List.mem_cons, List.not_mem_nil, or_false] at hu
    subst hu; rfl
  obtain ⟨v', w', hr, h2, h3, h4⟩ := append_where (P := Try.prog) w base 35 o.type 3 i _ 1 8 Try.underlying35 hi hz0 hz1 hz2 rfl (by decide) v xs.length (intV xs) hown ⟨b, 0, none⟩ 1 c [.int .i64 (y : Int)] rfl hcell hone (by unfold maxLen; omega) (by omega) hb (by decide)
  refine BigFrame.wpList_want hw fun K hK => ?_
  unfold Oper.wp execOp
  simp only [ho, resolve, invoke, builtin, Sem.run_bind, Sem.run_pure, Result.andThen_ok, List.map_toArray, List.map_cons, List.map_nil, hs, hx, hr]
  have h2' : OwnI w' base v' (xs ++ [y]) := by
    unfold OwnI
    rw [List.length_append, show intV (xs ++ [y]) = intV xs ++ [.int .i64 (y : Int)] by unfold intV; rw [List.map_append]; rfl]
    exact h2
  exact hK _ _ (h v' w' h2' h3 h4)
theorem elemI : Try.prog.underlying 35 = some (.slice (Try.prog.elem 35)) := by kernel_rfl
theorem elemI' : Try.prog.elem 35 = 3 := by kernel_rfl
theorem sizeI (w : World) : (sizeOf 3).run Try.prog w = .ok 1 w := by kernel_rfl
theorem add0 (a : Option Addr) : a.map (·.add (0 * 1)) = a := by cases a <;> rfl
theorem run_cutI_h (a : Option Addr) (len cap hi : Nat) (h2 : hi ≤ cap) (W : World) :
    (Instr.slice 35 (.slice a len cap) none (some (.int .i64 (hi : Int))) none).run Try.prog W = .ok (.slice a hi cap) W := by
  rw [run_slice_h W 35 _ _ _ elemI .i64 _ (by omega) (by omega), elemI', sizeI]
  simp only [Result.andThen, sliced, Int.toNat_natCast, add0, ite_self, Nat.sub_zero]
theorem run_cutI_l (a : Option Addr) (len cap lo : Nat) (h1 : lo ≤ len) (W : World) :
    (Instr.slice 35 (.slice a len cap) (some (.int .i64 (lo : Int))) none none).run Try.prog W = .ok (.slice (if cap = lo then a else a.map (·.add (lo * 1))) (len - lo) (cap - lo)) W := by
  rw [run_slice_l W 35 _ _ _ elemI .i64 _ (by omega) (by omega), elemI', sizeI]
  rfl

/-! ### Blocks that some rows and variables have -/
def NtL (gs : List Nat) (vs : List Value) (b : Nat) : Prop := (∀ g ∈ gs, b ≠ g) ∧ ∀ v ∈ vs, ∀ k, v.ownBlock = some k → b ≠ k
end Go.Proofs.Ythcifknnppohfaa
namespace Go.Proofs.Ythcifknnppohfaa
open Go.ChangeShapes Go.WideShapes Go.ChangeAt Go.RowKit Go.BigFrame
set_option linter.unusedVariables false
set_option maxRecDepth 100000

def lenV : Value → Nat | .slice _ n _ => n | _ => 0
theorem OwnI.len {w : World} {B : Nat} {v : Value} {xs : List Nat} (h : OwnI w B v xs) : lenV v = xs.length := by
  obtain ⟨a, cap, rfl, _⟩ := h.form
  rfl
theorem OwnI.grow {w w' w0 : World} {B : Nat} {v : Value} {xs : List Nat} (h : OwnI w B v xs) (hg : w.grownBy w' v.ownBlock) (hb : Below w0.heap.size w0 w) (hB : w0.heap.size ≤ B) : Below w0.heap.size w0 w' :=
  hb.grown hg hb.size (fun k hk => by have := (h.lt k hk).1; omega)
def FreePost (w : World) (l : List Nat) (e : Ending) (w' : World) : Prop := ∃ v, e = .returned v ∧ OwnI w' w.heap.size v l ∧ Below w.heap.size w w'
set_option maxHeartbeats 8000000 in
set_option maxRecDepth 100000 in
theorem free_at (t c : Nat) (ht : t ≤ 64) (hc : c ≤ 65536) (A : Option Addr) (n ka : Nat) (hn : n = sizeN t c) (G : Nat → Nat) (l : List Nat) (hF : FreeIs t G l) (hl : ∀ a ∈ l, a ≤ c) (hll : l.length ≤ c) (w : World) (hA : Hid (AtW w A n G)) :
    Calls Try.prog 19 #[.agg #[.int .i64 (t : Int), .int .i64 (c : Int), .slice A n ka]] w (FreePost w l) := by
  have HT := Lib.hid ht
  have HC := Lib.hid hc
  have HL := Lib.hid hl
  have HLL := Lib.hid hll
  have hG := hA.out.1
  have HG := Lib.hid hG
  have HF1 := fun w => refFirst_any (G 1) (hG 1) w
  obtain ⟨b, off, rfl, hlt, hcell⟩ := hA.out.2 (by rw [hn]; unfold sizeN; omega)
  have h1n : (1 : Nat) < n := by rw [hn]; exact size_pos
  have x1 := hcell 1 h1n
  have i1 : (1 : Int) < (n : Int) := by omega
  have HN := Lib.hid hn
  have hF' : Chain t G l (firstN (G 1)) := hF
  generalize firstN (G 1) = r0 at HF1 hF'
  have HFF := Lib.hid hF'
  clear ht hc hl hll hG hF hF' hcell h1n hn
  go_enter Try.func19, Try.ntmps19
  go_wp2_with (go_at_call 42; (with_reducible refine (HF1 _).mono ?_); rintro e w' ⟨rfl, rfl⟩)
  have hb0 := al_below w (.cells #[.int .i64 (t : Int), .int .i64 (c : Int), .slice (some ⟨b, off, none⟩) n ka] 45)
  have hv0 := VarAt.made w #[.int .i64 (t : Int), .int .i64 (c : Int), .slice (some ⟨b, off, none⟩) n ka] 45
  generalize w.alloc (.cells #[.int .i64 (t : Int), .int .i64 (c : Int), .slice (some ⟨b, off, none⟩) n ka] 45) = y at hb0 hv0 ⊢
  have HB0 := Lib.hid hb0
  have HV0 := Lib.hid hv0
  clear hb0 hv0 x1 i1 hlt HF1
  go_loopw [3, 4] (fun u3 u4 wr => ∃ (l1 l2 : List Nat) (r : Nat), l = l1 ++ l2 ∧ u4 = .int .i64 (r : Int) ∧ Chain t G l2 r ∧ OwnI wr (w.heap.size + 1) u3 l1 ∧ Below w.heap.size w wr ∧ VarAt wr w.heap.size [.int .i64 (t : Int), .int .i64 (c : Int), .slice (some ⟨b, off, none⟩) n ka] ∧ w.heap.size + 1 ≤ wr.heap.size) (fun u3 _ _ => l.length - lenV u3)
  case atStart => exact ⟨[], l, r0, rfl, rfl, HFF.out, OwnI.nil _ _, HB0.out, HV0.out, HV0.out.1⟩
  case round =>
    clear HB0 HV0 HFF
    clear y
    obtain ⟨l1, l2, r, he, rfl, hch, hown, hbl, hv, hsz⟩ := hrel
    obtain ⟨a, cap, rfl, hcap, hmx, _⟩ := hown.form
    have HOWN := Lib.hid hown
    have HBL := Lib.hid hbl
    have HV := Lib.hid hv
    have HE := Lib.hid he
    have HSZ := Lib.hid hsz
    obtain ⟨m0, c0, c1, c2⟩ : w.heap.size < wr.heap.size ∧ wr.cell? ⟨w.heap.size, 0, none⟩ = some (.int .i64 (t : Int)) ∧ wr.cell? ⟨w.heap.size, 1, none⟩ = some (.int .i64 (c : Int)) ∧ wr.cell? ⟨w.heap.size, 2, none⟩ = some (.slice (some ⟨b, off, none⟩) n ka) := ⟨hv.1, hv.2.1 0 _ rfl, hv.2.1 1 _ rfl, hv.2.1 2 _ rfl⟩
    clear hown hbl hv hmx hcap he hsz
    cases l2 with
    | nil =>
      obtain rfl : r = 0 := hch
      have d0 : decide ((0 : Int) < 0) = false := rfl
      go_wp2_with fail
      go_ret
      refine ⟨_, rfl, ?_, HBL.out⟩
      rw [HE.out, List.append_nil]
      exact HOWN.out.low (Nat.le_succ _)
    | cons q l2 =>
      obtain ⟨rfl, hr1, hch2⟩ := hch
      have hrc : r ≤ c := HL.out r (by rw [HE.out]; simp)
      have hlen : l1.length < l.length := by rw [HE.out]; simp
      have hll := HLL.out
      have hcc := HC.out
      have d0 : decide ((0 : Int) < (r : Int)) = true := by rw [decide_eq_true_iff]; omega
      have d0' : decide (0 < r) = true := by rw [decide_eq_true_iff]; omega
      have d1 : decide ((r : Int) ≤ (c : Int)) = true := by rw [decide_eq_true_iff]; omega
      have d1' : decide (r ≤ c) = true := by rw [decide_eq_true_iff]; omega
      have d2 : decide ((l1.length : Int) ≤ (c : Int)) = true := by rw [decide_eq_true_iff]; omega
      have d2' : decide (l1.length ≤ c) = true := by rw [decide_eq_true_iff]; omega
      have hfs : fieldN t r 7 < n := by rw [HN.out]; exact field_size hr1 hrc
      have hFLD : ∀ w, Calls Try.prog 43 #[.int .i64 (t : Int), .int .i64 (r : Int), .int .i64 7] w fun e w' => e = .returned (.int .i64 (fieldN t r 7 : Nat)) ∧ w = w' := fun w => refField_any t r 7 (by have := HT.out; omega) hr1 (by omega) (by omega) w
      have hFST := fun w => refFirst_any (G (fieldN t r 7)) (HG.out _) w
      have hx : ∀ x, Below w.heap.size w x → x.cell? ⟨b, off + fieldN t r 7, none⟩ = some (.int .u64 ((G (fieldN t r 7) : Nat) : Int)) := fun x hb => by
        obtain ⟨b', off', e', _, hc⟩ := (hA.out.later hb).2 (by omega)
        cases e'
        exact hc _ hfs
      have i0 : (0 : Int) ≤ ((fieldN t r 7 : Nat) : Int) := by omega
      have i1 : ((fieldN t r 7 : Nat) : Int) < (n : Int) := by omega
      generalize firstN (G (fieldN t r 7)) = r2 at *
      generalize G (fieldN t r 7) = gx at *
      generalize fieldN t r 7 = fx at *
      have HX := Lib.hid hx
      have HCH := Lib.hid hch2
      have HLEN := Lib.hid hlen
      have HM9 : Hid (l1.length ≤ 900000) := Lib.hid (by omega)
      clear hfs hx hch2 hr1 hrc hll hcc
      have HOA : Hid (∀ o, OwnI (wr.alloc o) (w.heap.size + 1) (.slice a l1.length cap) l1) := Lib.hid (fun o => HOWN.out.later (al_below wr o))
      have HGR : Hid (∀ o w9, (wr.alloc o).grownBy w9 (Value.slice a l1.length cap).ownBlock → Below w.heap.size w w9 ∧ VarAt w9 w.heap.size [.int .i64 (t : Int), .int .i64 (c : Int), .slice (some ⟨b, off, none⟩) n ka] ∧ w.heap.size + 1 ≤ w9.heap.size) := Lib.hid (fun o w9 hg9 => ⟨(HOWN.out.later (al_below wr o)).grow hg9 (HBL.out.trans ((al_below wr o).mono HBL.out.size)) (Nat.le_succ _), (HV.out.below (al_below wr o)).grown hg9 (fun k hk e => by have := (HOWN.out.lt k hk).1; omega), by have h1 := HSZ.out; have h2 := hg9.size; have h3 := (al_below wr o).size; omega⟩)
      have HZ1 : Hid (∀ o, w.heap.size + 1 ≤ (wr.alloc o).heap.size) := Lib.hid (fun o => Nat.le_trans HSZ.out (al_below wr o).size)
      clear HV HSZ HOWN HBL
      go_wp2_with (at_builtin; (refine wpList_appendI (by rfl) (.tmp 25) (.tmp 27) (by rfl) (w.heap.size + 1) (.slice a l1.length cap) l1 (by rfl) (HOA.out _) wr.heap.size 1 r (by rfl) (by go_simp) HM9.out (HZ1.out _) ?_); (intro v9 w9 hown9 hg9 hv9; have hgr := HGR.out _ _ hg9; have HOWN9 := Lib.hid hown9; have HBL9 := Lib.hid hgr.1; have HV9 := Lib.hid hgr.2.1; have HSZ9 := Lib.hid hgr.2.2; clear hown9 hg9 hv9 hgr))
      clear c0 c1 c2 m0
      obtain ⟨m0, c0, c1, c2⟩ : w.heap.size < w9.heap.size ∧ w9.cell? ⟨w.heap.size, 0, none⟩ = some (.int .i64 (t : Int)) ∧ w9.cell? ⟨w.heap.size, 1, none⟩ = some (.int .i64 (c : Int)) ∧ w9.cell? ⟨w.heap.size, 2, none⟩ = some (.slice (some ⟨b, off, none⟩) n ka) := ⟨HV9.out.1, HV9.out.2.1 0 _ rfl, HV9.out.2.1 1 _ rfl, HV9.out.2.1 2 _ rfl⟩
      have hx9 := HX.out w9 HBL9.out
      go_quiet (first | (go_at_call 43; with_reducible exact quiet_call (hFLD _)) | (go_at_call 42; with_reducible exact quiet_call (hFST _)))
      go_wp2_with fail
      go_roundw
      case rel => exact ⟨l1 ++ [r], l2, r2, by rw [HE.out]; simp, rfl, HCH.out, HOWN9.out, below_draw HBL9.out _, HV9.out, HSZ9.out⟩
      case measure =>
        have h9 := HOWN9.out.len
        have := HLEN.out
        rw [h9]
        simp only [lenV, List.length_append, List.length_singleton]
        omega

/-! ### Pop and Push alone, on a memory for one thread -/
section
variable (c r : Nat) (hc : c ≤ 65536) (G : Nat → Nat) (hG : ∀ j, G j < 18446744073709551616) (A : Option Addr) (ka : Nat) (R : Option Addr) (ra : Nat) (S : Option Addr) (sa : Nat) (w : World) (h0 : Hid (AtW w A (sizeN 1 c) G)) (h1 : Hid (StmsAt w R 1 (zerosS 1))) (h2 : Hid (StmsAt w S 1 (zerosS 1)))
include hc hG h0 h1 h2
end
end Go.Proofs.Ythcifknnppohfaa
namespace Go.Proofs.Ythcifknnppohfaa
open Go.ChangeShapes Go.WideShapes Go.ChangeAt Go.RowKit Go.BigFrame
set_option linter.unusedVariables false
set_option maxRecDepth 100000

/-- Free and had: each record once, none missing. -/
structure Parts (c : Nat) (G : Nat → Nat) (l hs : List Nat) : Prop where
  free : FreeIs 1 G l
  nodup : (l ++ hs).Nodup
  le : ∀ a ∈ l ++ hs, 1 ≤ a ∧ a ≤ c
  len : l.length + hs.length = c
theorem Parts.start {c : Nat} (hc : c < 1048576) : Parts c (newF 1 c) (List.range' 1 c) [] :=
  ⟨new_free hc, by rw [List.append_nil]; exact List.nodup_range', fun a ha => by rw [List.append_nil, List.mem_range'_1] at ha; omega, by rw [List.length_range']; rfl⟩
theorem Parts.pop {c a : Nat} {G : Nat → Nat} {l hs : List Nat} (h : Parts c G (a :: l) hs) : Parts c (popG 1 G) l (hs ++ [a]) := by
  have hp : (l ++ (hs ++ [a])).Perm ((a :: l) ++ hs) := by
    rw [← List.append_assoc]
    exact List.perm_append_comm
  exact ⟨h.free.pop, hp.nodup_iff.2 h.nodup, fun b hb => h.le b (hp.mem_iff.1 hb), by have := h.len; simp at this ⊢; omega⟩
theorem Parts.push {c q : Nat} {G : Nat → Nat} {l hs hs' : List Nat} (h : Parts c G l hs) (hp : hs.Perm (q :: hs')) (hc : c < 1048576) : Parts c (pushG 1 q G) (q :: l) hs' := by
  have hq : (l ++ hs).Perm ((q :: l) ++ hs') := (List.Perm.append_left l hp).trans List.perm_middle
  have hm := h.le q (hq.mem_iff.2 (List.mem_append_left _ (List.mem_cons_self ..)))
  have hn := hq.nodup_iff.1 h.nodup
  have hno : q ∉ l := by
    intro hx
    rw [List.cons_append, List.nodup_cons] at hn
    exact hn.1 (List.mem_append_left _ hx)
  have hl := hp.length_eq
  exact ⟨h.free.push hm.1 (by omega) hno, hn, fun b hb => h.le b (hq.mem_iff.2 hb), by have := h.len; simp at hl ⊢; omega⟩
theorem Parts.last {c : Nat} {G : Nat → Nat} {l hs : List Nat} {q : Nat} (h : Parts c G l (hs ++ [q])) (hc : c < 1048576) : Parts c (pushG 1 q G) (q :: l) hs := h.push (by
  have := List.perm_append_comm (l₁ := hs) (l₂ := [q])
  exact this) hc

/-- A loop's state: the world in its variable, and a row of ints of the call's own. -/
structure RunT (y0 : World) (gx B0 : Nat) (c : Int) (n r : Nat) (v : Value) (hs : List Nat) (G : Nat → Nat) (x : World) : Prop where
  below : Below y0.heap.size y0 x
  size : B0 ≤ x.heap.size
  lt : y0.heap.size ≤ gx ∧ gx < B0
  run : WdFrom (Nt gx gx v) (fun _ => False) x gx 1 c n r 1 G (zerosS 1) (zerosS 1)
  own : OwnI x B0 v hs
section
variable {y0 : World} {gx B0 : Nat} {c : Int} {n r : Nat} {v : Value} {hs : List Nat} {G : Nat → Nat} {x x' : World}
theorem RunT.later (h : RunT y0 gx B0 c n r v hs G x) (hb : Below x.heap.size x x') : RunT y0 gx B0 c n r v hs G x' :=
  ⟨h.below.trans (hb.mono h.below.size), Nat.le_trans h.size hb.size, h.lt, h.run.later hb, h.own.later hb⟩
theorem RunT.next {v' : Value} {hs' : List Nat} {w' : World} (h : RunT y0 gx B0 c n r v hs G x) (hown : OwnI w' B0 v' hs') (hg : x.grownBy w' v.ownBlock) (hv : v'.ownBlock = v.ownBlock ∨ v'.ownBlock = some x.heap.size) : RunT y0 gx B0 c n r v' hs' G w' := by
  have hrow : ∀ k, v.ownBlock = some k → B0 ≤ k := fun k hk => (h.own.lt k hk).1
  have hK : Keep (fun b => Nt gx gx v b ∧ Nt gx gx v' b) x w' := Keep.grown hg (fun b hb k hk => hb.1.2.2 k hk)
  have sub : ∀ b, b < x.heap.size → Nt gx gx v b → Nt gx gx v b ∧ Nt gx gx v' b := fun b hb hn => ⟨hn, hn.both hv hb⟩
  have hlt := h.lt
  have hvx : ∀ us, VarAt x gx us → VarAt w' gx us := fun us hu => hu.grown hg (fun k hk e => by have := hrow k hk; omega)
  have hb : Below y0.heap.size y0 w' := h.below.grown hg h.below.size (fun k hk => by have := hrow k hk; omega)
  exact ⟨hb, Nat.le_trans h.size hg.size, hlt, ((h.run.sub sub).keep hK hvx).sub fun b _ h => h.2, hown⟩
theorem RunT.cut {a : Option Addr} {k cap m : Nat} (h : RunT y0 gx B0 c n r (.slice a k cap) hs G x) (hm : m ≤ hs.length) (hz : a ≠ none) : RunT y0 gx B0 c n r (.slice a m cap) (hs.take m) G x :=
  ⟨h.below, h.size, h.lt, h.run.sub fun b _ hn => ⟨hn.1, hn.2.1, fun k hk => hn.2.2 k (by cases a <;> exact hk)⟩, h.own.cut hm hz⟩
end
end Go.Proofs.Ythcifknnppohfaa
namespace Go.Proofs.Ythcifknnppohfaa
open Go.ChangeShapes Go.WideShapes Go.ChangeAt Go.RowKit Go.BigFrame
set_option linter.unusedVariables false
set_option maxRecDepth 100000
set_option maxRecDepth 100000

def Nt2 (g : Nat) (u v : Value) (b : Nat) : Prop := b ≠ g ∧ (∀ k, u.ownBlock = some k → b ≠ k) ∧ ∀ k, v.ownBlock = some k → b ≠ k
theorem Nt2.swap {g : Nat} {u v : Value} {b : Nat} (h : Nt2 g u v b) : Nt2 g v u b := ⟨h.1, h.2.2, h.2.1⟩
theorem Nt2.both {g : Nat} {u u' v : Value} {N b : Nat} (h : Nt2 g u v b) (hv : u'.ownBlock = u.ownBlock ∨ u'.ownBlock = some N) (hb : b < N) : Nt2 g u' v b := by
  refine ⟨h.1, fun k hk => ?_, h.2.2⟩
  rcases hv with e | e
  · exact h.2.1 k (by rw [← e]; exact hk)
  · rw [e] at hk
    cases hk
    omega
structure RunU (y0 : World) (gx B0 : Nat) (c : Int) (n r : Nat) (pv hv : Value) (ps hs : List Nat) (G : Nat → Nat) (x : World) : Prop where
  below : Below y0.heap.size y0 x
  size : B0 ≤ x.heap.size
  lt : y0.heap.size ≤ gx ∧ gx < B0
  run : WdFrom (Nt2 gx pv hv) (fun _ => False) x gx 1 c n r 1 G (zerosS 1) (zerosS 1)
  pile : OwnI x B0 pv ps
  held : OwnI x B0 hv hs
  apart : ∀ k, pv.ownBlock = some k → hv.ownBlock ≠ some k
section
variable {y0 : World} {gx B0 : Nat} {c : Int} {n r : Nat} {pv hv : Value} {ps hs : List Nat} {G : Nat → Nat} {x x' : World}
theorem RunU.swap (h : RunU y0 gx B0 c n r pv hv ps hs G x) : RunU y0 gx B0 c n r hv pv hs ps G x :=
  ⟨h.below, h.size, h.lt, h.run.sub fun b _ hn => hn.swap, h.held, h.pile, fun k h1 h2 => h.apart k h2 h1⟩
theorem RunU.later (h : RunU y0 gx B0 c n r pv hv ps hs G x) (hb : Below x.heap.size x x') : RunU y0 gx B0 c n r pv hv ps hs G x' :=
  ⟨h.below.trans (hb.mono h.below.size), Nat.le_trans h.size hb.size, h.lt, h.run.later hb, h.pile.later hb, h.held.later hb, h.apart⟩
theorem RunU.old (h : RunU y0 gx B0 c n r pv hv ps hs G x) : ∀ b, x.heap.size ≤ b → Nt2 gx pv hv b := fun b hb => ⟨by have := h.lt; have := h.size; omega, fun k hk => by have := (h.pile.lt k hk).2; omega, fun k hk => by have := (h.held.lt k hk).2; omega⟩
theorem RunU.nextP {pv' : Value} {ps' : List Nat} {w' : World} (h : RunU y0 gx B0 c n r pv hv ps hs G x) (hown : OwnI w' B0 pv' ps') (hg : x.grownBy w' pv.ownBlock) (hv1 : pv'.ownBlock = pv.ownBlock ∨ pv'.ownBlock = some x.heap.size) : RunU y0 gx B0 c n r pv' hv ps' hs G w' := by
  have hrow : ∀ k, pv.ownBlock = some k → B0 ≤ k := fun k hk => (h.pile.lt k hk).1
  have hK : Keep (fun b => Nt2 gx pv hv b ∧ Nt2 gx pv' hv b) x w' := Keep.grown hg (fun b hb k hk => hb.1.2.1 k hk)
  have sub : ∀ b, b < x.heap.size → Nt2 gx pv hv b → Nt2 gx pv hv b ∧ Nt2 gx pv' hv b := fun b hb hn => ⟨hn, hn.both hv1 hb⟩
  have hlt := h.lt
  have hvx : ∀ us, VarAt x gx us → VarAt w' gx us := fun us hu => hu.grown hg (fun k hk e => by have := hrow k hk; omega)
  have hb : Below y0.heap.size y0 w' := h.below.grown hg h.below.size (fun k hk => by have := hrow k hk; omega)
  refine ⟨hb, Nat.le_trans h.size hg.size, hlt, ((h.run.sub sub).keep hK hvx).sub fun b _ h => h.2, hown, h.held.kept hg ?_, ?_⟩
  · cases hh : hv.ownBlock with
    | none => exact .inl rfl
    | some k => exact .inr (fun e => h.apart k e.symm hh)
  · intro k hk
    rcases hv1 with e | e
    · exact h.apart k (by rw [← e]; exact hk)
    · intro hh
      rw [e] at hk
      cases hk
      have := (h.held.lt _ hh).2
      omega
theorem RunU.cutP {a : Option Addr} {k cap m : Nat} (h : RunU y0 gx B0 c n r (.slice a k cap) hv ps hs G x) (hm : m ≤ ps.length) (hz : a ≠ none) : RunU y0 gx B0 c n r (.slice a m cap) hv (ps.take m) hs G x :=
  ⟨h.below, h.size, h.lt, h.run.sub fun b _ hn => ⟨hn.1, fun k hk => hn.2.1 k (by cases a <;> exact hk), hn.2.2⟩, h.pile.cut hm hz, h.held, fun k hk => h.apart k (by cases a <;> exact hk)⟩
theorem RunU.newH {hv' : Value} {hs' : List Nat} (h : RunU y0 gx B0 c n r pv hv ps hs G x) (hb : Below x.heap.size x x') (hown : OwnI x' x.heap.size hv' hs') : RunU y0 gx B0 c n r pv hv' ps hs' G x' :=
  ⟨h.below.trans (hb.mono h.below.size), Nat.le_trans h.size hb.size, h.lt, (h.run.sub fun b hbb hn => (⟨hn.1, hn.2.1, fun k hk => by have := (hown.lt k hk).1; omega⟩ : Nt2 gx pv hv' b)).later hb, h.pile.later hb, hown.low h.size, fun k hk hh => by have := (h.pile.lt k hk).2; have := (hown.lt k hh).1; omega⟩
/-- Behind a store into the world's variable. -/
theorem RunU.put {G' : Nat → Nat} (h : RunU y0 gx B0 c n r pv hv ps hs G x) (hb : Below y0.heap.size y0 x') (hs0 : x.heap.size ≤ x'.heap.size) (hp : OwnI x' B0 pv ps) (hh : OwnI x' B0 hv hs) (hrun : WdFrom (Nt2 gx pv hv) (fun _ => False) x' gx 1 c n r 1 G' (zerosS 1) (zerosS 1)) : RunU y0 gx B0 c n r pv hv ps hs G' x' :=
  ⟨hb, Nat.le_trans h.size hs0, h.lt, hrun, hp, hh, h.apart⟩
end
/-- And a world that is to be stored in a variable of its own, and what was told in another. -/
structure RunP (y0 : World) (gx B0 : Nat) (c : Int) (n r : Nat) (pv hv : Value) (ps hs : List Nat) (G : Nat → Nat) (g' go : Nat) (O : List Value) (G' : Nat → Nat) (x : World) : Prop where
  u : RunU y0 gx B0 c n r pv hv ps hs G x
  next : WdFrom (Nt2 gx pv hv) (fun _ => False) x g' 1 c n r 1 G' (zerosS 1) (zerosS 1)
  out : VarAt x go O
  far : B0 ≤ g' ∧ B0 ≤ go
  off : ∀ k, pv.ownBlock = some k ∨ hv.ownBlock = some k → g' ≠ k ∧ go ≠ k
section
variable {y0 : World} {gx B0 : Nat} {c : Int} {n r : Nat} {pv hv : Value} {ps hs : List Nat} {G G' : Nat → Nat} {g' go : Nat} {O : List Value} {x x' : World}
theorem RunP.swap (h : RunP y0 gx B0 c n r pv hv ps hs G g' go O G' x) : RunP y0 gx B0 c n r hv pv hs ps G g' go O G' x :=
  ⟨h.u.swap, h.next.sub fun b _ hn => hn.swap, h.out, h.far, fun k hk => h.off k hk.symm⟩
theorem RunP.later (h : RunP y0 gx B0 c n r pv hv ps hs G g' go O G' x) (hb : Below x.heap.size x x') : RunP y0 gx B0 c n r pv hv ps hs G g' go O G' x' :=
  ⟨h.u.later hb, h.next.later hb, h.out.below hb, h.far, h.off⟩
theorem RunP.nextP {pv' : Value} {ps' : List Nat} {w' : World} (h : RunP y0 gx B0 c n r pv hv ps hs G g' go O G' x) (hown : OwnI w' B0 pv' ps') (hg : x.grownBy w' pv.ownBlock) (hv1 : pv'.ownBlock = pv.ownBlock ∨ pv'.ownBlock = some x.heap.size) : RunP y0 gx B0 c n r pv' hv ps' hs G g' go O G' w' := by
  have hK : Keep (fun b => Nt2 gx pv hv b ∧ Nt2 gx pv' hv b) x w' := Keep.grown hg (fun b hb k hk => hb.1.2.1 k hk)
  have sub : ∀ b, b < x.heap.size → Nt2 gx pv hv b → Nt2 gx pv hv b ∧ Nt2 gx pv' hv b := fun b hb hn => ⟨hn, hn.both hv1 hb⟩
  have hoff := h.off
  have hl1 := h.next.lt
  have hl2 := h.out.1
  refine ⟨h.u.nextP hown hg hv1, ((h.next.sub sub).keep hK (fun us hu => hu.grown hg (fun k hk => (hoff k (.inl hk)).1))).sub fun b _ h => h.2, h.out.grown hg (fun k hk => (hoff k (.inl hk)).2), h.far, ?_⟩
  intro k hk
  rcases hk with hk | hk
  · rcases hv1 with e | e
    · exact hoff k (.inl (by rw [← e]; exact hk))
    · rw [e] at hk
      cases hk
      omega
  · exact hoff k (.inr hk)
theorem RunP.nextH {hv' : Value} {hs' : List Nat} {w' : World} (h : RunP y0 gx B0 c n r pv hv ps hs G g' go O G' x) (hown : OwnI w' B0 hv' hs') (hg : x.grownBy w' hv.ownBlock) (hv1 : hv'.ownBlock = hv.ownBlock ∨ hv'.ownBlock = some x.heap.size) : RunP y0 gx B0 c n r pv hv' ps hs' G g' go O G' w' := (h.swap.nextP hown hg hv1).swap
theorem RunP.cutP {a : Option Addr} {k cap m : Nat} (h : RunP y0 gx B0 c n r (.slice a k cap) hv ps hs G g' go O G' x) (hm : m ≤ ps.length) (hz : a ≠ none) : RunP y0 gx B0 c n r (.slice a m cap) hv (ps.take m) hs G g' go O G' x :=
  ⟨h.u.cutP hm hz, h.next.sub fun b _ hn => ⟨hn.1, fun k hk => hn.2.1 k (by cases a <;> exact hk), hn.2.2⟩, h.out, h.far, fun k hk => h.off k (hk.imp (fun e => by cases a <;> exact e) id)⟩
theorem RunP.newH {hv' : Value} {hs' : List Nat} (h : RunP y0 gx B0 c n r pv hv ps hs G g' go O G' x) (hb : Below x.heap.size x x') (hown : OwnI x' x.heap.size hv' hs') : RunP y0 gx B0 c n r pv hv' ps hs' G g' go O G' x' :=
  ⟨h.u.newH hb hown, (h.next.sub fun b hbb hn => (⟨hn.1, hn.2.1, fun k hk => by have := (hown.lt k hk).1; omega⟩ : Nt2 gx pv hv' b)).later hb, h.out.below hb, h.far, fun k hk => by
    have h1 := h.next.lt
    have h2 := h.out.1
    rcases hk with hk | hk
    · exact h.off k (.inl hk)
    · have := (hown.lt k hk).1
      omega⟩
end
/-! ### Appends where the order is drawn -/
theorem OwnI.made (w : World) : OwnI (w.alloc (.cells #[] 3)) w.heap.size (.slice (some ⟨w.heap.size, 0, none⟩) 0 0) [] :=
  ⟨by simp [intV], .inr ⟨w.heap.size, 0, #[], rfl, Nat.le_refl _, heap_alloc_new w _, Nat.le_refl _, by unfold maxLen; omega, by simp, by simp [intV]⟩⟩
def RowI (w : World) (ad : Addr) (m : Nat) (ys : List Nat) : Prop := ys.length = m ∧ ∀ (j u : Nat), ys[j]? = some u → (ad.add j).block < w.heap.size ∧ w.cell? (ad.add j) = some (.int .i64 (u : Int))
theorem RowI.below {w w' : World} {ad : Addr} {m : Nat} {ys : List Nat} (h : RowI w ad m ys) (hb : Below w.heap.size w w') : RowI w' ad m ys := ⟨h.1, fun j u hu => ⟨Nat.lt_of_lt_of_le (h.2 j u hu).1 hb.size, (hb.cell (h.2 j u hu).1).trans (h.2 j u hu).2⟩⟩
theorem step_appendI {ops : Array Oper} {o : Oper} {a : Act} {w0 w : World} {K : Act → World → Prop} {Q : Exit → Act → World → Prop} {E : Prop} (hB : Below w0.heap.size w0 w) (hg : o.guard = none) (s x : Operand)
    (ho : o.op = .call { callee := .builtin .append, args := #[s, x], argTypes := #[35, 35] }) (v : Value) (xs : List Nat) (hs : a.eval s = v) (hown : OwnI w w0.heap.size v xs)
    (ad : Addr) (m c : Nat) (ys : List Nat) (hx : a.eval x = .slice (some ad) m c) (hA : RowI w ad m ys) (hb : xs.length + m ≤ 900000)
    (h : ∀ v' w', OwnI w' w0.heap.size v' (xs ++ ys) → Below w0.heap.size w0 w' → K (a.put o.dst v') w') : if Region.wanted o (yielded ops a.tmps) = true then Oper.wp Try.prog o a w K Q else E := by
  have hw : Region.wanted o (yielded ops a.tmps) = true := by simp [Region.wanted, hg]
  rw [if_pos hw]
  obtain ⟨i, hi, hz0, hz1, hz2⟩ := info_parts infoI
  have hone : ∀ u ∈ intV ys, u.oneCell' = true := by
    intro u hu
    unfold intV at hu
    obtain ⟨y, _, rfl⟩ := List.mem_map.1 hu
    rfl
  have hnews : ∀ j u, (intV ys)[j]? = some u → w.cell? (ad.add j) = some u := by
    intro j u hu
    unfold intV at hu
    rw [List.getElem?_map] at hu
    cases hy : ys[j]? with
    | none => rw [hy] at hu; cases hu
    | some y => rw [hy] at hu; cases hu; exact (hA.2 j y hy).2
  obtain ⟨v', w', hr, h2, h3, _⟩ := run_append_own (P := Try.prog) w w0.heap.size 35 o.type 3 i _ 1 8 Try.underlying35 hi hz0 hz1 hz2 rfl (by decide) v xs.length (intV xs) hown ad m c (intV ys)
    (by rw [intV_len, hA.1]; omega) hnews hone (by unfold maxLen; omega) (by omega) hB.size
  have h2' : OwnI w' w0.heap.size v' (xs ++ ys) := by
    unfold OwnI
    rw [List.length_append, hA.1, show intV (xs ++ ys) = intV xs ++ intV ys by unfold intV; rw [List.map_append]]
    exact h2
  unfold Oper.wp execOp
  simp only [ho, resolve, invoke, builtin, Sem.run_bind, Sem.run_pure, Result.andThen_ok, List.map_toArray, List.map_cons, List.map_nil, hs, hx, hr]
  exact h v' w' h2' (hown.grow h3 hB (Nat.le_refl _))
theorem OwnI.at_ {w : World} {B n cap j y : Nat} {a : Option Addr} {xs : List Nat} (h : OwnI w B (.slice a n cap) xs) (hx : xs[j]? = some y) : ∃ g, a = some ⟨g, 0, none⟩ ∧ n ≤ cap ∧ w.cell? ⟨g, j, none⟩ = some (.int .i64 (y : Int)) := by
  obtain ⟨a', cap', e, hcap, _, hc⟩ := h.form
  cases e
  obtain ⟨g, e, _, _, hcell⟩ := hc j y hx
  exact ⟨g, e, hcap, hcell⟩
theorem pile_step {c j : Nat} (h : j + 1 ≤ c) : (List.range' (j + 1 + 1) (c - (j + 1))).reverse ++ [j + 1] = (List.range' (j + 1) (c - j)).reverse := by
  rw [show c - j = (c - (j + 1)) + 1 by omega, List.range'_succ, List.reverse_cons]
theorem perm_at {hs : List Nat} {k q : Nat} (h : hs[k]? = some q) : hs.Perm (q :: (hs.take k ++ hs.drop (k + 1))) := by
  obtain ⟨hk, rfl⟩ := List.getElem?_eq_some_iff.1 h
  have h1 : hs = hs.take k ++ hs[k] :: hs.drop (k + 1) := by rw [← List.drop_eq_getElem_cons hk, List.take_append_drop]
  have h2 : (hs.take k ++ hs[k] :: hs.drop (k + 1)).Perm (hs[k] :: (hs.take k ++ hs.drop (k + 1))) := List.perm_middle
  rw [← h1] at h2
  exact h2
/-- The front and the end of a row, as they are cut. -/
theorem OwnI.front {w : World} {B g cap k : Nat} {xs : List Nat} (h : OwnI w B (.slice (some ⟨g, 0, none⟩) xs.length cap) xs) (hk : k ≤ xs.length) : RowI w ⟨g, 0, none⟩ k (xs.take k) := by
  obtain ⟨a, cap', e, _, _, hc⟩ := h.form
  cases e
  refine ⟨by rw [List.length_take]; omega, fun j u hu => ?_⟩
  have hj := (List.getElem?_eq_some_iff.1 hu).1
  rw [List.length_take] at hj
  rw [List.getElem?_take_of_lt (by omega)] at hu
  obtain ⟨g2, e, _, hlt, hcell⟩ := hc j u hu
  cases e
  rw [Addr.add_mid, Nat.zero_add]
  exact ⟨hlt, hcell⟩
theorem OwnI.back {w : World} {B g cap k : Nat} {xs : List Nat} (h : OwnI w B (.slice (some ⟨g, 0, none⟩) xs.length cap) xs) (hk : k ≤ xs.length) : ∃ ad, (∀ W, (Instr.slice 35 (.slice (some ⟨g, 0, none⟩) xs.length cap) (some (.int .i64 (k : Int))) none none).run Try.prog W = .ok (.slice (some ad) (xs.length - k) (cap - k)) W) ∧ RowI w ad (xs.length - k) (xs.drop k) := by
  obtain ⟨a, cap', e, hcap, _, hc⟩ := h.form
  cases e
  refine ⟨if cap = k then ⟨g, 0, none⟩ else (⟨g, 0, none⟩ : Addr).add (k * 1), fun W => ?_, by rw [List.length_drop], fun j u hu => ?_⟩
  · rw [run_cutI_l (some ⟨g, 0, none⟩) xs.length cap k hk W]
    by_cases hck : cap = k
    · rw [if_pos hck, if_pos hck]
    · rw [if_neg hck, if_neg hck]; rfl
  · have hj := (List.getElem?_eq_some_iff.1 hu).1
    rw [List.length_drop] at hj
    rw [if_neg (by omega), Addr.add_mid, Addr.add_mid, Nat.zero_add, Nat.mul_one]
    rw [List.getElem?_drop] at hu
    obtain ⟨g2, e, _, hlt, hcell⟩ := hc (k + j) u hu
    cases e
    exact ⟨hlt, hcell⟩
end Go.Proofs.Ythcifknnppohfaa
namespace Go.Proofs.Ythcifknnppohfaa
open Go.ChangeShapes Go.WideShapes Go.ChangeAt Go.RowKit Go.BigFrame
set_option linter.unusedVariables false
set_option maxRecDepth 100000

structure RunU3 (y0 : World) (gx B0 : Nat) (t c : Int) (n r mt : Nat) (pv hv : Value) (ps hs : List Nat) (G : Nat → Nat) (x : World) : Prop where
  below : Below y0.heap.size y0 x
  size : B0 ≤ x.heap.size
  lt : y0.heap.size ≤ gx ∧ gx < B0
  run : WdFrom (Nt2 gx pv hv) (fun _ => False) x gx t c n r mt G (zerosS mt) (zerosS mt)
  pile : OwnI x B0 pv ps
  held : OwnI x B0 hv hs
  apart : ∀ k, pv.ownBlock = some k → hv.ownBlock ≠ some k
section
variable {y0 : World} {gx B0 : Nat} {t c : Int} {n r mt : Nat} {pv hv : Value} {ps hs : List Nat} {G : Nat → Nat} {x x' : World}
theorem RunU3.swap (h : RunU3 y0 gx B0 t c n r mt pv hv ps hs G x) : RunU3 y0 gx B0 t c n r mt hv pv hs ps G x :=
  ⟨h.below, h.size, h.lt, h.run.sub fun b _ hn => hn.swap, h.held, h.pile, fun k h1 h2 => h.apart k h2 h1⟩
theorem RunU3.later (h : RunU3 y0 gx B0 t c n r mt pv hv ps hs G x) (hb : Below x.heap.size x x') : RunU3 y0 gx B0 t c n r mt pv hv ps hs G x' :=
  ⟨h.below.trans (hb.mono h.below.size), Nat.le_trans h.size hb.size, h.lt, h.run.later hb, h.pile.later hb, h.held.later hb, h.apart⟩
theorem RunU3.old (h : RunU3 y0 gx B0 t c n r mt pv hv ps hs G x) : ∀ b, x.heap.size ≤ b → Nt2 gx pv hv b := fun b hb => ⟨by have := h.lt; have := h.size; omega, fun k hk => by have := (h.pile.lt k hk).2; omega, fun k hk => by have := (h.held.lt k hk).2; omega⟩
theorem RunU3.nextP {pv' : Value} {ps' : List Nat} {w' : World} (h : RunU3 y0 gx B0 t c n r mt pv hv ps hs G x) (hown : OwnI w' B0 pv' ps') (hg : x.grownBy w' pv.ownBlock) (hv1 : pv'.ownBlock = pv.ownBlock ∨ pv'.ownBlock = some x.heap.size) : RunU3 y0 gx B0 t c n r mt pv' hv ps' hs G w' := by
  have hrow : ∀ k, pv.ownBlock = some k → B0 ≤ k := fun k hk => (h.pile.lt k hk).1
  have hK : Keep (fun b => Nt2 gx pv hv b ∧ Nt2 gx pv' hv b) x w' := Keep.grown hg (fun b hb k hk => hb.1.2.1 k hk)
  have sub : ∀ b, b < x.heap.size → Nt2 gx pv hv b → Nt2 gx pv hv b ∧ Nt2 gx pv' hv b := fun b hb hn => ⟨hn, hn.both hv1 hb⟩
  have hlt := h.lt
  have hvx : ∀ us, VarAt x gx us → VarAt w' gx us := fun us hu => hu.grown hg (fun k hk e => by have := hrow k hk; omega)
  have hb : Below y0.heap.size y0 w' := h.below.grown hg h.below.size (fun k hk => by have := hrow k hk; omega)
  refine ⟨hb, Nat.le_trans h.size hg.size, hlt, ((h.run.sub sub).keep hK hvx).sub fun b _ h => h.2, hown, h.held.kept hg ?_, ?_⟩
  · cases hh : hv.ownBlock with
    | none => exact .inl rfl
    | some k => exact .inr (fun e => h.apart k e.symm hh)
  · intro k hk
    rcases hv1 with e | e
    · exact h.apart k (by rw [← e]; exact hk)
    · intro hh
      rw [e] at hk
      cases hk
      have := (h.held.lt _ hh).2
      omega
theorem RunU3.cutP {a : Option Addr} {k cap m : Nat} (h : RunU3 y0 gx B0 t c n r mt (.slice a k cap) hv ps hs G x) (hm : m ≤ ps.length) (hz : a ≠ none) : RunU3 y0 gx B0 t c n r mt (.slice a m cap) hv (ps.take m) hs G x :=
  ⟨h.below, h.size, h.lt, h.run.sub fun b _ hn => ⟨hn.1, fun k hk => hn.2.1 k (by cases a <;> exact hk), hn.2.2⟩, h.pile.cut hm hz, h.held, fun k hk => h.apart k (by cases a <;> exact hk)⟩
theorem RunU3.newH {hv' : Value} {hs' : List Nat} (h : RunU3 y0 gx B0 t c n r mt pv hv ps hs G x) (hb : Below x.heap.size x x') (hown : OwnI x' x.heap.size hv' hs') : RunU3 y0 gx B0 t c n r mt pv hv' ps hs' G x' :=
  ⟨h.below.trans (hb.mono h.below.size), Nat.le_trans h.size hb.size, h.lt, (h.run.sub fun b hbb hn => (⟨hn.1, hn.2.1, fun k hk => by have := (hown.lt k hk).1; omega⟩ : Nt2 gx pv hv' b)).later hb, h.pile.later hb, hown.low h.size, fun k hk hh => by have := (h.pile.lt k hk).2; have := (hown.lt k hh).1; omega⟩
/-- Behind a store into the world's variable. -/
theorem RunU3.put {G' : Nat → Nat} (h : RunU3 y0 gx B0 t c n r mt pv hv ps hs G x) (hb : Below y0.heap.size y0 x') (hs0 : x.heap.size ≤ x'.heap.size) (hp : OwnI x' B0 pv ps) (hh : OwnI x' B0 hv hs) (hrun : WdFrom (Nt2 gx pv hv) (fun _ => False) x' gx t c n r mt G' (zerosS mt) (zerosS mt)) : RunU3 y0 gx B0 t c n r mt pv hv ps hs G' x' :=
  ⟨hb, Nat.le_trans h.size hs0, h.lt, hrun, hp, hh, h.apart⟩
end
/-- And a world that is to be stored in a variable of its own, and what was told in another. -/
structure RunP3 (y0 : World) (gx B0 : Nat) (t c : Int) (n r mt : Nat) (pv hv : Value) (ps hs : List Nat) (G : Nat → Nat) (g' go : Nat) (O : List Value) (G' : Nat → Nat) (x : World) : Prop where
  u : RunU3 y0 gx B0 t c n r mt pv hv ps hs G x
  next : WdFrom (Nt2 gx pv hv) (fun _ => False) x g' t c n r mt G' (zerosS mt) (zerosS mt)
  out : VarAt x go O
  far : B0 ≤ g' ∧ B0 ≤ go
  off : ∀ k, pv.ownBlock = some k ∨ hv.ownBlock = some k → g' ≠ k ∧ go ≠ k
section
variable {y0 : World} {gx B0 : Nat} {t c : Int} {n r mt : Nat} {pv hv : Value} {ps hs : List Nat} {G G' : Nat → Nat} {g' go : Nat} {O : List Value} {x x' : World}
theorem RunP3.swap (h : RunP3 y0 gx B0 t c n r mt pv hv ps hs G g' go O G' x) : RunP3 y0 gx B0 t c n r mt hv pv hs ps G g' go O G' x :=
  ⟨h.u.swap, h.next.sub fun b _ hn => hn.swap, h.out, h.far, fun k hk => h.off k hk.symm⟩
theorem RunP3.later (h : RunP3 y0 gx B0 t c n r mt pv hv ps hs G g' go O G' x) (hb : Below x.heap.size x x') : RunP3 y0 gx B0 t c n r mt pv hv ps hs G g' go O G' x' :=
  ⟨h.u.later hb, h.next.later hb, h.out.below hb, h.far, h.off⟩
theorem RunP3.nextP {pv' : Value} {ps' : List Nat} {w' : World} (h : RunP3 y0 gx B0 t c n r mt pv hv ps hs G g' go O G' x) (hown : OwnI w' B0 pv' ps') (hg : x.grownBy w' pv.ownBlock) (hv1 : pv'.ownBlock = pv.ownBlock ∨ pv'.ownBlock = some x.heap.size) : RunP3 y0 gx B0 t c n r mt pv' hv ps' hs G g' go O G' w' := by
  have hK : Keep (fun b => Nt2 gx pv hv b ∧ Nt2 gx pv' hv b) x w' := Keep.grown hg (fun b hb k hk => hb.1.2.1 k hk)
  have sub : ∀ b, b < x.heap.size → Nt2 gx pv hv b → Nt2 gx pv hv b ∧ Nt2 gx pv' hv b := fun b hb hn => ⟨hn, hn.both hv1 hb⟩
  have hoff := h.off
  have hl1 := h.next.lt
  have hl2 := h.out.1
  refine ⟨h.u.nextP hown hg hv1, ((h.next.sub sub).keep hK (fun us hu => hu.grown hg (fun k hk => (hoff k (.inl hk)).1))).sub fun b _ h => h.2, h.out.grown hg (fun k hk => (hoff k (.inl hk)).2), h.far, ?_⟩
  intro k hk
  rcases hk with hk | hk
  · rcases hv1 with e | e
    · exact hoff k (.inl (by rw [← e]; exact hk))
    · rw [e] at hk
      cases hk
      omega
  · exact hoff k (.inr hk)
theorem RunP3.nextH {hv' : Value} {hs' : List Nat} {w' : World} (h : RunP3 y0 gx B0 t c n r mt pv hv ps hs G g' go O G' x) (hown : OwnI w' B0 hv' hs') (hg : x.grownBy w' hv.ownBlock) (hv1 : hv'.ownBlock = hv.ownBlock ∨ hv'.ownBlock = some x.heap.size) : RunP3 y0 gx B0 t c n r mt pv hv' ps hs' G g' go O G' w' := (h.swap.nextP hown hg hv1).swap
theorem RunP3.cutP {a : Option Addr} {k cap m : Nat} (h : RunP3 y0 gx B0 t c n r mt (.slice a k cap) hv ps hs G g' go O G' x) (hm : m ≤ ps.length) (hz : a ≠ none) : RunP3 y0 gx B0 t c n r mt (.slice a m cap) hv (ps.take m) hs G g' go O G' x :=
  ⟨h.u.cutP hm hz, h.next.sub fun b _ hn => ⟨hn.1, fun k hk => hn.2.1 k (by cases a <;> exact hk), hn.2.2⟩, h.out, h.far, fun k hk => h.off k (hk.imp (fun e => by cases a <;> exact e) id)⟩
theorem RunP3.newH {hv' : Value} {hs' : List Nat} (h : RunP3 y0 gx B0 t c n r mt pv hv ps hs G g' go O G' x) (hb : Below x.heap.size x x') (hown : OwnI x' x.heap.size hv' hs') : RunP3 y0 gx B0 t c n r mt pv hv' ps hs' G g' go O G' x' :=
  ⟨h.u.newH hb hown, (h.next.sub fun b hbb hn => (⟨hn.1, hn.2.1, fun k hk => by have := (hown.lt k hk).1; omega⟩ : Nt2 gx pv hv' b)).later hb, h.out.below hb, h.far, fun k hk => by
    have h1 := h.next.lt
    have h2 := h.out.1
    rcases hk with hk | hk
    · exact h.off k (.inl hk)
    · have := (hown.lt k hk).1
      omega⟩
end
end Go.Proofs.Ythcifknnppohfaa
