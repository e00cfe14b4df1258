/- LstLinked -/
import Derived.Test.YtibpfkcackdbgaaGreatDoorLstChain
import Derived.Test.YtibpfkcackdbgaaGreatDoorEpcE
import Derived.Test.YtibpfkcackdbgaaGreatDoorPolB
import Derived.Test.YtibpfkcackdbgaaGreatDoorWrdRef
namespace Go.Proofs.YtibpfkcackdbgaaGreatDoor
open Go.ChangeShapes Go.WideShapes Go.ChangeAt Go.RowKit Go.BigFrame
set_option linter.unusedVariables false
set_option maxRecDepth 100000
def lenV : Value → Nat | .slice _ n _ => n | _ => 0
theorem OwnI.len {w : World} {B : Nat} {v : Value} {xs : List Nat} (h : OwnI w B v xs) : lenV v = xs.length := by
 obtain ⟨a, cap, rfl, _⟩ := h.form
 rfl
theorem OwnI.grow {w w' w0 : World} {B : Nat} {v : Value} {xs : List Nat} (h : OwnI w B v xs) (hg : w.grownBy w' v.ownBlock) (hb : Below w0.heap.size w0 w) (hB : w0.heap.size ≤ B) : Below w0.heap.size w0 w' :=
 hb.grown hg hb.size (fun k hk => by have := (h.lt k hk).1; omega)
def LinkPost (w : World) (l : List Nat) (e : Ending) (w' : World) : Prop := ∃ v, e = .returned v ∧ OwnI w' w.heap.size v l ∧ Below w.heap.size w w'
set_option maxHeartbeats 8000000 in
set_option maxRecDepth 100000 in
theorem linked_at (t c : Nat) (ht : t ≤ 64) (hc : c ≤ 65536) (A : Option Addr) (n ka : Nat) (hn : n = sizeN t c) (G : Nat → Nat) (l : List Nat) (hF : Line t G (refN (G 0)) l) (hl : ∀ a ∈ l, a ≤ c) (hll : l.length ≤ c) (w : World) (hA : Hid (AtW w A n G)) :
  Calls Tryz.prog 16 #[.agg #[.int .i64 (t : Int), .int .i64 (c : Int), .slice A n ka]] w (LinkPost w l) := by
 have HT := Lib.hid ht
 have HC := Lib.hid hc
 have HL := Lib.hid hl
 have HLL := Lib.hid hll
 have hG := hA.out.1
 have HG := Lib.hid hG
 have HF1 := fun w => refRef_any (G 0) (hG 0) w
 obtain ⟨b, off, rfl, hlt, hcell⟩ := hA.out.2 (by rw [hn]; unfold sizeN; omega)
 have h1n : (0 : Nat) < n := by rw [hn]; unfold sizeN; omega
 have x1 := hcell 0 h1n
 rw [Nat.add_zero] at x1
 have i1 : (0 : Int) < (n : Int) := by omega
 have HN := Lib.hid hn
 have hF' : Line t G (refN (G 0)) l := hF
 generalize refN (G 0) = r0 at HF1 hF'
 have HFF := Lib.hid hF'
 clear ht hc hl hll hG hF hF' hcell h1n hn
 go_enter Tryz.func16, Tryz.ntmps16
 go_wp2_with (go_at_call 44; (with_reducible refine (HF1 _).mono ?_); rintro e w' ⟨rfl, rfl⟩)
 have hb0 := al_below w (.cells #[.int .i64 (t : Int), .int .i64 (c : Int), .slice (some ⟨b, off, none⟩) n ka] 26)
 have hv0 := VarAt.made w #[.int .i64 (t : Int), .int .i64 (c : Int), .slice (some ⟨b, off, none⟩) n ka] 26
 generalize w.alloc (.cells #[.int .i64 (t : Int), .int .i64 (c : Int), .slice (some ⟨b, off, none⟩) n ka] 26) = y at hb0 hv0 ⊢
 have HB0 := Lib.hid hb0
 have HV0 := Lib.hid hv0
 clear hb0 hv0 x1 i1 hlt HF1
 go_loopw [3, 4] (fun u3 u4 wr => ∃ (l1 l2 : List Nat) (r : Nat), l = l1 ++ l2 ∧ u4 = .int .i64 (r : Int) ∧ Line t G r l2 ∧ OwnI wr (w.heap.size + 1) u3 l1 ∧ Below w.heap.size w wr ∧ VarAt wr w.heap.size [.int .i64 (t : Int), .int .i64 (c : Int), .slice (some ⟨b, off, none⟩) n ka] ∧ w.heap.size + 1 ≤ wr.heap.size) (fun u3 _ _ => l.length - lenV u3)
 case atStart => exact ⟨[], l, r0, rfl, rfl, HFF.out, OwnI.nil _ _, HB0.out, HV0.out, HV0.out.1⟩
 case round =>
  clear HB0 HV0 HFF
  clear y
  obtain ⟨l1, l2, r, he, rfl, hch, hown, hbl, hv, hsz⟩ := hrel
  obtain ⟨a, cap, rfl, hcap, hmx, _⟩ := hown.form
  have HOWN := Lib.hid hown
  have HBL := Lib.hid hbl
  have HV := Lib.hid hv
  have HE := Lib.hid he
  have HSZ := Lib.hid hsz
  obtain ⟨m0, c0, c1, c2⟩ : w.heap.size < wr.heap.size ∧ wr.cell? ⟨w.heap.size, 0, none⟩ = some (.int .i64 (t : Int)) ∧ wr.cell? ⟨w.heap.size, 1, none⟩ = some (.int .i64 (c : Int)) ∧ wr.cell? ⟨w.heap.size, 2, none⟩ = some (.slice (some ⟨b, off, none⟩) n ka) := ⟨hv.1, hv.2.1 0 _ rfl, hv.2.1 1 _ rfl, hv.2.1 2 _ rfl⟩
  clear hown hbl hv hmx hcap he hsz
  cases l2 with
  | nil =>
   obtain rfl : r = 0 := hch
   have d0 : decide ((0 : Int) < 0) = false := rfl
   go_wp2_with fail
   go_ret
   refine ⟨_, rfl, ?_, HBL.out⟩
   rw [HE.out, List.append_nil]
   exact HOWN.out.low (Nat.le_succ _)
  | cons q l2 =>
   obtain ⟨rfl, hr1, _, _, hch2⟩ := hch
   have hrc : r ≤ c := HL.out r (by rw [HE.out]; simp)
   have hlen : l1.length < l.length := by rw [HE.out]; simp
   have hll := HLL.out
   have hcc := HC.out
   have d0 : decide ((0 : Int) < (r : Int)) = true := by rw [decide_eq_true_iff]; omega
   have d0' : decide (0 < r) = true := by rw [decide_eq_true_iff]; omega
   have d1 : decide ((r : Int) ≤ (c : Int)) = true := by rw [decide_eq_true_iff]; omega
   have d1' : decide (r ≤ c) = true := by rw [decide_eq_true_iff]; omega
   have d2 : decide ((l1.length : Int) ≤ (c : Int)) = true := by rw [decide_eq_true_iff]; omega
   have d2' : decide (l1.length ≤ c) = true := by rw [decide_eq_true_iff]; omega
   have hfs : fieldN t r 0 < n := by rw [HN.out]; unfold fieldN sizeN; omega
   have hFLD : ∀ w, Calls Tryz.prog 15 #[.int .i64 (t : Int), .int .i64 (r : Int), .int .i64 0] w fun e w' => e = .returned (.int .i64 (fieldN t r 0 : Nat)) ∧ w = w' := fun w => refField_any t r 0 (by have := HT.out; omega) hr1 (by omega) (by omega) w
   have hFST := fun w => refRef_any (G (fieldN t r 0)) (HG.out _) w
   have hx : ∀ x, Below w.heap.size w x → x.cell? ⟨b, off + fieldN t r 0, none⟩ = some (.int .u64 ((G (fieldN t r 0) : Nat) : Int)) := fun x hb => by
    obtain ⟨b', off', e', _, hc⟩ := (hA.out.later hb).2 (by omega)
    cases e'
    exact hc _ hfs
   have i0 : (0 : Int) ≤ ((fieldN t r 0 : Nat) : Int) := by omega
   have i1 : ((fieldN t r 0 : Nat) : Int) < (n : Int) := by omega
   generalize refN (G (fieldN t r 0)) = r2 at *
   generalize G (fieldN t r 0) = gx at *
   generalize fieldN t r 0 = fx at *
   have HX := Lib.hid hx
   have HCH := Lib.hid hch2
   have HLEN := Lib.hid hlen
   have HM9 : Hid (l1.length ≤ 900000) := Lib.hid (by omega)
   clear hfs hx hch2 hr1 hrc hll hcc
   have HOA : Hid (∀ o, OwnI (wr.alloc o) (w.heap.size + 1) (.slice a l1.length cap) l1) := Lib.hid (fun o => HOWN.out.later (al_below wr o))
   have HGR : Hid (∀ o w9, (wr.alloc o).grownBy w9 (Value.slice a l1.length cap).ownBlock → Below w.heap.size w w9 ∧ VarAt w9 w.heap.size [.int .i64 (t : Int), .int .i64 (c : Int), .slice (some ⟨b, off, none⟩) n ka] ∧ w.heap.size + 1 ≤ w9.heap.size) := Lib.hid (fun o w9 hg9 => ⟨(HOWN.out.later (al_below wr o)).grow hg9 (HBL.out.trans ((al_below wr o).mono HBL.out.size)) (Nat.le_succ _), (HV.out.below (al_below wr o)).grown hg9 (fun k hk e => by have := (HOWN.out.lt k hk).1; omega), by have h1 := HSZ.out; have h2 := hg9.size; have h3 := (al_below wr o).size; omega⟩)
   have HZ1 : Hid (∀ o, w.heap.size + 1 ≤ (wr.alloc o).heap.size) := Lib.hid (fun o => Nat.le_trans HSZ.out (al_below wr o).size)
   clear HV HSZ HOWN HBL
   go_wp2_with (at_builtin; (refine wpList_appendI (by rfl) (.tmp 25) (.tmp 27) (by rfl) (w.heap.size + 1) (.slice a l1.length cap) l1 (by rfl) (HOA.out _) wr.heap.size 1 r (by rfl) (by go_simp) HM9.out (HZ1.out _) ?_); (intro v9 w9 hown9 hg9 hv9; have hgr := HGR.out _ _ hg9; have HOWN9 := Lib.hid hown9; have HBL9 := Lib.hid hgr.1; have HV9 := Lib.hid hgr.2.1; have HSZ9 := Lib.hid hgr.2.2; clear hown9 hg9 hv9 hgr))
   clear c0 c1 c2 m0
   obtain ⟨m0, c0, c1, c2⟩ : w.heap.size < w9.heap.size ∧ w9.cell? ⟨w.heap.size, 0, none⟩ = some (.int .i64 (t : Int)) ∧ w9.cell? ⟨w.heap.size, 1, none⟩ = some (.int .i64 (c : Int)) ∧ w9.cell? ⟨w.heap.size, 2, none⟩ = some (.slice (some ⟨b, off, none⟩) n ka) := ⟨HV9.out.1, HV9.out.2.1 0 _ rfl, HV9.out.2.1 1 _ rfl, HV9.out.2.1 2 _ rfl⟩
   have hx9 := HX.out w9 HBL9.out
   go_quiet (first | (go_at_call 15; with_reducible exact quiet_call (hFLD _)) | (go_at_call 44; with_reducible exact quiet_call (hFST _)))
   go_wp2_with fail
   go_roundw
   case rel => exact ⟨l1 ++ [r], l2, r2, by rw [HE.out]; simp, rfl, HCH.out, HOWN9.out, below_draw HBL9.out _, HV9.out, HSZ9.out⟩
   case measure =>
    have h9 := HOWN9.out.len
    have := HLEN.out
    rw [h9]
    simp only [lenV, List.length_append, List.length_singleton]
    omega
end Go.Proofs.YtibpfkcackdbgaaGreatDoor
