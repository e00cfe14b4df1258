/-
  What DiskApart needs of streams that are cut, synced, read.
-/
import Derived.Test.YtfggnmmiifjilaaDskShown
import Derived.Test.YtfggnmmiifjilaaDskOpen
import Derived.Deep.RegionHeld3
namespace Go.Proofs.Ytfggnmmiifjilaa.diskApart
open Go.ChangeShapes Go.WideShapes Go.ChangeAt Go.RowKit
set_option linter.unusedVariables false

theorem right_len {l0 l1 : List Stm} (h : rightD l0 l1 = true) : l0.length = l1.length ∧ allB l0 = true ∧ allB l1 = true ∧ 1 ≤ l0.length ∧ l0.length ≤ 64 := by
  unfold rightD countB at h
  simp only [Bool.and_eq_true, decide_eq_true_eq] at h
  exact ⟨h.1.1, h.1.2.1, h.1.2.2, by omega, by omega⟩
theorem cut_synced {x : Stm} (h : x.right = true) (c : Int) : x.synced ≤ (x.cutN c : Int) := by
  obtain ⟨q, hq, hl⟩ := rightB_iff h
  unfold Stm.cutN cutN
  omega
theorem cut_right {x : Stm} (h : x.right = true) (c : Int) : (x.cut c).right = true := by
  have h1 := Stm.cut_length h c
  unfold Stm.right rightB
  rw [h1, show (x.cut c).synced = (x.cutN c : Int) from rfl, decide_eq_true (by omega), decide_eq_true (by omega)]
  rfl
theorem cutL_right {l : List Stm} (h : allB l = true) (c : Nat → Int) : allB (cutL l c) = true := by
  unfold allB
  rw [List.all_eq_true]
  intro x hx
  obtain ⟨i, hi, rfl⟩ := List.mem_map.1 hx
  rw [List.mem_range] at hi
  have hr : (l.getD i Stm.zero).right = true := by
    rw [List.getD_eq_getElem?_getD, List.getElem?_eq_getElem hi]
    exact allB_get h (List.getElem?_eq_getElem hi)
  exact cut_right hr _
theorem apartRight (r : Int) (A : Option Addr) (n a : Nat) (B : Option Addr) (b : Nat) (l0 l1 : List Stm) (c d : Nat → Int) (hr0 : allB l0 = true) (hr1 : allB l1 = true) (hn1 : 1 ≤ n) (hn : n ≤ 64) (e0 : l0.length = n) (e1 : l1.length = n) (w : World) (h0 : Hid (StmsAt w A n (cutL l0 c))) (h1 : Hid (StmsAt w B n (cutL l1 d))) :
    Calls Try.prog 14 #[.agg #[.int .u64 r, .slice A n a, .slice B n b]] w (Kept w (.bool true)) := by
  have h := diskRight_at r A n a B n b (cutL l0 c) (cutL l1 d) w h0 h1
  rw [rightD_ok (by rw [cutL_length, cutL_length, e0, e1]) (cutL_right hr0 c) (cutL_right hr1 d), cutL_length, e0, show countB (n : Int) = true by unfold countB; rw [decide_eq_true (by omega), decide_eq_true (by omega)]; rfl] at h
  exact h
theorem apartSync0 (r : Int) (A : Option Addr) (n a : Nat) (B : Option Addr) (b : Nat) (l0 l1 : List Stm) (k : Nat) (hk : k < n) (hn : n ≤ 8) (x : Stm) (ys zs : List Nat) (hz : x.bytes ++ ys = zs) (hl : l0.length = n) (w : World) (h0 : Hid (StmsAt w A n (l0.set k (x.app ys)))) (h1 : Hid (StmsAt w B n l1)) :
    Calls Try.prog 17 #[.agg #[.int .u64 r, .slice A n a, .slice B n b], .int .i64 0, .int .i64 (k : Int)] w (DskPostC w r A B n n (l0.set k ⟨zs, (zs.length : Int)⟩) l1 0) := by
  have h := dskSync0_at r A n a B n b (l0.set k (x.app ys)) l1 k hk (by omega) (x.app ys) (List.getElem?_set_self (by omega)) w h0 h1
  rw [List.set_set, show (x.app ys).syn = ⟨zs, (zs.length : Int)⟩ by subst hz; rfl] at h
  exact h
theorem apartRead0 (r : Int) (A : Option Addr) (n a : Nat) (B : Option Addr) (b : Nat) (l0 l1 : List Stm) (k : Nat) (hk : k < n) (zs : List Nat) (hl : l0.length = n) (w : World) (h0 : Hid (StmsAt w A n (l0.set k ⟨zs, (zs.length : Int)⟩))) (h1 : Hid (StmsAt w B n l1)) :
    Calls Try.prog 19 #[.agg #[.int .u64 r, .slice A n a, .slice B n b], .int .i64 0, .int .i64 (k : Int)] w (ReadPost w zs 0) :=
  dskRead0_at r A n a B n b (l0.set k ⟨zs, (zs.length : Int)⟩) l1 k hk ⟨zs, (zs.length : Int)⟩ (List.getElem?_set_self (by omega)) w h0 h1
theorem apartSync1 (r : Int) (A : Option Addr) (n a : Nat) (B : Option Addr) (b : Nat) (l0 l1 : List Stm) (k : Nat) (hk : k < n) (hn : n ≤ 8) (x : Stm) (ys zs : List Nat) (hz : x.bytes ++ ys = zs) (hl : l1.length = n) (w : World) (h0 : Hid (StmsAt w A n l0)) (h1 : Hid (StmsAt w B n (l1.set k (x.app ys)))) :
    Calls Try.prog 17 #[.agg #[.int .u64 r, .slice A n a, .slice B n b], .int .i64 1, .int .i64 (k : Int)] w (DskPostC w r A B n n l0 (l1.set k ⟨zs, (zs.length : Int)⟩) 0) := by
  have h := dskSync1_at r A n a B n b l0 (l1.set k (x.app ys)) k hk (by omega) (x.app ys) (List.getElem?_set_self (by omega)) w h0 h1
  rw [List.set_set, show (x.app ys).syn = ⟨zs, (zs.length : Int)⟩ by subst hz; rfl] at h
  exact h
theorem apartRead1 (r : Int) (A : Option Addr) (n a : Nat) (B : Option Addr) (b : Nat) (l0 l1 : List Stm) (k : Nat) (hk : k < n) (zs : List Nat) (hl : l1.length = n) (w : World) (h0 : Hid (StmsAt w A n l0)) (h1 : Hid (StmsAt w B n (l1.set k ⟨zs, (zs.length : Int)⟩))) :
    Calls Try.prog 19 #[.agg #[.int .u64 r, .slice A n a, .slice B n b], .int .i64 1, .int .i64 (k : Int)] w (ReadPost w zs 0) :=
  dskRead1_at r A n a B n b l0 (l1.set k ⟨zs, (zs.length : Int)⟩) k hk ⟨zs, (zs.length : Int)⟩ (List.getElem?_set_self (by omega)) w h0 h1
end Go.Proofs.Ytfggnmmiifjilaa.diskApart
