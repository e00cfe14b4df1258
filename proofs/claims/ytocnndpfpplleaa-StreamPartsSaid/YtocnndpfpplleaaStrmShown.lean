/-
  The document's example of layer 6: the function that asks it answers yes, and lays at most new memory.
-/
import Derived.Test.YtocnndpfpplleaaStrmRef
import Derived.Lib.SlBytesConst
namespace Go.Proofs.Ytocnndpfpplleaa
open Go.ChangeShapes Go.WideShapes Go.ChangeAt Go.RowKit
set_option linter.unusedVariables false

theorem str_ab : strN [97, 98] = ⟨#[97, 98]⟩ := by decide +kernel
theorem str_abc : strN [97, 98, 99] = ⟨#[97, 98, 99]⟩ := by decide +kernel
theorem AtB.two {w : World} {b x y : Nat} (hx : x < 256) (hy : y < 256) (h0 : w.cell? ⟨b, 0, none⟩ = some (.int .u8 ((x : Nat) : Int))) (h1 : w.cell? ⟨b, 1, none⟩ = some (.int .u8 ((y : Nat) : Int))) : AtB w (some ⟨b, 0, none⟩) 2 [x, y] :=
  ⟨rfl, fun z hz => by simp at hz; omega, by omega, fun _ => ⟨b, 0, rfl, World.block_lt_of_cell? w _ h0, fun j hj => by
    obtain rfl | rfl : j = 0 ∨ j = 1 := by omega
    · exact h0
    · exact h1⟩⟩

theorem lit2 (w : World) (x y : Nat) (mk : Nat × Nat) (hx : x < 256) (hy : y < 256) : Hid (AtB (w.alloc (.cells #[.int .u8 ((x : Nat) : Int), .int .u8 ((y : Nat) : Int)] 5 mk)) (some ⟨w.heap.size, 0, none⟩) 2 [x, y]) :=
  Lib.hid (AtB.two hx hy (by rw [World.cell?_alloc_mark]; rfl) (by rw [World.cell?_alloc_mark]; rfl))
theorem lit2b (w : World) (o : Obj) (x y : Nat) (mk : Nat × Nat) (hx : x < 256) (hy : y < 256) : Hid (AtB ((w.alloc o).alloc (.cells #[.int .u8 ((x : Nat) : Int), .int .u8 ((y : Nat) : Int)] 5 mk)) (some ⟨w.heap.size + 1, 0, none⟩) 2 [x, y]) := by
  have := lit2 (w.alloc o) x y mk hx hy
  rw [show (w.alloc o).heap.size = w.heap.size + 1 by simp] at this
  exact this
theorem run_lit (w : World) (C : Array Value) (n c : Nat) : (convert 22 22 (.slice (some ⟨w.heap.size, 0, none⟩) n c)).run Try.prog (w.alloc (.cells C 5)) = .ok (.slice (some ⟨w.heap.size, 0, none⟩) n c) (w.alloc (.cells C 5 (C.size, C.size + 1))) :=
  Lib.run_convert_bytes_const (P := Try.prog) w 22 5 C n c Try.underlying22 Try.underlying5
theorem run_lit1 (w : World) (o : Obj) (C : Array Value) (n c : Nat) : (convert 22 22 (.slice (some ⟨w.heap.size + 1, 0, none⟩) n c)).run Try.prog ((w.alloc o).alloc (.cells C 5)) = .ok (.slice (some ⟨w.heap.size + 1, 0, none⟩) n c) ((w.alloc o).alloc (.cells C 5 (C.size, C.size + 1))) := by
  have := run_lit (w.alloc o) C n c
  rw [show (w.alloc o).heap.size = w.heap.size + 1 by simp] at this
  exact this
theorem shown_cut (A : Option Addr) (c : Nat) (hc : 4 ≤ c) (w : World) : Calls Try.prog 16 #[.agg #[.slice A 4 c, .int .i64 2], .int .i64 1] w (Kept w (.agg #[.slice A 3 3, .int .i64 3])) := by
  have h := cut_at A 4 c hc (by omega) 2 (by omega) 1 w
  rw [show cutN 2 4 1 = 3 by decide] at h
  exact h
theorem shown_right (A : Option Addr) (c : Nat) (w : World) : Calls Try.prog 10 #[.agg #[.slice A 4 c, .int .i64 2]] w (Kept w (.bool true)) := right_any A 4 c 2 w
theorem shown_right_no (w : World) : Calls Try.prog 10 #[.agg #[.slice none 0 0, .int .i64 1]] w (Kept w (.bool false)) := right_any none 0 0 1 w
set_option maxRecDepth 100000 in
set_option maxHeartbeats 4000000 in
theorem shown_below (w : World) :
    Calls Try.prog 8 #[] w fun e w' => e = .returned (.bool true) ∧ Below w.heap.size w w' := by
  have kc := run_lit
  have kc1 := run_lit1
  go_enter Try.func8, Try.ntmps8
  go_wp2_with fail
  refine (append_at none 0 0 [] (Nat.le_refl _) 0 (some ⟨w.heap.size, 0, none⟩) 2 2 [97, 98] (by omega) _ (Lib.hid (AtB.nil _ _)) (lit2 _ 97 98 _ (by decide) (by decide))).mono ?_
  rintro e w1 ⟨A1, c1, rfl, hc1, hat1, hb1⟩
  have B1 : Hid (Below w.heap.size w w1) := Lib.hid (below_box hb1)
  have HA1 : Hid (AtB w1 A1 2 [97, 98]) := Lib.hid hat1
  clear hat1 hb1
  go_wp2_with fail
  refine (sync_at A1 2 c1 hc1 0 _).mono ?_
  rintro e w2 ⟨rfl, hb2⟩
  have B2 : Hid (Below w.heap.size w w2) := Lib.hid (B1.out.trans (hb2.mono B1.out.size))
  have HA2 : Hid (AtB w2 A1 2 [97, 98]) := Lib.hid (AtB.later HA1 hb2)
  clear hb2 HA1 B1
  go_wp2_with fail
  refine (append_at A1 2 2 [97, 98] (Nat.le_refl _) 2 (some ⟨w2.heap.size + 1, 0, none⟩) 2 2 [99, 100] (by omega) _ (Lib.hid (AtB.later HA2 (below_pair w2 _ _))) (lit2b _ _ 99 100 _ (by decide) (by decide))).mono ?_
  rintro e w3 ⟨A3, c3, rfl, hc3, hat3, hb3⟩
  have HZ3 := Lib.hid hb3.size
  have V3 := Lib.hid ((VarAt.pair0 w2 (.slice A1 2 2) (.int .i64 2) _ 24).below hb3)
  have B3 : Hid (Below w.heap.size w w3) := Lib.hid (B2.out.trans (((below_pair w2 _ _).trans (hb3.mono (below_pair w2 _ _).size)).mono B2.out.size))
  have HA3 : Hid (AtB w3 A3 4 [97, 98, 99, 100]) := Lib.hid hat3
  have HB3 : Hid (AtB w3 A1 2 [97, 98]) := Lib.hid (AtB.later HA2 ((below_pair w2 _ _).trans (hb3.mono (below_pair w2 _ _).size)))
  clear hat3 hb3 HA2 B2
  obtain ⟨hz3, hc0, hc1, hf0, hf1⟩ := V3.out.two
  go_wp2_with fail
  refine (shown_cut A3 c3 hc3 _).mono ?_
  rintro e w4 ⟨rfl, hb4⟩
  have HZ4 := Lib.hid (below_box hb4).size
  have V4 := (V3.out.below (below_box hb4)).two
  have U4 := ((VarAt.made w3 #[.slice A3 4 c3, .int .i64 2] 24).below hb4).two
  have B4 : Hid (Below w.heap.size w w4) := Lib.hid (B3.out.trans ((below_box hb4).mono B3.out.size))
  have s3 := run_str (AtB.below ((AtB.later HA3 (below_box hb4)).ahead 3 (by omega)) ((Below.refl w4.heap.size w4).alloc (Nat.le_refl _) (.cells #[.slice A3 3 3, .int .i64 3] 24)) (Nat.le_refl _)) 3
  have s1 := run_str (AtB.below (AtB.later HB3 (below_box hb4)) ((Below.refl w4.heap.size w4).alloc (Nat.le_refl _) (.cells #[.slice A3 3 3, .int .i64 3] 24)) (Nat.le_refl _)) 2
  rw [show List.take 3 [97, 98, 99, 100] = [97, 98, 99] from rfl, str_abc] at s3
  rw [str_ab] at s1
  clear hb4 V3 HA3 HB3 B3 hz3 hc0 hc1 hf0 hf1
  obtain ⟨hz1, hc0, hc1, hf0, hf1⟩ := V4
  obtain ⟨hz2, hd0, hd1, hg0, hg1⟩ := U4
  go_wp2_with (first
    | (go_at_call 10; (with_reducible refine (shown_right A3 c3 _).mono ?_); rintro e w5 ⟨rfl, hb5⟩; have B5 := Lib.hid (B4.out.trans ((below_box hb5).mono B4.out.size)); clear hb5)
    | (go_at_call 10; (with_reducible refine (shown_right_no _).mono ?_); rintro e w6 ⟨rfl, hb6⟩; have B6 := Lib.hid (B5.out.trans (hb6.mono B5.out.size)); clear hb6))
  go_ret
  exact ⟨rfl, B6.out⟩
end Go.Proofs.Ytocnndpfpplleaa
