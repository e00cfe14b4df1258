/-
  The document's example of layer 7: the function that asks it answers yes, and lays at most new memory. And a disk in a variable's box.
-/
import Derived.Test.YtfggnmmiifjilaaDskCalls
import Derived.Test.YtfggnmmiifjilaaDskCrash2
import Derived.Test.YtfggnmmiifjilaaStrmText
import Derived.Lib.SlBytesConst
namespace Go.Proofs.Ytfggnmmiifjilaa
open Go.ChangeShapes Go.WideShapes Go.ChangeAt Go.RowKit
set_option linter.unusedVariables false

/-- A variable holds a disk, whose rows read so. -/
def DAt (w : World) (bx : Nat) (r : Int) (A : Option Addr) (n a : Nat) (B : Option Addr) (m b : Nat) (l0 l1 : List Stm) : Prop := VarAt w bx [.int .u64 r, .slice A n a, .slice B m b] ∧ StmsAt w A n l0 ∧ StmsAt w B m l1
theorem DAt.below {w w' : World} {bx : Nat} {r : Int} {A : Option Addr} {n a : Nat} {B : Option Addr} {m b : Nat} {l0 l1 : List Stm} (h : DAt w bx r A n a B m b l0 l1) (hb : Below w.heap.size w w') : DAt w' bx r A n a B m b l0 l1 := ⟨h.1.below hb, h.2.1.later hb, h.2.2.later hb⟩
theorem DAt.made {w : World} {r : Int} {A : Option Addr} {n a : Nat} {B : Option Addr} {m b : Nat} {l0 l1 : List Stm} (h0 : StmsAt w A n l0) (h1 : StmsAt w B m l1) (t : TypeId) : DAt (w.alloc (.cells #[.int .u64 r, .slice A n a, .slice B m b] t)) w.heap.size r A n a B m b l0 l1 :=
  ⟨VarAt.made w _ t, h0.later ((Below.refl _ _).alloc (Nat.le_refl _) _), h1.later ((Below.refl _ _).alloc (Nat.le_refl _) _)⟩
theorem StmsAt.hidD {w0 w w' : World} {a : Option Addr} {n : Nat} {l : List Stm} (h : Hid (StmsAt w0 a n l)) (hd : w0.heap = w.heap) (hb : Below w.heap.size w w') : Hid (StmsAt w' a n l) := Lib.hid ((h.out.same hd).later hb)
theorem al_below (w : World) (o : Obj) : Below w.heap.size w (w.alloc o) := (Below.refl _ _).alloc (Nat.le_refl _) o

theorem AtB.two {w : World} {b x y : Nat} (hx : x < 256) (hy : y < 256) (h0 : w.cell? ⟨b, 0, none⟩ = some (.int .u8 ((x : Nat) : Int))) (h1 : w.cell? ⟨b, 1, none⟩ = some (.int .u8 ((y : Nat) : Int))) : AtB w (some ⟨b, 0, none⟩) 2 [x, y] :=
  ⟨rfl, fun z hz => by simp at hz; omega, by omega, fun _ => ⟨b, 0, rfl, World.block_lt_of_cell? w _ h0, fun j hj => by
    obtain rfl | rfl : j = 0 ∨ j = 1 := by omega
    · exact h0
    · exact h1⟩⟩
theorem lit2 (w : World) (x y : Nat) (mk : Nat × Nat) (hx : x < 256) (hy : y < 256) : Hid (AtB (w.alloc (.cells #[.int .u8 ((x : Nat) : Int), .int .u8 ((y : Nat) : Int)] 5 mk)) (some ⟨w.heap.size, 0, none⟩) 2 [x, y]) :=
  Lib.hid (AtB.two hx hy (by rw [World.cell?_alloc_mark]; rfl) (by rw [World.cell?_alloc_mark]; rfl))
theorem run_lit (w : World) (C : Array Value) (n c : Nat) : (convert 27 27 (.slice (some ⟨w.heap.size, 0, none⟩) n c)).run Try.prog (w.alloc (.cells C 5)) = .ok (.slice (some ⟨w.heap.size, 0, none⟩) n c) (w.alloc (.cells C 5 (C.size, C.size + 1))) :=
  Lib.run_convert_bytes_const (P := Try.prog) w 27 5 C n c Try.underlying27 Try.underlying5
def more3 (j : Nat) : Int := if j = 2 then 1 else 0
theorem lit3 (w : World) : Hid (AtI (w.alloc (.cells #[.int .i64 0, .int .i64 0, .int .i64 1] 3)) (some ⟨w.heap.size, 0, none⟩) 3 more3) :=
  Lib.hid ⟨by omega, fun j hj => by unfold more3; split <;> omega, fun _ => ⟨w.heap.size, 0, rfl, by simp, fun j hj => by
    obtain rfl | rfl | rfl : j = 0 ∨ j = 1 ∨ j = 2 := by omega
    all_goals (rw [World.cell?_alloc_mark]; rfl)⟩⟩
theorem str_abc : strN [97, 98, 99] = ⟨#[97, 98, 99]⟩ := by decide +kernel

def sh0 : List Stm := [⟨[], 0⟩, ⟨[], 0⟩]
def shA : List Stm := [⟨[97, 98], 0⟩, ⟨[], 0⟩]
def shB : List Stm := [⟨[97, 98], 2⟩, ⟨[], 0⟩]
def shC : List Stm := [⟨[97, 98, 99, 100], 2⟩, ⟨[], 0⟩]
def shX : List Stm := [⟨[97, 98, 99], 3⟩, ⟨[], 0⟩]
theorem shown_new (w : World) : Calls Try.prog 10 #[.int .i64 2] w (DskPostC w 0 none none 2 2 sh0 sh0 0) := dskNew_yes 2 (by omega) (by omega) w
theorem shown_new_no (w : World) : Calls Try.prog 10 #[.int .i64 0] w (DskPostC w 0 none none 0 0 [] [] 1) := dskNew_no 0 rfl w
section
variable (A : Option Addr) (a : Nat) (B : Option Addr) (b : Nat) (C : Option Addr) (w : World)
theorem shown_a (h0 : Hid (StmsAt w A 2 sh0)) (h1 : Hid (StmsAt w B 2 sh0)) (hC : Hid (AtB w C 2 [97, 98])) : Calls Try.prog 15 #[.agg #[.int .u64 0, .slice A 2 a, .slice B 2 b], .int .i64 1, .int .i64 0, .slice C 2 2] w (DskPostC w 0 A B 2 2 sh0 shA 0) :=
  dskAppend1_at 0 A 2 a B 2 b sh0 sh0 0 (by omega) (by omega) ⟨[], 0⟩ rfl C 2 2 [97, 98] (by simp) w h0 h1 hC
theorem shown_b (h0 : Hid (StmsAt w A 2 sh0)) (h1 : Hid (StmsAt w B 2 shA)) : Calls Try.prog 17 #[.agg #[.int .u64 0, .slice A 2 a, .slice B 2 b], .int .i64 1, .int .i64 0] w (DskPostC w 0 A B 2 2 sh0 shB 0) :=
  dskSync1_at 0 A 2 a B 2 b sh0 shA 0 (by omega) (by omega) ⟨[97, 98], 0⟩ rfl w h0 h1
theorem shown_c (h0 : Hid (StmsAt w A 2 sh0)) (h1 : Hid (StmsAt w B 2 shB)) (hC : Hid (AtB w C 2 [99, 100])) : Calls Try.prog 15 #[.agg #[.int .u64 0, .slice A 2 a, .slice B 2 b], .int .i64 1, .int .i64 0, .slice C 2 2] w (DskPostC w 0 A B 2 2 sh0 shC 0) :=
  dskAppend1_at 0 A 2 a B 2 b sh0 shB 0 (by omega) (by omega) ⟨[97, 98], 2⟩ rfl C 2 2 [99, 100] (by simp) w h0 h1 hC
theorem shown_crash (h0 : Hid (StmsAt w A 2 sh0)) (h1 : Hid (StmsAt w B 2 shC)) (hC : Hid (AtI w C 3 more3)) : Calls Try.prog 24 #[.agg #[.int .u64 0, .slice A 2 a, .slice B 2 b], .slice C 3 3] w (DskPostV w 0 A B 2 2 sh0 shX) := by
  have h := crash_at 0 A 2 a B 2 b sh0 shC (by omega) (by omega) (by decide) (by decide) C 3 3 (Nat.le_refl _) more3 w h0 h1 hC
  rw [show cutL sh0 (moreAt 3 more3) = sh0 by rfl, show (cutL shC fun j => moreAt 3 more3 (2 + j)) = shX by rfl] at h
  exact h
theorem shown_read (h0 : Hid (StmsAt w A 2 sh0)) (h1 : Hid (StmsAt w B 2 shX)) : Calls Try.prog 19 #[.agg #[.int .u64 0, .slice A 2 a, .slice B 2 b], .int .i64 1, .int .i64 0] w (ReadPost w [97, 98, 99] 0) :=
  dskRead1_at 0 A 2 a B 2 b sh0 shX 0 (by omega) ⟨[97, 98, 99], 3⟩ rfl w h0 h1
theorem shown_append_no (h0 : Hid (StmsAt w A 2 sh0)) (h1 : Hid (StmsAt w B 2 sh0)) : Calls Try.prog 15 #[.agg #[.int .u64 0, .slice A 2 a, .slice B 2 b], .int .i64 2, .int .i64 0, .slice none 0 0] w (DskPostC w 0 A B 2 2 sh0 sh0 1) :=
  dskAppend_no 0 A 2 a B 2 b sh0 sh0 2 0 rfl none 0 0 w h0 h1
theorem shown_read_no : Calls Try.prog 19 #[.agg #[.int .u64 0, .slice A 2 a, .slice B 2 b], .int .i64 0, .int .i64 2] w (ReadPost w [] 1) := dskRead_no 0 A 2 a B 2 b 0 2 rfl w
theorem shown_clear (h0 : Hid (StmsAt w A 2 sh0)) (h1 : Hid (StmsAt w B 2 shC)) : Calls Try.prog 21 #[.agg #[.int .u64 0, .slice A 2 a, .slice B 2 b], .int .i64 1] w (DskPostC w 0 A B 2 2 sh0 sh0 0) :=
  dskClear1_at 0 A 2 a B 2 b sh0 shC (by omega) w h0 h1
theorem shown_right (h0 : Hid (StmsAt w A 2 sh0)) (h1 : Hid (StmsAt w B 2 shC)) : Calls Try.prog 14 #[.agg #[.int .u64 0, .slice A 2 a, .slice B 2 b]] w (Kept w (.bool true)) := diskRight_at 0 A 2 a B 2 b sh0 shC w h0 h1
theorem shown_right_no : Calls Try.prog 14 #[.agg #[.int .u64 0, .slice none 0 0, .slice none 0 0]] w (Kept w (.bool false)) := diskRight_at 0 none 0 0 none 0 0 [] [] w (Lib.hid (StmsAt.nil _ _)) (Lib.hid (StmsAt.nil _ _))
theorem shown_root : Calls Try.prog 27 #[.agg #[.int .u64 0, .slice A 2 a, .slice B 2 b], .int .u64 7] w (Kept w (.agg #[.int .u64 7, .slice A 2 a, .slice B 2 b])) := setRoot_at 0 A 2 a B 2 b 7 w
theorem shown_row : Calls Try.prog 23 #[.agg #[.int .u64 7, .slice A 2 a, .slice B 2 b]] w (Kept w (.int .i64 1)) := row_any 7 (by omega) (.slice A 2 a) (.slice B 2 b) rfl rfl w
end

set_option maxRecDepth 100000 in
set_option maxHeartbeats 4000000 in
theorem shown_below (w : World) :
    Calls Try.prog 8 #[] w fun e w' => e = .returned (.bool true) ∧ Below w.heap.size w w' := by
  have kc := run_lit
  have BB := Lib.hid (Below.refl w.heap.size w)
  go_enter Try.func8, Try.ntmps8
  simp only [List.append_eq, List.cons_append, List.nil_append]
  go_wp2_with fail
  refine (shown_new _).mono ?_
  rintro e w1 ⟨A1, a1, B1, b1, rfl, s0, s1, hb, _⟩
  obtain ⟨x1, hx1⟩ : ∃ x, w1.alloc (.cells #[.int .u64 0, .slice A1 2 a1, .slice B1 2 b1] 26) = x := ⟨_, rfl⟩
  have hbx : Below w1.heap.size w1 x1 := by rw [← hx1]; exact al_below _ _
  have D1 : Hid (DAt x1 w1.heap.size 0 A1 2 a1 B1 2 b1 sh0 sh0) := Lib.hid (by rw [← hx1]; exact DAt.made s0 s1 _)
  have hbn : Below w.heap.size w x1 := hb.trans (hbx.mono hb.size)
  have BBn := Lib.hid (BB.out.trans (hbn.mono BB.out.size)); clear BB; have BB := BBn; clear BBn
  clear hbn hbx s0 s1 hb
  obtain ⟨hz, c0, c1, c2, f0, f1, f2⟩ := D1.out.1.three
  go_wp2_with fail
  clear hz c0 c1 c2 f0 f1 f2
  refine (shown_a A1 a1 B1 b1 (some ⟨x1.heap.size, 0, none⟩) _ (Lib.hid (D1.out.2.1.later (al_below _ _))) (Lib.hid (D1.out.2.2.later (al_below _ _))) (lit2 _ 97 98 _ (by decide) (by decide))).mono ?_
  rintro e w3 ⟨A3, a3, B3, b3, rfl, s0, s1, hb, _⟩
  obtain ⟨x3, hx3⟩ : ∃ x, w3.alloc (.cells #[.int .u64 0, .slice A3 2 a3, .slice B3 2 b3] 26) = x := ⟨_, rfl⟩
  have hbx : Below w3.heap.size w3 x3 := by rw [← hx3]; exact al_below _ _
  have D3 : Hid (DAt x3 w3.heap.size 0 A3 2 a3 B3 2 b3 sh0 shA) := Lib.hid (by rw [← hx3]; exact DAt.made s0 s1 _)
  have hbn : Below x1.heap.size x1 x3 := ((al_below x1 _).trans (hb.mono (al_below x1 _).size)).trans (hbx.mono ((al_below x1 _).trans (hb.mono (al_below x1 _).size)).size)
  have D1n := Lib.hid (D1.out.below hbn); clear D1; have D1 := D1n; clear D1n
  have BBn := Lib.hid (BB.out.trans (hbn.mono BB.out.size)); clear BB; have BB := BBn; clear BBn
  clear hbn hbx s0 s1 hb
  obtain ⟨hz, c0, c1, c2, f0, f1, f2⟩ := D3.out.1.three
  go_wp2_with fail
  clear hz c0 c1 c2 f0 f1 f2
  refine (shown_b A3 a3 B3 b3 _ (Lib.hid (D3.out.2.1)) (Lib.hid (D3.out.2.2))).mono ?_
  rintro e w5 ⟨A5, a5, B5, b5, rfl, s0, s1, hb, _⟩
  obtain ⟨x5, hx5⟩ : ∃ x, w5.alloc (.cells #[.int .u64 0, .slice A5 2 a5, .slice B5 2 b5] 26) = x := ⟨_, rfl⟩
  have hbx : Below w5.heap.size w5 x5 := by rw [← hx5]; exact al_below _ _
  have D5 : Hid (DAt x5 w5.heap.size 0 A5 2 a5 B5 2 b5 sh0 shB) := Lib.hid (by rw [← hx5]; exact DAt.made s0 s1 _)
  have hbn : Below x3.heap.size x3 x5 := hb.trans (hbx.mono hb.size)
  have D1n := Lib.hid (D1.out.below hbn); clear D1; have D1 := D1n; clear D1n
  have D3n := Lib.hid (D3.out.below hbn); clear D3; have D3 := D3n; clear D3n
  have BBn := Lib.hid (BB.out.trans (hbn.mono BB.out.size)); clear BB; have BB := BBn; clear BBn
  clear hbn hbx s0 s1 hb
  obtain ⟨hz, c0, c1, c2, f0, f1, f2⟩ := D5.out.1.three
  go_wp2_with fail
  clear hz c0 c1 c2 f0 f1 f2
  refine (shown_c A5 a5 B5 b5 (some ⟨x5.heap.size, 0, none⟩) _ (Lib.hid (D5.out.2.1.later (al_below _ _))) (Lib.hid (D5.out.2.2.later (al_below _ _))) (lit2 _ 99 100 _ (by decide) (by decide))).mono ?_
  rintro e w7 ⟨A7, a7, B7, b7, rfl, s0, s1, hb, _⟩
  obtain ⟨x7, hx7⟩ : ∃ x, w7.alloc (.cells #[.int .u64 0, .slice A7 2 a7, .slice B7 2 b7] 26) = x := ⟨_, rfl⟩
  have hbx : Below w7.heap.size w7 x7 := by rw [← hx7]; exact al_below _ _
  have D7 : Hid (DAt x7 w7.heap.size 0 A7 2 a7 B7 2 b7 sh0 shC) := Lib.hid (by rw [← hx7]; exact DAt.made s0 s1 _)
  have hbn : Below x5.heap.size x5 x7 := ((al_below x5 _).trans (hb.mono (al_below x5 _).size)).trans (hbx.mono ((al_below x5 _).trans (hb.mono (al_below x5 _).size)).size)
  have D1n := Lib.hid (D1.out.below hbn); clear D1; have D1 := D1n; clear D1n
  have D3n := Lib.hid (D3.out.below hbn); clear D3; have D3 := D3n; clear D3n
  have D5n := Lib.hid (D5.out.below hbn); clear D5; have D5 := D5n; clear D5n
  have BBn := Lib.hid (BB.out.trans (hbn.mono BB.out.size)); clear BB; have BB := BBn; clear BBn
  clear hbn hbx s0 s1 hb
  clear D3 D5
  obtain ⟨hz, c0, c1, c2, f0, f1, f2⟩ := D7.out.1.three
  go_wp2_with fail
  clear hz c0 c1 c2 f0 f1 f2
  refine (shown_crash A7 a7 B7 b7 (some ⟨x7.heap.size, 0, none⟩) _ (Lib.hid (D7.out.2.1.later (al_below _ _))) (Lib.hid (D7.out.2.2.later (al_below _ _))) (lit3 _)).mono ?_
  rintro e w8 ⟨A8, a8, B8, b8, rfl, s0, s1, hb, _⟩
  have hbn : Below x7.heap.size x7 w8 := (al_below x7 _).trans (hb.mono (al_below x7 _).size)
  have D1n := Lib.hid (D1.out.below hbn); clear D1; have D1 := D1n; clear D1n
  have D7n := Lib.hid (D7.out.below hbn); clear D7; have D7 := D7n; clear D7n
  have BBn := Lib.hid (BB.out.trans (hbn.mono BB.out.size)); clear BB; have BB := BBn; clear BBn
  clear hbn hb
  have S0 := Lib.hid s0
  have S1 := Lib.hid s1
  clear s0 s1
  go_wp2_with fail
  refine (shown_read A8 a8 B8 b8 _ S0 S1).mono ?_
  rintro e w9 ⟨A9, c9, rfl, _, hat, hbn⟩
  have X9 := Lib.hid hat
  have D1n := Lib.hid (D1.out.below hbn); clear D1; have D1 := D1n; clear D1n
  have D7n := Lib.hid (D7.out.below hbn); clear D7; have D7 := D7n; clear D7n
  have BBn := Lib.hid (BB.out.trans (hbn.mono BB.out.size)); clear BB; have BB := BBn; clear BBn
  clear hbn hat S0 S1
  rw [show [97, 98, 99].length = 3 from rfl] at *
  go_wp2_with fail
  refine (shown_new_no _).mono ?_
  rintro e w11 ⟨A11, a11, B11, b11, rfl, s0, s1, hb, _⟩
  obtain ⟨x11, hx11⟩ : ∃ x, w11.alloc (.cells #[.int .u64 0, .slice A11 0 a11, .slice B11 0 b11] 26) = x := ⟨_, rfl⟩
  have hbx : Below w11.heap.size w11 x11 := by rw [← hx11]; exact al_below _ _
  have D11 : Hid (DAt x11 w11.heap.size 0 A11 0 a11 B11 0 b11 [] []) := Lib.hid (by rw [← hx11]; exact DAt.made s0 s1 _)
  have hbn : Below w9.heap.size w9 x11 := hb.trans (hbx.mono hb.size)
  have D1n := Lib.hid (D1.out.below hbn); clear D1; have D1 := D1n; clear D1n
  have D7n := Lib.hid (D7.out.below hbn); clear D7; have D7 := D7n; clear D7n
  have BBn := Lib.hid (BB.out.trans (hbn.mono BB.out.size)); clear BB; have BB := BBn; clear BBn
  have X9n := Lib.hid (AtB.later X9 hbn); clear X9; have X9 := X9n; clear X9n
  clear hbn hbx s0 s1 hb D11
  obtain ⟨hz, c0, c1, c2, f0, f1, f2⟩ := D1.out.1.three
  go_wp2_with fail
  clear hz c0 c1 c2 f0 f1 f2
  refine (shown_append_no A1 a1 B1 b1 _ (Lib.hid (D1.out.2.1)) (Lib.hid (D1.out.2.2))).mono ?_
  rintro e w13 ⟨A13, a13, B13, b13, rfl, s0, s1, hb, _⟩
  obtain ⟨x13, hx13⟩ : ∃ x, w13.alloc (.cells #[.int .u64 0, .slice A13 2 a13, .slice B13 2 b13] 26) = x := ⟨_, rfl⟩
  have hbx : Below w13.heap.size w13 x13 := by rw [← hx13]; exact al_below _ _
  have D13 : Hid (DAt x13 w13.heap.size 0 A13 2 a13 B13 2 b13 sh0 sh0) := Lib.hid (by rw [← hx13]; exact DAt.made s0 s1 _)
  have hbn : Below x11.heap.size x11 x13 := hb.trans (hbx.mono hb.size)
  have D1n := Lib.hid (D1.out.below hbn); clear D1; have D1 := D1n; clear D1n
  have D7n := Lib.hid (D7.out.below hbn); clear D7; have D7 := D7n; clear D7n
  have BBn := Lib.hid (BB.out.trans (hbn.mono BB.out.size)); clear BB; have BB := BBn; clear BBn
  have X9n := Lib.hid (AtB.later X9 hbn); clear X9; have X9 := X9n; clear X9n
  clear hbn hbx s0 s1 hb D13
  obtain ⟨hz, c0, c1, c2, f0, f1, f2⟩ := D1.out.1.three
  go_wp2_with fail
  clear hz c0 c1 c2 f0 f1 f2
  refine (shown_read_no A1 a1 B1 b1 _).mono ?_
  rintro e w15 ⟨A15, c15, rfl, _, _, hbn⟩
  have D1n := Lib.hid (D1.out.below hbn); clear D1; have D1 := D1n; clear D1n
  have D7n := Lib.hid (D7.out.below hbn); clear D7; have D7 := D7n; clear D7n
  have BBn := Lib.hid (BB.out.trans (hbn.mono BB.out.size)); clear BB; have BB := BBn; clear BBn
  have X9n := Lib.hid (AtB.later X9 hbn); clear X9; have X9 := X9n; clear X9n
  clear hbn
  obtain ⟨hz, c0, c1, c2, f0, f1, f2⟩ := D7.out.1.three
  go_wp2_with fail
  clear hz c0 c1 c2 f0 f1 f2
  refine (shown_clear A7 a7 B7 b7 _ (Lib.hid (D7.out.2.1)) (Lib.hid (D7.out.2.2))).mono ?_
  rintro e w17 ⟨A17, a17, B17, b17, rfl, s0, s1, hb, _⟩
  obtain ⟨x17, hx17⟩ : ∃ x, w17.alloc (.cells #[.int .u64 0, .slice A17 2 a17, .slice B17 2 b17] 26) = x := ⟨_, rfl⟩
  have hbx : Below w17.heap.size w17 x17 := by rw [← hx17]; exact al_below _ _
  have D17 : Hid (DAt x17 w17.heap.size 0 A17 2 a17 B17 2 b17 sh0 sh0) := Lib.hid (by rw [← hx17]; exact DAt.made s0 s1 _)
  have hbn : Below w15.heap.size w15 x17 := hb.trans (hbx.mono hb.size)
  have D1n := Lib.hid (D1.out.below hbn); clear D1; have D1 := D1n; clear D1n
  have D7n := Lib.hid (D7.out.below hbn); clear D7; have D7 := D7n; clear D7n
  have BBn := Lib.hid (BB.out.trans (hbn.mono BB.out.size)); clear BB; have BB := BBn; clear BBn
  have X9n := Lib.hid (AtB.later X9 hbn); clear X9; have X9 := X9n; clear X9n
  clear hbn hbx s0 s1 hb
  have s3 := run_str X9.out c9
  rw [str_abc] at s3
  obtain ⟨z, g, off, Z0, zc, hzz, rfl, hg, hg0, _, _, _, _, _⟩ := D17.out.2.2.at_ 0 (by omega)
  have e0 : z = ⟨[], 0⟩ := (Option.some.inj hzz).symm
  subst e0
  have hgz : x17.cell? ⟨g, off, none⟩ = some (.slice Z0 0 zc) := hg0
  clear hg0 hzz X9
  obtain ⟨hz17, d0, d1, d2, g0, g1, g2⟩ := D17.out.1.three
  obtain ⟨hz1, c0, c1, c2, f0, f1, f2⟩ := D1.out.1.three
  obtain ⟨hz7, q0, q1, q2, k0, k1, k2⟩ := D7.out.1.three
  have H70 := Lib.hid D7.out.2.1
  have H71 := Lib.hid D7.out.2.2
  go_wp2_with (first
    | (go_at_call 14; (with_reducible refine (shown_right A7 a7 B7 b7 _ H70 H71).mono ?_); rintro e w20 ⟨rfl, hbn⟩; have BB20 := Lib.hid (BB.out.trans (hbn.mono BB.out.size)); have V1 := (D1.out.1.below hbn).three; clear hbn hz1 c0 c1 c2 f0 f1 f2; obtain ⟨hz1, c0, c1, c2, f0, f1, f2⟩ := V1)
    | (go_at_call 14; (with_reducible refine (shown_right_no _).mono ?_); rintro e w21 ⟨rfl, hbn⟩; have BB21 := Lib.hid (BB20.out.trans (hbn.mono BB20.out.size)); have hz1n := Nat.lt_of_lt_of_le hz1 hbn.size; have c0n := (keptCells hbn _ _ hz1).trans c0; have c1n := (keptCells hbn _ _ hz1).trans c1; have c2n := (keptCells hbn _ _ hz1).trans c2; clear hbn c0 c1 c2 f0 f1 f2)
    | (go_at_call 27; (with_reducible refine (shown_root A1 a1 B1 b1 _).mono ?_); rintro e w22 ⟨rfl, hbn⟩; have BB22 := Lib.hid (BB21.out.trans (hbn.mono BB21.out.size)); clear hbn)
    | (go_at_call 23; (with_reducible refine (shown_row A1 a1 B1 b1 _).mono ?_); rintro e w23 ⟨rfl, hbn⟩; have BB23 := Lib.hid (BB22.out.trans (hbn.mono BB22.out.size)); clear hbn))
  go_ret
  exact ⟨rfl, BB23.out⟩

end Go.Proofs.Ytfggnmmiifjilaa
