/-
  What AccessStreams asks of: rows of bytes and of truth values that come in; a world of two streams, what appends, syncs, reads and a crash without cuts make of it.
-/
import Derived.Test.YtjbhichgojjakaaAccShown
import Derived.Test.YtjbhichgojjakaaAccLeaf
import Derived.Test.YtjbhichgojjakaaAccKeep
import Derived.Test.YtjbhichgojjakaaDskRefCrash2
import Derived.Test.YtjbhichgojjakaaStrmText
import Derived.Deep.Matrix
import Derived.Deep.Grids
namespace Go.Proofs.Ytjbhichgojjakaa
open Go.ChangeShapes Go.WideShapes Go.ChangeAt Go.RowKit Go.Deep
set_option linter.unusedVariables false
set_option maxRecDepth 100000

theorem gen_at {P : World → Prop} {W : World} (S : World → Prop) (hS : S W) (h : ∀ x, S x → P x) : P W := h W hS
/-- A slice that reads as a row of truth values. -/
def BlsAt (w : World) (a : Option Addr) (n : Nat) (f : Nat → Bool) : Prop := n ≤ 140737488355328 ∧ (0 < n → ∃ b off, a = some ⟨b, off, none⟩ ∧ b < w.heap.size ∧ ∀ j, j < n → w.cell? ⟨b, off + j, none⟩ = some (.bool (f j)))
theorem BlsAt.later {w w' : World} {a : Option Addr} {n : Nat} {f : Nat → Bool} (h : BlsAt w a n f) (hb : Below w.heap.size w w') : BlsAt w' a n f := by
  refine ⟨h.1, fun hp => ?_⟩
  obtain ⟨b, off, e, hlt, hc⟩ := h.2 hp
  exact ⟨b, off, e, Nat.lt_of_lt_of_le hlt hb.size, fun j hj => (hb.cell (p := ⟨b, off + j, none⟩) hlt).trans (hc j hj)⟩
theorem cellsBls : Try.prog.cellsOf 4 = 1 := by kernel_rfl
theorem leaf_blsat {H : Type} {enc : TypeId × Value → H} {w : World} {fuel : Nat} {cs : List Value} {x : DataW H × List MemPlace} (hf : DataW.trod enc Try.prog w 0 (fun _ => true) true fuel 23 cs = some x) (hs : Sized Try.prog 23 x.1) (hlt : ∀ z ∈ x.2, z.block < w.heap.size) :
    ∃ (a : Option Addr) (len cap : Nat) (f : Nat → Bool), cs = [.slice a len cap] ∧ (len ≤ cap ∧ BlsAt w a len f) := by
  rcases Deep.open_bools Try.underlying23 Try.underlying4 cellsBls hf with ⟨hcs, hx⟩ | ⟨a, len, cap, B, hcs, _, hl, hm, hx, hr⟩
  · exact ⟨none, 0, 0, fun _ => false, hcs, Nat.le_refl _, by omega, fun h => by omega⟩
  · subst hcs
    have hrch := slice_reach Try.underlying23 hf hs (by rw [show Try.prog.bytesOf 4 = 1 by kernel_rfl]; decide)
    refine ⟨some a, len, cap, B, rfl, hl, hrch, fun hp => ?_⟩
    obtain ⟨b, off, spot⟩ := a
    have hspot : spot = none := by simpa [Addr.add] using World.cell?_spot (hr 0 (by omega))
    subst hspot
    refine ⟨b, off, rfl, hlt (.cell b (off + 0)) (by rw [hx]; exact MemPlace.mem_row.2 ⟨0, by omega, rfl⟩), fun j hj => ?_⟩
    have := hr j (by omega)
    rwa [Go.WideShapes.add_plain] at this
/-- A slice that reads as a row of rows of bytes. -/
def RwsAt (w : World) (a : Option Addr) (n : Nat) (ll : List (List Nat)) : Prop :=
  ll.length = n ∧ n ≤ 140737488355328 ∧ (0 < n → ∃ b off, a = some ⟨b, off, none⟩ ∧ b < w.heap.size ∧ ∀ j ys, ll[j]? = some ys → ∃ D dc, w.cell? ⟨b, off + j, none⟩ = some (.slice D ys.length dc) ∧ ys.length ≤ dc ∧ ys.length ≤ 140737488355328 ∧ AtB w D ys.length ys)
theorem RwsAt.nil (w : World) (a : Option Addr) : RwsAt w a 0 [] := ⟨rfl, by omega, fun h => by omega⟩
theorem RwsAt.later {w w' : World} {a : Option Addr} {n : Nat} {ll : List (List Nat)} (h : RwsAt w a n ll) (hb : Below w.heap.size w w') : RwsAt w' a n ll := by
  obtain ⟨h1, h2, h3⟩ := h
  refine ⟨h1, h2, fun hp => ?_⟩
  obtain ⟨b, off, e, hlt, hc⟩ := h3 hp
  refine ⟨b, off, e, Nat.lt_of_lt_of_le hlt hb.size, fun j ys hy => ?_⟩
  obtain ⟨D, dc, k1, k2, k3, k4⟩ := hc j ys hy
  exact ⟨D, dc, (hb.cell (p := ⟨b, off + j, none⟩) hlt).trans k1, k2, k3, AtB.later (Lib.hid k4) hb⟩
theorem RwsAt.at_ {w : World} {a : Option Addr} {n : Nat} {ll : List (List Nat)} (h : RwsAt w a n ll) (j : Nat) (ys : List Nat) (hy : ll[j]? = some ys) :
    ∃ b off D dc, a = some ⟨b, off, none⟩ ∧ b < w.heap.size ∧ w.cell? ⟨b, off + j, none⟩ = some (.slice D ys.length dc) ∧ ys.length ≤ dc ∧ ys.length ≤ 140737488355328 ∧ AtB w D ys.length ys := by
  have hj : j < n := by have := (List.getElem?_eq_some_iff.1 hy).1; have := h.1; omega
  obtain ⟨b, off, e, hlt, hc⟩ := h.2.2 (by omega)
  obtain ⟨D, dc, k⟩ := hc j ys hy
  exact ⟨b, off, D, dc, e, hlt, k⟩
section
variable {H : Type} {enc : TypeId × Value → H} {w : World}
def rwIn (w : World) (a : Addr) (i : Nat) (ys : List Nat) : Prop := ∃ (D : Option Addr) (dc : Nat), w.cell? ((a.add (i * 1)).add 0) = some (.slice D ys.length dc) ∧ ys.length ≤ dc ∧ ys.length ≤ 140737488355328 ∧ AtB w D ys.length ys
theorem leaf_rwsat {fuel : Nat} {cs : List Value} {x : DataW H × List MemPlace} (hf : DataW.trod enc Try.prog w 0 (fun _ => true) true fuel 22 cs = some x) (hs : Sized Try.prog 22 x.1) (hlt : ∀ z ∈ x.2, z.block < w.heap.size) :
    ∃ (a : Option Addr) (len cap : Nat) (ll : List (List Nat)), cs = [.slice a len cap] ∧ (len ≤ cap ∧ RwsAt w a len ll) := by
  have h2 : Try.prog.cellsOf 24 = 1 := by kernel_rfl
  rcases open_slice Try.underlying22 hf with ⟨hcs, hx⟩ | ⟨a, len, cap, m, n, D, Pl, hcs, _, hl, hm, hmm, hx, hi⟩
  · exact ⟨none, 0, 0, [], hcs, Nat.le_refl _, RwsAt.nil _ _⟩
  · subst hcs
    have hr := slice_reach Try.underlying22 hf hs (by rw [show Try.prog.bytesOf 24 = 24 by kernel_rfl]; decide)
    simp only [if_true] at hmm
    subst hmm
    subst hx
    rw [h2] at hi
    have hex : ∀ i, i < len → ∃ ys : List Nat, rwIn w a i ys := by
      intro i hil
      obtain ⟨cs', hc, ht⟩ := hi i (by omega)
      obtain ⟨B, bl, bc, ys, e, k2, k3, k4⟩ := bytes_reach ht (fun z hz => hs z (by
        simp only [DataW.weights, Try.underlying22]
        exact List.mem_cons_of_mem _ (List.mem_append_left _ (weightsAll_mem (List.mem_map.2 ⟨i, List.mem_range.2 hil, rfl⟩) hz)))) (fun z hz => hlt z (List.mem_append_right _ (List.mem_flatMap.2 ⟨i, List.mem_range.2 (by omega), hz⟩)))
      obtain ⟨_, _, hat⟩ := World.cells?_some hc
      subst e
      obtain rfl : bl = ys.length := k4.1.symm
      exact ⟨ys, B, bc, hat 0 (by decide), k2, k3, k4⟩
    obtain ⟨f, hf'⟩ := @choose_lt (List Nat) ⟨[]⟩ len _ hex
    refine ⟨some a, len, _, (List.range len).map f, rfl, hl, by simp, hr, fun hp => ?_⟩
    obtain ⟨b, off, spot⟩ := a
    have hspot : spot = none := by
      obtain ⟨_, _, h0, _⟩ := hf' 0 hp
      have := World.cell?_spot h0
      simpa [Addr.add] using this
    subst hspot
    refine ⟨b, off, rfl, ?_, fun j y hy => ?_⟩
    · obtain ⟨_, _, h0, _⟩ := hf' 0 hp
      have := World.block_lt_of_cell? w _ h0
      simpa [Addr.add] using this
    · have hj : j < len := by have := (List.getElem?_eq_some_iff.1 hy).1; simpa using this
      rw [List.getElem?_map, List.getElem?_range hj] at hy
      simp only [Option.map_some, Option.some.injEq] at hy
      subst hy
      obtain ⟨B, bc, k0, k1⟩ := hf' j hj
      rw [Go.WideShapes.add_plain, Go.WideShapes.add_plain, Nat.add_zero, Nat.mul_one] at k0
      exact ⟨B, bc, k0, k1⟩
end

/-! ### Two streams -/
def upd {α : Type} (o : Nat → α) (k : Nat) (v : α) : Nat → α := fun j => if j = k then v else o j
/-- The row of two streams: their bytes, and how many of these are synced. -/
def rowO (o : Nat → List Nat) (q : Nat → Nat) : List Stm := [⟨o 0, (q 0 : Int)⟩, ⟨o 1, (q 1 : Int)⟩]
theorem rowO_at (o : Nat → List Nat) (q : Nat → Nat) {k : Nat} (hk : k < 2) : (rowO o q)[k]? = some ⟨o k, (q k : Int)⟩ := by
  obtain rfl | rfl : k = 0 ∨ k = 1 := by omega
  · rfl
  · rfl
theorem rowO_set (o : Nat → List Nat) (q : Nat → Nat) {k : Nat} (hk : k < 2) (v : List Nat) (s : Nat) : (rowO o q).set k ⟨v, (s : Int)⟩ = rowO (upd o k v) (upd q k s) := by
  obtain rfl | rfl : k = 0 ∨ k = 1 := by omega
  · rfl
  · rfl
theorem upd_same {α : Type} (o : Nat → α) (k : Nat) : upd o k (o k) = o := by funext j; unfold upd; split <;> simp_all
theorem rowO_good (o : Nat → List Nat) (q : Nat → Nat) (h : ∀ k, k < 2 → q k ≤ (o k).length) : GoodD 2 (rowO o q) (zerosS 2) := by
  refine ⟨rfl, by unfold zerosS; simp, ?_, allB_zeros 2⟩
  unfold allB rowO
  simp only [List.all_cons, List.all_nil, Bool.and_true, Bool.and_eq_true]
  exact ⟨rightB_nat (h 0 (by decide)), rightB_nat (h 1 (by decide))⟩
/-- Two texts. -/
def txt (o : Nat → List Nat) : List Value := [.string (strN (o 0)), .string (strN (o 1))]
theorem txt_at (o : Nat → List Nat) {k : Nat} (hk : k < 2) : (txt o)[k]? = some (.string (strN (o k))) := by
  obtain rfl | rfl : k = 0 ∨ k = 1 := by omega
  · rfl
  · rfl
theorem txt_set (o : Nat → List Nat) {k : Nat} (hk : k < 2) (v : List Nat) : (txt o).set k (.string (strN v)) = txt (upd o k v) := by
  obtain rfl | rfl : k = 0 ∨ k = 1 := by omega
  · rfl
  · rfl

/-! ### Accesses of the disk, told -/
section
variable (A : Option Addr) (n k : Nat) (F : Nat → Nat) (R S : Option Addr) (ra sa : Nat) (o : Nat → List Nat) (q : Nat → Nat)
abbrev wdV (A : Option Addr) (n k : Nat) (R : Option Addr) (ra : Nat) (S : Option Addr) (sa : Nat) : Value := .agg #[.int .i64 2, .int .i64 0, .slice A n k, .int .u64 0, .slice R 2 ra, .slice S 2 sa]
theorem strm_append (me : Nat) (hme : me < 2) (D : Option Addr) (dc : Nat) (ys : List Nat) (hl : (o me).length + ys.length ≤ 100000) (w : World) (hA : Hid (AtW w A n F)) (h0 : Hid (StmsAt w R 2 (rowO o q))) (h1 : Hid (StmsAt w S 2 (zerosS 2))) (hD : Hid (AtB w D ys.length ys)) :
    Calls Try.prog 10 #[wdV A n k R ra S sa, .int .i64 (me : Int), .agg #[.int .i64 5, .int .i64 0, .int .u64 0, .int .u64 0, .slice D ys.length dc, .slice none 0 0], .bool false] w (DoW w 2 0 A n 0 R S 2 F (rowO (upd o me (o me ++ ys)) q) (zerosS 2) 0 [] false) := by
  have e : (rowO o q).set me ((⟨o me, (q me : Int)⟩ : Stm).app ys) = rowO (upd o me (o me ++ ys)) q := by
    show (rowO o q).set me ⟨o me ++ ys, (q me : Int)⟩ = _
    rw [rowO_set o q hme, upd_same]
  have h := do_disk 2 0 A n k F 0 R S 2 ra sa (rowO o q) (zerosS 2) me 5 0 0 0 D ys.length dc none 0 0 (by decide) false rfl ys 0 0 (rowO (upd o me (o me ++ ys)) q) (zerosS 2) [] (fun w g0 g1 g2 => ofDisk_append 0 (by decide) R S 2 ra sa (rowO o q) (zerosS 2) 0 1 rfl (by decide) me 0 0 0 D ys.length dc none 0 0 _ _ 0 ys (fun w g0 g1 g2 => by
    have := dskAppend0_at 0 R 2 ra S 2 sa (rowO o q) (zerosS 2) me hme (by decide) ⟨o me, (q me : Int)⟩ (rowO_at o q hme) D dc ys.length ys (by show (o me).length + ys.length ≤ _; omega) w g0 g1 g2
    rw [e] at this
    exact this) w g0 g1 g2) w hA h0 h1 hD
  exact h
theorem strm_sync (me : Nat) (hme : me < 2) (w : World) (hA : Hid (AtW w A n F)) (h0 : Hid (StmsAt w R 2 (rowO o q))) (h1 : Hid (StmsAt w S 2 (zerosS 2))) :
    Calls Try.prog 10 #[wdV A n k R ra S sa, .int .i64 (me : Int), .agg #[.int .i64 6, .int .i64 0, .int .u64 0, .int .u64 0, .slice none 0 0, .slice none 0 0], .bool false] w (DoW w 2 0 A n 0 R S 2 F (rowO o (upd q me (o me).length)) (zerosS 2) 0 [] false) := by
  have e : (rowO o q).set me (⟨o me, (q me : Int)⟩ : Stm).syn = rowO o (upd q me (o me).length) := by
    show (rowO o q).set me ⟨o me, ((o me).length : Int)⟩ = _
    rw [rowO_set o q hme, upd_same]
  have h := do_disk 2 0 A n k F 0 R S 2 ra sa (rowO o q) (zerosS 2) me 6 0 0 0 none 0 0 none 0 0 (by decide) false rfl [] 0 0 (rowO o (upd q me (o me).length)) (zerosS 2) [] (fun w g0 g1 _ => ofDisk_sync 0 (by decide) R S 2 ra sa (rowO o q) (zerosS 2) 0 1 rfl (by decide) me 0 0 0 none 0 0 none 0 0 _ _ 0 [] (fun w g0 g1 => by
    have := dskSync0_at 0 R 2 ra S 2 sa (rowO o q) (zerosS 2) me hme (by decide) ⟨o me, (q me : Int)⟩ (rowO_at o q hme) w g0 g1
    rw [e] at this
    exact this) w g0 g1) w hA h0 h1 (Lib.hid (AtB.nil _ _))
  exact h
theorem strm_read (i : Nat) (hi : i < 2) (w : World) (hA : Hid (AtW w A n F)) (h0 : Hid (StmsAt w R 2 (rowO o q))) (h1 : Hid (StmsAt w S 2 (zerosS 2))) :
    Calls Try.prog 10 #[wdV A n k R ra S sa, .int .i64 0, .agg #[.int .i64 8, .int .i64 (i : Int), .int .u64 0, .int .u64 0, .slice none 0 0, .slice none 0 0], .bool false] w (DoW w 2 0 A n 0 R S 2 F (rowO o q) (zerosS 2) 0 (o i) false) :=
  do_disk 2 0 A n k F 0 R S 2 ra sa (rowO o q) (zerosS 2) 0 8 i 0 0 none 0 0 none 0 0 (by decide) false rfl [] 0 0 (rowO o q) (zerosS 2) (o i) (fun w g0 g1 _ => ofDisk_read 0 (by decide) R S 2 ra sa (rowO o q) (zerosS 2) 0 1 rfl (by decide) 0 i 0 0 none 0 0 none 0 0 _ 0 (fun w g0 g1 => dskReadC0_at 0 R 2 ra S 2 sa (rowO o q) (zerosS 2) i hi ⟨o i, (q i : Int)⟩ (rowO_at o q hi) w g0 g1) w g0 g1) w hA h0 h1 (Lib.hid (AtB.nil _ _))
theorem cut_row (h : ∀ k, k < 2 → q k ≤ (o k).length) : cutL (rowO o q) (moreAt 0 fun _ => 0) = rowO (fun k => (o k).take (q k)) q := by
  have hc : ∀ (k : Nat), Stm.cut ⟨o k, (q k : Int)⟩ 0 = ⟨(o k).take (q k), (q k : Int)⟩ := by
    intro k
    have e : Stm.cutN ⟨o k, (q k : Int)⟩ 0 = q k := by unfold Stm.cutN cutN; simp
    unfold Stm.cut
    rw [e]
  show [Stm.cut ⟨o 0, (q 0 : Int)⟩ 0, Stm.cut ⟨o 1, (q 1 : Int)⟩ 0] = _
  rw [hc 0, hc 1]
  rfl
theorem cut_zeros : cutL (zerosS 2) (fun j => moreAt 0 (fun _ => 0) (2 + j)) = zerosS 2 := rfl
theorem strm_crash (h : ∀ k, k < 2 → q k ≤ (o k).length) (hl : ∀ k, k < 2 → (o k).length ≤ 100000) (w : World) (h0 : Hid (StmsAt w R 2 (rowO o q))) (h1 : Hid (StmsAt w S 2 (zerosS 2))) :
    Calls Try.prog 11 #[.agg #[.int .u64 0, .slice R 2 ra, .slice S 2 sa], .slice none 0 0] w (DskPostV w 0 R S 2 2 (rowO (fun k => (o k).take (q k)) q) (zerosS 2)) := by
  have hx := refCrash_at 0 R 2 ra S sa (rowO o q) (zerosS 2) (by decide) (by decide) (rowO_good o q h).2.2.1 (allB_zeros 2) (fun x hx => by
    unfold rowO at hx
    simp only [List.mem_cons, List.not_mem_nil, or_false] at hx
    rcases hx with rfl | rfl
    · have := hl 0 (by decide); show (o 0).length ≤ _; omega
    · have := hl 1 (by decide); show (o 1).length ≤ _; omega) (fun x hx => by unfold zerosS at hx; obtain rfl := List.eq_of_mem_replicate hx; exact Nat.zero_le _) none 0 0 (fun _ => 0) w h0 h1 (Lib.hid ⟨by omega, fun j hj => by omega, fun hp => by omega⟩)
  rw [cut_row o q h, cut_zeros] at hx
  exact hx
end
/-! ### What stands behind so many rounds -/
def N3 (ga gb gc b : Nat) : Prop := b ≠ ga ∧ b ≠ gb ∧ b ≠ gc
def Q3 (ga gb gc N1 N2 b : Nat) : Prop := N3 ga gb gc b ∧ (b < N1 ∨ N2 ≤ b)
def TellEnd (wr : World) (ga gb gc n : Nat) (G : Nat → Nat) (P0 P1 : List Stm) (N : Nat) (xs : List Nat) (v9 v10 : Value) (y : World) : Prop :=
  ∃ b9 b10 A ka R ra S sa X kx, v9 = .pointer (some ⟨b9, 0, none⟩) ∧ v10 = .pointer (some ⟨b10, 0, none⟩) ∧ wr.heap.size ≤ b9 ∧ wr.heap.size ≤ b10 ∧ VarAt y b9 [.int .i64 2, .int .i64 0, .slice A n ka, .int .u64 0, .slice R 2 ra, .slice S 2 sa] ∧ VarAt y b10 [.int .u64 (N : Int), .slice X xs.length kx, .bool false] ∧
    AtW y A n G ∧ StmsAt y R 2 P0 ∧ StmsAt y S 2 P1 ∧ OffW (N3 ga gb gc) A n ∧ OffS (N3 ga gb gc) y R 2 ∧ OffS (N3 ga gb gc) y S 2 ∧ Below wr.heap.size wr y
theorem TellEnd.of {wr w4 y : World} {ga gb gc n : Nat} {G : Nat → Nat} {P0 P1 : List Stm} {N : Nat} {xs : List Nat} {N2 b9 b10 ka ra sa kx : Nat} {A R S X : Option Addr} (hk : Keep (Q3 ga gb gc wr.heap.size N2) w4 y) (n1 : wr.heap.size ≤ b9) (n2 : wr.heap.size ≤ b10)
    (v9 : VarAt y b9 [.int .i64 2, .int .i64 0, .slice A n ka, .int .u64 0, .slice R 2 ra, .slice S 2 sa]) (v10 : VarAt y b10 [.int .u64 (N : Int), .slice X xs.length kx, .bool false])
    (hA : AtW w4 A n G) (h0 : StmsAt w4 R 2 P0) (h1 : StmsAt w4 S 2 P1) (o0 : OffW (Q3 ga gb gc wr.heap.size N2) A n) (o1 : OffS (Q3 ga gb gc wr.heap.size N2) w4 R 2) (o2 : OffS (Q3 ga gb gc wr.heap.size N2) w4 S 2) (hb : Below wr.heap.size wr y) :
    TellEnd wr ga gb gc n G P0 P1 N xs (.pointer (some ⟨b9, 0, none⟩)) (.pointer (some ⟨b10, 0, none⟩)) y :=
  ⟨b9, b10, A, ka, R, ra, S, sa, X, kx, rfl, rfl, n1, n2, v9, v10, hA.keep hk o0, h0.keep hk o1, h1.keep hk o2, o0.mono fun b h => h.1, (o1.keep h0 hk o1).mono fun b h => h.1, (o2.keep h1 hk o2).mono fun b h => h.1, hb⟩
theorem tell_fact {wr wa w4 : World} {ga gb gc n m kx : Nat} {A3 A4 R3 R4 S3 S4 X : Option Addr} {G3 : Nat → Nat} {l0 l1 : List Stm} (hwr : Below wr.heap.size wr wa) (hb : Below wa.heap.size wa w4)
    (hP : ∀ P : Nat → Prop, (∀ b, wa.heap.size ≤ b → P b) → OffW P A3 n → OffS P wa R3 m → OffS P wa S3 m → OffW P A4 n ∧ OffS P w4 R4 m ∧ OffS P w4 S4 m ∧ OffW P X kx)
    (hA : AtW wr A3 n G3) (h0 : StmsAt wr R3 m l0) (h1 : StmsAt wr S3 m l1) (o0 : OffW (N3 ga gb gc) A3 n) (o1 : OffS (N3 ga gb gc) wr R3 m) (o2 : OffS (N3 ga gb gc) wr S3 m) (hg : ga < wr.heap.size ∧ gb < wr.heap.size ∧ gc < wr.heap.size) :
    ∃ N2, N2 = wa.heap.size ∧ wr.heap.size ≤ N2 ∧ N2 ≤ w4.heap.size ∧ OffW (Q3 ga gb gc wr.heap.size N2) A4 n ∧ OffS (Q3 ga gb gc wr.heap.size N2) w4 R4 m ∧ OffS (Q3 ga gb gc wr.heap.size N2) w4 S4 m := by
  have hz := hwr.size
  obtain ⟨p0, p1, p2, _⟩ := hP (Q3 ga gb gc wr.heap.size wa.heap.size) (fun b hb => ⟨⟨by omega, by omega, by omega⟩, .inr hb⟩)
    (fun hp b off e => ⟨o0 hp b off e, .inl (hA.old hp b off e)⟩)
    ((((o1.both h0.old).mono fun b hb => (⟨hb.1, .inl hb.2⟩ : Q3 ga gb gc wr.heap.size wa.heap.size b))).later h0 hwr)
    ((((o2.both h1.old).mono fun b hb => (⟨hb.1, .inl hb.2⟩ : Q3 ga gb gc wr.heap.size wa.heap.size b))).later h1 hwr)
  exact ⟨_, rfl, hz, hb.size, p0, p1, p2⟩
/-- The world's variable lies in block gw, the texts' in go and gs; the streams are o, of which q bytes are synced, behind j rounds. -/
structure RunT (y : World) (gw go gs j : Nat) (o : Nat → List Nat) (q : Nat → Nat) (x : World) : Prop where
  below : Below y.heap.size y x
  blk : y.heap.size ≤ gw ∧ y.heap.size ≤ go ∧ y.heap.size ≤ gs ∧ gw ≠ go ∧ gw ≠ gs ∧ go ≠ gs
  run : ∃ A ka R ra S sa G, WdAt x gw 2 0 A 10 ka 0 R 2 ra S sa G (rowO o q) (zerosS 2) ∧ OffW (N3 gw go gs) A 10 ∧ OffS (N3 gw go gs) x R 2 ∧ OffS (N3 gw go gs) x S 2
  own : VarAt x go (txt o)
  safe : VarAt x gs (txt fun k => (o k).take (q k))
  len : ∀ k, k < 2 → (o k).length ≤ 50 * j ∧ q k ≤ (o k).length
theorem upd_len {o : Nat → List Nat} {q : Nat → Nat} {j k : Nat} {ys : List Nat} (h : ∀ k, k < 2 → (o k).length ≤ 50 * j ∧ q k ≤ (o k).length) (hk : k < 2) (hy : ys.length ≤ 50) : ∀ i, i < 2 → (upd o k (o k ++ ys) i).length ≤ 50 * (j + 1) ∧ q i ≤ (upd o k (o k ++ ys) i).length := by
  intro i hi
  unfold upd
  have h1 := h i hi
  have h2 := h k hk
  split
  · subst i; rw [List.length_append]; omega
  · omega
theorem safe_app {o : Nat → List Nat} {q : Nat → Nat} {j k : Nat} (ys : List Nat) (h : ∀ k, k < 2 → (o k).length ≤ 50 * j ∧ q k ≤ (o k).length) : txt (fun i => (upd o k (o k ++ ys) i).take (q i)) = txt fun i => (o i).take (q i) := by
  have e : ∀ i, i < 2 → (upd o k (o k ++ ys) i).take (q i) = (o i).take (q i) := by
    intro i hi
    unfold upd
    split
    · subst i; rw [List.take_append_of_le_length (h k hi).2]
    · rfl
  unfold txt
  simp only [e 0 (by decide), e 1 (by decide)]
theorem safe_set {o : Nat → List Nat} {q : Nat → Nat} {k : Nat} (hk : k < 2) : (txt fun i => (o i).take (q i)).set k (.string (strN (o k))) = txt fun i => (o i).take (upd q k (o k).length i) := by
  rw [txt_set (fun i => (o i).take (q i)) hk]
  congr 1
  funext i
  unfold upd
  split
  · subst i; rw [List.take_length]
  · rfl
theorem sync_len {o : Nat → List Nat} {q : Nat → Nat} {j k : Nat} (h : ∀ k, k < 2 → (o k).length ≤ j ∧ q k ≤ (o k).length) : ∀ i, i < 2 → (o i).length ≤ j ∧ upd q k (o k).length i ≤ (o i).length := by
  intro i hi
  unfold upd
  have h1 := h i hi
  split
  · subst i; omega
  · omega
/-! ### What is read -/
def Q5 (N0 N1 N5 N2 b : Nat) : Prop := (b < N0 ∨ N1 ≤ b) ∧ (b < N5 ∨ N2 ≤ b)
def ReadEnd (x4 : World) (ys : List Nat) (v21 : Value) (y : World) : Prop :=
  ∃ b21 X kx, v21 = .pointer (some ⟨b21, 0, none⟩) ∧ VarAt y b21 [.int .u64 0, .slice X ys.length kx, .bool false] ∧ AtB y X ys.length ys ∧ Below x4.heap.size x4 y
theorem ReadEnd.of {x4 w6 y : World} {ys : List Nat} {N0 N1 N5 N2 b21 kx : Nat} {X : Option Addr} (hk : Keep (Q5 N0 N1 N5 N2) w6 y) (v21 : VarAt y b21 [.int .u64 0, .slice X ys.length kx, .bool false]) (hX : AtB w6 X ys.length ys) (o : OffW (Q5 N0 N1 N5 N2) X ys.length) (hb : Below x4.heap.size x4 y) :
    ReadEnd x4 ys (.pointer (some ⟨b21, 0, none⟩)) y := ⟨b21, X, kx, rfl, v21, hX.keep hk o, hb⟩
theorem crash_fact {x4 wa w5 : World} {R S R5 S5 : Option Addr} {n : Nat} {l0 l1 : List Stm} (hwr : Below x4.heap.size x4 wa) (hb : Below wa.heap.size wa w5)
    (hP : ∀ P : Nat → Prop, (∀ b, wa.heap.size ≤ b → P b) → OffS P wa R n → OffS P wa S n → OffS P w5 R5 n ∧ OffS P w5 S5 n) (h0 : StmsAt x4 R n l0) (h1 : StmsAt x4 S n l1) :
    ∃ N1, N1 = wa.heap.size ∧ x4.heap.size ≤ N1 ∧ N1 ≤ w5.heap.size ∧ OffS (fun b => b < x4.heap.size ∨ N1 ≤ b) w5 R5 n ∧ OffS (fun b => b < x4.heap.size ∨ N1 ≤ b) w5 S5 n := by
  obtain ⟨p0, p1⟩ := hP (fun b => b < x4.heap.size ∨ wa.heap.size ≤ b) (fun b hb => .inr hb) ((h0.old.mono fun b hb => (Or.inl hb : b < x4.heap.size ∨ wa.heap.size ≤ b)).later h0 hwr) ((h1.old.mono fun b hb => (Or.inl hb : b < x4.heap.size ∨ wa.heap.size ≤ b)).later h1 hwr)
  exact ⟨_, rfl, hwr.size, hb.size, p0, p1⟩
theorem read_fact {x4 w5 wd w6 : World} {A A6 R5 S5 R6 S6 X : Option Addr} {na n kx N1 : Nat} {G : Nat → Nat} {l0 l1 : List Stm} (hN0 : x4.heap.size ≤ N1) (hN1 : N1 ≤ w5.heap.size) (hwd : Below w5.heap.size w5 wd) (hb : Below wd.heap.size wd w6)
    (hP : ∀ P : Nat → Prop, (∀ b, wd.heap.size ≤ b → P b) → OffW P A na → OffS P wd R5 n → OffS P wd S5 n → OffW P A6 na ∧ OffS P w6 R6 n ∧ OffS P w6 S6 n ∧ OffW P X kx)
    (hA : AtW x4 A na G) (h0 : StmsAt w5 R5 n l0) (h1 : StmsAt w5 S5 n l1) (o0 : OffS (fun b => b < x4.heap.size ∨ N1 ≤ b) w5 R5 n) (o1 : OffS (fun b => b < x4.heap.size ∨ N1 ≤ b) w5 S5 n) :
    ∃ N2, N2 = wd.heap.size ∧ w5.heap.size ≤ N2 ∧ N2 ≤ w6.heap.size ∧ OffW (Q5 x4.heap.size N1 w5.heap.size N2) X kx := by
  have hz := hwd.size
  obtain ⟨_, _, _, p⟩ := hP (Q5 x4.heap.size N1 w5.heap.size wd.heap.size) (fun b hb => ⟨by omega, .inr hb⟩)
    (fun hp b off e => by have := hA.old hp b off e; unfold Q5; omega)
    (((o0.both h0.old).mono fun b hb => (⟨hb.1, .inl hb.2⟩ : Q5 x4.heap.size N1 w5.heap.size wd.heap.size b)).later h0 hwd)
    (((o1.both h1.old).mono fun b hb => (⟨hb.1, .inl hb.2⟩ : Q5 x4.heap.size N1 w5.heap.size wd.heap.size b)).later h1 hwd)
  exact ⟨_, rfl, hz, hb.size, p⟩
end Go.Proofs.Ytjbhichgojjakaa
