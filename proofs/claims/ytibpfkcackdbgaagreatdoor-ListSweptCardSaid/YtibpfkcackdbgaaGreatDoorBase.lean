/- Base -/
import Derived.Test.YtibpfkcackdbgaaGreatDoorRows
import Derived.WalkKit
import Derived.WalkLawsBesides
import Derived.ProofKit
import Derived.OpenShut
import Derived.Lib.Hide
import Derived.Laws.BitsAllLaws
import Derived.LoopTactic
import Derived.IntWalk
import Derived.Outline
import Derived.RowKit3
import Derived.Below
import Derived.ChangeSlices
import Derived.OwnWalk
import Derived.Deep.QuietTactic
import Derived.BigQuiet
import Derived.Laws.OwnMore
import Derived.Laws.BytesArg
import Derived.Deep.MidRow
namespace Go.Proofs.YtibpfkcackdbgaaGreatDoor
def Bytes (xs : List Nat) : Prop := ∀ x ∈ xs, x < 256
theorem Bytes.tail {x : Nat} {xs : List Nat} (h : Bytes (x :: xs)) : Bytes xs := fun y hy => h y (List.mem_cons_of_mem _ hy)
theorem Bytes.head {x : Nat} {xs : List Nat} (h : Bytes (x :: xs)) : x < 256 := h x List.mem_cons_self
theorem take_snoc (xs : List Nat) (k : Nat) (h : k < xs.length) : xs.take (k + 1) = xs.take k ++ [xs.getD k 0] := by
 rw [List.take_succ_eq_append_getElem h, List.getD_eq_getElem?_getD, List.getElem?_eq_getElem h]; rfl
theorem Bytes.take {xs : List Nat} (h : Bytes xs) (k : Nat) : Bytes (xs.take k) := fun x hx => h x (List.mem_of_mem_take hx)
theorem Bytes.getD {xs : List Nat} (h : Bytes xs) (k : Nat) : xs.getD k 0 < 256 := by
 by_cases hk : k < xs.length
 ·rw [List.getD_eq_getElem?_getD, List.getElem?_eq_getElem hk]; exact h _ (List.getElem_mem _)
 ·rw [List.getD_eq_getElem?_getD, List.getElem?_eq_none (by omega)]; decide
end Go.Proofs.YtibpfkcackdbgaaGreatDoor
namespace Go.Proofs.YtibpfkcackdbgaaGreatDoor
def numN : List Nat → Nat
 | [] => 0
 | x :: xs => x + 256 * numN xs
def leN : Nat → Nat → List Nat
 | 0, _ => []
 | n + 1, x => x % 256 :: leN n (x / 256)
def shN (k x : Nat) : Nat := x / 256 ^ k
theorem shN_zero (x : Nat) : shN 0 x = x := by simp [shN]
theorem shN_succ (k x : Nat) : shN (k + 1) x = shN k x / 256 := by rw [shN, shN, Nat.pow_succ, Nat.div_div_eq_div_mul]
theorem shN_le (k x : Nat) : shN k x ≤ x := Nat.div_le_self _ _
theorem leN_length (n x : Nat) : (leN n x).length = n := by
 induction n generalizing x with
 | zero => rfl
 | succ n ih => simp [leN, ih]
theorem leN_snoc (n x : Nat) : leN (n + 1) x = leN n x ++ [shN n x % 256] := by
 induction n generalizing x with
 | zero => simp [leN, shN]
 | succ n ih =>
  rw [leN, ih, leN]
  simp [shN, Nat.pow_succ', Nat.div_div_eq_div_mul]
end Go.Proofs.YtibpfkcackdbgaaGreatDoor
namespace Go.Proofs.YtibpfkcackdbgaaGreatDoor
open Go.ChangeShapes Go.WideShapes Go.ChangeAt Go.RowKit
set_option linter.unusedVariables false
set_option maxRecDepth 100000
def AtB (w : World) (a : Option Addr) (len : Nat) (xs : List Nat) : Prop :=
 xs.length = len ∧ Bytes xs ∧ len ≤ 9223372036854775807 ∧
 (0 < len → ∃ b off, a = some ⟨b, off, none⟩ ∧ b < w.heap.size ∧ ∀ j, j < len → w.cell? ⟨b, off + j, none⟩ = some (.int .u8 ((xs.getD j 0 : Nat) : Int)))
theorem AtB.below {B : Nat} {w w' : World} {a : Option Addr} {len : Nat} {xs : List Nat} (h : AtB w a len xs) (hb : Below B w w') (hB : w.heap.size ≤ B) : AtB w' a len xs := by
 obtain ⟨h1, h2, h3, h4⟩ := h
 refine ⟨h1, h2, h3, fun hp => ?_⟩
 obtain ⟨b, off, e, hlt, hc⟩ := h4 hp
 exact ⟨b, off, e, Nat.lt_of_lt_of_le hlt hb.size, fun j hj => (hb.cell (p := ⟨b, off + j, none⟩) (Nat.lt_of_lt_of_le hlt hB)).trans (hc j hj)⟩
theorem AtB.nil (w : World) (a : Option Addr) : AtB w a 0 [] := ⟨rfl, fun x hx => by simp at hx, by omega, fun h => by omega⟩
theorem AtB.one {w : World} {b x : Nat} (hx : x < 256) (h : w.cell? ⟨b, 0, none⟩ = some (.int .u8 ((x : Nat) : Int))) : AtB w (some ⟨b, 0, none⟩) 1 [x] :=
 ⟨rfl, fun y hy => by simp at hy; omega, by omega, fun _ => ⟨b, 0, rfl, World.block_lt_of_cell? w _ h, fun j hj => by
  obtain rfl : j = 0 := by omega
  exact h⟩⟩
theorem AtB.later {w w' : World} {a : Option Addr} {len : Nat} {xs : List Nat} (h : Hid (AtB w a len xs)) (hb : Below w.heap.size w w') : AtB w' a len xs := h.out.below hb (Nat.le_refl _)
theorem AtB.cut {w : World} {b off len : Nat} {xs : List Nat} (h : AtB w (some ⟨b, off, none⟩) len xs) (i n : Nat) (hi : i + n ≤ len) : AtB w (some ⟨b, off + i, none⟩) n ((xs.drop i).take n) := by
 obtain ⟨h1, h2, h3, h4⟩ := h
 refine ⟨by simp; omega, fun x hx => h2 x (List.mem_of_mem_drop (List.mem_of_mem_take hx)), by omega, fun hp => ?_⟩
 obtain ⟨b', off', e, hlt, hc⟩ := h4 (by omega)
 simp only [Option.some.injEq, Addr.mk.injEq, and_true] at e
 obtain ⟨rfl, rfl⟩ := e
 refine ⟨b, off + i, rfl, hlt, fun j hj => ?_⟩
 have := hc (i + j) (by omega)
 rw [Nat.add_assoc, this]
 simp [List.getElem?_drop, hj]
theorem AtB.ahead {w : World} {a : Option Addr} {len : Nat} {xs : List Nat} (h : AtB w a len xs) (k : Nat) (hk : k ≤ len) : AtB w a k (xs.take k) := by
 obtain ⟨h1, h2, h3, h4⟩ := h
 refine ⟨by simp; omega, fun x hx => h2 x (List.mem_of_mem_take hx), by omega, fun hp => ?_⟩
 obtain ⟨b, off, e, hlt, hc⟩ := h4 (by omega)
 exact ⟨b, off, e, hlt, fun j hj => by rw [hc j (by omega)]; simp [hj]⟩
theorem cells5 : Tryz.prog.cellsOf 5 = 1 := by kernel_rfl
theorem wf_u8 {n : Int} (h : (Lit.int .u8 n).wf = true) : 0 ≤ n ∧ n < 256 := by
 have hmin : IntKind.u8.min = 0 := rfl
 have hmax : IntKind.u8.max = 255 := rfl
 simp only [Lit.wf, Bool.and_eq_true, decide_eq_true_eq, hmin, hmax] at h
 omega
theorem AtB.drewN {w : World} {a : Option Addr} {len : Nat} {xs : List Nat} (h : AtB w a len xs) (n : Nat) : AtB (w.drewN n) a len xs := h
theorem elem23 : Tryz.prog.underlying 22 = some (.slice (Tryz.prog.elem 22)) := by kernel_rfl
theorem elem23' : Tryz.prog.elem 22 = 5 := by kernel_rfl
theorem size5 (w : World) : (sizeOf 5).run Tryz.prog w = .ok 1 w := by kernel_rfl
def vals (xs : List Nat) : List Value := xs.map fun x : Nat => Value.int .u8 (x : Int)
theorem vals_length (xs : List Nat) : (vals xs).length = xs.length := List.length_map _
theorem vals_one (xs : List Nat) : ∀ u ∈ vals xs, u.oneCell' = true := by
 intro u hu
 obtain ⟨z, _, rfl⟩ := List.mem_map.1 hu
 rfl
theorem vals_append (xs ys : List Nat) : vals (xs ++ ys) = vals xs ++ vals ys := List.map_append
theorem vals_set (xs : List Nat) (j y : Nat) : vals (xs.set j y) = (vals xs).set j (.int .u8 (y : Int)) := by unfold vals; rw [List.map_set]
theorem vals_get (xs : List Nat) (j : Nat) (h : j < xs.length) : (vals xs)[j]? = some (.int .u8 ((xs.getD j 0 : Nat) : Int)) := by
 unfold vals
 rw [List.getElem?_map, List.getD_eq_getElem?_getD, List.getElem?_eq_getElem h]; rfl
theorem AtB.news {w : World} {a : Option Addr} {len : Nat} {xs : List Nat} (h : AtB w a len xs) : ∀ ad, a = some ad → ∀ j u, (vals xs)[j]? = some u → w.cell? (ad.add j) = some u := by
 obtain ⟨h1, h2, h3, h4⟩ := h
 intro ad had j u hu
 have hj : j < len := by
  have := (List.getElem?_eq_some_iff.1 hu).1
  rw [vals_length] at this; omega
 obtain ⟨b, off, e, hlt, hc⟩ := h4 (by omega)
 rw [had] at e
 obtain rfl := Option.some.inj e
 rw [add_plain, hc j hj, ← vals_get xs j (by omega)]
 exact hu
def Own (w : World) (base : Nat) (v : Value) (n : Nat) (xs : List Nat) : Prop := Bytes xs ∧ w.ownsRow base 5 1 v n (vals xs)
theorem Own.length {w : World} {base : Nat} {v : Value} {n : Nat} {xs : List Nat} (h : Own w base v n xs) : xs.length = n := by have := h.2.1; rw [vals_length] at this; omega
theorem Own.at_ {w : World} {base : Nat} {v : Value} {n : Nat} {xs : List Nat} (h : Own w base v n xs) (hn : n ≤ 9223372036854775807) : ∃ A cap, v = .slice A n cap ∧ n ≤ cap ∧ AtB w A n xs := by
 have hl := h.length
 rcases h.2.2 with ⟨rfl, rfl⟩ | ⟨g, cap, cur, rfl, hg, hheap, hcap, hmax, hsz, htake⟩
 ·obtain rfl : xs = [] := List.eq_nil_of_length_eq_zero hl
  exact ⟨none, 0, rfl, Nat.le_refl _, AtB.nil _ _⟩
 ·refine ⟨_, cap, rfl, hcap, hl, h.1, hn, fun _ => ⟨g, 0, rfl, (Array.getElem?_eq_some_iff.1 hheap).1, fun j hj => ?_⟩⟩
  have := h.2.cellAt j (by omega)
  rw [Nat.zero_add, this, vals_get xs j (by omega)]
theorem Own.made (w : World) : Own (w.alloc (.cells #[] 5)) w.heap.size (.slice (some ⟨w.heap.size, 0, none⟩) 0 0) 0 [] :=
 ⟨fun x hx => by simp at hx, World.ownsRow_made w #[] 0 (Nat.le_refl _) (by decide) rfl⟩
theorem info5 : (Tryz.prog.info? 5).map (fun i => (i.zero, i.size, i.bytes)) = some (some (.int .u8 0), 1, 1) := by kernel_rfl
theorem run_append_nil_any (w : World) (base : Nat) (ty : TypeId) (v : Value) (n : Nat) (xs : List Value) (hown : w.ownsRow base 5 1 v n xs) (c : Nat) :
  (Builtin.append_ #[22, 22] ty #[v, .slice none 0 c]).run Tryz.prog w = .ok v w := by
 obtain ⟨i, hi, _, _, _⟩ := info_parts info5
 rcases hown.2 with ⟨rfl, rfl⟩ | ⟨g, cap, cur, rfl, _, _, hnc, _⟩
 ·simp [Builtin.append_, run_underlying Tryz.underlying22, sizeOf, typeInfo, hi, Builtin.lenOf, Builtin.firstCells]
 ·simp [Builtin.append_, run_underlying Tryz.underlying22, sizeOf, typeInfo, hi, Builtin.lenOf, Builtin.firstCells, hnc, storeCells]
theorem wpList_append_bytes {ops : Array Oper} {rest : List Oper} {o : Oper} {a : Act} {w : World} {Q : Exit → Act → World → Prop} (hw : Region.wanted o (yielded ops a.tmps) = true) (s x : Operand)
  (ho : o.op = .call { callee := .builtin .append, args := #[s, x], argTypes := #[22, 22] }) (base : Nat) (v : Value) (n : Nat) (xs : List Nat) (hs : a.eval s = v) (hown : Own w base v n xs)
  (A : Option Addr) (m c : Nat) (ys : List Nat) (hx : a.eval x = .slice A m c) (hA : AtB w A m ys) (hb : (n + m) ≤ 140737488355328) (hbase : base ≤ w.heap.size)
  (h : ∀ v' w', Own w' base v' (n + m) (xs ++ ys) → w.grownBy w' v.ownBlock → wpList Tryz.prog ops Q rest (a.put o.dst v') w') : wpList Tryz.prog ops Q (o :: rest) a w := by
 obtain ⟨i, hi, hz0, hz1, hz2⟩ := info_parts info5
 have hB : Bytes (xs ++ ys) := fun z hz => (List.mem_append.1 hz).elim (hown.1 z) (hA.2.1 z)
 have hrun : ∃ v' w', (Builtin.append_ #[22, 22] o.type #[v, .slice A m c]).run Tryz.prog w = .ok v' w' ∧ Own w' base v' (n + m) (xs ++ ys) ∧ w.grownBy w' v.ownBlock := by
  rcases A with _ | ad
  ·have hm : m = 0 := by
    rcases Nat.eq_zero_or_pos m with h0 | h0
    ·exact h0
    ·obtain ⟨b, off, e, _⟩ := hA.2.2.2 h0
     cases e
   subst hm
   obtain rfl : ys = [] := List.eq_nil_of_length_eq_zero hA.1
   exact ⟨v, w, run_append_nil_any w base o.type v n _ hown.2 c, by rw [List.append_nil]; exact hown, ⟨rfl, rfl, rfl, Nat.le_refl _, fun _ _ _ => rfl⟩⟩
  ·obtain ⟨v', w', h1, h2, h3, _⟩ := run_append_own (P := Tryz.prog) w base 22 o.type 5 i (.int .u8 0) 1 1 Tryz.underlying22 hi hz0 hz1 hz2 rfl (by decide) v n (vals xs) hown.2 ad m c (vals ys)
    (by rw [vals_length, hA.1]; omega) (hA.news ad rfl) (vals_one ys) (by unfold maxLen; omega) (by omega) hbase
   exact ⟨v', w', h1, ⟨hB, by rw [vals_append]; exact h2⟩, h3⟩
 obtain ⟨v', w', hr, h2, h3⟩ := hrun
 refine BigFrame.wpList_want hw fun K hK => ?_
 unfold Oper.wp execOp
 simp only [ho, resolve, invoke, builtin, Sem.run_bind, Sem.run_pure, Result.andThen_ok, List.map_toArray, List.map_cons, List.map_nil, hs, hx, hr]
 exact hK _ _ (h v' w' h2 h3)
theorem Own.below {w w1 : World} (g1 : (w.alloc (.cells #[] 5)).grownBy w1 (Value.slice (some ⟨w.heap.size, 0, none⟩) 0 0).ownBlock) : Below w.heap.size w w1 := by
 have b0 : Below w.heap.size w (w.alloc (.cells #[] 5)) := (Below.refl _ _).alloc (Nat.le_refl _) _
 exact b0.grown g1 (by simp) (fun k hk => by simp [Value.ownBlock] at hk; omega)
theorem below_made (w : World) : Below w.heap.size w (w.alloc (.cells #[] 5)) := (Below.refl _ _).alloc (Nat.le_refl _) _
theorem below_quiet {B : Nat} {a w : World} (h : Below B a w) (n : Nat) : Below B a (w.drewN n) := ⟨h.os, h.tape, h.output, h.size, h.block⟩
end Go.Proofs.YtibpfkcackdbgaaGreatDoor
namespace Go.Proofs.YtibpfkcackdbgaaGreatDoor
open Go.ChangeShapes Go.WideShapes Go.ChangeAt Go.RowKit
set_option linter.unusedVariables false
set_option maxRecDepth 100000
theorem Own.alloc {w : World} {base : Nat} {v : Value} {n : Nat} {xs : List Nat} (h : Own w base v n xs) (o : Obj) : Own (w.alloc o) base v n xs := ⟨h.1, h.2.alloc o⟩
def LayRel (w : World) (base m : Nat) (xs : List Nat) (x : Nat) (wr : World) (v : Value) (k : Nat) : Prop := Own wr base v (m + k) (xs ++ leN k x) ∧ Below base w wr
theorem LayRel.step {w wr w' : World} {base m : Nat} {xs : List Nat} {x k : Nat} {v v' : Value} {o : Obj} (h : LayRel w base m xs x wr v k) (hbase : base ≤ w.heap.size)
  (hown : Own w' base v' (m + k + 1) (xs ++ leN k x ++ [shN k x % 256])) (hg : (wr.alloc o).grownBy w' v.ownBlock) : LayRel w base m xs x w' v' (k + 1) := by
 refine ⟨?_, ?_⟩
 ·rw [leN_snoc, ← List.append_assoc]; exact hown
 ·refine (h.2.alloc (Nat.le_trans hbase h.2.size) o).grown hg (by have := h.2.size; simp; omega) (fun k hk => (h.1.2.lt k hk).1)
def OwnPost (w : World) (base n : Nat) (xs : List Nat) (e : Ending) (w' : World) : Prop := ∃ v, e = .returned v ∧ Own w' base v n xs ∧ Below base w w'
theorem Own.lower {w : World} {b b' : Nat} {v : Value} {n : Nat} {xs : List Nat} (h : Own w b v n xs) (hb : b' ≤ b) : Own w b' v n xs := by
 refine ⟨h.1, h.2.1, ?_⟩
 rcases h.2.2 with h | ⟨g, cap, cur, e, hg, r⟩
 ·exact .inl h
 ·exact .inr ⟨g, cap, cur, e, Nat.le_trans hb hg, r⟩
theorem Own.later {w w' : World} {base : Nat} {v : Value} {n : Nat} {xs : List Nat} (h : Own w base v n xs) (hb : Below w.heap.size w w') : Own w' base v n xs :=
 ⟨h.1, h.2.kept (row := none) ⟨hb.os, hb.tape, hb.output, hb.size, fun k hk _ => hb.block k hk⟩ (by cases v.ownBlock <;> simp)⟩
theorem Own.lit (w : World) (xs : List Nat) (h : Bytes xs) (hm : xs.length ≤ maxLen) : Own (w.alloc (.cells (vals xs).toArray 5)) w.heap.size (.slice (some ⟨w.heap.size, 0, none⟩) xs.length xs.length) xs.length xs := by
 refine ⟨h, by rw [vals_length, Nat.mul_one], .inr ⟨w.heap.size, xs.length, (vals xs).toArray, rfl, Nat.le_refl _, heap_alloc_new w _, Nat.le_refl _, hm, by simp [vals_length], ?_⟩⟩
 rw [Nat.mul_one, List.take_of_length_le (by simp [vals_length])]
end Go.Proofs.YtibpfkcackdbgaaGreatDoor
namespace Go.Proofs.YtibpfkcackdbgaaGreatDoor
open Go.ChangeShapes Go.WideShapes Go.ChangeAt Go.RowKit
set_option linter.unusedVariables false
set_option maxRecDepth 100000
def Kept (w : World) (v : Value) (e : Ending) (w' : World) : Prop := e = .returned v ∧ Below w.heap.size w w'
theorem keptCells {W w1 : World} (hb : Below W.heap.size W w1) (b o : Nat) (h : b < W.heap.size) : w1.cell? ⟨b, o, none⟩ = W.cell? ⟨b, o, none⟩ := hb.cell (p := ⟨b, o, none⟩) h
theorem keptFrozen {W w1 : World} (hb : Below W.heap.size W w1) (b o : Nat) (h : b < W.heap.size) : w1.frozen? ⟨b, o, none⟩ = W.frozen? ⟨b, o, none⟩ := hb.frozen (p := ⟨b, o, none⟩) h
theorem below_step {B W w2 : World} (hb : Below W.heap.size W w2) (h : Below B.heap.size B W) : Below B.heap.size B w2 := h.trans (hb.mono h.size)
theorem below_al {a W : World} {o : Obj} (h : Below a.heap.size a W) : Below a.heap.size a (W.alloc o) := h.alloc h.size o
theorem below_box {w w1 : World} {o : Obj} (h : Below (w.alloc o).heap.size (w.alloc o) w1) : Below w.heap.size w w1 :=
 ((Below.refl _ w).alloc (Nat.le_refl _) o).trans (h.mono (by simp))
theorem below_setCells {B : Nat} {w0 : World} {b : Nat} (hb : B ≤ b) : ∀ (vs : List Value) (o : Nat) (w : World), Below B w0 w → Below B w0 (w.setCells b o vs)
 | [], _, _, h => h
 | v :: r, o, w, h => below_setCells hb r (o + 1) _ (h.setCell (by simpa using hb) v)
theorem below_set5 {w0 w : World} {b : Nat} (hb : w0.heap.size ≤ b) (v0 v1 v2 v3 v4 : Value) (h : Below w0.heap.size w0 w) :
  Below w0.heap.size w0 (((((w.setCell ⟨b, 0, none⟩ v0).setCell ⟨b, 1, none⟩ v1).setCell ⟨b, 2, none⟩ v2).setCell ⟨b, 3, none⟩ v3).setCell ⟨b, 4, none⟩ v4) := below_setCells hb [v0, v1, v2, v3, v4] 0 w h
def Room (w : World) (b n : Nat) : Prop := b < w.heap.size ∧ w.there b 0 n
theorem Room.below {w w' : World} {b n : Nat} (h : Room w b n) (hb : Below w.heap.size w w') : Room w' b n :=
 ⟨Nat.lt_of_lt_of_le h.1 hb.size, fun j hj => by rw [keptCells hb _ _ h.1, keptFrozen hb _ _ h.1]; exact h.2 j hj⟩
theorem Room.made (w : World) (c : Array Value) (t : TypeId) (n : Nat) (hn : n ≤ c.size) : Room (w.alloc (.cells c t)) w.heap.size n := by
 refine ⟨by simp, fun j hj => ⟨?_, ?_⟩⟩
 ·rw [World.cell?_alloc_mark]
  simp
  omega
 ·have e : (w.alloc (.cells c t)).heap[w.heap.size]? = some (.cells c t) := heap_alloc_new w _
  unfold World.frozen?
  simp only [e]
  simp
def CellsAt (w : World) (b : Nat) (cs : List Value) : Prop := b < w.heap.size ∧ ∀ j v, cs[j]? = some v → w.cell? ⟨b, j, none⟩ = some v
theorem CellsAt.below {w w' : World} {b : Nat} {cs : List Value} (h : CellsAt w b cs) (hb : Below w.heap.size w w') : CellsAt w' b cs :=
 ⟨Nat.lt_of_lt_of_le h.1 hb.size, fun j v hv => (keptCells hb _ _ h.1).trans (h.2 j v hv)⟩
theorem CellsAt.set {w : World} {b n : Nat} {cs : List Value} (h : Room w b n) (hn : cs.length = n) : CellsAt (w.setCells b 0 cs) b cs := by
 refine ⟨Nat.lt_of_lt_of_le h.1 (below_setCells (Nat.zero_le b) cs 0 w (Below.refl 0 w)).size, fun j v hv => ?_⟩
 ·have hj : j < cs.length := (List.getElem?_eq_some_iff.1 hv).1
  have := World.cell?_setCells_in b cs 0 w (fun j hj => by have := (h.2 j (by omega)).1; exact this) j hj
  rw [Nat.zero_add] at this
  rw [this]
  exact hv ▸ (List.getElem?_eq_getElem hj).symm
theorem Room.drew {w : World} {b n : Nat} (h : Room w b n) : Room w.drew b n := h
theorem Room.set {w : World} {b n : Nat} (h : Room w b n) (cs : List Value) : Room (w.setCells b 0 cs) b n := by
 refine ⟨Nat.lt_of_lt_of_le h.1 (below_setCells (Nat.zero_le b) cs 0 w (Below.refl 0 w)).size, World.there_setCells h.2 b 0 cs⟩
def VarAt (w : World) (b : Nat) (vs : List Value) : Prop := b < w.heap.size ∧ (∀ j v, vs[j]? = some v → w.cell? ⟨b, j, none⟩ = some v) ∧ ∀ j, j < vs.length → w.frozen? ⟨b, j, none⟩ = false
theorem VarAt.below {w w' : World} {b : Nat} {vs : List Value} (h : VarAt w b vs) (hb : Below w.heap.size w w') : VarAt w' b vs :=
 ⟨Nat.lt_of_lt_of_le h.1 hb.size, fun j v hv => (keptCells hb _ _ h.1).trans (h.2.1 j v hv), fun j hj => (keptFrozen hb _ _ h.1).trans (h.2.2 j hj)⟩
theorem VarAt.made (w : World) (c : Array Value) (t : TypeId) : VarAt (w.alloc (.cells c t)) w.heap.size c.toList := by
 refine ⟨by simp, fun j v hv => ?_, fun j hj => ?_⟩
 ·rw [World.cell?_alloc_mark]
  simpa using hv
 ·have e : (w.alloc (.cells c t)).heap[w.heap.size]? = some (.cells c t) := heap_alloc_new w _
  unfold World.frozen?
  simp only [e]
  simp
theorem VarAt.drewN {w : World} {b : Nat} {vs : List Value} (h : VarAt w b vs) (n : Nat) : VarAt (w.drewN n) b vs := h
theorem VarAt.setAt {w : World} {b : Nat} {vs : List Value} (h : VarAt w b vs) (j : Nat) (v : Value) (hj : j < vs.length) : VarAt (w.setCell ⟨b, j, none⟩ v) b (vs.set j v) := by
 refine ⟨by simpa using h.1, fun i u hu => ?_, fun i hi => by rw [World.frozen?_setCell]; exact h.2.2 i (by simpa using hi)⟩
 by_cases hij : i = j
 ·subst hij
  obtain ⟨z, hz⟩ : ∃ z, vs[i]? = some z := ⟨vs[i], List.getElem?_eq_getElem hj⟩
  have := World.cell?_setCell_same w ⟨b, i, none⟩ v (h.2.1 i z hz)
  rw [this]
  rw [List.getElem?_set_self hj] at hu
  exact hu
 ·rw [World.cell?_setCell_other _ _ _ _ (by simp <;> omega)]
  rw [List.getElem?_set_ne (by omega)] at hu
  exact h.2.1 i u hu
theorem VarAt.apart {w : World} {b b' : Nat} {vs : List Value} (h : VarAt w b vs) (j : Nat) (v : Value) (hb : b' ≠ b) : VarAt (w.setCell ⟨b', j, none⟩ v) b vs := by
 refine ⟨by simpa using h.1, fun i u hu => ?_, fun i hi => by rw [World.frozen?_setCell]; exact h.2.2 i hi⟩
 rw [World.cell?_setCell_other _ _ _ _ (by simp <;> omega)]
 exact h.2.1 i u hu
theorem VarAt.five {w : World} {b : Nat} {v0 v1 v2 v3 v4 : Value} (h : VarAt w b [v0, v1, v2, v3, v4]) :
  b < w.heap.size ∧ (w.cell? ⟨b, 0, none⟩ = some v0 ∧ w.cell? ⟨b, 1, none⟩ = some v1 ∧ w.cell? ⟨b, 2, none⟩ = some v2 ∧ w.cell? ⟨b, 3, none⟩ = some v3 ∧ w.cell? ⟨b, 4, none⟩ = some v4) ∧
  (w.frozen? ⟨b, 0, none⟩ = false ∧ w.frozen? ⟨b, 1, none⟩ = false ∧ w.frozen? ⟨b, 2, none⟩ = false ∧ w.frozen? ⟨b, 3, none⟩ = false ∧ w.frozen? ⟨b, 4, none⟩ = false) :=
 ⟨h.1, ⟨h.2.1 0 _ rfl, h.2.1 1 _ rfl, h.2.1 2 _ rfl, h.2.1 3 _ rfl, h.2.1 4 _ rfl⟩, h.2.2 0 (by simp), h.2.2 1 (by simp), h.2.2 2 (by simp), h.2.2 3 (by simp), h.2.2 4 (by simp)⟩
theorem VarAt.six {w : World} {b : Nat} {v0 v1 v2 v3 v4 v5 : Value} (h : VarAt w b [v0, v1, v2, v3, v4, v5]) :
  b < w.heap.size ∧ (w.cell? ⟨b, 0, none⟩ = some v0 ∧ w.cell? ⟨b, 1, none⟩ = some v1 ∧ w.cell? ⟨b, 2, none⟩ = some v2 ∧ w.cell? ⟨b, 3, none⟩ = some v3 ∧ w.cell? ⟨b, 4, none⟩ = some v4 ∧ w.cell? ⟨b, 5, none⟩ = some v5) ∧
  (w.frozen? ⟨b, 0, none⟩ = false ∧ w.frozen? ⟨b, 1, none⟩ = false ∧ w.frozen? ⟨b, 2, none⟩ = false ∧ w.frozen? ⟨b, 3, none⟩ = false ∧ w.frozen? ⟨b, 4, none⟩ = false ∧ w.frozen? ⟨b, 5, none⟩ = false) :=
 ⟨h.1, ⟨h.2.1 0 _ rfl, h.2.1 1 _ rfl, h.2.1 2 _ rfl, h.2.1 3 _ rfl, h.2.1 4 _ rfl, h.2.1 5 _ rfl⟩, h.2.2 0 (by simp), h.2.2 1 (by simp), h.2.2 2 (by simp), h.2.2 3 (by simp), h.2.2 4 (by simp), h.2.2 5 (by simp)⟩
theorem VarAt.two {w : World} {b : Nat} {v0 v1 : Value} (h : VarAt w b [v0, v1]) :
  b < w.heap.size ∧ w.cell? ⟨b, 0, none⟩ = some v0 ∧ w.cell? ⟨b, 1, none⟩ = some v1 ∧ w.frozen? ⟨b, 0, none⟩ = false ∧ w.frozen? ⟨b, 1, none⟩ = false :=
 ⟨h.1, h.2.1 0 _ rfl, h.2.1 1 _ rfl, h.2.2 0 (by simp), h.2.2 1 (by simp)⟩
theorem VarAt.made1 (w : World) (o : Obj) (c : Array Value) (t : TypeId) : VarAt ((w.alloc o).alloc (.cells c t)) (w.heap.size + 1) c.toList := by
 have h := VarAt.made (w.alloc o) c t
 rw [show (w.alloc o).heap.size = w.heap.size + 1 by simp] at h
 exact h
theorem VarAt.three {w : World} {b : Nat} {v0 v1 v2 : Value} (h : VarAt w b [v0, v1, v2]) :
  b < w.heap.size ∧ w.cell? ⟨b, 0, none⟩ = some v0 ∧ w.cell? ⟨b, 1, none⟩ = some v1 ∧ w.cell? ⟨b, 2, none⟩ = some v2 ∧ w.frozen? ⟨b, 0, none⟩ = false ∧ w.frozen? ⟨b, 1, none⟩ = false ∧ w.frozen? ⟨b, 2, none⟩ = false :=
 ⟨h.1, h.2.1 0 _ rfl, h.2.1 1 _ rfl, h.2.1 2 _ rfl, h.2.2 0 (by simp), h.2.2 1 (by simp), h.2.2 2 (by simp)⟩
theorem VarAt.three0 (w : World) (a b c : Value) (o : Obj) (t : TypeId) : VarAt ((w.alloc (.cells #[a, b, c] t)).alloc o) w.heap.size [a, b, c] := (VarAt.made w #[a, b, c] t).below ((Below.refl _ _).alloc (Nat.le_refl _) _)
theorem VarAt.three1 (w : World) (a b c : Value) (o : Obj) (t : TypeId) : VarAt ((w.alloc o).alloc (.cells #[a, b, c] t)) (w.heap.size + 1) [a, b, c] := VarAt.made1 w o #[a, b, c] t
theorem al_below (w : World) (o : Obj) : Below w.heap.size w (w.alloc o) := (Below.refl _ _).alloc (Nat.le_refl _) o
theorem below_pair (w : World) (o o' : Obj) : Below w.heap.size w ((w.alloc o).alloc o') := ((Below.refl _ w).alloc (Nat.le_refl _) o).alloc (by simp) o'
theorem below_set1 {w0 w : World} {b j : Nat} (hb : w0.heap.size ≤ b) (v0 : Value) (h : Below w0.heap.size w0 w) : Below w0.heap.size w0 (w.setCell ⟨b, j, none⟩ v0) := below_setCells hb [v0] j w h
theorem quiet_call {f : FuncId} {args : Array Value} {w : World} {n : Nat} {v : Value} (h : Calls Tryz.prog f args (w.drewN n) fun e w' => e = .returned v ∧ w.drewN n = w') :
  Calls Tryz.prog f args (w.drewN n) fun e w'' => e = .returned v ∧ ∃ m, w'' = w.drewN m := h.mono fun _ _ ⟨he, hm⟩ => ⟨he, n, hm.symm⟩
theorem below_draw {B : Nat} {a w : World} (h : Below B a w) (n : Nat) : Below B a (w.drewN n) := ⟨h.os, h.tape, h.output, h.size, h.block⟩
end Go.Proofs.YtibpfkcackdbgaaGreatDoor
namespace Go.Proofs.YtibpfkcackdbgaaGreatDoor
open Go.ChangeShapes Go.WideShapes Go.ChangeAt Go.RowKit
set_option linter.unusedVariables false
set_option maxRecDepth 100000
theorem belA {B : Nat} {w w2 : World} (h : Below B w w2 := by repeat (first | with_reducible assumption | with_reducible exact Below.refl _ _ | with_reducible refine Below.drew ?_ | with_reducible refine below_al ?_ | (with_reducible refine below_set1 (by omega) _ ?_))) : Below B w w2 := h
end Go.Proofs.YtibpfkcackdbgaaGreatDoor
