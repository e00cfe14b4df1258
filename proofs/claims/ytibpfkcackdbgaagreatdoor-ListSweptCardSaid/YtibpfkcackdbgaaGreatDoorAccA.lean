/- AccA -/
import Derived.Test.YtibpfkcackdbgaaGreatDoorWds
import Derived.Test.YtibpfkcackdbgaaGreatDoorDskA
import Derived.Lib.SliceRun
import Derived.Laws.EntriesVeiled
namespace Go.Proofs.YtibpfkcackdbgaaGreatDoor
open Go.ChangeShapes Go.WideShapes Go.ChangeAt Go.RowKit
set_option linter.unusedVariables false
set_option maxRecDepth 100000
def OffW (P : Nat → Prop) (a : Option Addr) (n : Nat) : Prop := 0 < n → ∀ b off, a = some ⟨b, off, none⟩ → P b
theorem OffW.mono {P Q : Nat → Prop} {a : Option Addr} {n : Nat} (h : OffW P a n) (hPQ : ∀ b, P b → Q b) : OffW Q a n := fun hp b off e => hPQ _ (h hp b off e)
theorem OffW.nowhere (P : Nat → Prop) (n : Nat) : OffW P none n := fun _ b off e => by cases e
theorem OffW.nil (P : Nat → Prop) (a : Option Addr) : OffW P a 0 := fun h => by omega
theorem OffW.one {P : Nat → Prop} {g o : Nat} (n : Nat) (h : P g) : OffW P (some ⟨g, o, none⟩) n := fun _ b off e => by cases e; exact h
theorem AtW.old {w : World} {a : Option Addr} {n : Nat} {f : Nat → Nat} (h : AtW w a n f) : OffW (fun b => b < w.heap.size) a n := fun hp b off e => by
 obtain ⟨b', off', e', hlt, _⟩ := h.2 hp
 rw [e'] at e; cases e; exact hlt
theorem AtB.old {w : World} {a : Option Addr} {n : Nat} {xs : List Nat} (h : AtB w a n xs) : OffW (fun b => b < w.heap.size) a n := fun hp b off e => by
 obtain ⟨b', off', e', hlt, _⟩ := h.2.2.2 hp
 rw [e'] at e; cases e; exact hlt
theorem AtW.same {w w' : World} {a : Option Addr} {n : Nat} {f : Nat → Nat} (h : AtW w a n f) (hd : w.heap = w'.heap) : AtW w' a n f := by
 refine ⟨h.1, fun hp => ?_⟩
 obtain ⟨b, off, e, hlt, hc⟩ := h.2 hp
 exact ⟨b, off, e, by rw [← hd]; exact hlt, fun j hj => by rw [← hc j hj]; unfold World.cell?; rw [hd]⟩
def Out (N k b : Nat) : Prop := b < N ∨ N + k ≤ b
def Alike (N k : Nat) (w w' : World) : Prop := w'.heap.size = w.heap.size ∧ ∀ b o, Out N k b → w'.cell? ⟨b, o, none⟩ = w.cell? ⟨b, o, none⟩
section
variable {N k : Nat} {w w' : World}
theorem Alike.refl (N k : Nat) (w : World) : Alike N k w w := ⟨rfl, fun _ _ _ => rfl⟩
theorem Alike.set (h : Alike N k w w') (b j : Nat) (v : Value) (h1 : N ≤ b) (h2 : b < N + k) : Alike N k w (w'.setCell ⟨b, j, none⟩ v) := by
 refine ⟨by simpa using h.1, fun g o hg => ?_⟩
 rw [World.cell?_setCell_other _ _ _ _ (by unfold Out at hg; simp <;> omega)]
 exact h.2 g o hg
theorem Alike.drew (h : Alike N k w w') : Alike N k w w'.drew := h
theorem AtW.alike {a : Option Addr} {n : Nat} {f : Nat → Nat} (h : AtW w a n f) (hA : Alike N k w w') (hO : OffW (Out N k) a n) : AtW w' a n f := by
 refine ⟨h.1, fun hp => ?_⟩
 obtain ⟨b, off, e, hlt, hc⟩ := h.2 hp
 exact ⟨b, off, e, by rw [hA.1]; exact hlt, fun j hj => (hA.2 _ _ (hO hp b off e)).trans (hc j hj)⟩
theorem AtB.alike {a : Option Addr} {n : Nat} {xs : List Nat} (h : AtB w a n xs) (hA : Alike N k w w') (hO : OffW (Out N k) a n) : AtB w' a n xs := by
 refine ⟨h.1, h.2.1, h.2.2.1, fun hp => ?_⟩
 obtain ⟨b, off, e, hlt, hc⟩ := h.2.2.2 hp
 exact ⟨b, off, e, by rw [hA.1]; exact hlt, fun j hj => (hA.2 _ _ (hO hp b off e)).trans (hc j hj)⟩
theorem StmsAt.alike {a : Option Addr} {n : Nat} {l : List Stm} (h : StmsAt w a n l) (hA : Alike N k w w') (hO : OffS (Out N k) w a n) : StmsAt w' a n l := by
 obtain ⟨h1, h2, h3⟩ := h
 refine ⟨h1, h2, fun hp => ?_⟩
 obtain ⟨b, off, e, hlt, hc⟩ := h3 hp
 obtain ⟨k1, k2⟩ := hO b off e hp
 refine ⟨b, off, e, by rw [hA.1]; exact hlt, fun j x hx => ?_⟩
 obtain ⟨A, cap, c1, c2, c3, c4, c5, c6⟩ := hc j x hx
 have hj : j < n := by have := (List.getElem?_eq_some_iff.1 hx).1; omega
 exact ⟨A, cap, (hA.2 _ _ k1).trans c1, c2, c3, c4.alike hA (fun hl b' o' e' => k2 j hj ⟨b', o', none⟩ _ _ (by rw [c1, e']) hl), (hA.2 _ _ k1).trans c5, c6⟩
theorem OffS.alike {P : Nat → Prop} {a : Option Addr} {n : Nat} (h : OffS P w a n) (hA : Alike N k w w') (hO : OffS (Out N k) w a n) : OffS P w' a n := fun b off e hp => by
 obtain ⟨h1, h2⟩ := h b off e hp
 obtain ⟨k1, _⟩ := hO b off e hp
 exact ⟨h1, fun j hj ad len c hc hl => h2 j hj ad len c ((hA.2 _ _ k1).symm.trans hc) hl⟩
end
def Kp (w : World) (F : List (Nat × List Value)) (R : List (Nat × Nat)) (w' : World) : Prop :=
 Below w.heap.size w w' ∧ (∀ p ∈ F, VarAt w' (w.heap.size + p.1) p.2) ∧ ∀ p ∈ R, Room w' (w.heap.size + p.1) p.2
section
variable {w w' w2 : World} {F : List (Nat × List Value)} {R : List (Nat × Nat)}
theorem Kp.bel (h : Kp w F R w') : Below w.heap.size w w' := h.1
theorem Kp.later (h : Kp w F R w') (hb : Below w'.heap.size w' w2) : Kp w F R w2 :=
 ⟨h.1.trans (hb.mono h.1.size), fun p hp => (h.2.1 p hp).below hb, fun p hp => (h.2.2 p hp).below hb⟩
theorem Kp.drew (h : Kp w F R w') : Kp w F R w'.drew := h.later (Below.drew (Below.refl _ _))
theorem Kp.alloc (h : Kp w F R w') (o : Obj) : Kp w F R (w'.alloc o) := h.later (al_below _ _)
theorem Room.apart {w : World} {b n : Nat} (h : Room w b n) (g j : Nat) (v : Value) : Room (w.setCell ⟨g, j, none⟩ v) b n := by
 refine ⟨by simpa using h.1, fun i hi => ?_⟩
 obtain ⟨h1, h2⟩ := h.2 i hi
 refine ⟨?_, by rw [World.frozen?_setCell]; exact h2⟩
 by_cases hgb : g = b ∧ j = 0 + i
 ·obtain ⟨rfl, rfl⟩ := hgb
  rcases hc : w.cell? ⟨g, 0 + i, none⟩ with _ | u
  ·rw [hc] at h1; exact absurd h1 (by simp)
  ·rw [World.cell?_setCell_same w _ v hc]; simp
 ·rw [World.cell?_setCell_other _ _ _ _ (fun e => hgb (by simp only [Addr.mk.injEq, and_true] at e; omega))]
  exact h1
theorem Kp.set (h : Kp w F R w') (o j : Nat) (v : Value) (hF : (F.all fun p => p.1 != o) = true) : Kp w F R (w'.setCell ⟨w.heap.size + o, j, none⟩ v) := by
 refine ⟨below_set1 (Nat.le_add_right _ _) v h.1, fun p hp => (h.2.1 p hp).apart j v (fun e => ?_), fun p hp => (h.2.2 p hp).apart _ j v⟩
 have := List.all_eq_true.1 hF p hp
 simp only [bne_iff_ne, ne_eq] at this
 omega
theorem Kp.cell (h : Kp w F R w') {o : Nat} {vs : List Value} (hm : (o, vs) ∈ F) (j : Nat) {v : Value} (hv : vs[j]? = some v) : w'.cell? ⟨w.heap.size + o, j, none⟩ = some v := (h.2.1 _ hm).2.1 j v hv
theorem Kp.res (h : Kp w F R w') {o n : Nat} (hm : (o, n) ∈ R) (j : Nat) (hj : j < n) : w'.cell? ⟨w.heap.size + o, j, none⟩ = some (cellV w' (w.heap.size + o) j) := by
 have h1 := ((h.2.2 _ hm).2 j hj).1
 rw [Nat.zero_add] at h1
 unfold cellV
 rcases hc : w'.cell? ⟨w.heap.size + o, j, none⟩ with _ | u
 ·exact absurd (show (w'.cell? ⟨w.heap.size + o, j, none⟩).isSome = true by first | exact h1 | simpa using h1) (by rw [hc]; simp)
 ·rfl
theorem Kp.free (h : Kp w F R w') {o n : Nat} (hm : (o, n) ∈ R) (j : Nat) (hj : j < n) : w'.frozen? ⟨w.heap.size + o, j, none⟩ = false := by
 have h2 := ((h.2.2 _ hm).2 j hj).2
 rw [Nat.zero_add] at h2
 exact h2
theorem Kp.nil (w : World) : Kp w [] [] w := ⟨Below.refl _ _, fun p hp => absurd hp (by simp), fun p hp => absurd hp (by simp)⟩
theorem Kp.var (h : Kp w F R w') (o : Nat) (hz : w'.heap.size = w.heap.size + o) (c : Array Value) (t : TypeId) : Kp w ((o, c.toList) :: F) R (w'.alloc (.cells c t)) := by
 have hb := al_below w' (.cells c t)
 have k := h.later hb
 refine ⟨k.1, fun p hp => ?_, k.2.2⟩
 rcases List.mem_cons.1 hp with rfl | hp
 ·show VarAt _ (w.heap.size + o) c.toList
  rw [← hz]; exact VarAt.made w' c t
 ·exact k.2.1 p hp
theorem Kp.room (h : Kp w F R w') (o : Nat) (hz : w'.heap.size = w.heap.size + o) (n : Nat) (c : Array Value) (t : TypeId) (hn : n ≤ c.size) : Kp w F ((o, n) :: R) (w'.alloc (.cells c t)) := by
 have hb := al_below w' (.cells c t)
 have k := h.later hb
 refine ⟨k.1, k.2.1, fun p hp => ?_⟩
 rcases List.mem_cons.1 hp with rfl | hp
 ·show Room _ (w.heap.size + o) n
  rw [← hz]; exact Room.made w' c t n hn
 ·exact k.2.2 p hp
theorem Kp.at_ (h : Kp w F R w') {o : Nat} {vs : List Value} (hm : (o, vs) ∈ F) : VarAt w' (w.heap.size + o) vs := h.2.1 _ hm
end
def wordsV (n : Nat) (f : Nat → Nat) : List Value := (List.range n).map fun j => .int .u64 ((f j : Nat) : Int)
theorem wordsV_length (n : Nat) (f : Nat → Nat) : (wordsV n f).length = n := by simp [wordsV]
theorem wordsV_get {n : Nat} {f : Nat → Nat} {j : Nat} (h : j < n) : (wordsV n f)[j]? = some (.int .u64 ((f j : Nat) : Int)) := by unfold wordsV; rw [List.getElem?_map, List.getElem?_range h]; rfl
theorem wordsV_one (n : Nat) (f : Nat → Nat) : ∀ u ∈ wordsV n f, u.oneCell' = true := by
 intro u hu
 obtain ⟨z, _, rfl⟩ := List.mem_map.1 hu
 rfl
theorem append_words (w : World) (ty : TypeId) (ad : Addr) (m c : Nat) (f : Nat → Nat) (hA : AtW w (some ad) m f) (hp : 0 < m) (hm : m ≤ 1000000) (base : Nat) (hbase : w.heap.size = base) :
  ∃ g cap w', (Builtin.append_ #[24, 24] ty #[.slice (some ⟨base, 0, none⟩) 0 0, .slice (some ad) m c]).run Tryz.prog (w.alloc (.cells #[] 27)) = .ok (.slice (some ⟨g, 0, none⟩) m cap) w' ∧ RowW w' g m f ∧ base ≤ g ∧ m ≤ cap ∧ Below base w w' := by
 subst hbase
 obtain ⟨i, hi, hz0, hz1, hz2⟩ := info_parts infoW
 have hown0 : (w.alloc (.cells #[] 27)).ownsRow w.heap.size 27 1 (.slice (some ⟨w.heap.size, 0, none⟩) 0 0) 0 [] := World.ownsRow_made w #[] 0 (Nat.le_refl _) (Nat.zero_le _) rfl
 have hB1 : Below w.heap.size w (w.alloc (.cells #[] 27)) := al_below _ _
 obtain ⟨v', w', h1, h2, h3, _⟩ := run_append_own (P := Tryz.prog) (w.alloc (.cells #[] 27)) w.heap.size 24 ty 27 i _ 1 8 Tryz.underlying24 hi hz0 hz1 hz2 rfl (by decide) _ 0 [] hown0 ad m c (wordsV m f)
  (by rw [wordsV_length]; omega) (fun j u hu => by
   have hj : j < m := by have := (List.getElem?_eq_some_iff.1 hu).1; rw [wordsV_length] at this; exact this
   obtain ⟨b, off, e, hlt, hc⟩ := hA.2 hp
   cases e
   rw [wordsV_get hj] at hu
   cases hu
   rw [add_plain]
   exact (hB1.cell (p := ⟨b, off + j, none⟩) hlt).trans (hc j hj)) (wordsV_one _ _) (by unfold maxLen; omega) (by omega) (by simp)
 have hb : Below w.heap.size w w' := hB1.grown h3 (by simp) (fun k hk => by simp [Value.ownBlock] at hk; omega)
 rw [List.nil_append] at h2
 rcases h2.2 with ⟨_, h0⟩ | ⟨g, cap, cur, rfl, hg, hgb, hcap, _⟩
 ·omega
 ·refine ⟨g, cap, w', by rw [Nat.zero_add] at h1; exact h1, ⟨(Array.getElem?_eq_some_iff.1 hgb).1, hA.1, fun j hj => ?_, fun j => h2.frozenAt j⟩, hg, by omega, hb⟩
  exact (h2.cellAt j (by omega)).trans (wordsV_get hj)
theorem wpList_append_wds {ops : Array Oper} {rest : List Oper} {o : Oper} {a : Act} {w : World} {Q : Exit → Act → World → Prop} (hw : Region.wanted o (yielded ops a.tmps) = true) (s x : Operand)
  (ho : o.op = .call { callee := .builtin .append, args := #[s, x], argTypes := #[24, 24] }) (base : Nat) (hs : a.eval s = .slice (some ⟨base, 0, none⟩) 0 0)
  (ad : Addr) (m c : Nat) (f : Nat → Nat) (hx : a.eval x = .slice (some ad) m c) (hA : AtW w (some ad) m f) (hp : 0 < m) (hm : m ≤ 1000000) (hbase : w.heap.size = base)
  (h : ∀ g cap w', RowW w' g m f → base ≤ g → m ≤ cap → Below base w w' → wpList Tryz.prog ops Q rest (a.put o.dst (.slice (some ⟨g, 0, none⟩) m cap)) w') :
  wpList Tryz.prog ops Q (o :: rest) a (w.alloc (.cells #[] 27)) := by
 obtain ⟨g, cap, w', hr, h1, h2, h3, h4⟩ := append_words w o.type ad m c f hA hp hm base hbase
 refine BigFrame.wpList_want hw fun K hK => ?_
 unfold Oper.wp execOp
 simp only [ho, resolve, invoke, builtin, Sem.run_bind, Sem.run_pure, Result.andThen_ok, List.map_toArray, List.map_cons, List.map_nil, hs, hx, hr]
 exact hK _ _ (h g cap w' h1 h2 h3 h4)
end Go.Proofs.YtibpfkcackdbgaaGreatDoor
namespace Go.Proofs.YtibpfkcackdbgaaGreatDoor
open Go.ChangeShapes Go.WideShapes Go.ChangeAt Go.RowKit
set_option linter.unusedVariables false
set_option maxRecDepth 100000
theorem eql_some_w (w : World) (a : Addr) (n c : Nat) : (binOp .eql 24 (.slice (some a) n c) (.slice none 0 0)).run Tryz.prog w = .ok (.bool false) w := Lib.run_eql_slice_nil w 24 _ (some a) n c 0 0 Tryz.underlying24
def WordsPost (w : World) (n : Nat) (f : Nat → Nat) (e : Ending) (w' : World) : Prop := ∃ g c, e = .returned (.slice (some ⟨g, 0, none⟩) n c) ∧ n ≤ c ∧ w.heap.size ≤ g ∧ RowW w' g n f ∧ Below w.heap.size w w'
theorem cloneW_at (A : Option Addr) (n c : Nat) (f : Nat → Nat) (hp : 0 < n) (hn : n ≤ 1000000) (w : World) (hA : Hid (AtW w A n f)) :
  Calls Tryz.prog 127 #[.slice A n c] w (WordsPost w n f) := by
 obtain ⟨b, off, rfl, _, _⟩ := hA.out.2 hp
 have HP := Lib.hid hp
 have HN := Lib.hid hn
 have ke := fun w => eql_some_w w ⟨b, off, none⟩ n c
 clear hp hn
 go_enter Tryz.func127, Tryz.ntmps127
 go_wp2_with (at_builtin; (refine wpList_append_wds (by rfl) (.tmp 5) (.tmp 6) (by rfl) w.heap.size (by rfl) ⟨b, off, none⟩ n c f (by rfl) hA.out HP.out HN.out (by rfl) ?_); (intro g cap w' hrow hg hcap hb; have HR := Lib.hid hrow; have HG := Lib.hid hg; have HC := Lib.hid hcap; have HB := Lib.hid hb; clear hrow hg hcap hb))
 go_ret
 exact ⟨g, cap, rfl, HC.out, HG.out, HR.out, HB.out⟩
def isN (k a b x : Nat) : Nat := if k = 1 then a else if k = 2 then (if x = a then b else x) else if k = 3 then (x + a) % 18446744073709551616 else if k = 4 then a else x
def toldN (k a b x : Nat) : Nat := if k = 1 then 0 else if k = 2 then (if x = a then 1 else 0) else x
section
variable (x : Nat) (k i : Int) (a b : Nat) (D : Option Addr) (dn dc : Nat) (W : Option Addr) (wn wc : Nat) (w : World)
theorem load_at : Calls Tryz.prog 171 #[.int .u64 (x : Int), .agg #[.int .i64 k, .int .i64 i, .int .u64 (a : Int), .int .u64 (b : Int), .slice D dn dc, .slice W wn wc]] w (Kept w (.tuple #[.int .u64 (x : Int), .int .u64 (x : Int)])) := by
 go_enter Tryz.func171, Tryz.ntmps171
 go_wp2_with fail
 exact bodyPost_ret (v := .tuple #[.int .u64 (x : Int), .int .u64 (x : Int)]) (by simp [results, Tryz.results171, go_sem]) rfl ⟨rfl, by first | exact Below.refl _ _ | exact al_below _ _⟩
theorem store_at : Calls Tryz.prog 172 #[.int .u64 (x : Int), .agg #[.int .i64 k, .int .i64 i, .int .u64 (a : Int), .int .u64 (b : Int), .slice D dn dc, .slice W wn wc]] w (Kept w (.tuple #[.int .u64 (a : Int), .int .u64 0])) := by
 go_enter Tryz.func172, Tryz.ntmps172
 go_wp2_with fail
 exact bodyPost_ret (v := .tuple #[.int .u64 (a : Int), .int .u64 0]) (by simp [results, Tryz.results172, go_sem]) rfl ⟨rfl, by first | exact Below.refl _ _ | exact al_below _ _⟩
theorem swap_at : Calls Tryz.prog 175 #[.int .u64 (x : Int), .agg #[.int .i64 k, .int .i64 i, .int .u64 (a : Int), .int .u64 (b : Int), .slice D dn dc, .slice W wn wc]] w (Kept w (.tuple #[.int .u64 (a : Int), .int .u64 (x : Int)])) := by
 go_enter Tryz.func175, Tryz.ntmps175
 go_wp2_with fail
 exact bodyPost_ret (v := .tuple #[.int .u64 (a : Int), .int .u64 (x : Int)]) (by simp [results, Tryz.results175, go_sem]) rfl ⟨rfl, by first | exact Below.refl _ _ | exact al_below _ _⟩
theorem add_at (s : Nat) (hs : IntKind.u64.wrap ((x : Int) + (a : Int)) = (s : Int)) : Calls Tryz.prog 174 #[.int .u64 (x : Int), .agg #[.int .i64 k, .int .i64 i, .int .u64 (a : Int), .int .u64 (b : Int), .slice D dn dc, .slice W wn wc]] w (Kept w (.tuple #[.int .u64 (s : Int), .int .u64 (x : Int)])) := by
 go_enter Tryz.func174, Tryz.ntmps174
 go_wp2_with fail
 exact bodyPost_ret (v := .tuple #[.int .u64 (s : Int), .int .u64 (x : Int)]) (by simp [results, Tryz.results174, go_sem]) rfl ⟨rfl, by first | exact Below.refl _ _ | exact al_below _ _⟩
theorem cas_yes (h : ((x : Int) != (a : Int)) = false) : Calls Tryz.prog 173 #[.int .u64 (x : Int), .agg #[.int .i64 k, .int .i64 i, .int .u64 (a : Int), .int .u64 (b : Int), .slice D dn dc, .slice W wn wc]] w (Kept w (.tuple #[.int .u64 (b : Int), .int .u64 1])) := by
 go_enter Tryz.func173, Tryz.ntmps173
 go_wp2_with fail
 exact bodyPost_ret (v := .tuple #[.int .u64 (b : Int), .int .u64 1]) (by simp [results, Tryz.results173, go_sem]) rfl ⟨rfl, by first | exact Below.refl _ _ | exact al_below _ _⟩
theorem cas_no (h : ((x : Int) != (a : Int)) = true) : Calls Tryz.prog 173 #[.int .u64 (x : Int), .agg #[.int .i64 k, .int .i64 i, .int .u64 (a : Int), .int .u64 (b : Int), .slice D dn dc, .slice W wn wc]] w (Kept w (.tuple #[.int .u64 (x : Int), .int .u64 0])) := by
 go_enter Tryz.func173, Tryz.ntmps173
 go_wp2_with fail
 exact bodyPost_ret (v := .tuple #[.int .u64 (x : Int), .int .u64 0]) (by simp [results, Tryz.results173, go_sem]) rfl ⟨rfl, by first | exact Below.refl _ _ | exact al_below _ _⟩
end
theorem turns_at (w : World) : Calls Tryz.prog 128 #[] w (Kept w (.agg #[.func (.func 171) #[] #[], .func (.func 172) #[] #[], .func (.func 173) #[] #[], .func (.func 174) #[] #[], .func (.func 175) #[] #[]])) := by
 go_enter Tryz.func128, Tryz.ntmps128
 go_wp2_with fail
 refine bodyPost_ret (v := .agg #[.func (.func 171) #[] #[], .func (.func 172) #[] #[], .func (.func 173) #[] #[], .func (.func 174) #[] #[], .func (.func 175) #[] #[]]) ?_ rfl ⟨rfl, ?_⟩
 ·skip
  simp [results, Tryz.results128, go_sem]
 ·exact al_below _ _
end Go.Proofs.YtibpfkcackdbgaaGreatDoor
namespace Go.Proofs.YtibpfkcackdbgaaGreatDoor
open Go.ChangeShapes Go.WideShapes Go.ChangeAt Go.RowKit
set_option linter.unusedVariables false
set_option maxRecDepth 100000
def setW (F : Nat → Nat) (i v : Nat) : Nat → Nat := fun j => if j = i then v else F j
theorem setW_lt {F : Nat → Nat} (hF : ∀ j, F j < 18446744073709551616) {i v : Nat} (hv : v < 18446744073709551616) (j : Nat) : setW F i v j < 18446744073709551616 := by
 unfold setW
 split
 ·exact hv
 ·exact hF j
end Go.Proofs.YtibpfkcackdbgaaGreatDoor
