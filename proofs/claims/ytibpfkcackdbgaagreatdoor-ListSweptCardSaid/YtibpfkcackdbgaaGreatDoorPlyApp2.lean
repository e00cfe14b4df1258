/- PlyApp2 -/
import Derived.Test.YtibpfkcackdbgaaGreatDoorPlyApp
import Derived.Test.YtibpfkcackdbgaaGreatDoorPlyA
import Derived.Test.YtibpfkcackdbgaaGreatDoorAccC
namespace Go.Proofs.YtibpfkcackdbgaaGreatDoor
open Go.ChangeShapes Go.WideShapes Go.ChangeAt Go.RowKit
set_option linter.unusedVariables false
set_option maxRecDepth 100000
theorem append_where {P : Program} (w : World) (base : Nat) (t ty e : TypeId) (i : TypeInfo) (z : Value) (size bytes : Nat) (ht : P.underlying t = some (.slice e)) (hi : P.info? e = some i) (hz : i.zero = some z)
  (hsize : i.size = size) (hby : i.bytes = bytes) (hzs : z.cells.size = size) (hsz : 0 < size) (v : Value) (n : Nat) (xs : List Value) (hown : w.ownsRow base e size v n xs)
  (a : Addr) (m c : Nat) (news : List Value) (hl : news.length = m * size) (hnews : ∀ j u, news[j]? = some u → w.cell? (a.add j) = some u) (h1 : ∀ u ∈ news, u.oneCell' = true)
  (h63 : n + m ≤ maxLen) (hbytes : (n + m) * bytes ≤ 140737488355328) (hbase : base ≤ w.heap.size) (hm : 0 < m) :
  ∃ v' w', (Builtin.append_ #[t, t] ty #[v, .slice (some a) m c]).run P w = .ok v' w' ∧ w'.ownsRow base e size v' (n + m) (xs ++ news) ∧ w.grownBy w' v.ownBlock ∧ (v'.ownBlock = v.ownBlock ∨ v'.ownBlock = some w.heap.size) := by
 obtain ⟨v', w', hr, h2, h3, h4⟩ := run_append_own (P := P) w base t ty e i z size bytes ht hi hz hsize hby hzs hsz v n xs hown a m c news hl hnews h1 h63 hbytes hbase
 refine ⟨v', w', hr, h2, h3, ?_⟩
 have hsmall : n + m ≤ 9223372036854775807 := by simp only [maxLen] at h63; omega
 subst hsize
 subst hby
 rcases hown.2 with ⟨rfl, rfl⟩ | ⟨g, cap, cur, rfl, hbg, hg, hnc, hcm, hcs, htake⟩
 ·have hr' := run_append_nil (P := P) w t ty e i z ht hi hz a m c news hl hnews (by omega) (by omega) (by have hb := hbytes; simp only [Nat.zero_add] at hb; omega)
  rw [hr] at hr'
  simp only [Result.ok.injEq] at hr'
  right
  rw [hr'.1]
  rfl
 ·by_cases hroom : n + m ≤ cap
  ·have hfit : n * i.size + news.length ≤ cur.size := by rw [hl, hcs, ← Nat.add_mul]; exact Nat.mul_le_mul_right _ hroom
   have hr' := run_append_room (P := P) w t ty e i ht hi g n cap cur hg a m c news hl hnews h1 hroom hfit
   rw [hr] at hr'
   simp only [Result.ok.injEq] at hr'
   left
   rw [hr'.1]
   rfl
  ·have holds : ∀ j u, xs[j]? = some u → w.cell? ((⟨g, 0, none⟩ : Addr).add j) = some u := hown.cells (g := g) rfl
   have hr' := run_append_grow (P := P) w t ty e i z ht hi hz ⟨g, 0, none⟩ n cap xs hown.1 holds a m c news hl hnews (by omega) (by omega) (growslice_fits (by omega) hbytes)
   rw [hr] at hr'
   simp only [Result.ok.injEq] at hr'
   right
   rw [hr'.1]
   rfl
theorem wpList_appendR1 {ops : Array Oper} {rest : List Oper} {o : Oper} {a : Act} {w : World} {Q : Exit → Act → World → Prop} (hw : Region.wanted o (yielded ops a.tmps) = true) (s x : Operand)
  (ho : o.op = .call { callee := .builtin .append, args := #[s, x], argTypes := #[65, 65] }) (base : Nat) (v : Value) (n : Nat) (vs : List Value) (hs : a.eval s = v) (hown : w.ownsRow base 81 3 v n vs)
  (b c : Nat) (r : Res) (B : Option Addr) (bc : Nat) (hx : a.eval x = .slice (some ⟨b, 0, none⟩) 1 c) (c0 : w.cell? ⟨b, 0, none⟩ = some (.int .u64 (r.n : Int))) (c1 : w.cell? ⟨b, 1, none⟩ = some (.slice B r.b.length bc)) (c2 : w.cell? ⟨b, 2, none⟩ = some (.bool r.fl)) (hm : n ≤ 900000) (hb : base ≤ w.heap.size)
  (h : ∀ v' w', w'.ownsRow base 81 3 v' (n + 1) (vs ++ resA r B bc) → w.grownBy w' v.ownBlock → (v'.ownBlock = v.ownBlock ∨ v'.ownBlock = some w.heap.size) → wpList Tryz.prog ops Q rest (a.put o.dst v') w') :
  wpList Tryz.prog ops Q (o :: rest) a w := by
 obtain ⟨i, hi, hz0, hz1, hz2⟩ := info_parts infoR
 have hcell : ∀ j u, (resA r B bc)[j]? = some u → w.cell? ((⟨b, 0, none⟩ : Addr).add j) = some u := by
  intro j u hu
  rw [Addr.add_mid, Nat.zero_add]
  obtain rfl | rfl | rfl : j = 0 ∨ j = 1 ∨ j = 2 := by have := (List.getElem?_eq_some_iff.1 hu).1; simp [resA] at this; omega
  ·cases hu; exact c0
  ·cases hu; exact c1
  ·cases hu; exact c2
 have hone : ∀ u ∈ resA r B bc, u.oneCell' = true := by
  intro u hu
  simp only [resA, List.mem_cons, List.not_mem_nil, or_false] at hu
  rcases hu with rfl | rfl | rfl <;> rfl
 obtain ⟨v', w', hr, h2, h3, h4⟩ := append_where (P := Tryz.prog) w base 65 o.type 81 i _ 3 40 Tryz.underlying65 hi hz0 hz1 hz2 rfl (by decide) v n vs hown ⟨b, 0, none⟩ 1 c (resA r B bc) rfl hcell hone (by unfold maxLen; omega) (by omega) hb (by decide)
 refine BigFrame.wpList_want hw fun K hK => ?_
 unfold Oper.wp execOp
 simp only [ho, resolve, invoke, builtin, Sem.run_bind, Sem.run_pure, Result.andThen_ok, List.map_toArray, List.map_cons, List.map_nil, hs, hx, hr]
 exact hK _ _ (h v' w' h2 h3 h4)
def Nt (gx gy : Nat) (v : Value) (b : Nat) : Prop := b ≠ gx ∧ b ≠ gy ∧ ∀ k, v.ownBlock = some k → b ≠ k
theorem Nt.both {gx gy : Nat} {v v' : Value} {N b : Nat} (h : Nt gx gy v b) (hv : v'.ownBlock = v.ownBlock ∨ v'.ownBlock = some N) (hb : b < N) : Nt gx gy v' b := by
 refine ⟨h.1, h.2.1, fun k hk => ?_⟩
 rcases hv with e | e
 ·exact h.2.2 k (by rw [← e]; exact hk)
 ·rw [e] at hk
  cases hk
  omega
def LogRaw (Q : Nat → Prop) (w : World) (vs : List Value) (l : List Res) : Prop :=
 vs.length = l.length * 3 ∧ ∀ j x, l[j]? = some x → ∃ (B : Option Addr) (bc : Nat), (ResP w x B bc ∧ OffW Q B x.b.length) ∧ ∀ i u, (resA x B bc)[i]? = some u → vs[j * 3 + i]? = some u
section
variable {Q Q' : Nat → Prop} {w w' : World} {vs : List Value} {l : List Res}
theorem LogRaw.nil (Q : Nat → Prop) (w : World) : LogRaw Q w [] [] := ⟨rfl, fun j x hx => by simp at hx⟩
theorem LogRaw.raw (h : LogRaw Q w vs l) : RawR w vs l := ⟨h.1, fun j x hx => by
 obtain ⟨B, bc, h1, h2⟩ := h.2 j x hx
 exact ⟨B, bc, h1.1, h2⟩⟩
theorem LogRaw.later (h : LogRaw Q w vs l) (hb : Below w.heap.size w w') : LogRaw Q w' vs l := ⟨h.1, fun j x hx => by
 obtain ⟨B, bc, h1, h2⟩ := h.2 j x hx
 exact ⟨B, bc, ⟨h1.1.later hb, h1.2⟩, h2⟩⟩
theorem LogRaw.keep (h : LogRaw Q w vs l) (hK : Keep Q w w') : LogRaw Q w' vs l := ⟨h.1, fun j x hx => by
 obtain ⟨B, bc, ⟨h1, h3⟩, h2⟩ := h.2 j x hx
 exact ⟨B, bc, ⟨⟨h1.n, h1.bl, h1.b.keep hK h3⟩, h3⟩, h2⟩⟩
theorem LogRaw.sub (h : LogRaw Q w vs l) (hQ : ∀ b, b < w.heap.size → Q b → Q' b) : LogRaw Q' w vs l := ⟨h.1, fun j x hx => by
 obtain ⟨B, bc, ⟨h1, h3⟩, h2⟩ := h.2 j x hx
 exact ⟨B, bc, ⟨h1, fun hp b off e => hQ b (h1.b.old hp b off e) (h3 hp b off e)⟩, h2⟩⟩
theorem LogRaw.add {r : Res} {B : Option Addr} {bc : Nat} (h : LogRaw Q w vs l) (hr : ResP w r B bc) (hB : OffW Q B r.b.length) : LogRaw Q w (vs ++ resA r B bc) (l ++ [r]) := by
 refine ⟨by rw [List.length_append, List.length_append, h.1]; simp [resA]; omega, fun j x hx => ?_⟩
 by_cases hj : j < l.length
 ·rw [List.getElem?_append_left hj] at hx
  obtain ⟨B', bc', h1, h2⟩ := h.2 j x hx
  refine ⟨B', bc', h1, fun i u hu => ?_⟩
  have := h2 i u hu
  rw [List.getElem?_append_left (List.getElem?_eq_some_iff.1 this).1]
  exact this
 ·rw [List.getElem?_append_right (by omega)] at hx
  obtain ⟨hj2, e⟩ : j - l.length = 0 ∧ r = x := by
   have h0 := (List.getElem?_eq_some_iff.1 hx).1
   simp at h0
   have h1 : j - l.length = 0 := by omega
   rw [h1] at hx
   exact ⟨h1, by simpa using hx⟩
  subst e
  refine ⟨B, bc, ⟨hr, hB⟩, fun i u hu => ?_⟩
  have hv := h.1
  rw [List.getElem?_append_right (by omega), show j * 3 + i - vs.length = i by omega]
  exact hu
end
theorem Keep.grown {w w' : World} {v : Value} {Q : Nat → Prop} (hg : w.grownBy w' v.ownBlock) (hQ : ∀ b, Q b → ∀ k, v.ownBlock = some k → b ≠ k) : Keep Q w w' := by
 refine ⟨hg.size, fun b o hlt hq => ?_⟩
 have := hg.block b hlt (fun e => hQ b hq b e.symm rfl)
 unfold World.cell?
 rw [this]
theorem VarAt.grown {w w' : World} {v : Value} {b : Nat} {vs : List Value} (h : VarAt w b vs) (hg : w.grownBy w' v.ownBlock) (hb : ∀ k, v.ownBlock = some k → b ≠ k) : VarAt w' b vs := by
 have hbl := hg.block b h.1 (fun e => hb b e.symm rfl)
 refine ⟨Nat.lt_of_lt_of_le h.1 hg.size, fun j u hu => ?_, fun j hj => ?_⟩
 ·have := h.2.1 j u hu
  unfold World.cell? at this ⊢
  rw [hbl]; exact this
 ·have := h.2.2 j hj
  unfold World.frozen? at this ⊢
  rw [hbl]; exact this
end Go.Proofs.YtibpfkcackdbgaaGreatDoor
