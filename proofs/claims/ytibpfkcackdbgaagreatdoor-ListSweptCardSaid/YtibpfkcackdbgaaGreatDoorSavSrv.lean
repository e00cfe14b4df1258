/- SavSrv -/
import Derived.Test.YtibpfkcackdbgaaGreatDoorPolA
import Derived.Test.YtibpfkcackdbgaaGreatDoorFrmA
import Derived.Test.YtibpfkcackdbgaaGreatDoorEntA
import Derived.Test.YtibpfkcackdbgaaGreatDoorCllA
namespace Go.Proofs.YtibpfkcackdbgaaGreatDoor
open Go.ChangeShapes Go.WideShapes Go.ChangeAt Go.RowKit Go.BigFrame
set_option linter.unusedVariables false
set_option maxRecDepth 100000
inductive Prd where
 | ret (d : Nat)
 | ask (k i : Int) (a b : Nat) (d : List Nat) (f : Nat → Prd)
 | bad
inductive RanD (S : Type) where
 | done (r : Nat) (s : S)
 | left (k i : Int) (a b : Nat) (d : List Nat)
 | bad
namespace Prd
def bind : Prd → (Nat → Prd) → Prd
 | ret d, q => q d
 | ask k i a b d f, q => ask k i a b d fun n => (f n).bind q
 | bad, _ => bad
section
variable {S : Type} (T : S → Int → Int → Nat → Nat → List Nat → Tell S)
def run : Prd → S → RanD S
 | ret d, s => .done d s
 | ask k i a b d f, s =>
  match T s k i a b d with
  | .bad => .bad
  | .left => .left k i a b d
  | .told n s' => (f n).run s'
 | bad, _ => .bad
def _root_.Go.Proofs.YtibpfkcackdbgaaGreatDoor.RanD.next (R : RanD S) (q : Nat → S → RanD S) : RanD S :=
 match R with
 | .done d s => q d s
 | .left k i a b d => .left k i a b d
 | .bad => .bad
theorem run_bind (p : Prd) (q : Nat → Prd) (s : S) : (p.bind q).run T s = (p.run T s).next fun d s' => (q d).run T s' := by
 induction p generalizing s with
 | ret d => rfl
 | bad => rfl
 | ask k i a b d f ih =>
  simp only [bind, run]
  cases T s k i a b d with
  | bad => rfl
  | left => rfl
  | told n s' => exact ih n s'
end
def ok : Prd → Nat → Prop
 | ret _, _ => True
 | bad, _ => False
 | ask _ _ _ _ _ f, n => match n with | 0 => True | n + 1 => ∀ x, (f x).ok n
theorem ok_ask {k i : Int} {a b : Nat} {d : List Nat} {f : Nat → Prd} {n : Nat} (h : ∀ m x, m < n → (f x).ok m) : (ask k i a b d f).ok n := by
 cases n with
 | zero => trivial
 | succ n => exact fun x => h n x (Nat.lt_succ_self n)
theorem ok_bind : ∀ (p : Prd) (q : Nat → Prd) (n : Nat), p.ok n → (∀ d m, m ≤ n → (q d).ok m) → (p.bind q).ok n
 | ret d, q, n, _, hq => hq d n (Nat.le_refl _)
 | bad, _, _, h, _ => h.elim
 | ask k i a b d f, q, n, h, hq => by
  cases n with
  | zero => trivial
  | succ n => exact fun x => ok_bind (f x) q n (h x) fun d m hm => hq d m (by omega)
end Prd
def toldR (k : Int) (r : Res) : Nat := if k < 5 then r.n % 18446744073709551616 else if r.fl then 1 else 0
def tapeTellD : List Res → Int → Int → Nat → Nat → List Nat → Tell (List Res)
 | [], _, _, _, _, _ => .left
 | r :: rest, k, _, _, _, _ => .told (toldR k r) rest
theorem Prd.ok_run : ∀ (p : Prd) (log : List Res), p.ok log.length → p.run tapeTellD log ≠ .bad
 | .ret _, _, _ => by simp [Prd.run]
 | .bad, _, h => h.elim
 | .ask k i a b d f, [], _ => by simp [Prd.run, tapeTellD]
 | .ask k i a b d f, r :: log, h => by
  simp only [Prd.run, tapeTellD]
  exact Prd.ok_run (f _) log (h _)
def dataN (e : Ent) : List Nat := if e.mayB = true then frameN e.bytes else []
theorem data_len (e : Ent) : (dataN e).length ≤ 47 := by
 unfold dataN
 have := e.bytes_pos
 split
 ·rw [frame_length]; omega
 ·simp
namespace Prd
def sync : Prd := ask 6 0 0 0 [] fun y => if y = 0 then ret 1 else ret 0
def both (d : List Nat) : Prd := ask 5 0 0 0 d fun x => if x = 0 then sync else ret 0
def make (t r : Nat) (y u v x n : Nat) : Prd := ask 3 2 1 0 [] fun c => ask 1 ((fieldN t r 2 : Nat) : Int) (flagN ((c + 1) % 18446744073709551616) 0) 0 [] fun _ => ask 1 ((fieldN t r 1 : Nat) : Int) y 0 [] fun _ => ask 1 ((fieldN t r 3 : Nat) : Int) n 0 [] fun _ => ask 1 ((fieldN t r 4 : Nat) : Int) u 0 [] fun _ => ask 1 ((fieldN t r 5 : Nat) : Int) v 0 [] fun _ => ask 1 ((fieldN t r 6 : Nat) : Int) x 0 [] fun _ => ret ((c + 1) % 18446744073709551616)
def raise (F : Nat) (b : Nat) (ov : Nat → Bool) : Nat → Prd
 | 0 => bad
 | n + 1 => ask 0 ((F : Nat) : Int) 0 0 [] fun g => if ov g = true then ret 0 else ask 2 ((F : Nat) : Int) g (g + b) [] fun d => if d = 1 then ret 0 else raise F b ov n
def set (t r b n : Nat) : Prd := raise (fieldN t r 2) b (fun g => hasF g (b : Int)) n
def over (s b : Nat) (g : Nat) : Bool := decide (stampN g ≠ s) || hasF g (b : Int)
def saved (t r b s n : Nat) (d : List Nat) : Prd := (both d).bind fun x => if x = 1 then (raise (fieldN t r 2) b (over s b) n).bind fun _ => ret 1 else ret 0
def rest (t r b f n : Nat) : Prd :=
 if hasF f (b : Int) = true then ret 1
 else if b = 2 then saved t r b (stampN f) n (dataN ⟨2, stampN f, 0, 0, 0, 0⟩)
 else ask 0 ((fieldN t r 1 : Nat) : Int) 0 0 [] fun y => ask 0 ((fieldN t r 4 : Nat) : Int) 0 0 [] fun u => ask 0 ((fieldN t r 5 : Nat) : Int) 0 0 [] fun v => ask 0 ((fieldN t r 6 : Nat) : Int) 0 0 [] fun x => saved t r b (stampN f) n (dataN ⟨1, stampN f, y, u, v, x⟩)
def save (t r b n : Nat) : Prd := ask 0 ((fieldN t r 2 : Nat) : Int) 0 0 [] fun f => rest t r b f n
def dead (t r s n : Nat) : Prd := ask 0 ((fieldN t r 2 : Nat) : Int) 0 0 [] fun f => if stampN f = s then rest t r 2 f n else ret 1
theorem ok_sync (n : Nat) : sync.ok n := ok_ask fun m x _ => by split <;> trivial
theorem ok_both (d : List Nat) (n : Nat) : (both d).ok n := ok_ask fun m x _ => by
 split
 ·exact ok_sync m
 ·trivial
theorem ok_raise (F b : Nat) (ov : Nat → Bool) : ∀ (n m : Nat), m < n → (raise F b ov n).ok m
 | 0, m, h => by omega
 | n + 1, m, h => ok_ask fun m1 g h1 => by
  split
  ·trivial
  ·refine ok_ask fun m2 d h2 => ?_
   split
   ·trivial
   ·exact ok_raise F b ov n m2 (by omega)
theorem ok_saved (t r b s n : Nat) (d : List Nat) (m : Nat) (h : m < n) : (saved t r b s n d).ok m := ok_bind _ _ _ (ok_both d m) fun x m1 h1 => by
 split
 ·exact ok_bind _ _ _ (ok_raise _ _ _ n m1 (by omega)) fun _ _ _ => trivial
 ·trivial
theorem ok_rest (t r b f n m : Nat) (h : m < n) : (rest t r b f n).ok m := by
 unfold rest
 split
 ·trivial
 ·split
  ·exact ok_saved _ _ _ _ _ _ m h
  ·exact ok_ask fun _ _ _ => ok_ask fun _ _ _ => ok_ask fun _ _ _ => ok_ask fun m _ _ => ok_saved _ _ _ _ _ _ m (by omega)
theorem ok_save (t r b n m : Nat) (h : m < n) : (save t r b n).ok m := ok_ask fun m1 f _ => ok_rest t r b f n m1 (by omega)
end Prd
def RunO {S : Type} (I : S → World → Prop) (g : Nat) (pv : Value) (L : Int → Int → Nat → Nat → List Nat → World → Prop) (w : World) (ret : Nat → Value) : RanD S → Ending → World → Prop
 | .done r s, e, w' => e = .returned (ret r) ∧ I s w' ∧ But g w w'
 | .left k i a b d, e, w' => Quits pv (L k i a b d) e w'
 | .bad, _, _ => True
theorem AtB.but {g : Nat} {w w' : World} {a : Option Addr} {n : Nat} {xs : List Nat} (h : AtB w a n xs) (hb : But g w w') (ho : OffW (fun b => b ≠ g) a n) : AtB w' a n xs := by
 refine ⟨h.1, h.2.1, h.2.2.1, fun hp => ?_⟩
 obtain ⟨b, off, e, hlt, hc⟩ := h.2.2.2 hp
 have hne : b ≠ g := ho hp b off e
 exact ⟨b, off, e, Nat.lt_of_lt_of_le hlt hb.size, fun j hj => (hb.cell hlt hne).trans (hc j hj)⟩
theorem Tab.but {g : Nat} {w w' : World} (h : Tab w) (hb : But g w w') (hg : 0 ≠ g) : Tab w' := fun i hi => (hb.cell h.pos hg).trans (h i hi)
def TwoAt (w : World) (b : Nat) (d : List Nat) (D : Option Addr) (dc : Nat) : Prop :=
 VarAt w b [.int .i64 5, .int .i64 0, .int .u64 0, .int .u64 0, .slice D d.length dc, .slice none 0 0, .int .i64 6, .int .i64 0, .int .u64 0, .int .u64 0, .slice none 0 0, .slice none 0 0]
structure SrvD (dv : Value) (S : Type) where
 M : Srv dv S
 tell : S → Int → Int → Nat → Nat → List Nat → Tell S
 L : Int → Int → Nat → Nat → List Nat → World → Prop
 mem : ∀ {s k i a b}, 0 ≤ k → k < 5 → tell s k i a b [] = M.tell s k i a b
 lmem : ∀ {k i a b w}, 0 ≤ k → k < 5 → M.L k i a b w → L k i a b [] w
 lt : ∀ {s w}, M.I s w → M.g < w.heap.size
 tab : ∀ {s w}, M.I s w → Tab w
 steps : ∀ {s R} (d : List Nat), (Prd.both d).run tell s = R → R ≠ .bad → d.length ≤ 100000 → ∀ (D : Option Addr) (dc b : Nat) (w : World), M.I s w → b ≠ M.g → OffW (fun c => c ≠ M.g) D d.length → d.length ≤ dc → AtB w D d.length d → TwoAt w b d D dc →
  Calls Tryz.prog 196 #[dv, .slice (some ⟨b, 0, none⟩) 2 2] w (RunO M.I M.g M.pv L w (fun r => .bool ((r : Int) == 1)) R)
section
variable {dv : Value} {S : Type} (V : SrvD dv S)
def RunD14 (w : World) (ret : Nat → Value) (R : RanD S) : Ending → World → Prop := RunO V.M.I V.M.g V.M.pv V.L w ret R
def QuitD (R : RanD S) (e : Ending) (w' : World) : Prop := ∃ k i a b d, R = .left k i a b d ∧ Quits V.M.pv (V.L k i a b d) e w'
def GoD (R : RanD S) (w : World) (ret : Nat → Value) (q : Nat → Prd) (e : Ending) (w' : World) : Prop :=
 (∃ n s', e = .returned (ret n) ∧ n < 18446744073709551616 ∧ V.M.I s' w' ∧ But V.M.g w w' ∧ (q n).run V.tell s' = R) ∨ QuitD V R e w'
def GoCD (R : RanD S) (w : World) (ret : Nat → Value) (q : Nat → Prd) (e : Ending) (w' : World) : Prop :=
 (∃ n s', e = .returned (ret n) ∧ V.M.I s' w' ∧ But V.M.g w w' ∧ (q n).run V.tell s' = R) ∨ QuitD V R e w'
theorem RunD14.fin {R : RanD S} {d : Nat} {s : S} {w w' : World} {ret : Nat → Value} (h : (Prd.ret d).run V.tell s = R) (hI : V.M.I s w') (hb : But V.M.g w w') : RunD14 V w ret R (.returned (ret d)) w' := by
 subst h
 exact ⟨rfl, hI, hb⟩
theorem RunD14.quit {R : RanD S} {w w' : World} {ret : Nat → Value} {e : Ending} (h : QuitD V R e w') : RunD14 V w ret R e w' := by
 obtain ⟨k, i, a, b, d, rfl, hq⟩ := h
 exact hq
theorem Quits.mono {pv : Value} {P Q : World → Prop} {e : Ending} {w : World} (h : Quits pv P e w) (hPQ : P w → Q w) : Quits pv Q e w := ⟨h.1, hPQ h.2⟩
section
variable {R : RanD S} (hb : R ≠ .bad) {i : Int} {f : Nat → Prd} {s : S} (hi : -9223372036854775808 ≤ i ∧ i < 9223372036854775808)
include hb hi
theorem loadD (hR : (Prd.ask 0 i 0 0 [] f).run V.tell s = R) (w : World) (hI : V.M.I s w) : Calls Tryz.prog 86 #[dv, .int .i64 i] w (GoD V R w (fun n => .int .u64 (n : Int)) f) := by
 simp only [Prd.run, V.mem (s := s) (k := 0) (i := i) (a := 0) (b := 0) (by decide) (by decide)] at hR
 cases h : V.M.tell s 0 i 0 0 with
 | bad => rw [h] at hR; exact absurd hR.symm hb
 | left => rw [h] at hR; exact (V.M.loadL h hi w hI).mono fun e w' hq => .inr ⟨_, _, _, _, _, hR.symm, hq.mono (V.lmem (by decide) (by decide))⟩
 | told n s' =>
  rw [h] at hR
  refine (V.M.load h hi w hI).mono ?_
  rintro e w' ⟨rfl, h1, h2⟩
  exact .inl ⟨n, s', rfl, V.M.small h, h1, h2, hR⟩
theorem storeD {a : Nat} (ha : a < 18446744073709551616) (hR : (Prd.ask 1 i a 0 [] f).run V.tell s = R) (w : World) (hI : V.M.I s w) : Calls Tryz.prog 49 #[dv, .int .i64 i, .int .u64 (a : Int)] w (GoD V R w (fun _ => .tuple #[]) f) := by
 simp only [Prd.run, V.mem (s := s) (k := 1) (i := i) (a := a) (b := 0) (by decide) (by decide)] at hR
 cases h : V.M.tell s 1 i a 0 with
 | bad => rw [h] at hR; exact absurd hR.symm hb
 | left => rw [h] at hR; exact (V.M.storeL h hi ha w hI).mono fun e w' hq => .inr ⟨_, _, _, _, _, hR.symm, hq.mono (V.lmem (by decide) (by decide))⟩
 | told n s' =>
  rw [h] at hR
  refine (V.M.store h hi ha w hI).mono ?_
  rintro e w' ⟨rfl, h1, h2⟩
  exact .inl ⟨n, s', rfl, V.M.small h, h1, h2, hR⟩
theorem casD {a b : Nat} (ha : a < 18446744073709551616) (hbb : b < 18446744073709551616) (hR : (Prd.ask 2 i a b [] f).run V.tell s = R) (w : World) (hI : V.M.I s w) : Calls Tryz.prog 89 #[dv, .int .i64 i, .int .u64 (a : Int), .int .u64 (b : Int)] w (GoD V R w (fun n => .bool ((n : Int) == 1)) f) := by
 simp only [Prd.run, V.mem (s := s) (k := 2) (i := i) (a := a) (b := b) (by decide) (by decide)] at hR
 cases h : V.M.tell s 2 i a b with
 | bad => rw [h] at hR; exact absurd hR.symm hb
 | left => rw [h] at hR; exact (V.M.casL h hi ha hbb w hI).mono fun e w' hq => .inr ⟨_, _, _, _, _, hR.symm, hq.mono (V.lmem (by decide) (by decide))⟩
 | told n s' =>
  rw [h] at hR
  refine (V.M.cas h hi ha hbb w hI).mono ?_
  rintro e w' ⟨rfl, h1, h2⟩
  exact .inl ⟨n, s', rfl, V.M.small h, h1, h2, hR⟩
end
section
variable (i : Int) (a : Nat) (pv : Value) (P : World → Prop) (w : World)
end
theorem partD {R : RanD S} (hb : R ≠ .bad) {p : Prd} {q : Nat → Prd} {s : S} {F : FuncId} {args : Array Value} {ret : Nat → Value} (hR : (p.bind q).run V.tell s = R) (w : World)
  (h : p.run V.tell s ≠ .bad → Calls Tryz.prog F args w (RunD14 V w ret (p.run V.tell s))) : Calls Tryz.prog F args w (GoCD V R w ret q) := by
 rw [Prd.run_bind] at hR
 cases hp : p.run V.tell s with
 | bad => rw [hp] at hR; exact absurd hR.symm hb
 | left k i a b d =>
  rw [hp] at hR h
  exact (h (by simp)).mono fun e w' hq => .inr ⟨_, _, _, _, _, hR.symm, hq⟩
 | done d s' =>
  rw [hp] at hR h
  refine (h (by simp)).mono ?_
  rintro e w' ⟨rfl, h1, h2⟩
  exact .inl ⟨d, s', rfl, h1, h2, hR⟩
end
end Go.Proofs.YtibpfkcackdbgaaGreatDoor
