import Derived.Test.YtohckefafbhooaaGreatR2
import Derived.Maps.OwnSet
import Derived.Maps.RangeWalk
import Derived.OpenShut
namespace Go.Proofs.YtohckefafbhooaaGreat
set_option maxRecDepth 100000
set_option linter.unusedVariables false
set_option linter.unusedSimpArgs false
open Go.RowKit Go.Maps
theorem ado : Keyed Tryz.prog 66 := int_keyed Tryz.underlying66
def kW (k : Nat) : Lit := .int .u8 (k : Int)
theorem au7 {k : Nat} (h : k < 256) : (Lit.int .u8 (k : Int)).wf = true := WalkArith.wf_u8 (by omega)
theorem aKn {v : Nat} (h : v < 18446744073709551616) : (Lit.int .u64 (v : Int)).wf = true := WalkArith.wf_u64 (by omega)
theorem ajp {j k : Nat} (h : j ≠ k) : kW j ≠ kW k := fun e => by
 simp only [kW,Lit.int.injEq,true_and] at e
 omega
def upd (f : Nat → Nat) (x v : Nat) : Nat → Nat := fun k => if k = x then v else f k
theorem upd_same (f : Nat → Nat) (x v : Nat) : upd f x v x = v := if_pos rfl
theorem aaf {f : Nat → Nat} {x v k : Nat} (h : k ≠ x) : upd f x v k = f k := if_neg h
def MU (w : World) (B n : Nat) (f : Nat → Nat) : Prop :=
 ∃ D : DataW Unit,w.ownsMap Tryz.prog 66 (plainElem Tryz.prog 36) B n D ∧ ∀ k,k < 256 → D.atKey (kW k) (.lit (.int .u64 0)) = .lit (.int .u64 (f k : Int))
theorem MU.lt {w : World} {B n : Nat} {f : Nat → Nat} (h : MU w B n f) : B < w.heap.size := by
 obtain ⟨D,h1,_⟩ := h
 exact h1.lt
def lookA (m k : Value) (ok : Bool) : Sem Value := Instr.lookup 150 m k ok
@[go_sem ↓ high] theorem look_A (m k : Value) (ok : Bool) : Instr.lookup 150 m k ok = lookA m k ok := rfl
def updA (m k v : Value) : Sem Unit := Instr.mapUpdate 150 m k v
@[go_sem ↓ high] theorem upd_A (m k v : Value) : Instr.mapUpdate 150 m k v = updA m k v := rfl
theorem MU.look {w : World} {B n : Nat} {f : Nat → Nat} (h : MU w B n f) {x : Nat} (hx : x < 256) : (lookA (.map (some B)) (.int .u8 (x : Int)) false).run Tryz.prog w = .ok (.int .u64 (f x : Int)) w := by
 obtain ⟨D,h1,h2⟩ := h
 have hz : (zeroValue 36).run Tryz.prog w = .ok (.int .u64 0) w := by kernel_rfl
 obtain ⟨c,hr,hat,_⟩ := h1.lookup_int ado Tryz.underlying150 Tryz.underlying36 hz (keyOf_int_mk Tryz.underlying66 (au7 hx))
 have e := h2 x hx
 rw [show (kW x : Lit) = .int .u8 (x : Int) from rfl,hat] at e
 simp only [DataW.lit.injEq,Lit.int.injEq,true_and] at e
 rw [← e]
 exact hr
theorem agx {w w' : World} {B : Nat} (h : w.mapTurned w' B) : Fr (fun k => k = B) w w' ∧ w'.heap.size = w.heap.size := by
 obtain ⟨es,clock,es',clock',hb,rfl⟩ := h
 exact ⟨⟨rfl,rfl,rfl,by simp [ChangeMaps.setBlock],fun i _ hi => ChangeMaps.heap_setBlock_other hb _ (fun e => hi (by rw [e]))⟩,by simp [ChangeMaps.setBlock]⟩
end Go.Proofs.YtohckefafbhooaaGreat
namespace Go.Proofs.YtohckefafbhooaaGreat
set_option maxRecDepth 100000
set_option linter.unusedVariables false
set_option linter.unusedSimpArgs false
def uy (f : Nat → Nat) : Nat → Nat
 |0 => 0
 |n + 1 => uy f n + f n
theorem agq (f : Nat → Nat) : ∀ (n a : Nat),a < n → f a ≤ uy f n
 |n + 1,a,h => by
  show f a ≤ uy f n + f n
  by_cases e : a = n
  ·subst e; omega
  ·have := agq f n a (by omega); omega
theorem acy {f g : Nat → Nat} : ∀ n,(∀ k,k < n → f k = g k) → uy f n = uy g n
 |0,_ => rfl
 |n + 1,h => by
  show uy f n + f n = uy g n + g n
  rw [acy n fun k hk => h k (by omega),h n (by omega)]
theorem qy (f : Nat → Nat) (v : Nat) : ∀ (n a : Nat),a < n → uy (upd f a v) n + f a = uy f n + v
 |n + 1,a,h => by
  show uy (upd f a v) n + upd f a v n + f a = uy f n + f n + v
  by_cases e : a = n
  ·subst e
   rw [upd_same,acy (f := upd f a v) (g := f) a fun k hk => aaf (by omega)]
   omega
  ·have := qy f v n a (by omega)
   rw [aaf (by omega : n ≠ a)]
   omega
theorem aa2 : ∀ n,uy (fun _ => 0) n = 0
 |0 => rfl
 |n + 1 => by show uy _ n + 0 = 0; rw [aa2 n]
structure Lg (f : Nat → Nat) (t : Nat) : Prop where
 sum : uy f 256 = t
 le : t ≤ 4611686018427387904
theorem Lg.one {f : Nat → Nat} {t : Nat} (h : Lg f t) {a : Nat} (ha : a < 256) : f a ≤ t := by
 have := agq f 256 a ha
 rw [h.sum] at this
 exact this
theorem Lg.nobody : Lg (fun _ => 0) 0 := ⟨aa2 256,by decide⟩
def afy (x : Nat) : Bool := x == 0 || decide (4611686018427387904 < x)
def abo (f : Nat → Nat) (t a x : Nat) : Int × (Nat → Nat) × Nat := if afy x = true then (1,f,t) else if 4611686018427387904 - x < t then (4,f,t) else (0,upd f a (f a + x),t + x)
def zx (f : Nat → Nat) (t a x : Nat) : Int × (Nat → Nat) × Nat := if afy x = true then (1,f,t) else if f a < x then (16,f,t) else (0,upd f a (f a - x),t - x)
def alf (f : Nat → Nat) (t a b x : Nat) : Int × (Nat → Nat) × Nat := if afy x = true then (1,f,t) else if f a < x then (16,f,t) else (0,upd (upd f a (f a - x)) b (upd f a (f a - x) b + x),t)
theorem Lg.burn {f : Nat → Nat} {t : Nat} (h : Lg f t) {a : Nat} (ha : a < 256) (x : Nat) : Lg (zx f t a x).2.1 (zx f t a x).2.2 := by
 unfold zx
 split
 ·exact h
 ·split
  ·exact h
  ·rename_i hb h2
   have e := qy f (f a - x) 256 a ha
   have h1 := h.one ha
   have := h.sum
   have := h.le
   exact ⟨show uy (upd f a (f a - x)) 256 = t - x by omega,show t - x ≤ 4611686018427387904 by omega⟩
end Go.Proofs.YtohckefafbhooaaGreat
namespace Go.Proofs.YtohckefafbhooaaGreat
set_option maxRecDepth 100000
set_option linter.unusedVariables false
set_option linter.unusedSimpArgs false
open Go.RowKit Go.Maps
theorem ars {P : Program} {w W : World} {r bm s c : Nat} {seen : Array Nat} {es : Array MapEntry} {clock : Nat} (hr : w.heap[r]? = some (.mapIter (some bm) s seen c)) (hb : w.heap[bm]? = some (.map es clock))
  (er : W.heap[r]? = w.heap[r]?) (eb : W.heap[bm]? = w.heap[bm]?) {v : Value} (h : (Instr.entry (.pointer (some ⟨r,0,none⟩))).run P w = .ok v w) : (Instr.entry (.pointer (some ⟨r,0,none⟩))).run P W = .ok v W := by
 rw [hr] at er
 rw [hb] at eb
 have k1 : (getObj r).run P w = .ok (.mapIter (some bm) s seen c) w := by simp [getObj,Sem.run,hr]
 have k2 : (getObj r).run P W = .ok (.mapIter (some bm) s seen c) W := by simp [getObj,Sem.run,er]
 have g1 : (getObj bm).run P w = .ok (.map es clock) w := MapKept.run_getObj_map hb
 have g2 : (getObj bm).run P W = .ok (.map es clock) W := MapKept.run_getObj_map eb
 simp only [Instr.entry,Sem.run_bind,k1,Result.andThen] at h
 simp only [Instr.entry,Sem.run_bind,k2,Result.andThen]
 revert h
 cases seen.back? with
 |none => intro h; simp_all [Sem.run]
 |some b =>
  simp only [Sem.run_bind,g1,g2,Result.andThen]
  intro h
  split at h
  ·simp only [Sem.run_bind,Sem.run] at h
   cases h
  ·rename_i hc
   rw [if_neg hc]
   cases hf : es.find? (·.born == b) with
   |none => simp [hf,Sem.run] at h
   |some e =>
    simp only [hf] at h ⊢
    simp [Sem.run] at h ⊢
    exact h
def MR (w : World) (B r n : Nat) (f : Nat → Nat) (left : Nat → Bool) (cnt : Nat) : Prop :=
 ∃ (D : DataW Unit) (l : Lit → Bool),w.ranges Tryz.prog 66 (plainElem Tryz.prog 36) B r n D l cnt ∧ (∀ k,k < 256 → D.atKey (kW k) (.lit (.int .u64 0)) = .lit (.int .u64 (f k : Int))) ∧ ∀ k,k < 256 → l (kW k) = left k
theorem MR.keep {w w' : World} {B r n cnt : Nat} {f : Nat → Nat} {left : Nat → Bool} (h : MR w B r n f left cnt) (hb : w'.heap[B]? = w.heap[B]?) (hr : w'.heap[r]? = w.heap[r]?) : MR w' B r n f left cnt := by
 obtain ⟨D,l,⟨es,clock,since,seen,c0,h1,F,h2,h3,h4,h5⟩,h6⟩ := h
 exact ⟨D,l,⟨es,clock,since,seen,c0,hb.trans h1,F,h2,h3,hr.trans h4,h5⟩,h6⟩
theorem MR.lt {w : World} {B r n cnt : Nat} {f : Nat → Nat} {left : Nat → Bool} (h : MR w B r n f left cnt) : B < w.heap.size ∧ r < w.heap.size ∧ r ≠ B := by
 obtain ⟨D,l,h1,_⟩ := h
 exact ⟨h1.owns.lt,h1.lt,h1.ne⟩
theorem MR.aek {w : World} {B r n cnt : Nat} {f : Nat → Nat} {left : Nat → Bool} (h : MR w B r n f left cnt) : w.rangeLeft B r = cnt := by
 obtain ⟨D,l,h1,_⟩ := h
 exact h1.left_eq
theorem arq {w w' : World} {b : Nat} (h : w.grownBy w' (some b)) : Fr (fun k => k = b) w w' := ⟨h.os,h.tape,h.output,h.size,fun i hi hn => h.block i hi (fun e => hn (Option.some.inj e))⟩
theorem ame {w w' : World} (h : w.grownBy w' none) : Fr F0 w w' := ⟨h.os,h.tape,h.output,h.size,fun i hi _ => h.block i hi (fun e => by cases e)⟩
theorem MR.next {w : World} {B r n cnt : Nat} {f : Nat → Nat} {left : Nat → Bool} (h : MR w B r n f left cnt) (ty : TypeId) :
  ((∀ k,k < 256 → left k = false) ∧ (Instr.next (.pointer (some ⟨r,0,none⟩)) false ty).run Tryz.prog w = .ok (.tuple #[.bool false]) w) ∨
  ∃ x w' cnt',x < 256 ∧ left x = true ∧ f x < 18446744073709551616 ∧ (Instr.next (.pointer (some ⟨r,0,none⟩)) false ty).run Tryz.prog w = .ok (.tuple #[.bool true,.int .u8 (x : Int),.int .u64 (f x : Int)]) w' ∧
   MR w' B r n f (fun k => left k && !decide (k = x)) cnt' ∧ cnt' < cnt ∧ Fr (fun k => k = r) w w' ∧ w'.heap.size = w.heap.size ∧
   ∀ W : World,W.heap[r]? = w'.heap[r]? → W.heap[B]? = w'.heap[B]? → (Instr.entry (.pointer (some ⟨r,0,none⟩))).run Tryz.prog W = .ok (.tuple #[.int .u8 (x : Int),.int .u64 (f x : Int)]) W := by
 obtain ⟨D,l,h1,h2,h3⟩ := h
 rcases h1.next ado ty with ⟨_,hl,hr⟩ | ⟨key,v,kl,y,w',cnt',hkey,hlk,hv,hat,hr,hrg,hlt,hgr,hsz,hen⟩
 ·exact .inl ⟨fun k hk => by rw [← h3 k hk]; exact hl _,hr⟩
 ·obtain ⟨z,rfl,rfl,wf⟩ := Maps.keyOf_int_inv Tryz.underlying66 hkey
  obtain ⟨c,rfl,hc,wc⟩ := plainElem_int_inv Tryz.underlying36 hv
  have hz : 0 ≤ z ∧ z ≤ 255 := bounds_u8 wf
  have hcb : 0 ≤ c ∧ c ≤ 18446744073709551615 := bounds_u64 wc
  obtain ⟨x,rfl⟩ := Int.eq_ofNat_of_zero_le hz.1
  have hx : x < 256 := by omega
  have e := h2 x hx
  rw [show (kW x : Lit) = .int .u8 (x : Int) from rfl,hat] at e
  have e2 : y.1 = .lit (.int .u64 c) := congrArg Prod.fst hc
  rw [e2] at e
  simp only [DataW.lit.injEq,Lit.int.injEq,true_and] at e
  subst e
  refine .inr ⟨x,w',cnt',hx,by rw [← h3 x hx]; exact hlk,by omega,hr,⟨D,_,hrg,h2,fun k hk => ?_⟩,hlt,arq hgr,hsz,fun W e1 e3 => ?_⟩
  ·show (l (kW k) && !(kW k).sameKey (.int .u8 (x : Int))) = _
   rw [h3 k hk]
   congr 2
   by_cases e : k = x
   ·subst e
    rw [decide_eq_true rfl]
    exact WideAt.sameKey_self (show WideAt.IsKeyLit (kW k) from trivial)
   ·rw [decide_eq_false e]
    exact sameKey_ne (ajp e)
  ·obtain ⟨es,clock,since,seen,c0,q1,_,_,_,q2,_⟩ := hrg
   exact ars q2 q1 e1 e3 hen
end Go.Proofs.YtohckefafbhooaaGreat
