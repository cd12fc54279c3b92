import Derived.Test.YtohckefafbhooaaGreatR10
import Derived.Test.YtohckefafbhooaaGreatR11
import Derived.Test.YtohckefafbhooaaGreatR13
set_option maxRecDepth 100000
set_option maxHeartbeats 64000000
namespace Go.Proofs.YtohckefafbhooaaGreat
set_option linter.unusedVariables false
set_option linter.unusedSimpArgs false
open Go.RowKit Go.Maps
def ad9 (x : Vlt) : List Value := .int .u8 (x.who : Int) :: ((a20 x.addr).map B8 ++ [.int .u64 (x.coll : Int),.int .u64 (x.iss : Int),.int .u64 (x.com : Int),.int .u64 (x.goi : Int),.int .u64 (x.lea : Int),.bool x.fal])
theorem zh (x : Vlt) : (ad9 x).length = 27 := by
 unfold ad9
 rw [List.length_cons,List.length_append,List.length_map,vk]
 rfl
theorem akh (x : Vlt) : ∀ u ∈ ad9 x,u.oneCell' = true := fun u hu => by
 unfold ad9 at hu
 simp only [List.mem_cons,List.mem_append,List.mem_map,List.not_mem_nil,or_false] at hu
 rcases hu with rfl | ⟨b,_,rfl⟩ | rfl | rfl | rfl | rfl | rfl | rfl <;> rfl
theorem ag5 (x : Vlt) (k : Nat) : (ad9 x)[21 + k]? = [Value.int .u64 (x.coll : Int),.int .u64 (x.iss : Int),.int .u64 (x.com : Int),.int .u64 (x.goi : Int),.int .u64 (x.lea : Int),.bool x.fal][k]? := by
 unfold ad9
 rw [show 21 + k = (20 + k) + 1 by omega,List.getElem?_cons_succ,List.getElem?_append_right (by rw [List.length_map,vk]; omega),List.length_map,vk,Nat.add_sub_cancel_left]
def vBv (x : Vlt) : Value := .agg (ad9 x).toArray
def v0 : Vlt := ⟨0,List.replicate 20 0,0,0,0,0,0,false⟩
theorem aDd (w : World) : (zeroValue 72).run Tryz.prog w = .ok (vBv v0) w := by kernel_rfl
theorem Tryz.szBVault : (Tryz.prog.info? 72).map (·.size) = some 27 := by kernel_rfl
@[go_sem ↓ high] theorem aF2 (p : Value) : Instr.loadAt 72 p = gu 72 p := rfl
@[go_sem ↓ high] theorem aCj (p v : Value) : Instr.storeAt 72 p v = jd 72 p v := rfl
@[go_sem] theorem ayr (w : World) (g : Nat) : (gu 72 (.pointer (some ⟨g,0,none⟩))).run Tryz.prog w = abe Tryz.prog 72 (.pointer (some ⟨g,0,none⟩)) w 27 w.heap[g]? :=
 ku w _ g 27 _ Tryz.underlying72 rfl Tryz.szBVault
@[go_sem] theorem au2 (w : World) (g : Nat) (cells : Array Value) : (jd 72 (.pointer (some ⟨g,0,none⟩)) (.agg cells)).run Tryz.prog w = aec Tryz.prog 72 (.pointer (some ⟨g,0,none⟩)) cells g w 27 w.heap[g]? :=
 ou w _ g 27 cells Tryz.szBVault
def cB (x : Vlt) : Array Value := (ad9 x).toArray
theorem lu (x : Vlt) : (cB x).size = 27 := by unfold cB; simp [zh]
theorem ru (x : Vlt) : yg (cB x) := by
 unfold yg
 rw [Array.all_eq_true_iff_forall_mem]
 intro v hv
 unfold cB at hv
 exact akh x v (by simpa using hv)
theorem iq (x : Vlt) : vBv x = .agg (cB x) := rfl
def hR (v : Value) : Option (DataW Value × List MemPlace) := some (.held v,[])
def MV (w : World) (B n : Nat) (g : Nat → Option Vlt) : Prop :=
 ∃ D : DataW Value,w.ownsMap Tryz.prog 66 hR B n D ∧ ∀ k,k < 256 → (∀ zd,D.atKey (kW k) zd = match g k with | some x => .held (vBv x) | none => zd) ∧ Maps.has D (kW k) = (g k).isSome
def auy (g : Nat → Option Vlt) (x : Nat) (v : Vlt) : Nat → Option Vlt := fun k => if k = x then some v else g k
section
variable {w w' : World} {B n : Nat} {g : Nat → Option Vlt}
theorem MV.lt (h : MV w B n g) : B < w.heap.size := by
 obtain ⟨D,h1,_⟩ := h
 exact h1.lt
theorem MV.keep (h : MV w B n g) (he : w'.heap[B]? = w.heap[B]?) : MV w' B n g := by
 obtain ⟨D,⟨es,clock,hb,r⟩,h2⟩ := h
 exact ⟨D,⟨es,clock,he.trans hb,r⟩,h2⟩
theorem MV.fr {S : Nat → Prop} (h : MV w B n g) (r : Fr S w w') (hs : ¬ S B) : MV w' B n g := h.keep (r.block B h.lt hs)
theorem MV.made (w : World) : MV (w.alloc (.map #[] 0)) w.heap.size 0 fun _ => none := ⟨_,World.ownsMap_made w _ _ _,fun k hk => ⟨fun zd => rfl,rfl⟩⟩
theorem MV.ext {g' : Nat → Option Vlt} (h : MV w B n g) (e : ∀ k,k < 256 → g k = g' k) : MV w B n g' := by
 obtain ⟨D,h1,h2⟩ := h
 exact ⟨D,h1,fun k hk => by rw [← e k hk]; exact h2 k hk⟩
def aI0 (m k : Value) (ok : Bool) : Sem Value := Instr.lookup 95 m k ok
@[go_sem ↓ high] theorem look_V (m k : Value) (ok : Bool) : Instr.lookup 95 m k ok = aI0 m k ok := rfl
def aC6 (m k v : Value) : Sem Unit := Instr.mapUpdate 95 m k v
@[go_sem ↓ high] theorem upd_VM (m k v : Value) : Instr.mapUpdate 95 m k v = aC6 m k v := rfl
theorem MV.look (h : MV w B n g) {x : Nat} (hx : x < 256) : (aI0 (.map (some B)) (.int .u8 (x : Int)) true).run Tryz.prog w = .ok (.tuple #[vBv ((g x).getD v0),.bool (g x).isSome]) w := by
 obtain ⟨D,h1,h2⟩ := h
 obtain ⟨v,ps,hr,hv⟩ := h1.look_ok ado Tryz.underlying95 (aDd w) (show hR (vBv v0) = some (.held (vBv v0),[]) from rfl) (keyOf_int_mk Tryz.underlying66 (au7 hx))
 obtain ⟨h3,h4⟩ := h2 x hx
 rw [show (Lit.int .u8 (x : Int)) = kW x from rfl,h3,hR] at hv
 simp only [Option.some.injEq,Prod.mk.injEq] at hv
 rw [show (Lit.int .u8 (x : Int)) = kW x from rfl,h4] at hr
 have he : v = vBv ((g x).getD v0) := by
  cases hg : g x with
  |none => rw [hg] at hv; have := hv.1; injection this
  |some y => rw [hg] at hv; have := hv.1; injection this
 rw [← he]
 exact hr
theorem MV.put (h : MV w B n g) (hn : n < maxLen) {x : Nat} (hx : x < 256) (v : Vlt) :
  ∃ w',(aC6 (.map (some B)) (.int .u8 (x : Int)) (vBv v)).run Tryz.prog w = .ok () w' ∧ MV w' B (n + 1) (auy g x v) ∧ Fr (fun k => k = B) w w' ∧ w'.heap.size = w.heap.size := by
 obtain ⟨D,h1,h2⟩ := h
 obtain ⟨w',hr,ho,ht⟩ := h1.store ado Tryz.underlying95 hn (keyOf_int_mk Tryz.underlying66 (au7 hx)) (show hR (vBv v) = some (.held (vBv v),[]) from rfl)
 refine ⟨w',hr,⟨_,ho,fun k hk => ?_⟩,agx ht⟩
 unfold auy
 by_cases e : k = x
 ·subst e
  rw [if_pos rfl]
  exact ⟨fun zd => atKey_put_same h1.isMap (show WideAt.IsKeyLit (kW k) from trivial) _ _,has_put_same h1.isMap (show WideAt.IsKeyLit (kW k) from trivial) _⟩
 ·rw [if_neg e]
  exact ⟨fun zd => by rw [← (h2 k hk).1 zd]; exact atKey_put_other (ajp e) _ _,by rw [← (h2 k hk).2]; exact has_put_other (ajp e) _⟩
end
def kN : Lit → Nat
 |.int _ z => z.toNat
 |_ => 0
theorem au8 (k : Nat) : kN (kW k) = k := by simp [kN,kW]
theorem al4 {H : Type} {w : World} {R : Value → Option (DataW H × List MemPlace)} {B n : Nat} {D : DataW H} (h : w.ownsMap Tryz.prog 66 R B n D) :
  ∃ ks : List Nat,ks.Nodup ∧ ks.length = Maps.size D ∧ ∀ k,k < 256 → (k ∈ ks ↔ Maps.has D (kW k) = true) ∧ ∀ k ∈ ks,k < 256 := by
 obtain ⟨es,rfl,hp,hl⟩ := h.entries ado
 have hk : ∀ p ∈ es,∃ x,x < 256 ∧ p.1 = kW x := by
  obtain ⟨es0,clock,hb,F,hs,hD⟩ := h
  injection hD with hD
  intro p hm
  rw [hD,mem_sorted,List.mem_map] at hm
  obtain ⟨x,hx,rfl⟩ := hm
  obtain ⟨y,hy⟩ := F.reads x hx
  have m1 := WideElems.rd_key hy
  rw [WideElems.rg_of hy]
  obtain ⟨z,hz,hz2,wf⟩ := Maps.keyOf_int_inv Tryz.underlying66 m1
  have hz3 : 0 ≤ z ∧ z ≤ 255 := bounds_u8 wf
  obtain ⟨x',rfl⟩ := Int.eq_ofNat_of_zero_le hz3.1
  exact ⟨x',by omega,hz2⟩
 refine ⟨es.map fun p => kN p.1,?_,by simp [Maps.size],fun k hk256 => ⟨?_,?_⟩⟩
 ·refine List.pairwise_map.2 (hp.imp_of_mem fun {a b} ha hb hne e => ?_)
  obtain ⟨x,_,hx⟩ := hk a ha
  obtain ⟨y,_,hy⟩ := hk b hb
  rw [hx,hy,au8,au8] at e
  exact hne (by rw [hx,hy,e])
 ·rw [has_eq,List.any_eq_true,List.mem_map]
  constructor
  ·rintro ⟨p,hp2,rfl⟩
   obtain ⟨x,_,hx⟩ := hk p hp2
   refine ⟨p,hp2,?_⟩
   rw [hx,au8]
   exact WideAt.sameKey_self (show WideAt.IsKeyLit (kW x) from trivial)
  ·rintro ⟨p,hp2,he⟩
   obtain ⟨x,_,hx⟩ := hk p hp2
   refine ⟨p,hp2,?_⟩
   rw [hx,au8]
   by_cases e : x = k
   ·exact e
   ·rw [hx,sameKey_ne (ajp e)] at he
    cases he
 ·intro k2 hk2
  obtain ⟨p,hp2,rfl⟩ := List.mem_map.1 hk2
  obtain ⟨x,hx,e⟩ := hk p hp2
  show kN p.1 < 256
  rw [e,au8]
  exact hx
theorem arb {H : Type} {w : World} {R : Value → Option (DataW H × List MemPlace)} {B n : Nat} {D : DataW H} (h : w.ownsMap Tryz.prog 66 R B n D) : w.ownsMap Tryz.prog 66 R B 256 D := by
 obtain ⟨ks,hn,hs,hk⟩ := al4 h
 have : ks.length ≤ 256 := by
  have := hn.length_le_of_subset (l₂ := List.range 256) fun k hm => List.mem_range.2 ((hk 0 (by decide)).2 k hm)
  rwa [List.length_range] at this
 have hz : Maps.size D ≤ 256 := by omega
 obtain ⟨es,clock,hb,F,hs2,rfl⟩ := h
 refine ⟨es,clock,hb,F,?_,rfl⟩
 simp only [Maps.size] at hz
 rw [Go.DataW.length_sorted] at hz
 simpa using hz
theorem MV.ae7 {w : World} {B n : Nat} {g : Nat → Option Vlt} (h : MV w B n g) : MV w B 256 g := by
 obtain ⟨D,h1,h2⟩ := h
 exact ⟨D,arb h1,h2⟩
theorem MZ.ae7 {w : World} {B n : Nat} {f : Nat → Nat} (h : MZ w B n f) : MZ w B 256 f := by
 obtain ⟨D,h1,h2⟩ := h
 exact ⟨D,arb h1,h2⟩
theorem MO.ae7 {w : World} {ob : Option Nat} {n : Nat} {f : Nat → Nat} (h : MO w ob n f) : MO w ob 256 f := by
 cases ob with
 |none => exact h
 |some B => exact MZ.ae7 h
theorem MV.len {w : World} {B n : Nat} {g : Nat → Option Vlt} (h : MV w B n g) {l : List Vlt} (hl : (l.map Vlt.who).Nodup) (hw : ∀ x ∈ l,x.who < 256) (hg : ∀ k,k < 256 → ((g k).isSome = true ↔ k ∈ l.map Vlt.who)) (ty : TypeId) : (Builtin.len_ #[95] ty #[.map (some B)]).run Tryz.prog w = .ok (.int .i64 (l.length : Int)) w := by
 obtain ⟨D,h1,h2⟩ := h
 obtain ⟨ks,hn,hs,hk⟩ := al4 h1
 have hp : ks.Perm (l.map Vlt.who) := (List.perm_ext_iff_of_nodup hn hl).2 fun k => by
  constructor
  ·intro hm
   have h256 := (hk 0 (by decide)).2 k hm
   rw [← hg k h256,← (h2 k h256).2]
   exact ((hk k h256).1).1 hm
  ·intro hm
   have h256 : k < 256 := by
    obtain ⟨x,hx,rfl⟩ := List.mem_map.1 hm
    exact hw x hx
   exact ((hk k h256).1).2 (by rw [(h2 k h256).2]; exact (hg k h256).2 hm)
 have e : Maps.size D = l.length := by rw [← hs,hp.length_eq,List.length_map]
 rw [← e]
 exact h1.len Tryz.underlying95 ty
end Go.Proofs.YtohckefafbhooaaGreat
namespace Go.Proofs.YtohckefafbhooaaGreat
set_option linter.unusedVariables false
set_option linter.unusedSimpArgs false
open Go.RowKit Go.Maps Go.Shelf
def MRV (w : World) (B r n : Nat) (g : Nat → Option Vlt) (left : Nat → Bool) (cnt : Nat) : Prop :=
 ∃ (D : DataW Value) (l : Lit → Bool),w.ranges Tryz.prog 66 hR B r n D l cnt ∧ (∀ k,k < 256 → (∀ zd,D.atKey (kW k) zd = match g k with | some x => .held (vBv x) | none => zd) ∧ Maps.has D (kW k) = (g k).isSome) ∧ ∀ k,k < 256 → l (kW k) = left k
def fG (g : Nat → Option Vlt) (k : Nat) : Nat := if (g k).isSome = true then 1 else 0
section
variable {w w' : World} {B r n cnt : Nat} {g : Nat → Option Vlt} {left : Nat → Bool}
theorem MRV.keep (h : MRV w B r n g left cnt) (hb : w'.heap[B]? = w.heap[B]?) (hr : w'.heap[r]? = w.heap[r]?) : MRV w' B r n g left cnt := by
 obtain ⟨D,l,⟨es,clock,since,seen,c0,h1,F,h2,h3,h4,h5⟩,h6⟩ := h
 exact ⟨D,l,⟨es,clock,since,seen,c0,hb.trans h1,F,h2,h3,hr.trans h4,h5⟩,h6⟩
theorem MRV.lt (h : MRV w B r n g left cnt) : B < w.heap.size ∧ r < w.heap.size ∧ r ≠ B := by
 obtain ⟨D,l,h1,_⟩ := h
 exact ⟨h1.owns.lt,h1.lt,h1.ne⟩
theorem MRV.aek (h : MRV w B r n g left cnt) : w.rangeLeft B r = cnt := by
 obtain ⟨D,l,h1,_⟩ := h
 exact h1.left_eq
theorem MRV.keepK {W : World} (h : MRV w B r n g left cnt) (hr : Kbm r w W) (hb : W.heap[B]? = w.heap[B]?) : MRV W B r n g left cnt := by
 refine h.keep hb ?_
 obtain ⟨o,ho⟩ : ∃ o,w.heap[r]? = some o := ⟨_,Array.getElem?_eq_getElem h.lt.2.1⟩
 rw [ho]
 exact hr o ho
theorem MV.range (h : MV w B n g) :
  ∃ w' cnt,(Instr.range 95 (.map (some B))).run Tryz.prog w = .ok (.pointer (some ⟨w.heap.size,0,none⟩)) w' ∧ MRV w' B w.heap.size n g (fun k => decide (fG g k ≠ 0)) cnt ∧ cnt ≤ n ∧ Fr F0 w w' ∧ w'.heap.size = w.heap.size + 1 := by
 obtain ⟨D,h1,h2⟩ := h
 obtain ⟨w',hr,hg,hgr,hsz⟩ := h1.range ado Tryz.underlying95
 refine ⟨w',_,hr,⟨D,_,hg,h2,fun k hk => ?_⟩,?_,ame hgr,hsz⟩
 ·show Maps.has D (kW k) = decide (fG g k ≠ 0)
  rw [(h2 k hk).2]
  unfold fG
  cases g k <;> simp
 ·obtain ⟨es,clock,hb,F,hs,rfl⟩ := h1
  simp only [Maps.size]
  rw [Go.DataW.length_sorted]
  simpa using hs
theorem MRV.next (h : MRV w B r n g left cnt) (ty : TypeId) :
  ((∀ k,k < 256 → left k = false) ∧ (Instr.next (.pointer (some ⟨r,0,none⟩)) false ty).run Tryz.prog w = .ok (.tuple #[.bool false]) w) ∨
  ∃ x y w' cnt',x < 256 ∧ left x = true ∧ g x = some y ∧ (Instr.next (.pointer (some ⟨r,0,none⟩)) false ty).run Tryz.prog w = .ok (.tuple #[.bool true,.int .u8 (x : Int),vBv y]) w' ∧
   MRV w' B r n g (fun k => left k && !decide (k = x)) cnt' ∧ cnt' < cnt ∧ Fr (fun k => k = r) w w' ∧ w'.heap.size = w.heap.size ∧
   ∀ W : World,W.heap[r]? = w'.heap[r]? → W.heap[B]? = w'.heap[B]? → (Instr.entry (.pointer (some ⟨r,0,none⟩))).run Tryz.prog W = .ok (.tuple #[.int .u8 (x : Int),vBv y]) W := by
 obtain ⟨D,l,h1,h2,h3⟩ := h
 rcases h1.next ado ty with ⟨_,hl,hr⟩ | ⟨key,v,kl,y,w',cnt',hkey,hlk,hv,hat,hr,hrg,hlt,hgr,hsz,hen⟩
 ·exact .inl ⟨fun k hk => by rw [← h3 k hk]; exact hl _,hr⟩
 ·obtain ⟨z,rfl,rfl,wf⟩ := Maps.keyOf_int_inv Tryz.underlying66 hkey
  have hz : 0 ≤ z ∧ z ≤ 255 := bounds_u8 wf
  obtain ⟨x,rfl⟩ := Int.eq_ofNat_of_zero_le hz.1
  have hx : x < 256 := by omega
  have e := (h2 x hx).1
  simp only [hR,Option.some.injEq] at hv
  subst hv
  have hat2 : ∀ zd,D.atKey (kW x) zd = .held v := hat
  obtain ⟨u,hu⟩ : ∃ u,g x = some u := by
   cases hg : g x with
   |some u => exact ⟨u,rfl⟩
   |none =>
    have := e .nil
    rw [hat2,hg] at this
    cases this
  have hvu : v = vBv u := by
   have := e .nil
   rw [hat2,hu] at this
   injection this
  subst hvu
  refine .inr ⟨x,u,w',cnt',hx,by rw [← h3 x hx]; exact hlk,hu,hr,⟨D,_,hrg,h2,fun k hk => ?_⟩,hlt,arq hgr,hsz,fun W e1 e3 => ?_⟩
  ·show (l (kW k) && !(kW k).sameKey (.int .u8 (x : Int))) = _
   rw [h3 k hk]
   congr 2
   by_cases e : k = x
   ·subst e
    rw [decide_eq_true rfl]
    exact WideAt.sameKey_self (show WideAt.IsKeyLit (kW k) from trivial)
   ·rw [decide_eq_false e]
    exact sameKey_ne (ajp e)
  ·obtain ⟨es,clock,since,seen,c0,q1,_,_,_,q2,_⟩ := hrg
   exact ars q2 q1 e1 e3 hen
end
def aIw (gb B : Nat) (W : World) : Prop := W.heap[gb]? = some (.cells #[.map (some B)] 95 (0,0))
def vmAs (gb B n : Nat) (g : Nat → Option Vlt) (O : Obj) {α : Type} (_ : List α) (W : World) : Prop := aIw gb B W ∧ MV W B n g ∧ W.heap[B]? = some O
abbrev ah1 (x : Vlt) : Array Value := #[vBv x]
def LsG (g : Nat → Option Vlt) (xs : List Vlt) : Prop := ∃ ks,KeysOf (fG g) ks ∧ xs = ks.map fun k => (g k).getD v0
def aCf (n : Nat) (pre : List Vlt) (_ : Vlt) (_ _ : World) : Prop := pre.length ≤ n
theorem alo {F : Fence} {n : Nat} {P : Program} {c : Code} {Q : Exit → Act → World → Prop} {a : Act} {w : World} {z cs : Array Value} {t : TypeId} (k : ∀ W,air w W w.heap.size cs t → Code.wpIn F n P c Q a W) : Code.wpIn F n P c Q a ((w.alloc (.cells z t)).setRow w.heap.size cs) := k _ (afc w z cs t)
theorem aqg (B : Nat) (w : World) :
  Calls Tryz.prog 100 #[.map (some B)] w fun e w' => e = .returned (.func (.func 132) #[] #[.pointer (some ⟨w.heap.size,0,none⟩)]) ∧ w' = w.alloc (.cells #[.map (some B)] 95) := by
 have hmf : ∀ (fn : Fn) (first cap : Array Value) (w : World),(Instr.makeFunc fn first cap).run Tryz.prog w = .ok (.func fn first cap) w := fun _ _ _ _ => rfl
 go_enter Tryz.func100,Tryz.ntmps100
 go_wp2
 go_ret
 exact ⟨rfl,rfl⟩
theorem aI8 (gb B n : Nat) (g : Nat → Option Vlt) (O : Obj) :
  au5 Tryz.prog 132 #[.pointer (some ⟨gb,0,none⟩)] ah1 Kbm (vmAs gb B n g O) (aCf n) (fun xs => LsG g xs ∧ xs.length ≤ n) := by
 intro lp J Jx W oJ oX hC hJ4 hY h0
 refine (callsIn_wide (n := 6)).1 ?_
 refine callsIn_of_wp Tryz.func132 rfl trivial ?_ rfl
 simp only [Tryz.ntmps132,List.size_toArray,List.length_cons,List.length_nil,Nat.reduceAdd,Nat.reduceSub,Array.replicate_succ,Array.replicate_zero,List.push_toArray,List.append_toArray,List.nil_append,List.cons_append]
 obtain ⟨r1,hm,hO⟩ := hC _ _ h0
 unfold aIw at r1
 obtain ⟨w1,cnt,hr,R,hcn,f1,s1⟩ := hm.range
 have hJ1 := aa7 oJ h0 f1
 have HH := Lib.hid (And.intro hJ4 (And.intro hY hC))
 have HS := Lib.hid s1
 have HN := Lib.hid hcn
 clear oX hY hJ4 hC hO hm f1 hcn oJ h0 s1
 gi_wp2
 obtain ⟨r,hrd⟩ : ∃ r,W.heap.size = r := ⟨_,rfl⟩
 rw [hrd] at R HH HS
 simp only [hrd]
 clear hrd
 gi_loopw [4] (fun _ wr => ∃ (pre : List Nat) (left : Nat → Bool) (cnt : Nat),MRV wr B r n g left cnt ∧ J (pre.map fun k => (g k).getD v0) wr ∧ KL (fG g) left pre ∧ pre.length + cnt ≤ n) (fun _ wr => wr.rangeLeft B r)
 case atStart => exact ⟨[],_,cnt,R,hJ1,KL.start _,by simpa using HN.out⟩
 case round =>
  clear R hJ1 hr r1
  obtain ⟨pre,left,cnt2,R,hJ,hs,hln⟩ := hrel
  rcases R.next 0 with ⟨hl,hr⟩ | ⟨x,y,w3,cnt3,hx,hlx,hgx,hr,R3,hlt,f3,s3,hen⟩
  ·have HE := Lib.hid (And.intro hJ (show LsG g (pre.map fun k => (g k).getD v0) ∧ (pre.map fun k => (g k).getD v0).length ≤ n from ⟨⟨pre,hs.done hl,rfl⟩,by rw [List.length_map]; omega⟩))
   clear R hJ hs hl hln
   gi_wp2
   go_end0
   exact ⟨⟨_,rfl⟩,.inl ⟨_,HE.out.2,HE.out.1⟩⟩
  ·have hJ3 := HH.out.1 _ _ _ hJ f3 R.lt.2.1
   have h1 := hs.step hx hlx
   have hO3 := (HH.out.2.2 _ _ hJ3).2.2
   have hmap : (pre.map fun k => (g k).getD v0) ++ [y] = (pre ++ [x]).map fun k => (g k).getD v0 := by rw [List.map_append]; simp [hgx]
   have hY := Lib.hid (fun W1 (f : Fr F0 w3 W1) => (HH.out.2.1 _ y w3 W1 hJ3 f (Nat.lt_of_lt_of_le R3.lt.2.1 f.size) (show (pre.map fun k => (g k).getD v0).length ≤ n by rw [List.length_map]; omega)).plain (m := 5))
   rw [hmap] at hY
   have hen3 := hen w3 rfl rfl
   have HL := Lib.hid (And.intro R3 (And.intro (And.intro h1.2 (show (pre ++ [x]).length + cnt3 ≤ n by simp; omega)) (And.intro R.aek (And.intro hlt hO3))))
   have sz := lu y
   have oS := ru y
   dsimp only [ah1] at hY
   rw [iq] at hY hr hen3
   generalize cB y = C at *
   clear R R3 hJ hs f3 s3 hen hJ3 h1 hlt hlx hO3 hln hmap hgx
   gi_upto_region 3 with fail
   refine alo fun W3 N => ?_
   have r4 := N.new
   obtain ⟨fn,tmps,assign,body,hy,hYY⟩ := hY.out W3 N.fr
   have HF := Lib.hid N.fr
   clear N hY
   obtain ⟨g4,hg4⟩ : ∃ g,w3.heap.size = g := ⟨_,rfl⟩
   rw [hg4] at r4 ⊢
   clear hg4
   have HY := Lib.hid hYY
   clear hYY
   gi_wp2
   refine HY.out.mono ?_
   rintro e W5 (⟨rfl,hJ5,hK5⟩ | ⟨rfl,hJx,_⟩)
   ·have hb5 := (HH.out.2.2 _ _ hJ5).2.2
    have R4 := HL.out.1.keep (HF.out.block _ HL.out.1.lt.1 fun e => e) (HF.out.block _ HL.out.1.lt.2.1 fun e => e)
    have R5 := R4.keepK hK5 (hb5.trans ((HF.out.block _ HL.out.1.lt.1 fun e => e).trans HL.out.2.2.2.2).symm)
    have HR := Lib.hid (And.intro hJ5 (And.intro R5 R5.aek))
    clear hJ5 hK5 hb5 R5 R4 r4
    gi_wp2
    go_roundw
    case rel => exact ⟨_,_,_,HR.out.2.1,HR.out.1,HL.out.2.1.1,HL.out.2.1.2⟩
    case measure => rw [HL.out.2.2.1,HR.out.2.2]; exact HL.out.2.2.2.1
   ·gi_wp2
    refine bodyPost_ret (results_none rfl _ _ _) rfl ?_
    exact ⟨⟨_,rfl⟩,.inr ⟨_,hJx⟩⟩
end Go.Proofs.YtohckefafbhooaaGreat
namespace Go.Proofs.YtohckefafbhooaaGreat
set_option linter.unusedVariables false
set_option linter.unusedSimpArgs false
def gOf (l : List Vlt) (k : Nat) : Option Vlt := l.find? fun x => x.who == k
theorem avl : ∀ (l : List Vlt) (w : Nat),gOf l w = l[atV l w]?
 |[],w => rfl
 |x :: l,w => by
  unfold gOf atV
  rw [List.find?_cons,List.findIdx_cons]
  cases h : x.who == w with
  |true => rfl
  |false =>
   have := avl l w
   unfold gOf atV at this
   simp only [cond_false,List.getElem?_cons_succ]
   exact this
theorem abu {l : List Vlt} {k : Nat} {x : Vlt} (h : gOf l k = some x) : x ∈ l ∧ x.who = k := ⟨List.mem_of_find?_eq_some h,by have := List.find?_some h; simpa using this⟩
theorem agd {l : List Vlt} {k : Nat} (h : gOf l k = none) : ∀ x ∈ l,x.who ≠ k := fun x hx e => by
 have := List.find?_eq_none.1 h x hx
 simp [e] at this
section
variable {l : List Vlt}
theorem awd (h : l.Pairwise fun a b => a.who < b.who) {x : Vlt} (hx : x ∈ l) : gOf l x.who = some x := by
 cases e : gOf l x.who with
 |none => exact absurd rfl (agd e x hx)
 |some y =>
  obtain ⟨h1,h2⟩ := abu e
  obtain ⟨i,hi,rfl⟩ := List.mem_iff_getElem.1 hx
  obtain ⟨j,hj,rfl⟩ := List.mem_iff_getElem.1 h1
  rw [List.pairwise_iff_getElem] at h
  rcases Nat.lt_trichotomy i j with c | c | c
  ·have := h i j hi hj c; omega
  ·subst c; rfl
  ·have := h j i hj hi c; omega
theorem aq0 (h : l.Pairwise fun a b => a.who < b.who) {k : Nat} {x : Vlt} : gOf l k = some x ↔ x ∈ l ∧ x.who = k := ⟨abu,fun ⟨h1,h2⟩ => by rw [← h2]; exact awd h h1⟩
theorem ajd {k : Nat} : (gOf l k).isSome = true ↔ k ∈ l.map Vlt.who := by
 constructor
 ·intro h
  obtain ⟨x,hx⟩ := Option.isSome_iff_exists.1 h
  exact List.mem_map.2 ⟨x,abu hx⟩
 ·intro h
  obtain ⟨x,hx,rfl⟩ := List.mem_map.1 h
  cases e : gOf l x.who with
  |none => exact absurd rfl (agd e x hx)
  |some y => rfl
theorem agw (h : l.Pairwise fun a b => a.who < b.who) : (l.map Vlt.who).Nodup := List.pairwise_map.2 (h.imp fun h => Nat.ne_of_lt h)
theorem awc (h : l.Pairwise fun a b => a.who < b.who) {j : Nat} {x y : Vlt} (hr : l[j]? = some x) (he : y.who = x.who) (k : Nat) : gOf (l.set j y) k = auy (gOf l) x.who y k := by
 have hp := ajt h hr he
 have hj := (List.getElem?_eq_some_iff.1 hr).1
 have hx : x ∈ l := List.mem_of_getElem? hr
 unfold auy
 by_cases e : k = x.who
 ·subst e
  rw [if_pos rfl,aq0 hp]
  exact ⟨List.mem_set hj y,he⟩
 ·rw [if_neg e]
  cases e2 : gOf l k with
  |some z =>
   rw [aq0 hp]
   obtain ⟨h1,h2⟩ := abu e2
   obtain ⟨i,hi,rfl⟩ := List.mem_iff_getElem.1 h1
   refine ⟨List.mem_iff_getElem.2 ⟨i,by rw [List.length_set]; exact hi,?_⟩,h2⟩
   rw [List.getElem_set,if_neg]
   intro e3
   subst e3
   have := (List.getElem?_eq_some_iff.1 hr).2
   rw [this] at h2
   exact e h2.symm
  |none =>
   cases e4 : gOf (l.set j y) k with
   |none => rfl
   |some z =>
    obtain ⟨h1,h2⟩ := abu e4
    rcases ake h1 with h1 | rfl
    ·exact absurd h2 (agd e2 z h1)
    ·exact absurd (h2.symm.trans he) e
theorem aEr (h : l.Pairwise fun a b => a.who < b.who) {y : Vlt} (hy : ∀ x ∈ l,x.who ≠ y.who) (k : Nat) : gOf (af2 l y) k = auy (gOf l) y.who y k := by
 have hp := avh h hy
 have hm : ∀ z,z ∈ af2 l y ↔ z ∈ l ∨ z = y := fun z => by
  constructor
  ·exact aoz
  ·unfold af2
   rw [List.mem_append,List.mem_cons]
   intro h
   rcases h with h | rfl
   ·rw [← List.takeWhile_append_dropWhile (p := fun x => decide (x.who < y.who)) (l := l),List.mem_append] at h
    rcases h with h | h
    ·exact .inl h
    ·exact .inr (.inr h)
   ·exact .inr (.inl rfl)
 unfold auy
 by_cases e : k = y.who
 ·subst e
  rw [if_pos rfl,aq0 hp]
  exact ⟨(hm y).2 (.inr rfl),rfl⟩
 ·rw [if_neg e]
  cases e2 : gOf l k with
  |some z =>
   obtain ⟨h1,h2⟩ := abu e2
   rw [aq0 hp]
   exact ⟨(hm z).2 (.inl h1),h2⟩
  |none =>
   cases e4 : gOf (af2 l y) k with
   |none => rfl
   |some z =>
    obtain ⟨h1,h2⟩ := abu e4
    rcases (hm z).1 h1 with h1 | rfl
    ·exact absurd h2 (agd e2 z h1)
    ·exact absurd h2.symm e
theorem aAv (h : l.Pairwise fun a b => a.who < b.who) (hw : ∀ x ∈ l,x.who < 256) {xs : List Vlt} (hx : LsG (gOf l) xs) : xs.Perm l := by
 obtain ⟨ks,⟨hn,hk⟩,rfl⟩ := hx
 have hp : ks.Perm (l.map Vlt.who) := (List.perm_ext_iff_of_nodup hn (agw h)).2 fun k => by
  rw [hk,← ajd]
  unfold fG
  constructor
  ·rintro ⟨_,h2⟩
   cases e : (gOf l k).isSome
   ·rw [e] at h2; simp at h2
   ·rfl
  ·intro h2
   refine ⟨?_,by rw [h2]; simp⟩
   obtain ⟨x,hx⟩ := Option.isSome_iff_exists.1 h2
   obtain ⟨h3,h4⟩ := abu hx
   have := hw x h3
   omega
 refine (hp.map _).trans (List.Perm.of_eq ?_)
 rw [List.map_map]
 conv => rhs; rw [← List.map_id l]
 refine List.map_congr_left fun x hx => ?_
 simp [awd h hx]
theorem ag8 : ∀ {s t : List Vlt},s.Perm t → s.Pairwise (fun a b => a.who < b.who) → t.Pairwise (fun a b => a.who < b.who) → s = t
 |[],t,p,_,_ => p.nil_eq
 |a :: s,[],p,_,_ => by have := p.length_eq; simp at this
 |a :: s,b :: t,p,hs,ht => by
  rw [List.pairwise_cons] at hs ht
  have e : a = b := by
   have h1 : a ∈ b :: t := p.mem_iff.1 List.mem_cons_self
   have h2 : b ∈ a :: s := p.mem_iff.2 List.mem_cons_self
   rcases List.mem_cons.1 h1 with h | h
   ·exact h
   ·rcases List.mem_cons.1 h2 with h' | h'
    ·exact h'.symm
    ·have := hs.1 b h'; have := ht.1 a h; omega
  subst e
  rw [ag8 ((List.perm_cons a).1 p) hs.2 ht.2]
end
structure VLs (l : List Vlt) : Prop where
 asc : l.Pairwise fun a b => a.who < b.who
 who : ∀ x ∈ l,x.who < 256
 addr : ∀ x ∈ l,x.addr.length = 20
 len : l.length ≤ 64
theorem Bok.Ok.vls {M : Bok} (h : M.Ok) : VLs M.vs := ⟨h.asc,fun x hx => (h.vok x hx).who,fun x hx => (h.vok x hx).addr,h.len⟩
end Go.Proofs.YtohckefafbhooaaGreat
