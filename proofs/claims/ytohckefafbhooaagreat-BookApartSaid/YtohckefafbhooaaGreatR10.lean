import Derived.Test.YtohckefafbhooaaGreatR3
import Derived.Test.YtohckefafbhooaaGreatR7
import Derived.Test.YtohckefafbhooaaGreatR9
import Derived.Test.YtohckefafbhooaaGreatR8
namespace Go.Proofs.YtohckefafbhooaaGreat
set_option maxRecDepth 100000
set_option linter.unusedVariables false
set_option linter.unusedSimpArgs false
structure Vlt where
 who : Nat
 addr : List UInt8
 coll : Nat
 iss : Nat
 com : Nat
 goi : Nat
 lea : Nat
 fal : Bool
structure Bok where
 now : Nat
 price : Nat
 told : Nat
 tok : Nat → Nat
 free : Nat → Nat
 held : Nat
 inn : Nat
 out : Nat
 pc : Nat
 pn : Nat
 dep : Nat
 vs : List Vlt
structure Dd where
 kind : Nat
 w : Nat
 v : Nat
 a : Nat
 addr : List UInt8
def atV (l : List Vlt) (w : Nat) : Nat := l.findIdx fun x => x.who == w
abbrev acp := Bok × Nat × Int
def Bok.no (M : Bok) (e : Int) : acp := (M,0,e)
def Bok.uh (M : Bok) (j : Nat) (y : Vlt) : Bok := { M with vs := M.vs.set j y }
def opE (M : Bok) (w a : Nat) (fo : Bool) : Int :=
 if a = 0 ∨ 4611686018427387904 < a then 1 else match M.vs[atV M.vs w]? with
  |none => 12
  |some x => if x.fal = true ∧ fo = false then 20 else 0
def ahw (R : Nat → Nat) (M : Bok) (c q : Nat) : Int :=
 if prE (R 4) M.price M.told M.now = 0 then (if 4611686018427387904 < q then 4 else if enP c q M.price (R 0) then 0 else 19) else prE (R 4) M.price M.told M.now
def Vlt.bur (x : Vlt) : Nat := x.iss + x.com + x.goi
def upP (a b c : Nat) : Nat := if a * b % c = 0 then a * b / c else a * b / c + 1
def afa (M : Bok) (w a j : Nat) (x : Vlt) : acp := if M.free w < a then M.no 16 else ({ M.uh j { x with coll := x.coll + a } with free := upd M.free w (M.free w - a),held := M.held + a },0,0)
def adv (R : Nat → Nat) (M : Bok) (w a j : Nat) (x : Vlt) : acp := if x.coll < a then M.no 16 else if ahw R M (x.coll - a) x.bur = 0 then ({ M.uh j { x with coll := x.coll - a } with free := upd M.free w (M.free w + a),held := M.held - a },0,0) else M.no (ahw R M (x.coll - a) x.bur)
def uo (R : Nat → Nat) (M : Bok) (a j : Nat) (x : Vlt) : acp := if ahw R M x.coll (x.bur + a) = 0 then (M.uh j { x with com := x.com + a },0,0) else M.no (ahw R M x.coll (x.bur + a))
def zy (M : Bok) (a j : Nat) (x : Vlt) : acp := if x.com < a then M.no 16 else (M.uh j { x with com := x.com - a },0,0)
def adt (M : Bok) (v a j : Nat) (x : Vlt) : acp := if x.com < a then M.no 16 else if 4611686018427387904 < uy M.tok 256 + a then M.no 4 else ({ M.uh j { x with com := x.com - a,iss := x.iss + a } with tok := upd M.tok v (M.tok v + a) },0,0)
def adk (M : Bok) (v a j : Nat) (x : Vlt) : acp := if x.iss - x.lea < a ∨ M.tok v < a then M.no 16 else ({ M.uh j { x with iss := x.iss - a,goi := x.goi + a } with tok := upd M.tok v (M.tok v - a) },0,0)
def ads (M : Bok) (a j : Nat) (x : Vlt) : acp := if x.goi < a then M.no 16 else if x.fal = true then ({ M.uh j { x with coll := x.coll - x.coll * a / x.goi,goi := x.goi - a } with pc := M.pc + x.coll * a / x.goi },0,0) else (M.uh j { x with goi := x.goi - a },0,0)
def zo (M : Bok) (v a j : Nat) (x : Vlt) : acp := if x.goi < a then M.no 16 else if 4611686018427387904 < uy M.tok 256 + a then M.no 4 else
 if x.fal = true then ({ M.uh j { x with coll := x.coll - x.coll * a / x.goi,goi := x.goi - a } with pc := M.pc + x.coll * a / x.goi,pn := M.pn + a,tok := upd M.tok v (M.tok v + a) },0,0)
 else ({ M.uh j { x with goi := x.goi - a,iss := x.iss + a } with tok := upd M.tok v (M.tok v + a) },0,0)
def acn (M : Bok) (v a j : Nat) (x : Vlt) : acp := ({ M.uh j { x with coll := x.coll - min a x.coll } with free := upd M.free v (M.free v + min a x.coll),held := M.held - min a x.coll },min a x.coll,0)
def leaveD (M : Bok) (a j : Nat) (x : Vlt) : acp := if x.iss - x.lea < a then M.no 16 else (M.uh j { x with lea := x.lea + a },0,0)
def ae8 (M : Bok) (a j : Nat) (x : Vlt) : acp := if x.lea < a then M.no 16 else (M.uh j { x with lea := x.lea - a },0,0)
def adw (M : Bok) (w v a j : Nat) (x : Vlt) : acp := if opE M v a false = 0 then (if v = w then M.no 9 else match M.vs[atV M.vs v]? with
  |none => M.no 12
  |some u => if x.lea < a ∨ u.com < a then M.no 16 else ((M.uh j { x with lea := x.lea - a,iss := x.iss - a }).uh (atV M.vs v) { u with com := u.com - a,iss := u.iss + a },0,0))
 else M.no (opE M v a false)
def kpN (x : Vlt) : Nat := if 0 < x.goi then upP x.coll x.goi (x.iss + x.goi) else 0
def ah0 (M : Bok) (j : Nat) (x : Vlt) : acp := ({ M.uh j { x with coll := kpN x,iss := 0,lea := 0,fal := true } with pc := M.pc + (x.coll - kpN x),pn := M.pn + x.iss },0,0)
def af2 (l : List Vlt) (y : Vlt) : List Vlt := (l.takeWhile fun x => decide (x.who < y.who)) ++ y :: l.dropWhile fun x => decide (x.who < y.who)
def ji (M : Bok) (w a : Nat) (A : List UInt8) : acp := if 4611686018427387904 < a then M.no 1 else if ∃ x ∈ M.vs,x.who = w ∨ x.addr = A then M.no 9 else if 64 ≤ M.vs.length then M.no 10 else if M.free w < a then M.no 16 else
 ({ M with free := upd M.free w (M.free w - a),held := M.held + a,vs := af2 M.vs ⟨w,A,a,0,0,0,0,false⟩ },0,0)
def inD (M : Bok) (w a : Nat) : acp := if 4611686018427387904 < a then M.no 1 else if 4611686018427387904 < M.inn + a ∨ 4611686018427387904 < M.inn - M.out + a then M.no 4 else ({ M with inn := M.inn + a,free := upd M.free w (M.free w + a) },0,0)
def agi (M : Bok) (w a : Nat) : acp := if 4611686018427387904 < a then M.no 1 else if M.free w < a then M.no 16 else if 4611686018427387904 < M.out + a then M.no 4 else ({ M with out := M.out + a,free := upd M.free w (M.free w - a) },0,0)
def aa8 (M : Bok) (w v a : Nat) : acp := if a = 0 ∨ 4611686018427387904 < a then M.no 1 else if M.tok w < a then M.no 16 else ({ M with tok := upd (upd M.tok w (M.tok w - a)) v (upd M.tok w (M.tok w - a) v + a) },0,0)
def su (M : Bok) (w a : Nat) : acp := if a = 0 ∨ 4611686018427387904 < a then M.no 1 else if M.tok w < a ∨ M.pn < a then M.no 16 else
 ({ M with tok := upd M.tok w (M.tok w - a),pn := M.pn - a,pc := M.pc - M.pc * a / M.pn,held := M.held - M.pc * a / M.pn,free := upd M.free w (M.free w + M.pc * a / M.pn) },M.pc * a / M.pn,0)
def qj (M : Bok) (w a : Nat) : acp := if a = 0 ∨ 4611686018427387904 < a then M.no 1 else if M.free w < a then M.no 16 else ({ M with free := upd M.free w (M.free w - a),held := M.held + a,dep := M.dep + a },0,0)
def uz (M : Bok) (w a : Nat) : acp := if a = 0 ∨ 4611686018427387904 < a then M.no 1 else if M.dep < a then M.no 16 else ({ M with dep := M.dep - a,held := M.held - a,free := upd M.free w (M.free w + a) },0,0)
def aeb (M : Bok) (a : Nat) : acp := if 1099511627776 < M.now + a then M.no 4 else ({ M with now := M.now + a },0,0)
def yh (R : Nat → Nat) (M : Bok) (a : Nat) : acp := if seE (R 3) M.price M.told a M.now = 0 then ({ M with price := a,told := M.now },0,0) else M.no (seE (R 3) M.price M.told a M.now)
def ac9 (k : Nat) : Bool := k == 9 || k == 12 || k == 13 || k == 14
def aam (R : Nat → Nat) (M : Bok) (d : Dd) (j : Nat) (x : Vlt) : acp := match d.kind with
 |6 => afa M d.w d.a j x
 |7 => adv R M d.w d.a j x
 |8 => uo R M d.a j x
 |9 => zy M d.a j x
 |10 => adt M d.v d.a j x
 |11 => adk M d.v d.a j x
 |12 => ads M d.a j x
 |13 => zo M d.v d.a j x
 |14 => acn M d.v d.a j x
 |15 => leaveD M d.a j x
 |16 => ae8 M d.a j x
 |17 => adw M d.w d.v d.a j x
 |_ => ah0 M j x
def ar2 (d : Dd) : Nat := if d.kind = 18 then 1 else d.a
def jk (R : Nat → Nat) (M : Bok) (d : Dd) : acp := if opE M d.w (ar2 d) (ac9 d.kind) = 0 then (match M.vs[atV M.vs d.w]? with
  |none => M.no 12
  |some x => aam R M d (atV M.vs d.w) x) else M.no (opE M d.w (ar2 d) (ac9 d.kind))
def jf (R : Nat → Nat) (M : Bok) (d : Dd) : acp := match d.kind with
 |0 => aeb M d.a
 |1 => yh R M d.a
 |2 => inD M d.w d.a
 |3 => agi M d.w d.a
 |4 => aa8 M d.w d.v d.a
 |5 => ji M d.w d.a d.addr
 |19 => su M d.w d.a
 |20 => qj M d.w d.a
 |21 => uz M d.w d.a
 |_ => jk R M d
def ac7 (f : Vlt → Nat) (l : List Vlt) : Nat := (l.map f).sum
theorem azn (f : Vlt → Nat) : ac7 f [] = 0 := rfl
theorem abh (f : Vlt → Nat) (x : Vlt) (l : List Vlt) : ac7 f (x :: l) = f x + ac7 f l := by unfold ac7; simp
theorem af8 (f : Vlt → Nat) (a b : List Vlt) : ac7 f (a ++ b) = ac7 f a + ac7 f b := by unfold ac7; simp
theorem jm (f : Vlt → Nat) (y : Vlt) : ∀ (l : List Vlt) (j : Nat) (x : Vlt),l[j]? = some x → ac7 f (l.set j y) + f x = ac7 f l + f y
 |[],j,x,h => by cases h
 |z :: l,0,x,h => by cases h; rw [List.set_cons_zero,abh,abh]; omega
 |z :: l,j + 1,x,h => by
  have := jm f y l j x h
  rw [List.set_cons_succ,abh,abh]
  omega
theorem qx (f : Vlt → Nat) : ∀ (l : List Vlt) (x : Vlt),x ∈ l → f x ≤ ac7 f l
 |z :: l,x,h => by
  rw [abh]
  rcases List.mem_cons.1 h with rfl | h
  ·omega
  ·have := qx f l x h; omega
theorem aq2 (f : Vlt → Nat) (l : List Vlt) (y : Vlt) : ac7 f (af2 l y) = ac7 f l + f y := by
 unfold af2
 have := af8 f (l.takeWhile fun x => decide (x.who < y.who)) (l.dropWhile fun x => decide (x.who < y.who))
 rw [List.takeWhile_append_dropWhile] at this
 rw [af8,abh]
 omega
structure Vlt.Ok (x : Vlt) : Prop where
 who : x.who < 256
 addr : x.addr.length = 20
 bur : x.bur ≤ 4611686018427387904
 lea : x.lea ≤ x.iss
structure Bok.Ok (M : Bok) : Prop where
 tok : uy M.tok 256 = ac7 Vlt.iss M.vs + M.pn
 most : uy M.tok 256 ≤ 4611686018427387904
 held : M.held = ac7 Vlt.coll M.vs + M.pc + M.dep
 inn : uy M.free 256 + M.held + M.out = M.inn
 paid : M.inn ≤ 4611686018427387904
 vok : ∀ x ∈ M.vs,x.Ok
 asc : M.vs.Pairwise fun x y => x.who < y.who
 len : M.vs.length ≤ 64
 price : M.price ≤ 1099511627776
 told : M.told ≤ 1099511627776
 now : M.now ≤ 1099511627776
theorem jh {l : List Vlt} {j : Nat} {x : Vlt} (h : l[j]? = some x) : x ∈ l := List.mem_of_getElem? h
theorem ake {l : List Vlt} {j : Nat} {x y : Vlt} (h : x ∈ l.set j y) : x ∈ l ∨ x = y := by
 rcases List.mem_or_eq_of_mem_set h with h | h
 ·exact .inl h
 ·exact .inr h
theorem ajt {l : List Vlt} (h : l.Pairwise fun a b => a.who < b.who) {j : Nat} {x y : Vlt} (hr : l[j]? = some x) (he : y.who = x.who) : (l.set j y).Pairwise fun a b => a.who < b.who := by
 rw [List.pairwise_iff_getElem] at h ⊢
 intro a b ha hb hab
 rw [List.length_set] at ha hb
 have hj := (List.getElem?_eq_some_iff.1 hr)
 rw [List.getElem_set,List.getElem_set]
 have := h a b ha hb hab
 split
 ·subst_vars
  rw [if_neg (by omega),he,← hj.2]
  exact this
 ·split
  ·subst_vars
   rw [he,← hj.2]
   exact this
  ·exact this
theorem Bok.Ok.put {M : Bok} (h : M.Ok) {j : Nat} {x y : Vlt} (hr : M.vs[j]? = some x) (hw : y.who = x.who) (ha : y.addr = x.addr) (hb : y.bur ≤ 4611686018427387904) (hl : y.lea ≤ y.iss) :
  (∀ z ∈ M.vs.set j y,z.Ok) ∧ (M.vs.set j y).Pairwise (fun a b => a.who < b.who) ∧ (M.vs.set j y).length ≤ 64 := by
 have hx := h.vok x (jh hr)
 refine ⟨fun z hz => ?_,ajt h.asc hr hw,by rw [List.length_set]; exact h.len⟩
 rcases ake hz with hz | rfl
 ·exact h.vok z hz
 ·exact ⟨by rw [hw]; exact hx.who,by rw [ha]; exact hx.addr,hb,hl⟩
section
variable {M : Bok} {j : Nat} {x : Vlt}
theorem Bok.Ok.uf (h : M.Ok) (hr : M.vs[j]? = some x) : x.coll ≤ M.held := by
 have := qx Vlt.coll M.vs x (jh hr)
 have := h.held
 omega
theorem Bok.Ok.aJ2 (h : M.Ok) (hr : M.vs[j]? = some x) : x.iss ≤ uy M.tok 256 := by
 have := qx Vlt.iss M.vs x (jh hr)
 have := h.tok
 omega
theorem Bok.Ok.yj (h : M.Ok) : M.held ≤ 4611686018427387904 := by have := h.inn; have := h.paid; omega
theorem Bok.Ok.uq (h : M.Ok) {k : Nat} (hk : k < 256) : M.tok k ≤ 4611686018427387904 := Nat.le_trans (agq M.tok 256 k hk) h.most
theorem Bok.Ok.jy (h : M.Ok) {k : Nat} (hk : k < 256) : M.free k + M.held + M.out ≤ 4611686018427387904 := by have := agq M.free 256 k hk; have := h.inn; have := h.paid; omega
end
end Go.Proofs.YtohckefafbhooaaGreat
namespace Go.Proofs.YtohckefafbhooaaGreat
set_option maxRecDepth 100000
set_option linter.unusedVariables false
set_option linter.unusedSimpArgs false
section
variable {M : Bok} {j w v a : Nat} {x : Vlt} {R : Nat → Nat}
theorem aEb (h : M.Ok) (hw : w < 256) (hr : M.vs[j]? = some x) : (afa M w a j x).1.Ok := by
 unfold afa
 split
 ·exact h
 ·have hx := h.vok x (jh hr)
  obtain ⟨p1,p2,p3⟩ := h.put hr (y := { x with coll := x.coll + a }) rfl rfl hx.bur hx.lea
  have s1 := jm Vlt.coll { x with coll := x.coll + a } M.vs j x hr
  have s2 := jm Vlt.iss { x with coll := x.coll + a } M.vs j x hr
  have u := qy M.free (M.free w - a) 256 w hw
  have t1 := h.tok; have t2 := h.most; have t3 := h.held; have t4 := h.inn; have t5 := h.paid
  dsimp only at s1 s2
  refine ⟨?_,?_,?_,?_,?_,p1,p2,p3,h.price,h.told,h.now⟩ <;> dsimp only [Bok.uh] <;> omega
theorem aEj (h : M.Ok) (hw : w < 256) (hr : M.vs[j]? = some x) : (adv R M w a j x).1.Ok := by
 unfold adv
 split
 ·exact h
 ·split
  ·have hx := h.vok x (jh hr)
   have hc := h.uf hr
   obtain ⟨p1,p2,p3⟩ := h.put hr (y := { x with coll := x.coll - a }) rfl rfl hx.bur hx.lea
   have s1 := jm Vlt.coll { x with coll := x.coll - a } M.vs j x hr
   have s2 := jm Vlt.iss { x with coll := x.coll - a } M.vs j x hr
   have u := qy M.free (M.free w + a) 256 w hw
   have t1 := h.tok; have t2 := h.most; have t3 := h.held; have t4 := h.inn; have t5 := h.paid
   dsimp only at s1 s2
   refine ⟨?_,?_,?_,?_,?_,p1,p2,p3,h.price,h.told,h.now⟩ <;> dsimp only [Bok.uh] <;> omega
  ·exact h
theorem aDq {c q : Nat} (h : ahw R M c q = 0) : q ≤ 4611686018427387904 := by
 unfold ahw at h
 split at h
 ·split at h
  ·cases h
  ·omega
 ·contradiction
theorem as4 (h : M.Ok) (hr : M.vs[j]? = some x) : (uo R M a j x).1.Ok := by
 unfold uo
 split
 ·rename_i hs
  have hx := h.vok x (jh hr)
  have hb := aDq hs
  obtain ⟨p1,p2,p3⟩ := h.put hr (y := { x with com := x.com + a }) rfl rfl (by unfold Vlt.bur at hb ⊢; dsimp only; omega) hx.lea
  have s1 := jm Vlt.coll { x with com := x.com + a } M.vs j x hr
  have s2 := jm Vlt.iss { x with com := x.com + a } M.vs j x hr
  have t1 := h.tok; have t2 := h.most; have t3 := h.held; have t4 := h.inn; have t5 := h.paid
  dsimp only at s1 s2
  refine ⟨?_,?_,?_,?_,?_,p1,p2,p3,h.price,h.told,h.now⟩ <;> dsimp only [Bok.uh] <;> omega
 ·exact h
theorem as5 (h : M.Ok) (hr : M.vs[j]? = some x) : (zy M a j x).1.Ok := by
 unfold zy
 split
 ·exact h
 ·have hx := h.vok x (jh hr)
  have hb := hx.bur
  obtain ⟨p1,p2,p3⟩ := h.put hr (y := { x with com := x.com - a }) rfl rfl (by unfold Vlt.bur at hb ⊢; dsimp only; omega) hx.lea
  have s1 := jm Vlt.coll { x with com := x.com - a } M.vs j x hr
  have s2 := jm Vlt.iss { x with com := x.com - a } M.vs j x hr
  have t1 := h.tok; have t2 := h.most; have t3 := h.held; have t4 := h.inn; have t5 := h.paid
  dsimp only at s1 s2
  refine ⟨?_,?_,?_,?_,?_,p1,p2,p3,h.price,h.told,h.now⟩ <;> dsimp only [Bok.uh] <;> omega
theorem aEh (h : M.Ok) (hv : v < 256) (hr : M.vs[j]? = some x) : (adt M v a j x).1.Ok := by
 unfold adt
 split
 ·exact h
 ·split
  ·exact h
  ·have hx := h.vok x (jh hr)
   have hb := hx.bur
   have hl := hx.lea
   obtain ⟨p1,p2,p3⟩ := h.put hr (y := { x with com := x.com - a,iss := x.iss + a }) rfl rfl (by unfold Vlt.bur at hb ⊢; dsimp only; omega) (by dsimp only; omega)
   have s1 := jm Vlt.coll { x with com := x.com - a,iss := x.iss + a } M.vs j x hr
   have s2 := jm Vlt.iss { x with com := x.com - a,iss := x.iss + a } M.vs j x hr
   have u := qy M.tok (M.tok v + a) 256 v hv
   have t1 := h.tok; have t2 := h.most; have t3 := h.held; have t4 := h.inn; have t5 := h.paid
   dsimp only at s1 s2
   refine ⟨?_,?_,?_,?_,?_,p1,p2,p3,h.price,h.told,h.now⟩ <;> dsimp only [Bok.uh] <;> omega
theorem aFk (h : M.Ok) (hv : v < 256) (hr : M.vs[j]? = some x) : (adk M v a j x).1.Ok := by
 unfold adk
 split
 ·exact h
 ·have hx := h.vok x (jh hr)
  have hb := hx.bur
  have hl := hx.lea
  obtain ⟨p1,p2,p3⟩ := h.put hr (y := { x with iss := x.iss - a,goi := x.goi + a }) rfl rfl (by unfold Vlt.bur at hb ⊢; dsimp only; omega) (by dsimp only; omega)
  have s1 := jm Vlt.coll { x with iss := x.iss - a,goi := x.goi + a } M.vs j x hr
  have s2 := jm Vlt.iss { x with iss := x.iss - a,goi := x.goi + a } M.vs j x hr
  have u := qy M.tok (M.tok v - a) 256 v hv
  have t1 := h.tok; have t2 := h.most; have t3 := h.held; have t4 := h.inn; have t5 := h.paid
  dsimp only at s1 s2
  refine ⟨?_,?_,?_,?_,?_,p1,p2,p3,h.price,h.told,h.now⟩ <;> dsimp only [Bok.uh] <;> omega
theorem afd {c a b : Nat} (h : a ≤ b) : c * a / b ≤ c := by
 rcases Nat.eq_zero_or_pos b with h0 | h0
 ·subst h0; simp
 ·exact Nat.div_le_of_le_mul (by rw [Nat.mul_comm b c]; exact Nat.mul_le_mul_left _ h)
theorem aD1 (h : M.Ok) (hr : M.vs[j]? = some x) : (ads M a j x).1.Ok := by
 unfold ads
 split
 ·exact h
 ·have hx := h.vok x (jh hr)
  have hb := hx.bur
  have hl := hx.lea
  have t1 := h.tok; have t2 := h.most; have t3 := h.held; have t4 := h.inn; have t5 := h.paid
  have hp : x.coll * a / x.goi ≤ x.coll := afd (by omega)
  generalize x.coll * a / x.goi = c at *
  split
  ·obtain ⟨p1,p2,p3⟩ := h.put hr (y := { x with coll := x.coll - c,goi := x.goi - a }) rfl rfl (by unfold Vlt.bur at hb ⊢; dsimp only; omega) hl
   have s1 := jm Vlt.coll { x with coll := x.coll - c,goi := x.goi - a } M.vs j x hr
   have s2 := jm Vlt.iss { x with coll := x.coll - c,goi := x.goi - a } M.vs j x hr
   dsimp only at s1 s2
   refine ⟨?_,?_,?_,?_,?_,p1,p2,p3,h.price,h.told,h.now⟩ <;> dsimp only [Bok.uh] <;> omega
  ·obtain ⟨p1,p2,p3⟩ := h.put hr (y := { x with goi := x.goi - a }) rfl rfl (by unfold Vlt.bur at hb ⊢; dsimp only; omega) hl
   have s1 := jm Vlt.coll { x with goi := x.goi - a } M.vs j x hr
   have s2 := jm Vlt.iss { x with goi := x.goi - a } M.vs j x hr
   dsimp only at s1 s2
   refine ⟨?_,?_,?_,?_,?_,p1,p2,p3,h.price,h.told,h.now⟩ <;> dsimp only [Bok.uh] <;> omega
theorem axa (h : M.Ok) (hv : v < 256) (hr : M.vs[j]? = some x) : (zo M v a j x).1.Ok := by
 unfold zo
 split
 ·exact h
 ·split
  ·exact h
  ·have hx := h.vok x (jh hr)
   have hb := hx.bur
   have hl := hx.lea
   have u := qy M.tok (M.tok v + a) 256 v hv
   have t1 := h.tok; have t2 := h.most; have t3 := h.held; have t4 := h.inn; have t5 := h.paid
   have hp : x.coll * a / x.goi ≤ x.coll := afd (by omega)
   generalize x.coll * a / x.goi = c at *
   split
   ·obtain ⟨p1,p2,p3⟩ := h.put hr (y := { x with coll := x.coll - c,goi := x.goi - a }) rfl rfl (by unfold Vlt.bur at hb ⊢; dsimp only; omega) hl
    have s1 := jm Vlt.coll { x with coll := x.coll - c,goi := x.goi - a } M.vs j x hr
    have s2 := jm Vlt.iss { x with coll := x.coll - c,goi := x.goi - a } M.vs j x hr
    dsimp only at s1 s2
    refine ⟨?_,?_,?_,?_,?_,p1,p2,p3,h.price,h.told,h.now⟩ <;> dsimp only [Bok.uh] <;> omega
   ·obtain ⟨p1,p2,p3⟩ := h.put hr (y := { x with goi := x.goi - a,iss := x.iss + a }) rfl rfl (by unfold Vlt.bur at hb ⊢; dsimp only; omega) (by dsimp only; omega)
    have s1 := jm Vlt.coll { x with goi := x.goi - a,iss := x.iss + a } M.vs j x hr
    have s2 := jm Vlt.iss { x with goi := x.goi - a,iss := x.iss + a } M.vs j x hr
    dsimp only at s1 s2
    refine ⟨?_,?_,?_,?_,?_,p1,p2,p3,h.price,h.told,h.now⟩ <;> dsimp only [Bok.uh] <;> omega
theorem azt (h : M.Ok) (hv : v < 256) (hr : M.vs[j]? = some x) : (acn M v a j x).1.Ok := by
 unfold acn
 have hx := h.vok x (jh hr)
 have hc := h.uf hr
 have hn : min a x.coll ≤ x.coll := Nat.min_le_right _ _
 generalize min a x.coll = n at *
 obtain ⟨p1,p2,p3⟩ := h.put hr (y := { x with coll := x.coll - n }) rfl rfl hx.bur hx.lea
 have s1 := jm Vlt.coll { x with coll := x.coll - n } M.vs j x hr
 have s2 := jm Vlt.iss { x with coll := x.coll - n } M.vs j x hr
 have u := qy M.free (M.free v + n) 256 v hv
 have t1 := h.tok; have t2 := h.most; have t3 := h.held; have t4 := h.inn; have t5 := h.paid
 dsimp only at s1 s2
 refine ⟨?_,?_,?_,?_,?_,p1,p2,p3,h.price,h.told,h.now⟩ <;> dsimp only [Bok.uh] <;> omega
theorem aAy (h : M.Ok) (hr : M.vs[j]? = some x) : (leaveD M a j x).1.Ok := by
 unfold leaveD
 split
 ·exact h
 ·have hx := h.vok x (jh hr)
  have hl := hx.lea
  obtain ⟨p1,p2,p3⟩ := h.put hr (y := { x with lea := x.lea + a }) rfl rfl hx.bur (by dsimp only; omega)
  have s1 := jm Vlt.coll { x with lea := x.lea + a } M.vs j x hr
  have s2 := jm Vlt.iss { x with lea := x.lea + a } M.vs j x hr
  have t1 := h.tok; have t2 := h.most; have t3 := h.held; have t4 := h.inn; have t5 := h.paid
  dsimp only at s1 s2
  refine ⟨?_,?_,?_,?_,?_,p1,p2,p3,h.price,h.told,h.now⟩ <;> dsimp only [Bok.uh] <;> omega
theorem aDh (h : M.Ok) (hr : M.vs[j]? = some x) : (ae8 M a j x).1.Ok := by
 unfold ae8
 split
 ·exact h
 ·have hx := h.vok x (jh hr)
  have hl := hx.lea
  obtain ⟨p1,p2,p3⟩ := h.put hr (y := { x with lea := x.lea - a }) rfl rfl hx.bur (by dsimp only; omega)
  have s1 := jm Vlt.coll { x with lea := x.lea - a } M.vs j x hr
  have s2 := jm Vlt.iss { x with lea := x.lea - a } M.vs j x hr
  have t1 := h.tok; have t2 := h.most; have t3 := h.held; have t4 := h.inn; have t5 := h.paid
  dsimp only at s1 s2
  refine ⟨?_,?_,?_,?_,?_,p1,p2,p3,h.price,h.told,h.now⟩ <;> dsimp only [Bok.uh] <;> omega
theorem zq {l : List Vlt} {w : Nat} {x : Vlt} (h : l[atV l w]? = some x) : x.who = w := by
 obtain ⟨hl,e⟩ := List.getElem?_eq_some_iff.1 h
 have := List.findIdx_getElem (xs := l) (p := fun x : Vlt => x.who == w) (w := hl)
 rw [← e]
 exact eq_of_beq this
theorem aEq (h : M.Ok) (hr : M.vs[j]? = some x) (hw : x.who = w) : (adw M w v a j x).1.Ok := by
 unfold adw
 split
 ·split
  ·exact h
  ·rename_i hvw
   cases hu : M.vs[atV M.vs v]? with
   |none => exact h
   |some u =>
    dsimp only
    split
    ·exact h
    ·have hx := h.vok x (jh hr)
     have hb := hx.bur
     have hl := hx.lea
     have hy := h.vok u (jh hu)
     have hby := hy.bur
     have hly := hy.lea
     have hne : atV M.vs v ≠ j := fun e => by
      rw [e,hr] at hu
      cases hu
      have := zq (l := M.vs) (w := v) (x := x) (by rw [e]; exact hr)
      omega
     obtain ⟨i,hi⟩ : ∃ i,atV M.vs v = i := ⟨_,rfl⟩
     rw [hi] at hu hne ⊢
     have K := h.put hr (y := { x with lea := x.lea - a,iss := x.iss - a }) rfl rfl (by unfold Vlt.bur at hb ⊢; dsimp only; omega) (by dsimp only; omega)
     have s1 := jm Vlt.coll { x with lea := x.lea - a,iss := x.iss - a } M.vs j x hr
     have s2 := jm Vlt.iss { x with lea := x.lea - a,iss := x.iss - a } M.vs j x hr
     have hu2 : (M.vs.set j { x with lea := x.lea - a,iss := x.iss - a })[i]? = some u := by rw [List.getElem?_set_ne (Ne.symm hne)]; exact hu
     have s3 := jm Vlt.coll { u with com := u.com - a,iss := u.iss + a } _ i u hu2
     have s4 := jm Vlt.iss { u with com := u.com - a,iss := u.iss + a } _ i u hu2
     have t1 := h.tok; have t2 := h.most; have t3 := h.held; have t4 := h.inn; have t5 := h.paid
     dsimp only at s1 s2 s3 s4
     refine ⟨?_,?_,?_,?_,?_,fun z hz => ?_,ajt K.2.1 hu2 rfl,by dsimp only [Bok.uh]; rw [List.length_set]; exact K.2.2,h.price,h.told,h.now⟩
     ·dsimp only [Bok.uh]; omega
     ·dsimp only [Bok.uh]; omega
     ·dsimp only [Bok.uh]; omega
     ·dsimp only [Bok.uh]; omega
     ·dsimp only [Bok.uh]; omega
     ·rcases ake hz with hz | rfl
      ·exact K.1 z hz
      ·exact ⟨hy.who,hy.addr,by unfold Vlt.bur at hby ⊢; dsimp only; omega,by dsimp only; omega⟩
 ·exact h
theorem aJb {c g b : Nat} (h : g ≤ b) (hg : 0 < g) : upP c g b ≤ c := by
 unfold upP
 have hb : 0 < b := by omega
 have hm : c * g ≤ c * b := Nat.mul_le_mul_left _ h
 split
 ·exact afd h
 ·rename_i hne
  have h1 := Nat.div_add_mod (c * g) b
  have h2 : b * (c * g / b) < b * c := by
   have : c * b = b * c := Nat.mul_comm _ _
   omega
  have := Nat.lt_of_mul_lt_mul_left h2
  omega
theorem aqy (x : Vlt) : kpN x ≤ x.coll := by
 unfold kpN
 split
 ·exact aJb (by omega) (by assumption)
 ·omega
theorem aEu (h : M.Ok) (hr : M.vs[j]? = some x) : (ah0 M j x).1.Ok := by
 unfold ah0
 have hx := h.vok x (jh hr)
 have hb := hx.bur
 have hk := aqy x
 generalize kpN x = k at *
 obtain ⟨p1,p2,p3⟩ := h.put hr (y := { x with coll := k,iss := 0,lea := 0,fal := true }) rfl rfl (by unfold Vlt.bur at hb ⊢; dsimp only; omega) (Nat.le_refl _)
 have s1 := jm Vlt.coll { x with coll := k,iss := 0,lea := 0,fal := true } M.vs j x hr
 have s2 := jm Vlt.iss { x with coll := k,iss := 0,lea := 0,fal := true } M.vs j x hr
 have t1 := h.tok; have t2 := h.most; have t3 := h.held; have t4 := h.inn; have t5 := h.paid
 dsimp only at s1 s2
 refine ⟨?_,?_,?_,?_,?_,p1,p2,p3,h.price,h.told,h.now⟩ <;> dsimp only [Bok.uh] <;> omega
theorem aoz {l : List Vlt} {y z : Vlt} (h : z ∈ af2 l y) : z ∈ l ∨ z = y := by
 unfold af2 at h
 rcases List.mem_append.1 h with h | h
 ·exact .inl (List.takeWhile_sublist _ |>.subset h)
 ·rcases List.mem_cons.1 h with rfl | h
  ·exact .inr rfl
  ·exact .inl (List.dropWhile_sublist _ |>.subset h)
theorem aEk (l : List Vlt) (y : Vlt) : (af2 l y).length = l.length + 1 := by
 unfold af2
 have := congrArg List.length (List.takeWhile_append_dropWhile (p := fun x : Vlt => decide (x.who < y.who)) (l := l))
 rw [List.length_append] at this
 rw [List.length_append,List.length_cons]
 omega
theorem avh : ∀ {l : List Vlt} {y : Vlt},l.Pairwise (fun a b => a.who < b.who) → (∀ x ∈ l,x.who ≠ y.who) → (af2 l y).Pairwise fun a b => a.who < b.who
 |[],y,_,_ => by simp [af2]
 |x :: l,y,hp,hn => by
  obtain ⟨h1,h2⟩ := List.pairwise_cons.1 hp
  by_cases hlt : x.who < y.who
  ·have e : af2 (x :: l) y = x :: af2 l y := by
    unfold af2
    rw [List.takeWhile_cons,List.dropWhile_cons]
    simp only [decide_eq_true hlt,if_true,List.cons_append]
   rw [e]
   refine List.pairwise_cons.2 ⟨fun z hz => ?_,avh h2 fun z hz => hn z (List.mem_cons_of_mem _ hz)⟩
   rcases aoz hz with hz | rfl
   ·exact h1 z hz
   ·exact hlt
  ·have e : af2 (x :: l) y = y :: x :: l := by
    unfold af2
    rw [List.takeWhile_cons,List.dropWhile_cons]
    simp [hlt]
   have hxy : y.who < x.who := by have := hn x (List.mem_cons_self ..); omega
   rw [e]
   refine List.pairwise_cons.2 ⟨fun z hz => ?_,hp⟩
   rcases List.mem_cons.1 hz with rfl | hz
   ·exact hxy
   ·have := h1 z hz; omega
theorem apu (h : M.Ok) (hw : w < 256) {A : List UInt8} (hA : A.length = 20) : (ji M w a A).1.Ok := by
 unfold ji
 split
 ·exact h
 ·split
  ·exact h
  ·rename_i hne
   split
   ·exact h
   ·split
    ·exact h
    ·have s1 := aq2 Vlt.coll M.vs ⟨w,A,a,0,0,0,0,false⟩
     have s2 := aq2 Vlt.iss M.vs ⟨w,A,a,0,0,0,0,false⟩
     have u := qy M.free (M.free w - a) 256 w hw
     have t1 := h.tok; have t2 := h.most; have t3 := h.held; have t4 := h.inn; have t5 := h.paid
     dsimp only at s1 s2
     refine ⟨?_,?_,?_,?_,?_,fun z hz => ?_,avh h.asc fun z hz e => hne ⟨z,hz,.inl e⟩,by dsimp only; rw [aEk]; omega,h.price,h.told,h.now⟩
     ·dsimp only; omega
     ·dsimp only; omega
     ·dsimp only; omega
     ·dsimp only; omega
     ·dsimp only; omega
     ·rcases aoz hz with hz | rfl
      ·exact h.vok z hz
      ·exact ⟨hw,hA,by unfold Vlt.bur; dsimp only; omega,Nat.le_refl _⟩
theorem in_ok (h : M.Ok) (hw : w < 256) : (inD M w a).1.Ok := by
 unfold inD
 split
 ·exact h
 ·split
  ·exact h
  ·have u := qy M.free (M.free w + a) 256 w hw
   have t4 := h.inn; have t5 := h.paid
   refine ⟨h.tok,h.most,h.held,?_,?_,h.vok,h.asc,h.len,h.price,h.told,h.now⟩ <;> dsimp only <;> omega
theorem out_ok (h : M.Ok) (hw : w < 256) : (agi M w a).1.Ok := by
 unfold agi
 split
 ·exact h
 ·split
  ·exact h
  ·split
   ·exact h
   ·have u := qy M.free (M.free w - a) 256 w hw
    have t4 := h.inn; have t5 := h.paid
    refine ⟨h.tok,h.most,h.held,?_,h.paid,h.vok,h.asc,h.len,h.price,h.told,h.now⟩
    dsimp only; omega
theorem aD8 (h : M.Ok) (hw : w < 256) (hv : v < 256) : (aa8 M w v a).1.Ok := by
 unfold aa8
 split
 ·exact h
 ·split
  ·exact h
  ·have u := qy M.tok (M.tok w - a) 256 w hw
   have u2 := qy (upd M.tok w (M.tok w - a)) (upd M.tok w (M.tok w - a) v + a) 256 v hv
   have t1 := h.tok; have t2 := h.most
   refine ⟨?_,?_,h.held,h.inn,h.paid,h.vok,h.asc,h.len,h.price,h.told,h.now⟩ <;> dsimp only <;> omega
theorem axb (h : M.Ok) (hw : w < 256) : (su M w a).1.Ok := by
 unfold su
 split
 ·exact h
 ·split
  ·exact h
  ·have hp : M.pc * a / M.pn ≤ M.pc := afd (by omega)
   generalize M.pc * a / M.pn = s at *
   have u := qy M.tok (M.tok w - a) 256 w hw
   have u2 := qy M.free (M.free w + s) 256 w hw
   have t1 := h.tok; have t2 := h.most; have t3 := h.held; have t4 := h.inn; have t5 := h.paid
   refine ⟨?_,?_,?_,?_,h.paid,h.vok,h.asc,h.len,h.price,h.told,h.now⟩ <;> dsimp only <;> omega
theorem atq (h : M.Ok) (hw : w < 256) : (qj M w a).1.Ok := by
 unfold qj
 split
 ·exact h
 ·split
  ·exact h
  ·have u := qy M.free (M.free w - a) 256 w hw
   have t3 := h.held; have t4 := h.inn
   refine ⟨h.tok,h.most,?_,?_,h.paid,h.vok,h.asc,h.len,h.price,h.told,h.now⟩ <;> dsimp only <;> omega
theorem aw8 (h : M.Ok) (hw : w < 256) : (uz M w a).1.Ok := by
 unfold uz
 split
 ·exact h
 ·split
  ·exact h
  ·have u := qy M.free (M.free w + a) 256 w hw
   have t3 := h.held; have t4 := h.inn
   refine ⟨h.tok,h.most,?_,?_,h.paid,h.vok,h.asc,h.len,h.price,h.told,h.now⟩ <;> dsimp only <;> omega
theorem aDe (h : M.Ok) : (aeb M a).1.Ok := by
 unfold aeb
 split
 ·exact h
 ·exact ⟨h.tok,h.most,h.held,h.inn,h.paid,h.vok,h.asc,h.len,h.price,h.told,by dsimp only; omega⟩
theorem aAc (h : M.Ok) : (yh R M a).1.Ok := by
 unfold yh
 split
 ·rename_i hs
  have : a ≤ 1099511627776 := by
   unfold seE at hs
   split at hs
   ·omega
   ·cases hs
  exact ⟨h.tok,h.most,h.held,h.inn,h.paid,h.vok,h.asc,h.len,this,h.now,h.now⟩
 ·exact h
end
theorem step_ok {R : Nat → Nat} {M : Bok} {d : Dd} (h : M.Ok) (hw : d.w < 256) (hv : d.v < 256) (hA : d.addr.length = 20) : (jf R M d).1.Ok := by
 have hV : (jk R M d).1.Ok := by
  unfold jk
  split
  ·cases hr : M.vs[atV M.vs d.w]? with
   |none => exact h
   |some x =>
    dsimp only
    unfold aam
    split
    ·exact aEb h hw hr
    ·exact aEj h hw hr
    ·exact as4 h hr
    ·exact as5 h hr
    ·exact aEh h hv hr
    ·exact aFk h hv hr
    ·exact aD1 h hr
    ·exact axa h hv hr
    ·exact azt h hv hr
    ·exact aAy h hr
    ·exact aDh h hr
    ·exact aEq h hr (zq hr)
    ·exact aEu h hr
  ·exact h
 unfold jf
 split
 ·exact aDe h
 ·exact aAc h
 ·exact in_ok h hw
 ·exact out_ok h hw
 ·exact aD8 h hw hv
 ·exact apu h hw hA
 ·exact axb h hw
 ·exact atq h hw
 ·exact aw8 h hw
 ·exact hV
end Go.Proofs.YtohckefafbhooaaGreat
namespace Go.Proofs.YtohckefafbhooaaGreat
set_option maxRecDepth 100000
set_option linter.unusedVariables false
set_option linter.unusedSimpArgs false
open Go.RowKit
def a20 (l : List UInt8) : List UInt8 := (l ++ List.replicate 20 0).take 20
theorem vk (l : List UInt8) : (a20 l).length = 20 := by unfold a20; rw [List.length_take,List.length_append,List.length_replicate]; omega
theorem agn {l : List UInt8} (h : l.length = 20) : a20 l = l := by unfold a20; rw [List.take_append_of_le_length (by omega),List.take_of_length_le (by omega)]
def aao (x : Vlt) : List Value := .int .i64 (x.who : Int) :: ((a20 x.addr).map B8 ++ [.int .u64 (x.coll : Int),.int .u64 (x.iss : Int),.int .u64 (x.com : Int),.int .u64 (x.goi : Int),.int .u64 (x.lea : Int),.bool x.fal])
theorem qo (x : Vlt) : (aao x).length = 27 := by
 unfold aao
 rw [List.length_cons,List.length_append,List.length_map,vk]
 rfl
theorem amg (x : Vlt) (k : Nat) : (aao x)[21 + k]? = [Value.int .u64 (x.coll : Int),.int .u64 (x.iss : Int),.int .u64 (x.com : Int),.int .u64 (x.goi : Int),.int .u64 (x.lea : Int),.bool x.fal][k]? := by
 unfold aao
 rw [show 21 + k = (20 + k) + 1 by omega,List.getElem?_cons_succ,List.getElem?_append_right (by rw [List.length_map,vk]; omega),List.length_map,vk,Nat.add_sub_cancel_left]
theorem jl (x : Vlt) (k : Nat) (u : Value) : (aao x).set (21 + k) u = .int .i64 (x.who : Int) :: ((a20 x.addr).map B8 ++ [Value.int .u64 (x.coll : Int),.int .u64 (x.iss : Int),.int .u64 (x.com : Int),.int .u64 (x.goi : Int),.int .u64 (x.lea : Int),.bool x.fal].set k u) := by
 unfold aao
 rw [show 21 + k = (20 + k) + 1 by omega,List.set_cons_succ,List.set_append_right _ _ (by rw [List.length_map,vk]; omega),List.length_map,vk,Nat.add_sub_cancel_left]
theorem aru (x : Vlt) : ∀ u ∈ aao x,u.oneCell' = true := fun u hu => by
 unfold aao at hu
 simp only [List.mem_cons,List.mem_append,List.mem_map,List.not_mem_nil,or_false] at hu
 rcases hu with rfl | ⟨b,_,rfl⟩ | rfl | rfl | rfl | rfl | rfl | rfl <;> rfl
theorem Tryz.szRVault : (Tryz.prog.info? 111).map (·.size) = some 27 := by kernel_rfl
theorem Tryz.szRBook : (Tryz.prog.info? 47).map (·.size) = some 533 := by kernel_rfl
theorem Tryz.szDeed20 : (Tryz.prog.info? 26).map (·.size) = some 24 := by kernel_rfl
theorem Tryz.szA20b : (Tryz.prog.info? 24).map (·.size) = some 20 := by kernel_rfl
theorem Tryz.szU256 : (Tryz.prog.info? 44).map (·.size) = some 256 := by kernel_rfl
@[go_sem ↓ high] theorem aFy (p : Value) : Instr.loadAt 111 p = gu 111 p := rfl
@[go_sem ↓ high] theorem aCg (p v : Value) : Instr.storeAt 111 p v = jd 111 p v := rfl
@[go_sem ↓ high] theorem aGf (p : Value) : Instr.loadAt 47 p = gu 47 p := rfl
@[go_sem ↓ high] theorem aFu (p v : Value) : Instr.storeAt 47 p v = jd 47 p v := rfl
@[go_sem ↓ high] theorem aF1 (p : Value) : Instr.loadAt 26 p = gu 26 p := rfl
@[go_sem ↓ high] theorem aCi (p v : Value) : Instr.storeAt 26 p v = jd 26 p v := rfl
@[go_sem ↓ high] theorem load_a20 (p : Value) : Instr.loadAt 24 p = gu 24 p := rfl
@[go_sem ↓ high] theorem aKs (p : Value) : Instr.loadAt 44 p = gu 44 p := rfl
@[go_sem] theorem ay8 (w : World) (g : Nat) : (gu 47 (.pointer (some ⟨g,0,none⟩))).run Tryz.prog w = abe Tryz.prog 47 (.pointer (some ⟨g,0,none⟩)) w 533 w.heap[g]? :=
 ku w _ g 533 _ Tryz.underlying47 rfl Tryz.szRBook
@[go_sem] theorem aym (w : World) (g : Nat) (cells : Array Value) : (jd 47 (.pointer (some ⟨g,0,none⟩)) (.agg cells)).run Tryz.prog w = aec Tryz.prog 47 (.pointer (some ⟨g,0,none⟩)) cells g w 533 w.heap[g]? :=
 ou w _ g 533 cells Tryz.szRBook
@[go_sem] theorem auz (w : World) (g : Nat) (cells : Array Value) : (jd 111 (.pointer (some ⟨g,0,none⟩)) (.agg cells)).run Tryz.prog w = aec Tryz.prog 111 (.pointer (some ⟨g,0,none⟩)) cells g w 27 w.heap[g]? :=
 ou w _ g 27 cells Tryz.szRVault
@[go_sem] theorem ayq (w : World) (g : Nat) : (gu 26 (.pointer (some ⟨g,0,none⟩))).run Tryz.prog w = abe Tryz.prog 26 (.pointer (some ⟨g,0,none⟩)) w 24 w.heap[g]? :=
 ku w _ g 24 _ Tryz.underlying26 rfl Tryz.szDeed20
@[go_sem] theorem au1 (w : World) (g : Nat) (cells : Array Value) : (jd 26 (.pointer (some ⟨g,0,none⟩)) (.agg cells)).run Tryz.prog w = aec Tryz.prog 26 (.pointer (some ⟨g,0,none⟩)) cells g w 24 w.heap[g]? :=
 ou w _ g 24 cells Tryz.szDeed20
def dC (d : Dd) : Array Value := (.int .i64 (d.kind : Int) :: .int .i64 (d.w : Int) :: .int .i64 (d.v : Int) :: .int .u64 (d.a : Int) :: (a20 d.addr).map B8).toArray
theorem vg (d : Dd) : (dC d).size = 24 := by unfold dC; simp [vk]
theorem aKh (d : Dd) : yg (dC d) := by
 unfold yg
 rw [Array.all_eq_true_iff_forall_mem]
 intro v hv
 unfold dC at hv
 simp only [List.mem_toArray,List.mem_cons,List.mem_map] at hv
 rcases hv with rfl | rfl | rfl | rfl | ⟨b,_,rfl⟩ <;> rfl
theorem ah {W : World} {g : Nat} {d : Dd} (h : W.heap[g]? = some (.cells (dC d) 26 (0,0))) :
  W.cell? ⟨g,0,none⟩ = some (.int .i64 (d.kind : Int)) ∧ W.cell? ⟨g,1,none⟩ = some (.int .i64 (d.w : Int)) ∧ W.cell? ⟨g,2,none⟩ = some (.int .i64 (d.v : Int)) ∧ W.cell? ⟨g,3,none⟩ = some (.int .u64 (d.a : Int)) := by
 refine ⟨?_,?_,?_,?_⟩ <;> simp [World.cell?,h,dC]
def BF (w : World) (m : Nat) (F : Nat → Value) : Prop := ∃ cs,w.heap[m]? = some (.cells cs 47 (0,0)) ∧ cs.size = 533 ∧ ∀ k,k < 533 → cs[k]? = some (F k)
def updV (F : Nat → Value) (x : Nat) (v : Value) : Nat → Value := fun k => if k = x then v else F k
section
variable {w : World} {m : Nat} {F : Nat → Value}
theorem BF.lt (d : BF w m F) : m < w.heap.size := by
 obtain ⟨cs,h1,_⟩ := d
 exact (Array.getElem?_eq_some_iff.1 h1).1
theorem BF.fr {S : Nat → Prop} {w' : World} (d : BF w m F) (r : Fr S w w') (hs : ¬ S m) : BF w' m F := by
 obtain ⟨cs,h1,h2⟩ := d
 exact ⟨cs,r.keeps hs h1,h2⟩
theorem BF.cell (d : BF w m F) {k : Nat} (hk : k < 533) : w.cell? ⟨m,k,none⟩ = some (F k) := by
 obtain ⟨cs,h1,_,h2⟩ := d
 simp [World.cell?,h1,h2 k hk]
theorem BF.frozen (d : BF w m F) (j : Nat) : Obj.frozenAt j w.heap[m]? = false := by
 obtain ⟨cs,h1,_⟩ := d
 rw [h1]; rfl
theorem BF.set (d : BF w m F) {x : Nat} (hx : x < 533) (v : Value) : BF (w.setCell ⟨m,x,none⟩ v) m (updV F x v) := by
 obtain ⟨cs,h1,h2,h3⟩ := d
 refine ⟨cs.setIfInBounds x v,by rw [cu,h1]; rfl,by simp [h2],fun k hk => ?_⟩
 unfold updV
 by_cases e : k = x
 ·subst e
  rw [if_pos rfl,Array.getElem?_setIfInBounds_self_of_lt (by omega)]
 ·rw [if_neg e,Array.getElem?_setIfInBounds_ne (Ne.symm e)]
  exact h3 k hk
theorem BF.put {x : Nat} {v : Value} : Fr (fun k => k = m) w (w.setCell ⟨m,x,none⟩ v) := (Fr.refl (fun k => k = m) w).setCell (p := ⟨m,x,none⟩) (fun _ => rfl) _
end
def ahx (R : Nat → Nat) (M : Bok) (sv : Value) (k : Nat) : Value :=
 if k < 11 then .int .u64 (R k : Nat) else if k = 11 then .int .u64 (M.now : Nat) else if k = 12 then .int .u64 (M.price : Nat) else if k = 13 then .int .u64 (M.told : Nat)
 else if k < 270 then .int .u64 (M.tok (k - 14) : Nat) else if k < 526 then .int .u64 (M.free (k - 270) : Nat)
 else if k = 526 then .int .u64 (M.held : Nat) else if k = 527 then .int .u64 (M.inn : Nat) else if k = 528 then .int .u64 (M.out : Nat) else if k = 529 then .int .u64 (M.pc : Nat) else if k = 530 then .int .u64 (M.pn : Nat)
 else if k = 531 then sv else .int .u64 (M.dep : Nat)
section
variable (R : Nat → Nat) (M : Bok) (sv : Value)
theorem agf {j : Nat} (h : j < 256) : ahx R M sv (14 + j) = .int .u64 (M.tok j : Nat) := by
 unfold ahx
 rw [if_neg (by omega),if_neg (by omega),if_neg (by omega),if_neg (by omega),if_pos (by omega),Nat.add_sub_cancel_left]
theorem aez {j : Nat} (h : j < 256) : ahx R M sv (270 + j) = .int .u64 (M.free j : Nat) := by
 unfold ahx
 rw [if_neg (by omega),if_neg (by omega),if_neg (by omega),if_neg (by omega),if_neg (by omega),if_pos (by omega),Nat.add_sub_cancel_left]
theorem aey {j : Nat} (h : j < 11) : ahx R M sv j = .int .u64 (R j : Nat) := if_pos h
theorem updM {x : Nat} {v : Value} {M' : Bok} {sv' : Value} (hx : ahx R M' sv' x = v) (hk : ∀ k,k < 533 → k ≠ x → ahx R M' sv' k = ahx R M sv k) : ∀ k,k < 533 → updV (ahx R M sv) x v k = ahx R M' sv' k := fun k h => by
 unfold updV
 by_cases e : k = x
 ·subst e; rw [if_pos rfl,hx]
 ·rw [if_neg e,hk k h e]
end
end Go.Proofs.YtohckefafbhooaaGreat
