import Derived.Test.YtohckefafbhooaaGreatF3
import Derived.Test.YtohckefafbhooaaGreatF7
import Derived.Test.YtohckefafbhooaaGreatF9
import Derived.Test.YtohckefafbhooaaGreatF8
namespace Go.Proofs.YtohckefafbhooaaGreat
set_option maxRecDepth 100000
set_option linter.unusedVariables false
set_option linter.unusedSimpArgs false
structure Vlt where
 who : Nat
 addr : List UInt8
 coll : Nat
 iss : Nat
 com : Nat
 goi : Nat
 lea : Nat
 fal : Bool
structure Bok where
 now : Nat
 price : Nat
 told : Nat
 tok : Nat → Nat
 free : Nat → Nat
 held : Nat
 inn : Nat
 out : Nat
 pc : Nat
 pn : Nat
 dep : Nat
 vs : List Vlt
structure Dd where
 kind : Nat
 w : Nat
 v : Nat
 a : Nat
 addr : List UInt8
def atV (l : List Vlt) (w : Nat) : Nat := l.findIdx fun x => x.who == w
abbrev Rs20 := Bok × Nat × Int
def Bok.no (M : Bok) (e : Int) : Rs20 := (M,0,e)
def Bok.putV (M : Bok) (j : Nat) (y : Vlt) : Bok := { M with vs := M.vs.set j y }
def opE (M : Bok) (w a : Nat) (fo : Bool) : Int :=
 if a = 0 ∨ 4611686018427387904 < a then 1 else match M.vs[atV M.vs w]? with
  |none => 12
  |some x => if x.fal = true ∧ fo = false then 20 else 0
def secE (R : Nat → Nat) (M : Bok) (c q : Nat) : Int :=
 if prE (R 4) M.price M.told M.now = 0 then (if 4611686018427387904 < q then 4 else if enP c q M.price (R 0) then 0 else 19) else prE (R 4) M.price M.told M.now
def Vlt.bur (x : Vlt) : Nat := x.iss + x.com + x.goi
def upP (a b c : Nat) : Nat := if a * b % c = 0 then a * b / c else a * b / c + 1
def moreD (M : Bok) (w a j : Nat) (x : Vlt) : Rs20 := if M.free w < a then M.no 16 else ({ M.putV j { x with coll := x.coll + a } with free := upd M.free w (M.free w - a),held := M.held + a },0,0)
def lessD (R : Nat → Nat) (M : Bok) (w a j : Nat) (x : Vlt) : Rs20 := if x.coll < a then M.no 16 else if secE R M (x.coll - a) x.bur = 0 then ({ M.putV j { x with coll := x.coll - a } with free := upd M.free w (M.free w + a),held := M.held - a },0,0) else M.no (secE R M (x.coll - a) x.bur)
def reserveD (R : Nat → Nat) (M : Bok) (a j : Nat) (x : Vlt) : Rs20 := if secE R M x.coll (x.bur + a) = 0 then (M.putV j { x with com := x.com + a },0,0) else M.no (secE R M x.coll (x.bur + a))
def releaseD (M : Bok) (a j : Nat) (x : Vlt) : Rs20 := if x.com < a then M.no 16 else (M.putV j { x with com := x.com - a },0,0)
def mintD (M : Bok) (v a j : Nat) (x : Vlt) : Rs20 := if x.com < a then M.no 16 else if 4611686018427387904 < sumN M.tok 256 + a then M.no 4 else ({ M.putV j { x with com := x.com - a,iss := x.iss + a } with tok := upd M.tok v (M.tok v + a) },0,0)
def burnD (M : Bok) (v a j : Nat) (x : Vlt) : Rs20 := if x.iss - x.lea < a ∨ M.tok v < a then M.no 16 else ({ M.putV j { x with iss := x.iss - a,goi := x.goi + a } with tok := upd M.tok v (M.tok v - a) },0,0)
def paidD (M : Bok) (a j : Nat) (x : Vlt) : Rs20 := if x.goi < a then M.no 16 else if x.fal = true then ({ M.putV j { x with coll := x.coll - x.coll * a / x.goi,goi := x.goi - a } with pc := M.pc + x.coll * a / x.goi },0,0) else (M.putV j { x with goi := x.goi - a },0,0)
def remintD (M : Bok) (v a j : Nat) (x : Vlt) : Rs20 := if x.goi < a then M.no 16 else if 4611686018427387904 < sumN M.tok 256 + a then M.no 4 else
 if x.fal = true then ({ M.putV j { x with coll := x.coll - x.coll * a / x.goi,goi := x.goi - a } with pc := M.pc + x.coll * a / x.goi,pn := M.pn + a,tok := upd M.tok v (M.tok v + a) },0,0)
 else ({ M.putV j { x with goi := x.goi - a,iss := x.iss + a } with tok := upd M.tok v (M.tok v + a) },0,0)
def slashD (M : Bok) (v a j : Nat) (x : Vlt) : Rs20 := ({ M.putV j { x with coll := x.coll - min a x.coll } with free := upd M.free v (M.free v + min a x.coll),held := M.held - min a x.coll },min a x.coll,0)
def leaveD (M : Bok) (a j : Nat) (x : Vlt) : Rs20 := if x.iss - x.lea < a then M.no 16 else (M.putV j { x with lea := x.lea + a },0,0)
def stayD (M : Bok) (a j : Nat) (x : Vlt) : Rs20 := if x.lea < a then M.no 16 else (M.putV j { x with lea := x.lea - a },0,0)
def handD (M : Bok) (w v a j : Nat) (x : Vlt) : Rs20 := if opE M v a false = 0 then (if v = w then M.no 9 else match M.vs[atV M.vs v]? with
  |none => M.no 12
  |some u => if x.lea < a ∨ u.com < a then M.no 16 else ((M.putV j { x with lea := x.lea - a,iss := x.iss - a }).putV (atV M.vs v) { u with com := u.com - a,iss := u.iss + a },0,0))
 else M.no (opE M v a false)
def kpN (x : Vlt) : Nat := if 0 < x.goi then upP x.coll x.goi (x.iss + x.goi) else 0
def fallD (M : Bok) (j : Nat) (x : Vlt) : Rs20 := ({ M.putV j { x with coll := kpN x,iss := 0,lea := 0,fal := true } with pc := M.pc + (x.coll - kpN x),pn := M.pn + x.iss },0,0)
def insV (l : List Vlt) (y : Vlt) : List Vlt := (l.takeWhile fun x => decide (x.who < y.who)) ++ y :: l.dropWhile fun x => decide (x.who < y.who)
def registerD (M : Bok) (w a : Nat) (A : List UInt8) : Rs20 := if 4611686018427387904 < a then M.no 1 else if ∃ x ∈ M.vs,x.who = w ∨ x.addr = A then M.no 9 else if 64 ≤ M.vs.length then M.no 10 else if M.free w < a then M.no 16 else
 ({ M with free := upd M.free w (M.free w - a),held := M.held + a,vs := insV M.vs ⟨w,A,a,0,0,0,0,false⟩ },0,0)
def inD (M : Bok) (w a : Nat) : Rs20 := if 4611686018427387904 < a then M.no 1 else if 4611686018427387904 < M.inn + a ∨ 4611686018427387904 < M.inn - M.out + a then M.no 4 else ({ M with inn := M.inn + a,free := upd M.free w (M.free w + a) },0,0)
def outD (M : Bok) (w a : Nat) : Rs20 := if 4611686018427387904 < a then M.no 1 else if M.free w < a then M.no 16 else if 4611686018427387904 < M.out + a then M.no 4 else ({ M with out := M.out + a,free := upd M.free w (M.free w - a) },0,0)
def moveD (M : Bok) (w v a : Nat) : Rs20 := if a = 0 ∨ 4611686018427387904 < a then M.no 1 else if M.tok w < a then M.no 16 else ({ M with tok := upd (upd M.tok w (M.tok w - a)) v (upd M.tok w (M.tok w - a) v + a) },0,0)
def redeemD (M : Bok) (w a : Nat) : Rs20 := if a = 0 ∨ 4611686018427387904 < a then M.no 1 else if M.tok w < a ∨ M.pn < a then M.no 16 else
 ({ M with tok := upd M.tok w (M.tok w - a),pn := M.pn - a,pc := M.pc - M.pc * a / M.pn,held := M.held - M.pc * a / M.pn,free := upd M.free w (M.free w + M.pc * a / M.pn) },M.pc * a / M.pn,0)
def depositD (M : Bok) (w a : Nat) : Rs20 := if a = 0 ∨ 4611686018427387904 < a then M.no 1 else if M.free w < a then M.no 16 else ({ M with free := upd M.free w (M.free w - a),held := M.held + a,dep := M.dep + a },0,0)
def returnD (M : Bok) (w a : Nat) : Rs20 := if a = 0 ∨ 4611686018427387904 < a then M.no 1 else if M.dep < a then M.no 16 else ({ M with dep := M.dep - a,held := M.held - a,free := upd M.free w (M.free w + a) },0,0)
def tickD (M : Bok) (a : Nat) : Rs20 := if 1099511627776 < M.now + a then M.no 4 else ({ M with now := M.now + a },0,0)
def priceD (R : Nat → Nat) (M : Bok) (a : Nat) : Rs20 := if seE (R 3) M.price M.told a M.now = 0 then ({ M with price := a,told := M.now },0,0) else M.no (seE (R 3) M.price M.told a M.now)
def mayF (k : Nat) : Bool := k == 9 || k == 12 || k == 13 || k == 14
def vaultD (R : Nat → Nat) (M : Bok) (d : Dd) (j : Nat) (x : Vlt) : Rs20 := match d.kind with
 |6 => moreD M d.w d.a j x
 |7 => lessD R M d.w d.a j x
 |8 => reserveD R M d.a j x
 |9 => releaseD M d.a j x
 |10 => mintD M d.v d.a j x
 |11 => burnD M d.v d.a j x
 |12 => paidD M d.a j x
 |13 => remintD M d.v d.a j x
 |14 => slashD M d.v d.a j x
 |15 => leaveD M d.a j x
 |16 => stayD M d.a j x
 |17 => handD M d.w d.v d.a j x
 |_ => fallD M j x
def amtD (d : Dd) : Nat := if d.kind = 18 then 1 else d.a
def stepV (R : Nat → Nat) (M : Bok) (d : Dd) : Rs20 := if opE M d.w (amtD d) (mayF d.kind) = 0 then (match M.vs[atV M.vs d.w]? with
  |none => M.no 12
  |some x => vaultD R M d (atV M.vs d.w) x) else M.no (opE M d.w (amtD d) (mayF d.kind))
def step20 (R : Nat → Nat) (M : Bok) (d : Dd) : Rs20 := match d.kind with
 |0 => tickD M d.a
 |1 => priceD R M d.a
 |2 => inD M d.w d.a
 |3 => outD M d.w d.a
 |4 => moveD M d.w d.v d.a
 |5 => registerD M d.w d.a d.addr
 |19 => redeemD M d.w d.a
 |20 => depositD M d.w d.a
 |21 => returnD M d.w d.a
 |_ => stepV R M d
def sumV (f : Vlt → Nat) (l : List Vlt) : Nat := (l.map f).sum
theorem sumV_nil (f : Vlt → Nat) : sumV f [] = 0 := rfl
theorem sumV_cons (f : Vlt → Nat) (x : Vlt) (l : List Vlt) : sumV f (x :: l) = f x + sumV f l := by unfold sumV; simp
theorem sumV_app (f : Vlt → Nat) (a b : List Vlt) : sumV f (a ++ b) = sumV f a + sumV f b := by unfold sumV; simp
theorem sumV_set (f : Vlt → Nat) (y : Vlt) : ∀ (l : List Vlt) (j : Nat) (x : Vlt),l[j]? = some x → sumV f (l.set j y) + f x = sumV f l + f y
 |[],j,x,h => by cases h
 |z :: l,0,x,h => by cases h; rw [List.set_cons_zero,sumV_cons,sumV_cons]; omega
 |z :: l,j + 1,x,h => by
  have := sumV_set f y l j x h
  rw [List.set_cons_succ,sumV_cons,sumV_cons]
  omega
theorem sumV_mem (f : Vlt → Nat) : ∀ (l : List Vlt) (x : Vlt),x ∈ l → f x ≤ sumV f l
 |z :: l,x,h => by
  rw [sumV_cons]
  rcases List.mem_cons.1 h with rfl | h
  ·omega
  ·have := sumV_mem f l x h; omega
theorem sumV_ins (f : Vlt → Nat) (l : List Vlt) (y : Vlt) : sumV f (insV l y) = sumV f l + f y := by
 unfold insV
 have := sumV_app f (l.takeWhile fun x => decide (x.who < y.who)) (l.dropWhile fun x => decide (x.who < y.who))
 rw [List.takeWhile_append_dropWhile] at this
 rw [sumV_app,sumV_cons]
 omega
structure Vlt.Ok (x : Vlt) : Prop where
 who : x.who < 256
 addr : x.addr.length = 20
 bur : x.bur ≤ 4611686018427387904
 lea : x.lea ≤ x.iss
structure Bok.Ok (M : Bok) : Prop where
 tok : sumN M.tok 256 = sumV Vlt.iss M.vs + M.pn
 most : sumN M.tok 256 ≤ 4611686018427387904
 held : M.held = sumV Vlt.coll M.vs + M.pc + M.dep
 inn : sumN M.free 256 + M.held + M.out = M.inn
 paid : M.inn ≤ 4611686018427387904
 vok : ∀ x ∈ M.vs,x.Ok
 asc : M.vs.Pairwise fun x y => x.who < y.who
 len : M.vs.length ≤ 64
 price : M.price ≤ 1099511627776
 told : M.told ≤ 1099511627776
 now : M.now ≤ 1099511627776
theorem memAt {l : List Vlt} {j : Nat} {x : Vlt} (h : l[j]? = some x) : x ∈ l := List.mem_of_getElem? h
theorem mem_setV {l : List Vlt} {j : Nat} {x y : Vlt} (h : x ∈ l.set j y) : x ∈ l ∨ x = y := by
 rcases List.mem_or_eq_of_mem_set h with h | h
 ·exact .inl h
 ·exact .inr h
theorem pwV_set {l : List Vlt} (h : l.Pairwise fun a b => a.who < b.who) {j : Nat} {x y : Vlt} (hr : l[j]? = some x) (he : y.who = x.who) : (l.set j y).Pairwise fun a b => a.who < b.who := by
 rw [List.pairwise_iff_getElem] at h ⊢
 intro a b ha hb hab
 rw [List.length_set] at ha hb
 have hj := (List.getElem?_eq_some_iff.1 hr)
 rw [List.getElem_set,List.getElem_set]
 have := h a b ha hb hab
 split
 ·subst_vars
  rw [if_neg (by omega),he,← hj.2]
  exact this
 ·split
  ·subst_vars
   rw [he,← hj.2]
   exact this
  ·exact this
theorem Bok.Ok.put {M : Bok} (h : M.Ok) {j : Nat} {x y : Vlt} (hr : M.vs[j]? = some x) (hw : y.who = x.who) (ha : y.addr = x.addr) (hb : y.bur ≤ 4611686018427387904) (hl : y.lea ≤ y.iss) :
  (∀ z ∈ M.vs.set j y,z.Ok) ∧ (M.vs.set j y).Pairwise (fun a b => a.who < b.who) ∧ (M.vs.set j y).length ≤ 64 := by
 have hx := h.vok x (memAt hr)
 refine ⟨fun z hz => ?_,pwV_set h.asc hr hw,by rw [List.length_set]; exact h.len⟩
 rcases mem_setV hz with hz | rfl
 ·exact h.vok z hz
 ·exact ⟨by rw [hw]; exact hx.who,by rw [ha]; exact hx.addr,hb,hl⟩
section
variable {M : Bok} {j : Nat} {x : Vlt}
theorem Bok.Ok.coll_le (h : M.Ok) (hr : M.vs[j]? = some x) : x.coll ≤ M.held := by
 have := sumV_mem Vlt.coll M.vs x (memAt hr)
 have := h.held
 omega
end
end Go.Proofs.YtohckefafbhooaaGreat
namespace Go.Proofs.YtohckefafbhooaaGreat
set_option maxRecDepth 100000
set_option linter.unusedVariables false
set_option linter.unusedSimpArgs false
section
variable {M : Bok} {j w v a : Nat} {x : Vlt} {R : Nat → Nat}
theorem more_ok (h : M.Ok) (hw : w < 256) (hr : M.vs[j]? = some x) : (moreD M w a j x).1.Ok := by
 unfold moreD
 split
 ·exact h
 ·have hx := h.vok x (memAt hr)
  obtain ⟨p1,p2,p3⟩ := h.put hr (y := { x with coll := x.coll + a }) rfl rfl hx.bur hx.lea
  have s1 := sumV_set Vlt.coll { x with coll := x.coll + a } M.vs j x hr
  have s2 := sumV_set Vlt.iss { x with coll := x.coll + a } M.vs j x hr
  have u := sumN_upd M.free (M.free w - a) 256 w hw
  have t1 := h.tok; have t2 := h.most; have t3 := h.held; have t4 := h.inn; have t5 := h.paid
  dsimp only at s1 s2
  refine ⟨?_,?_,?_,?_,?_,p1,p2,p3,h.price,h.told,h.now⟩ <;> dsimp only [Bok.putV] <;> omega
theorem less_ok (h : M.Ok) (hw : w < 256) (hr : M.vs[j]? = some x) : (lessD R M w a j x).1.Ok := by
 unfold lessD
 split
 ·exact h
 ·split
  ·have hx := h.vok x (memAt hr)
   have hc := h.coll_le hr
   obtain ⟨p1,p2,p3⟩ := h.put hr (y := { x with coll := x.coll - a }) rfl rfl hx.bur hx.lea
   have s1 := sumV_set Vlt.coll { x with coll := x.coll - a } M.vs j x hr
   have s2 := sumV_set Vlt.iss { x with coll := x.coll - a } M.vs j x hr
   have u := sumN_upd M.free (M.free w + a) 256 w hw
   have t1 := h.tok; have t2 := h.most; have t3 := h.held; have t4 := h.inn; have t5 := h.paid
   dsimp only at s1 s2
   refine ⟨?_,?_,?_,?_,?_,p1,p2,p3,h.price,h.told,h.now⟩ <;> dsimp only [Bok.putV] <;> omega
  ·exact h
theorem sec_fit {c q : Nat} (h : secE R M c q = 0) : q ≤ 4611686018427387904 := by
 unfold secE at h
 split at h
 ·split at h
  ·cases h
  ·omega
 ·contradiction
theorem reserve_ok (h : M.Ok) (hr : M.vs[j]? = some x) : (reserveD R M a j x).1.Ok := by
 unfold reserveD
 split
 ·rename_i hs
  have hx := h.vok x (memAt hr)
  have hb := sec_fit hs
  obtain ⟨p1,p2,p3⟩ := h.put hr (y := { x with com := x.com + a }) rfl rfl (by unfold Vlt.bur at hb ⊢; dsimp only; omega) hx.lea
  have s1 := sumV_set Vlt.coll { x with com := x.com + a } M.vs j x hr
  have s2 := sumV_set Vlt.iss { x with com := x.com + a } M.vs j x hr
  have t1 := h.tok; have t2 := h.most; have t3 := h.held; have t4 := h.inn; have t5 := h.paid
  dsimp only at s1 s2
  refine ⟨?_,?_,?_,?_,?_,p1,p2,p3,h.price,h.told,h.now⟩ <;> dsimp only [Bok.putV] <;> omega
 ·exact h
theorem release_ok (h : M.Ok) (hr : M.vs[j]? = some x) : (releaseD M a j x).1.Ok := by
 unfold releaseD
 split
 ·exact h
 ·have hx := h.vok x (memAt hr)
  have hb := hx.bur
  obtain ⟨p1,p2,p3⟩ := h.put hr (y := { x with com := x.com - a }) rfl rfl (by unfold Vlt.bur at hb ⊢; dsimp only; omega) hx.lea
  have s1 := sumV_set Vlt.coll { x with com := x.com - a } M.vs j x hr
  have s2 := sumV_set Vlt.iss { x with com := x.com - a } M.vs j x hr
  have t1 := h.tok; have t2 := h.most; have t3 := h.held; have t4 := h.inn; have t5 := h.paid
  dsimp only at s1 s2
  refine ⟨?_,?_,?_,?_,?_,p1,p2,p3,h.price,h.told,h.now⟩ <;> dsimp only [Bok.putV] <;> omega
theorem mint_ok (h : M.Ok) (hv : v < 256) (hr : M.vs[j]? = some x) : (mintD M v a j x).1.Ok := by
 unfold mintD
 split
 ·exact h
 ·split
  ·exact h
  ·have hx := h.vok x (memAt hr)
   have hb := hx.bur
   have hl := hx.lea
   obtain ⟨p1,p2,p3⟩ := h.put hr (y := { x with com := x.com - a,iss := x.iss + a }) rfl rfl (by unfold Vlt.bur at hb ⊢; dsimp only; omega) (by dsimp only; omega)
   have s1 := sumV_set Vlt.coll { x with com := x.com - a,iss := x.iss + a } M.vs j x hr
   have s2 := sumV_set Vlt.iss { x with com := x.com - a,iss := x.iss + a } M.vs j x hr
   have u := sumN_upd M.tok (M.tok v + a) 256 v hv
   have t1 := h.tok; have t2 := h.most; have t3 := h.held; have t4 := h.inn; have t5 := h.paid
   dsimp only at s1 s2
   refine ⟨?_,?_,?_,?_,?_,p1,p2,p3,h.price,h.told,h.now⟩ <;> dsimp only [Bok.putV] <;> omega
theorem burn_ok (h : M.Ok) (hv : v < 256) (hr : M.vs[j]? = some x) : (burnD M v a j x).1.Ok := by
 unfold burnD
 split
 ·exact h
 ·have hx := h.vok x (memAt hr)
  have hb := hx.bur
  have hl := hx.lea
  obtain ⟨p1,p2,p3⟩ := h.put hr (y := { x with iss := x.iss - a,goi := x.goi + a }) rfl rfl (by unfold Vlt.bur at hb ⊢; dsimp only; omega) (by dsimp only; omega)
  have s1 := sumV_set Vlt.coll { x with iss := x.iss - a,goi := x.goi + a } M.vs j x hr
  have s2 := sumV_set Vlt.iss { x with iss := x.iss - a,goi := x.goi + a } M.vs j x hr
  have u := sumN_upd M.tok (M.tok v - a) 256 v hv
  have t1 := h.tok; have t2 := h.most; have t3 := h.held; have t4 := h.inn; have t5 := h.paid
  dsimp only at s1 s2
  refine ⟨?_,?_,?_,?_,?_,p1,p2,p3,h.price,h.told,h.now⟩ <;> dsimp only [Bok.putV] <;> omega
theorem part_le {c a b : Nat} (h : a ≤ b) : c * a / b ≤ c := by
 rcases Nat.eq_zero_or_pos b with h0 | h0
 ·subst h0; simp
 ·exact Nat.div_le_of_le_mul (by rw [Nat.mul_comm b c]; exact Nat.mul_le_mul_left _ h)
theorem paid_ok (h : M.Ok) (hr : M.vs[j]? = some x) : (paidD M a j x).1.Ok := by
 unfold paidD
 split
 ·exact h
 ·have hx := h.vok x (memAt hr)
  have hb := hx.bur
  have hl := hx.lea
  have t1 := h.tok; have t2 := h.most; have t3 := h.held; have t4 := h.inn; have t5 := h.paid
  have hp : x.coll * a / x.goi ≤ x.coll := part_le (by omega)
  generalize x.coll * a / x.goi = c at *
  split
  ·obtain ⟨p1,p2,p3⟩ := h.put hr (y := { x with coll := x.coll - c,goi := x.goi - a }) rfl rfl (by unfold Vlt.bur at hb ⊢; dsimp only; omega) hl
   have s1 := sumV_set Vlt.coll { x with coll := x.coll - c,goi := x.goi - a } M.vs j x hr
   have s2 := sumV_set Vlt.iss { x with coll := x.coll - c,goi := x.goi - a } M.vs j x hr
   dsimp only at s1 s2
   refine ⟨?_,?_,?_,?_,?_,p1,p2,p3,h.price,h.told,h.now⟩ <;> dsimp only [Bok.putV] <;> omega
  ·obtain ⟨p1,p2,p3⟩ := h.put hr (y := { x with goi := x.goi - a }) rfl rfl (by unfold Vlt.bur at hb ⊢; dsimp only; omega) hl
   have s1 := sumV_set Vlt.coll { x with goi := x.goi - a } M.vs j x hr
   have s2 := sumV_set Vlt.iss { x with goi := x.goi - a } M.vs j x hr
   dsimp only at s1 s2
   refine ⟨?_,?_,?_,?_,?_,p1,p2,p3,h.price,h.told,h.now⟩ <;> dsimp only [Bok.putV] <;> omega
theorem remint_ok (h : M.Ok) (hv : v < 256) (hr : M.vs[j]? = some x) : (remintD M v a j x).1.Ok := by
 unfold remintD
 split
 ·exact h
 ·split
  ·exact h
  ·have hx := h.vok x (memAt hr)
   have hb := hx.bur
   have hl := hx.lea
   have u := sumN_upd M.tok (M.tok v + a) 256 v hv
   have t1 := h.tok; have t2 := h.most; have t3 := h.held; have t4 := h.inn; have t5 := h.paid
   have hp : x.coll * a / x.goi ≤ x.coll := part_le (by omega)
   generalize x.coll * a / x.goi = c at *
   split
   ·obtain ⟨p1,p2,p3⟩ := h.put hr (y := { x with coll := x.coll - c,goi := x.goi - a }) rfl rfl (by unfold Vlt.bur at hb ⊢; dsimp only; omega) hl
    have s1 := sumV_set Vlt.coll { x with coll := x.coll - c,goi := x.goi - a } M.vs j x hr
    have s2 := sumV_set Vlt.iss { x with coll := x.coll - c,goi := x.goi - a } M.vs j x hr
    dsimp only at s1 s2
    refine ⟨?_,?_,?_,?_,?_,p1,p2,p3,h.price,h.told,h.now⟩ <;> dsimp only [Bok.putV] <;> omega
   ·obtain ⟨p1,p2,p3⟩ := h.put hr (y := { x with goi := x.goi - a,iss := x.iss + a }) rfl rfl (by unfold Vlt.bur at hb ⊢; dsimp only; omega) (by dsimp only; omega)
    have s1 := sumV_set Vlt.coll { x with goi := x.goi - a,iss := x.iss + a } M.vs j x hr
    have s2 := sumV_set Vlt.iss { x with goi := x.goi - a,iss := x.iss + a } M.vs j x hr
    dsimp only at s1 s2
    refine ⟨?_,?_,?_,?_,?_,p1,p2,p3,h.price,h.told,h.now⟩ <;> dsimp only [Bok.putV] <;> omega
theorem slash_ok (h : M.Ok) (hv : v < 256) (hr : M.vs[j]? = some x) : (slashD M v a j x).1.Ok := by
 unfold slashD
 have hx := h.vok x (memAt hr)
 have hc := h.coll_le hr
 have hn : min a x.coll ≤ x.coll := Nat.min_le_right _ _
 generalize min a x.coll = n at *
 obtain ⟨p1,p2,p3⟩ := h.put hr (y := { x with coll := x.coll - n }) rfl rfl hx.bur hx.lea
 have s1 := sumV_set Vlt.coll { x with coll := x.coll - n } M.vs j x hr
 have s2 := sumV_set Vlt.iss { x with coll := x.coll - n } M.vs j x hr
 have u := sumN_upd M.free (M.free v + n) 256 v hv
 have t1 := h.tok; have t2 := h.most; have t3 := h.held; have t4 := h.inn; have t5 := h.paid
 dsimp only at s1 s2
 refine ⟨?_,?_,?_,?_,?_,p1,p2,p3,h.price,h.told,h.now⟩ <;> dsimp only [Bok.putV] <;> omega
theorem leave_ok (h : M.Ok) (hr : M.vs[j]? = some x) : (leaveD M a j x).1.Ok := by
 unfold leaveD
 split
 ·exact h
 ·have hx := h.vok x (memAt hr)
  have hl := hx.lea
  obtain ⟨p1,p2,p3⟩ := h.put hr (y := { x with lea := x.lea + a }) rfl rfl hx.bur (by dsimp only; omega)
  have s1 := sumV_set Vlt.coll { x with lea := x.lea + a } M.vs j x hr
  have s2 := sumV_set Vlt.iss { x with lea := x.lea + a } M.vs j x hr
  have t1 := h.tok; have t2 := h.most; have t3 := h.held; have t4 := h.inn; have t5 := h.paid
  dsimp only at s1 s2
  refine ⟨?_,?_,?_,?_,?_,p1,p2,p3,h.price,h.told,h.now⟩ <;> dsimp only [Bok.putV] <;> omega
theorem stay_ok (h : M.Ok) (hr : M.vs[j]? = some x) : (stayD M a j x).1.Ok := by
 unfold stayD
 split
 ·exact h
 ·have hx := h.vok x (memAt hr)
  have hl := hx.lea
  obtain ⟨p1,p2,p3⟩ := h.put hr (y := { x with lea := x.lea - a }) rfl rfl hx.bur (by dsimp only; omega)
  have s1 := sumV_set Vlt.coll { x with lea := x.lea - a } M.vs j x hr
  have s2 := sumV_set Vlt.iss { x with lea := x.lea - a } M.vs j x hr
  have t1 := h.tok; have t2 := h.most; have t3 := h.held; have t4 := h.inn; have t5 := h.paid
  dsimp only at s1 s2
  refine ⟨?_,?_,?_,?_,?_,p1,p2,p3,h.price,h.told,h.now⟩ <;> dsimp only [Bok.putV] <;> omega
theorem atV_who {l : List Vlt} {w : Nat} {x : Vlt} (h : l[atV l w]? = some x) : x.who = w := by
 obtain ⟨hl,e⟩ := List.getElem?_eq_some_iff.1 h
 have := List.findIdx_getElem (xs := l) (p := fun x : Vlt => x.who == w) (w := hl)
 rw [← e]
 exact eq_of_beq this
theorem hand_ok (h : M.Ok) (hr : M.vs[j]? = some x) (hw : x.who = w) : (handD M w v a j x).1.Ok := by
 unfold handD
 split
 ·split
  ·exact h
  ·rename_i hvw
   cases hu : M.vs[atV M.vs v]? with
   |none => exact h
   |some u =>
    dsimp only
    split
    ·exact h
    ·have hx := h.vok x (memAt hr)
     have hb := hx.bur
     have hl := hx.lea
     have hy := h.vok u (memAt hu)
     have hby := hy.bur
     have hly := hy.lea
     have hne : atV M.vs v ≠ j := fun e => by
      rw [e,hr] at hu
      cases hu
      have := atV_who (l := M.vs) (w := v) (x := x) (by rw [e]; exact hr)
      omega
     obtain ⟨i,hi⟩ : ∃ i,atV M.vs v = i := ⟨_,rfl⟩
     rw [hi] at hu hne ⊢
     have K := h.put hr (y := { x with lea := x.lea - a,iss := x.iss - a }) rfl rfl (by unfold Vlt.bur at hb ⊢; dsimp only; omega) (by dsimp only; omega)
     have s1 := sumV_set Vlt.coll { x with lea := x.lea - a,iss := x.iss - a } M.vs j x hr
     have s2 := sumV_set Vlt.iss { x with lea := x.lea - a,iss := x.iss - a } M.vs j x hr
     have hu2 : (M.vs.set j { x with lea := x.lea - a,iss := x.iss - a })[i]? = some u := by rw [List.getElem?_set_ne (Ne.symm hne)]; exact hu
     have s3 := sumV_set Vlt.coll { u with com := u.com - a,iss := u.iss + a } _ i u hu2
     have s4 := sumV_set Vlt.iss { u with com := u.com - a,iss := u.iss + a } _ i u hu2
     have t1 := h.tok; have t2 := h.most; have t3 := h.held; have t4 := h.inn; have t5 := h.paid
     dsimp only at s1 s2 s3 s4
     refine ⟨?_,?_,?_,?_,?_,fun z hz => ?_,pwV_set K.2.1 hu2 rfl,by dsimp only [Bok.putV]; rw [List.length_set]; exact K.2.2,h.price,h.told,h.now⟩
     ·dsimp only [Bok.putV]; omega
     ·dsimp only [Bok.putV]; omega
     ·dsimp only [Bok.putV]; omega
     ·dsimp only [Bok.putV]; omega
     ·dsimp only [Bok.putV]; omega
     ·rcases mem_setV hz with hz | rfl
      ·exact K.1 z hz
      ·exact ⟨hy.who,hy.addr,by unfold Vlt.bur at hby ⊢; dsimp only; omega,by dsimp only; omega⟩
 ·exact h
theorem upP_le {c g b : Nat} (h : g ≤ b) (hg : 0 < g) : upP c g b ≤ c := by
 unfold upP
 have hb : 0 < b := by omega
 have hm : c * g ≤ c * b := Nat.mul_le_mul_left _ h
 split
 ·exact part_le h
 ·rename_i hne
  have h1 := Nat.div_add_mod (c * g) b
  have h2 : b * (c * g / b) < b * c := by
   have : c * b = b * c := Nat.mul_comm _ _
   omega
  have := Nat.lt_of_mul_lt_mul_left h2
  omega
theorem kpN_le (x : Vlt) : kpN x ≤ x.coll := by
 unfold kpN
 split
 ·exact upP_le (by omega) (by assumption)
 ·omega
theorem fall_ok (h : M.Ok) (hr : M.vs[j]? = some x) : (fallD M j x).1.Ok := by
 unfold fallD
 have hx := h.vok x (memAt hr)
 have hb := hx.bur
 have hk := kpN_le x
 generalize kpN x = k at *
 obtain ⟨p1,p2,p3⟩ := h.put hr (y := { x with coll := k,iss := 0,lea := 0,fal := true }) rfl rfl (by unfold Vlt.bur at hb ⊢; dsimp only; omega) (Nat.le_refl _)
 have s1 := sumV_set Vlt.coll { x with coll := k,iss := 0,lea := 0,fal := true } M.vs j x hr
 have s2 := sumV_set Vlt.iss { x with coll := k,iss := 0,lea := 0,fal := true } M.vs j x hr
 have t1 := h.tok; have t2 := h.most; have t3 := h.held; have t4 := h.inn; have t5 := h.paid
 dsimp only at s1 s2
 refine ⟨?_,?_,?_,?_,?_,p1,p2,p3,h.price,h.told,h.now⟩ <;> dsimp only [Bok.putV] <;> omega
theorem mem_ins {l : List Vlt} {y z : Vlt} (h : z ∈ insV l y) : z ∈ l ∨ z = y := by
 unfold insV at h
 rcases List.mem_append.1 h with h | h
 ·exact .inl (List.takeWhile_sublist _ |>.subset h)
 ·rcases List.mem_cons.1 h with rfl | h
  ·exact .inr rfl
  ·exact .inl (List.dropWhile_sublist _ |>.subset h)
theorem len_ins (l : List Vlt) (y : Vlt) : (insV l y).length = l.length + 1 := by
 unfold insV
 have := congrArg List.length (List.takeWhile_append_dropWhile (p := fun x : Vlt => decide (x.who < y.who)) (l := l))
 rw [List.length_append] at this
 rw [List.length_append,List.length_cons]
 omega
theorem pw_ins : ∀ {l : List Vlt} {y : Vlt},l.Pairwise (fun a b => a.who < b.who) → (∀ x ∈ l,x.who ≠ y.who) → (insV l y).Pairwise fun a b => a.who < b.who
 |[],y,_,_ => by simp [insV]
 |x :: l,y,hp,hn => by
  obtain ⟨h1,h2⟩ := List.pairwise_cons.1 hp
  by_cases hlt : x.who < y.who
  ·have e : insV (x :: l) y = x :: insV l y := by
    unfold insV
    rw [List.takeWhile_cons,List.dropWhile_cons]
    simp only [decide_eq_true hlt,if_true,List.cons_append]
   rw [e]
   refine List.pairwise_cons.2 ⟨fun z hz => ?_,pw_ins h2 fun z hz => hn z (List.mem_cons_of_mem _ hz)⟩
   rcases mem_ins hz with hz | rfl
   ·exact h1 z hz
   ·exact hlt
  ·have e : insV (x :: l) y = y :: x :: l := by
    unfold insV
    rw [List.takeWhile_cons,List.dropWhile_cons]
    simp [hlt]
   have hxy : y.who < x.who := by have := hn x (List.mem_cons_self ..); omega
   rw [e]
   refine List.pairwise_cons.2 ⟨fun z hz => ?_,hp⟩
   rcases List.mem_cons.1 hz with rfl | hz
   ·exact hxy
   ·have := h1 z hz; omega
theorem register_ok (h : M.Ok) (hw : w < 256) {A : List UInt8} (hA : A.length = 20) : (registerD M w a A).1.Ok := by
 unfold registerD
 split
 ·exact h
 ·split
  ·exact h
  ·rename_i hne
   split
   ·exact h
   ·split
    ·exact h
    ·have s1 := sumV_ins Vlt.coll M.vs ⟨w,A,a,0,0,0,0,false⟩
     have s2 := sumV_ins Vlt.iss M.vs ⟨w,A,a,0,0,0,0,false⟩
     have u := sumN_upd M.free (M.free w - a) 256 w hw
     have t1 := h.tok; have t2 := h.most; have t3 := h.held; have t4 := h.inn; have t5 := h.paid
     dsimp only at s1 s2
     refine ⟨?_,?_,?_,?_,?_,fun z hz => ?_,pw_ins h.asc fun z hz e => hne ⟨z,hz,.inl e⟩,by dsimp only; rw [len_ins]; omega,h.price,h.told,h.now⟩
     ·dsimp only; omega
     ·dsimp only; omega
     ·dsimp only; omega
     ·dsimp only; omega
     ·dsimp only; omega
     ·rcases mem_ins hz with hz | rfl
      ·exact h.vok z hz
      ·exact ⟨hw,hA,by unfold Vlt.bur; dsimp only; omega,Nat.le_refl _⟩
theorem in_ok (h : M.Ok) (hw : w < 256) : (inD M w a).1.Ok := by
 unfold inD
 split
 ·exact h
 ·split
  ·exact h
  ·have u := sumN_upd M.free (M.free w + a) 256 w hw
   have t4 := h.inn; have t5 := h.paid
   refine ⟨h.tok,h.most,h.held,?_,?_,h.vok,h.asc,h.len,h.price,h.told,h.now⟩ <;> dsimp only <;> omega
theorem out_ok (h : M.Ok) (hw : w < 256) : (outD M w a).1.Ok := by
 unfold outD
 split
 ·exact h
 ·split
  ·exact h
  ·split
   ·exact h
   ·have u := sumN_upd M.free (M.free w - a) 256 w hw
    have t4 := h.inn; have t5 := h.paid
    refine ⟨h.tok,h.most,h.held,?_,h.paid,h.vok,h.asc,h.len,h.price,h.told,h.now⟩
    dsimp only; omega
theorem move_ok (h : M.Ok) (hw : w < 256) (hv : v < 256) : (moveD M w v a).1.Ok := by
 unfold moveD
 split
 ·exact h
 ·split
  ·exact h
  ·have u := sumN_upd M.tok (M.tok w - a) 256 w hw
   have u2 := sumN_upd (upd M.tok w (M.tok w - a)) (upd M.tok w (M.tok w - a) v + a) 256 v hv
   have t1 := h.tok; have t2 := h.most
   refine ⟨?_,?_,h.held,h.inn,h.paid,h.vok,h.asc,h.len,h.price,h.told,h.now⟩ <;> dsimp only <;> omega
theorem redeem_ok (h : M.Ok) (hw : w < 256) : (redeemD M w a).1.Ok := by
 unfold redeemD
 split
 ·exact h
 ·split
  ·exact h
  ·have hp : M.pc * a / M.pn ≤ M.pc := part_le (by omega)
   generalize M.pc * a / M.pn = s at *
   have u := sumN_upd M.tok (M.tok w - a) 256 w hw
   have u2 := sumN_upd M.free (M.free w + s) 256 w hw
   have t1 := h.tok; have t2 := h.most; have t3 := h.held; have t4 := h.inn; have t5 := h.paid
   refine ⟨?_,?_,?_,?_,h.paid,h.vok,h.asc,h.len,h.price,h.told,h.now⟩ <;> dsimp only <;> omega
theorem deposit_ok (h : M.Ok) (hw : w < 256) : (depositD M w a).1.Ok := by
 unfold depositD
 split
 ·exact h
 ·split
  ·exact h
  ·have u := sumN_upd M.free (M.free w - a) 256 w hw
   have t3 := h.held; have t4 := h.inn
   refine ⟨h.tok,h.most,?_,?_,h.paid,h.vok,h.asc,h.len,h.price,h.told,h.now⟩ <;> dsimp only <;> omega
theorem return_ok (h : M.Ok) (hw : w < 256) : (returnD M w a).1.Ok := by
 unfold returnD
 split
 ·exact h
 ·split
  ·exact h
  ·have u := sumN_upd M.free (M.free w + a) 256 w hw
   have t3 := h.held; have t4 := h.inn
   refine ⟨h.tok,h.most,?_,?_,h.paid,h.vok,h.asc,h.len,h.price,h.told,h.now⟩ <;> dsimp only <;> omega
theorem tick_ok (h : M.Ok) : (tickD M a).1.Ok := by
 unfold tickD
 split
 ·exact h
 ·exact ⟨h.tok,h.most,h.held,h.inn,h.paid,h.vok,h.asc,h.len,h.price,h.told,by dsimp only; omega⟩
theorem price_ok (h : M.Ok) : (priceD R M a).1.Ok := by
 unfold priceD
 split
 ·rename_i hs
  have : a ≤ 1099511627776 := by
   unfold seE at hs
   split at hs
   ·omega
   ·cases hs
  exact ⟨h.tok,h.most,h.held,h.inn,h.paid,h.vok,h.asc,h.len,this,h.now,h.now⟩
 ·exact h
end
theorem step_ok {R : Nat → Nat} {M : Bok} {d : Dd} (h : M.Ok) (hw : d.w < 256) (hv : d.v < 256) (hA : d.addr.length = 20) : (step20 R M d).1.Ok := by
 have hV : (stepV R M d).1.Ok := by
  unfold stepV
  split
  ·cases hr : M.vs[atV M.vs d.w]? with
   |none => exact h
   |some x =>
    dsimp only
    unfold vaultD
    split
    ·exact more_ok h hw hr
    ·exact less_ok h hw hr
    ·exact reserve_ok h hr
    ·exact release_ok h hr
    ·exact mint_ok h hv hr
    ·exact burn_ok h hv hr
    ·exact paid_ok h hr
    ·exact remint_ok h hv hr
    ·exact slash_ok h hv hr
    ·exact leave_ok h hr
    ·exact stay_ok h hr
    ·exact hand_ok h hr (atV_who hr)
    ·exact fall_ok h hr
  ·exact h
 unfold step20
 split
 ·exact tick_ok h
 ·exact price_ok h
 ·exact in_ok h hw
 ·exact out_ok h hw
 ·exact move_ok h hw hv
 ·exact register_ok h hw hA
 ·exact redeem_ok h hw
 ·exact deposit_ok h hw
 ·exact return_ok h hw
 ·exact hV
end Go.Proofs.YtohckefafbhooaaGreat
namespace Go.Proofs.YtohckefafbhooaaGreat
set_option maxRecDepth 100000
set_option linter.unusedVariables false
set_option linter.unusedSimpArgs false
open Go.RowKit
def a20 (l : List UInt8) : List UInt8 := (l ++ List.replicate 20 0).take 20
theorem a20_len (l : List UInt8) : (a20 l).length = 20 := by unfold a20; rw [List.length_take,List.length_append,List.length_replicate]; omega
theorem a20_id {l : List UInt8} (h : l.length = 20) : a20 l = l := by unfold a20; rw [List.take_append_of_le_length (by omega),List.take_of_length_le (by omega)]
def encV (x : Vlt) : List Value := .int .i64 (x.who : Int) :: ((a20 x.addr).map B8 ++ [.int .u64 (x.coll : Int),.int .u64 (x.iss : Int),.int .u64 (x.com : Int),.int .u64 (x.goi : Int),.int .u64 (x.lea : Int),.bool x.fal])
@[go_sem ↓ high] theorem load_rvault (p : Value) : Instr.loadAt 111 p = loadRowAt 111 p := rfl
@[go_sem ↓ high] theorem store_rvault (p v : Value) : Instr.storeAt 111 p v = storeRowAt 111 p v := rfl
@[go_sem ↓ high] theorem load_rbook (p : Value) : Instr.loadAt 47 p = loadRowAt 47 p := rfl
@[go_sem ↓ high] theorem store_rbook (p v : Value) : Instr.storeAt 47 p v = storeRowAt 47 p v := rfl
@[go_sem ↓ high] theorem load_deed20 (p : Value) : Instr.loadAt 26 p = loadRowAt 26 p := rfl
@[go_sem ↓ high] theorem store_deed20 (p v : Value) : Instr.storeAt 26 p v = storeRowAt 26 p v := rfl
@[go_sem ↓ high] theorem load_a20 (p : Value) : Instr.loadAt 24 p = loadRowAt 24 p := rfl
@[go_sem ↓ high] theorem load_u256 (p : Value) : Instr.loadAt 44 p = loadRowAt 44 p := rfl
def dC (d : Dd) : Array Value := (.int .i64 (d.kind : Int) :: .int .i64 (d.w : Int) :: .int .i64 (d.v : Int) :: .int .u64 (d.a : Int) :: (a20 d.addr).map B8).toArray
def BF (w : World) (m : Nat) (F : Nat → Value) : Prop := ∃ cs,w.heap[m]? = some (.cells cs 47 (0,0)) ∧ cs.size = 533 ∧ ∀ k,k < 533 → cs[k]? = some (F k)
section
variable {w : World} {m : Nat} {F : Nat → Value}
end
def encM (R : Nat → Nat) (M : Bok) (sv : Value) (k : Nat) : Value :=
 if k < 11 then .int .u64 (R k : Nat) else if k = 11 then .int .u64 (M.now : Nat) else if k = 12 then .int .u64 (M.price : Nat) else if k = 13 then .int .u64 (M.told : Nat)
 else if k < 270 then .int .u64 (M.tok (k - 14) : Nat) else if k < 526 then .int .u64 (M.free (k - 270) : Nat)
 else if k = 526 then .int .u64 (M.held : Nat) else if k = 527 then .int .u64 (M.inn : Nat) else if k = 528 then .int .u64 (M.out : Nat) else if k = 529 then .int .u64 (M.pc : Nat) else if k = 530 then .int .u64 (M.pn : Nat)
 else if k = 531 then sv else .int .u64 (M.dep : Nat)
section
variable (R : Nat → Nat) (M : Bok) (sv : Value)
end
end Go.Proofs.YtohckefafbhooaaGreat
