import Derived.Test.YtjlelckefiannaaGreatDoorZ14
import Derived.Test.YtjlelckefiannaaGreatDoorZ20
import Derived.Test.YtjlelckefiannaaGreatDoorZ2
import Derived.Test.YtjlelckefiannaaGreatDoorZ6
set_option maxRecDepth 100000
set_option maxHeartbeats 64000000
namespace Go.Proofs.YtjlelckefiannaaGreatDoor
set_option linter.unusedVariables false
set_option linter.unusedSimpArgs false
open Go.RowKit
structure MP where
 tx:List UInt8
 bk:List UInt8
 ix:Nat
 cn:Nat
 wy:List (List UInt8)
def MP.bytes(p:MP):List UInt8:=ctd p.tx++(p.bk++(le 4 p.ix++(le 4 p.cn++(cnt p.wy.length++p.wy.flatten))))
structure MP.Ok (p:MP):Prop where
 bk:p.bk.length=32
 ix:p.ix<4294967296
 cn:p.cn<4294967296
 wy:afx p.wy
structure MP.Fit (p:MP):Prop where
 ok:p.Ok
 tx:p.tx.length≤4096
 wy:p.wy.length≤16
def MP.zero:MP:=⟨[],z32,0,0,[]⟩
theorem MP.ar1:MP.zero.Ok:=⟨rfl,by decide,by decide,λ_ h=>by cases h⟩
def rH(st:Option (List UInt8)):List UInt8×Option (List UInt8):=(ak8 (tk 32 st).1,(tk 32 st).2)
def rP(st:Option (List UInt8)):MP×Option (List UInt8) :=
 let t:=aa7 4096 st
 let b:=rH t.2
 let i:=rW b.2
 let c:=rW i.2
 let n:=rc 16 c.2
 let y:=uh rH n.1 n.2
 (⟨t.1,b.1,i.1,c.1,y.1⟩,y.2)
def ak6(bs:List UInt8):Option MP:=if(rP (some bs)).2=some []then some (rP (some bs)).1 else none
theorem aJt(st:Option (List UInt8)):(rH st).1.length=32:=agq _
theorem auh(st:Option (List UInt8)):lft (rH st).2≤lft st:=(agy 32 st).2
theorem af9:(rH none).2=none:=rfl
theorem ava(m:Nat)(st:Option (List UInt8)):aa7 (m:Int) st=tk ((rc m st).1:Int) (rc m st).2:=by
 unfold aa7
 rw[if_neg aPl]
 rfl
theorem aB4{m:Nat}{b r:List UInt8}(h:(aa7 (m:Int) (some b)).2=some r):b=ctd (aa7 (m:Int) (some b)).1++r∧(aa7 (m:Int) (some b)).1.length≤m:=by
 rw[ava]at h ⊢
 obtain⟨n,hn⟩:∃n,n=(rc m (some b)).1:=⟨_,rfl⟩
 obtain⟨s,hs⟩:∃s,s=(rc m (some b)).2:=⟨_,rfl⟩
 rw[←hn,←hs]at h ⊢
 cases s with
 |none=>cases h
 |some r1 =>
  have h1:=ao0 hs.symm
  rw[←hn]at h1
  have h2:=alx h
  refine⟨?_,by omega⟩
  rw[ctd,h2.1,List.append_assoc,←h2.2]
  exact h1.1
theorem an1{m:Nat}(l r:List UInt8)(hl:l.length≤m)(hm:m≤1000000):aa7 (m:Int) (some (ctd l++r))=(l,some r):=by
 rw[ava,ctd,List.append_assoc,ao1 _ _ _ aPl hl]
 exact aly l r
theorem aJu{b r:List UInt8}(h:(rH (some b)).2=some r):b=(rH (some b)).1++r∧(rH (some b)).1.length=32:=by
 have i1:=alx (n:=32) h
 have l32:(tk 32 (some b)).1.length=32:=i1.1
 have ef:(rH (some b)).1=(tk 32 (some b)).1:=if_pos l32
 rw[ef]
 exact⟨i1.2,l32⟩
theorem aJv(h r:List UInt8)(hl:h.length=32):rH (some (h++r))=(h,some r):=by
 have:=aly h r
 rw[hl]at this
 unfold rH
 rw[show(32:Int)=((32:Nat):Int)from rfl,this]
 dsimp only
 rw[ak8,if_pos hl]
theorem aRd{b r:List UInt8}(h:(rP (some b)).2=some r):b=(rP (some b)).1.bytes++r∧(rP (some b)).1.Fit:=by
 obtain⟨t,ht⟩:∃t,t=(aa7 4096 (some b)).1:=⟨_,rfl⟩
 obtain⟨s0,hs0⟩:∃s,s=(aa7 4096 (some b)).2:=⟨_,rfl⟩
 obtain⟨k,hk⟩:∃k,k=(rH s0).1:=⟨_,rfl⟩
 obtain⟨s1,hs1⟩:∃s,s=(rH s0).2:=⟨_,rfl⟩
 obtain⟨i,hi⟩:∃i,i=(rW s1).1:=⟨_,rfl⟩
 obtain⟨s2,hs2⟩:∃s,s=(rW s1).2:=⟨_,rfl⟩
 obtain⟨c,hc⟩:∃c,c=(rW s2).1:=⟨_,rfl⟩
 obtain⟨s3,hs3⟩:∃s,s=(rW s2).2:=⟨_,rfl⟩
 obtain⟨n,hn⟩:∃n,n=(rc 16 s3).1:=⟨_,rfl⟩
 obtain⟨s4,hs4⟩:∃s,s=(rc 16 s3).2:=⟨_,rfl⟩
 have eT:rP (some b)=(⟨t,k,i,c,(uh rH n s4).1⟩,(uh rH n s4).2):=by rw[rP,ht,hk,hi,hc,hn,hs4,hs3,hs2,hs1,hs0]
 rw[eT]at h ⊢
 dsimp only at h ⊢
 have xi:=acg s1
 replace xi:(rW s1).1<4294967296:=xi
 have xc:=acg s2
 replace xc:(rW s2).1<4294967296:=xc
 have n16:n≤16:=by rw[hn];exact azb 16 s3
 rw[←hi]at xi
 rw[←hc]at xc
 cases s0 with
 |none=>rw[af9]at hs1;subst hs1;rw[ab2]at hs2;subst hs2;rw[ab2]at hs3;subst hs3;rw[adu]at hs4;subst hs4;rw[zh rH af9]at h;cases h
 |some b0 =>
 cases s1 with
 |none=>rw[ab2]at hs2;subst hs2;rw[ab2]at hs3;subst hs3;rw[adu]at hs4;subst hs4;rw[zh rH af9]at h;cases h
 |some b1 =>
 cases s2 with
 |none=>rw[ab2]at hs3;subst hs3;rw[adu]at hs4;subst hs4;rw[zh rH af9]at h;cases h
 |some b2 =>
 cases s3 with
 |none=>rw[adu]at hs4;subst hs4;rw[zh rH af9]at h;cases h
 |some b3 =>
 cases s4 with
 |none=>rw[zh rH af9]at h;cases h
 |some b4 =>
 have i0:=aB4 (m:=4096) hs0.symm
 rw[show((4096:Nat):Int)=4096 from rfl,←ht]at i0
 have i1:=aJu hs1.symm
 rw[←hk]at i1
 have i2:=al0 hs2.symm
 rw[←hi]at i2
 have i3:=al0 hs3.symm
 rw[←hc]at i3
 have i4:=ao0 hs4.symm
 rw[←hn]at i4
 have i5:=ahd rH id (λx=>x.length=32) af9 (λb r h=>aJu h) n b4 r h
 refine⟨?_,⟨i1.2,xi,xc,i5.2⟩,i0.2,(by show(uh rH n (some b4)).1.length≤16;rw[aar];exact n16)⟩
 dsimp only[MP.bytes]
 rw[aar,show(uh rH n (some b4)).1.flatten=(uh rH n (some b4)).1.flatMap id from(List.flatMap_id).symm]
 simp only[List.append_assoc]
 rw[←i5.1,←i4.1,←i3,←i2,←i1.1,←i0.1]
theorem aGi(p:MP)(r:List UInt8)(h:p.Fit):rP (some (p.bytes++r))=(p,some r):=by
 have h5:=ad4 rH id (λx=>x.length=32) (λx r hx=>aJv x r hx) p.wy.length p.wy r rfl h.ok.wy
 rw[show p.wy.flatMap id=p.wy.flatten from List.flatMap_id]at h5
 unfold MP.bytes
 simp only[List.append_assoc]
 rw[rP]
 rw[show aa7 4096 _=_ from an1 (m:=4096) p.tx _ h.tx aPl]
 dsimp only
 rw[aJv _ _ h.ok.bk]
 dsimp only
 rw[awn _ _ h.ok.ix]
 dsimp only
 rw[awn _ _ h.ok.cn]
 dsimp only
 rw[ao1 _ _ _ (by have:=h.wy;omega) h.wy]
 dsimp only
 rw[h5]
theorem ai3{b:List UInt8}{p:MP}(h:ak6 b=some p):b=p.bytes∧p.Fit:=by
 unfold ak6 at h
 split at h
 ·rename_i h1
  cases h
  have:=aRd h1
  rw[List.append_nil]at this
  exact this
 ·cases h
theorem ami{p:MP}(h:p.Fit):ak6 p.bytes=some p:=by
 have:=aGi p [] h
 rw[List.append_nil]at this
 rw[ak6,this,if_pos rfl]
theorem aGl{p:MP}(h:p.Ok)(hl:p.tx.length≤100000)(hw:p.wy.length≤100000):(ak6 p.bytes).isSome=(decide (p.tx.length≤4096)&&decide (p.wy.length≤16)):=by
 by_cases hf:p.tx.length≤4096∧p.wy.length≤16
 ·rw[ami ⟨h,hf.1,hf.2⟩,decide_eq_true hf.1,decide_eq_true hf.2]
  rfl
 ·have:ak6 p.bytes=none:=by
   cases e:ak6 p.bytes with
   |none=>rfl
   |some q =>
    exfalso
    obtain⟨e1,hq⟩:=ai3 e
    have t1:p.bytes=ctd p.tx++_:=rfl
    have t2:q.bytes=ctd q.tx++_:=rfl
    have r1:=an1 (m:=100000) p.tx (p.bk++(le 4 p.ix++(le 4 p.cn++(cnt p.wy.length++p.wy.flatten)))) hl aPl
    have r2:=an1 (m:=100000) q.tx (q.bk++(le 4 q.ix++(le 4 q.cn++(cnt q.wy.length++q.wy.flatten)))) (by have:=hq.tx;omega) aPl
    rw[←t1,e1,t2,r2]at r1
    simp only[Prod.mk.injEq,Option.some.injEq]at r1
    obtain⟨x1,x2⟩:=r1
    have y1:=congrArg (List.drop 32) x2
    rw[List.drop_left' h.bk,List.drop_left' hq.ok.bk]at y1
    have y2:=congrArg (List.drop 4) y1
    rw[List.drop_left' (jy 4 _),List.drop_left' (jy 4 _)]at y2
    have y3:=congrArg (List.drop 4) y2
    rw[List.drop_left' (jy 4 _),List.drop_left' (jy 4 _)]at y3
    have z1:=ajp p.wy.length p.wy.flatten aPl
    have z2:=ajp q.wy.length q.wy.flatten (by have:=hq.wy;omega)
    rw[←y3,z2]at z1
    have:=congrArg Prod.fst z1
    dsimp only at this
    exact hf ⟨by rw[←x1];exact hq.tx,by rw[←this];exact hq.wy⟩
  rw[this]
  by_cases h1:p.tx.length≤4096
  ·rw[decide_eq_true h1,decide_eq_false (λh2=>hf ⟨h1,h2⟩)]
   rfl
  ·rw[decide_eq_false h1]
   rfl
def rowP(x:Value)(h:List UInt8)(i c y:Value):Array Value:=(x::(h.map B8 ++ [i,c,y])).toArray
theorem pq{h:List UInt8}(hl:h.length=32)(x i c y:Value):(rowP x h i c y).size=36:=by simp[rowP,hl]
theorem alz(x:Value)(h:List UInt8)(i c y:Value):(rowP x h i c y)[0]? = some x:=rfl
theorem ajq{h:List UInt8}(hl:h.length=32)(x i c y:Value):(rowP x h i c y)[33]? = some i:=by simp[rowP,hl]
theorem ahs{h:List UInt8}(hl:h.length=32)(x i c y:Value):(rowP x h i c y)[34]? = some c:=by simp[rowP,hl]
theorem ac6{h:List UInt8}(hl:h.length=32)(x i c y:Value):(rowP x h i c y)[35]? = some y:=by simp[rowP,hl]
theorem aLv(x:Value)(h:List UInt8)(i c y v:Value):(rowP x h i c y).setIfInBounds 0 v=rowP v h i c y:=by simp[rowP]
theorem ab4(x:Value)(h:List UInt8)(i c y:Value):rowP x h i c y=((x::h.map B8) ++ [i,c,y]).toArray:=by simp[rowP]
theorem aF9{h:List UInt8}(hl:h.length=32)(x i c y v:Value):(rowP x h i c y).setIfInBounds 33 v=rowP x h v c y:=by
 rw[ab4,ab4,List.setIfInBounds_toArray,List.set_append_right _ _ (by simp[hl])]
 simp[hl]
theorem aF8{h:List UInt8}(hl:h.length=32)(x i c y v:Value):(rowP x h i c y).setIfInBounds 34 v=rowP x h i v y:=by
 rw[ab4,ab4,List.setIfInBounds_toArray,List.set_append_right _ _ (by simp[hl])]
 simp[hl]
theorem anx{h:List UInt8}(hl:h.length=32)(x i c y v:Value):(rowP x h i c y).setIfInBounds 35 v=rowP x h i c v:=by
 rw[ab4,ab4,List.setIfInBounds_toArray,List.set_append_right _ _ (by simp[hl])]
 simp[hl]
theorem aLw{h A:List UInt8}(hl:h.length=32)(hA:A.length=32)(x i c y:Value):aaz (rowP x h i c y) 1 (A.map B8)=rowP x A i c y:=by
 have:=ae7 [x] (h.map B8) [i,c,y] (A.map B8) (by simp[hl,hA])
 exact this
theorem aGa{h:List UInt8}(hl:h.length=32)(x i c y:Value):(rowP x h i c y).extract 1 33=(h.map B8).toArray:=by
 rw[ab4]
 simp[List.extract_eq_take_drop,hl]
theorem aad(h:List UInt8){x i c y:Value}(hx:x.oneCell'=true)(hi:i.oneCell'=true)(hc:c.oneCell'=true)(hy:y.oneCell'=true):jh (rowP x h i c y):=by
 unfold jh
 rw[Array.all_eq_true_iff_forall_mem]
 intro v hv
 simp only[rowP,List.mem_toArray,List.mem_cons,List.mem_append,List.mem_map,List.not_mem_nil,or_false]at hv
 rcases hv with rfl|⟨_,_,rfl⟩|rfl|rfl|rfl
 ·exact hx
 ·rfl
 ·exact hi
 ·exact hc
 ·exact hy
def pfC(p:MP)(a:Option Addr)(c:Nat)(b:Option Addr)(d:Nat):Array Value:=rowP (.slice a p.tx.length c) p.bk (.int .u32 (p.ix:Int)) (.int .u32 (p.cn:Int)) (.slice b p.wy.length d)
theorem Tryz.szProof:(Tryz.prog.info? 28).map (·.size)=some 36:=by kernel_rfl
@[go_sem ↓ high] theorem aPc (p:Value):Instr.loadAt 28 p=iq 28 p:=rfl
@[go_sem ↓ high] theorem aN4 (p v:Value):Instr.storeAt 28 p v=ji 28 p v:=rfl
@[go_sem] theorem aEg (w:World) (g:Nat):(iq 28 (.pointer (some ⟨g,0,none⟩))).run Tryz.prog w=aa8 Tryz.prog 28 (.pointer (some ⟨g,0,none⟩)) w 36 w.heap[g]? :=
 qc w _ g 36 _ Tryz.underlying28 rfl Tryz.szProof
@[go_sem] theorem aDz (w:World) (g:Nat) (cells:Array Value):(ji 28 (.pointer (some ⟨g,0,none⟩)) (.agg cells)).run Tryz.prog w=aeg Tryz.prog 28 (.pointer (some ⟨g,0,none⟩)) cells g w 36 w.heap[g]? :=
 oq w _ g 36 cells Tryz.szProof
def ang(parts:Array (Nat×Value)):Sem Value:=Instr.build 28 parts
@[go_sem ↓ high] theorem aOd (p:Array (Nat×Value)):Instr.build 28 p=ang p:=rfl
theorem agi(w:World)(parts:Array (Nat×Value))(cells:Array Value)(h:Tryz.prog.built 28 parts.toList=some cells):(ang parts).run Tryz.prog w = .ok (.agg cells) w:=run_build w _ parts cells h
theorem ap9:Tryz.prog.built 28 []=some (rowP (.slice none 0 0) z32 (.int .u32 0) (.int .u32 0) (.slice none 0 0)):=by kernel_rfl
theorem ais(l:List (List UInt8))(k:Nat)(hk:k<l.length):(l.take (k+1)).flatten=(l.take k).flatten++l.getD k []:=by
 rw[List.take_succ_eq_append_getElem hk,List.flatten_append]
 simp[List.getD,List.getElem?_eq_getElem hk]
theorem acd:∀(l:List (List UInt8)),afx l→l.flatten.length=l.length*32
 |[],_=>rfl
 |x::l,h=>by
  rw[List.flatten_cons,List.length_append,acd l (λy hy=>h y (by simp[hy])),h x (by simp),List.length_cons]
  omega
theorem axl(p:MP)(o:p.Ok)(a:Option Addr)(c:Nat)(b:Option Addr)(d:Nat)(w:World)(hb:Bs w a c p.tx)(hs:Hs w b d p.wy)(h1:p.tx.length≤50000)(h2:p.wy.length≤1000):
  Calls Tryz.prog 7 #[.agg (pfC p a c b d)] w (ou p.bytes w):=by
 obtain⟨tx,bk,ix,cn,wy⟩:=p
 obtain⟨o1,o2,o3,o4⟩:=o
 simp only at o1 o2 o3 o4 hb hs h1 h2
 simp only[MP.bytes,pfC]
 obtain⟨tn,htn⟩:∃n,n=tx.length:=⟨_,rfl⟩
 obtain⟨m,hm⟩:∃n,n=wy.length:=⟨_,rfl⟩
 rw[←htn,←hm]
 have s0:=pq o1 (.slice a tn c) (.int .u32 (ix:Int)) (.int .u32 (cn:Int)) (.slice b m d)
 have c0:=alz (.slice a tn c) bk (.int .u32 (ix:Int)) (.int .u32 (cn:Int)) (.slice b m d)
 have c33:=ajq o1 (.slice a tn c) (.int .u32 (ix:Int)) (.int .u32 (cn:Int)) (.slice b m d)
 have c34:=ahs o1 (.slice a tn c) (.int .u32 (ix:Int)) (.int .u32 (cn:Int)) (.slice b m d)
 have c35:=ac6 o1 (.slice a tn c) (.int .u32 (ix:Int)) (.int .u32 (cn:Int)) (.slice b m d)
 have x1:=aGa o1 (.slice a tn c) (.int .u32 (ix:Int)) (.int .u32 (cn:Int)) (.slice b m d)
 generalize rowP (.slice a tn c) bk (.int .u32 (ix:Int)) (.int .u32 (cn:Int)) (.slice b m d)=C at *
 have d0:=jd c0 aPl
 have d33:=jd c33 aPl
 have d34:=jd c34 aPl
 have d35:=jd c35 aPl
 have z0:0<C.size:=by omega
 have z33:33<C.size:=by omega
 have z34:34<C.size:=by omega
 have z35:35<C.size:=by omega
 have hi:=IntWalk.u64_in (ix:Int) aPl
 have hc:=IntWalk.u64_in (cn:Int) aPl
 have hmw:=IntWalk.u64_in (m:Int) aPl
 have HX:=Lib.hid x1
 have HO:=Lib.hid (And.intro o1 (And.intro o2 (And.intro o3 o4)))
 have HB0:=Lib.hid hb
 have HS0:=Lib.hid hs
 have hlow:=Lib.hid hb.low
 have L1:=Lib.hid (show tx.length≤50000∧wy.length≤1000 from⟨h1,h2⟩)
 have hmb:m≤1000:=by rw[hm];exact h2
 replace htn:=Lib.hid htn
 replace hm:=Lib.hid hm
 clear x1 hb hs o1 o2 o3 o4 h1 h2
 go_enter Tryz.func7,Tryz.ntmps7
 go_upto_region 2 with fail
 refine lu λW2 N2=>?_
 have r0:=N2.old (heap_alloc_new w (.cells C 28))
 have fW:=((Fr.refl F0 w).alloc (.cells C 28)).trans' N2.fr
 have ne:=N2.ne (heap_alloc_new w (.cells C 28))
 have i0:=WI.of N2.new
 have hz2:w.heap.size+1<W2.heap.size:=by have:=(Array.getElem?_eq_some_iff.1 N2.new).1;rw[World.size_alloc]at this;exact this
 rw[World.size_alloc]at i0 ne
 clear N2
 have gw:w.heap.size≤w.heap.size+1:=by omega
 have hbW:=Lib.hid (Bs.fr7 HB0.out fW)
 have hal:=Lib.hid (show tx ≠ []→∀k,ql a=some k→k≠w.heap.size+1∧k<W2.heap.size from λh k hk=>by have:=hlow.out h k hk;omega)
 generalize w.heap.size+1=g1 at *
 have r0':=Lib.hid r0
 clear r0 hz2
 obtain⟨g0,hg0⟩:∃g,g=w.heap.size:=⟨_,rfl⟩
 rw[←hg0]at r0' ne ⊢
 replace ne:=Lib.hid ne
 replace gw:=Lib.hid gw
 replace fW:=Lib.hid fW
 clear hg0
 have r:=i0.keep ne.out r0'.out
 have H:=Lib.hid (i0.counted a tn c tx hbW.out htn.out (by have:=L1.out;simp only[List.length_nil];omega) hal.out)
 go_wp2_with fail
 (with_reducible refine H.out.mono ?_);rintro e w3 ⟨rfl,i1⟩
 clear H r c0 d0
 have r:=i1.keep ne.out r0'.out
 have hb:=Bs.of_cells (o:=1) (n:=32) r HO.out.1 aPl HX.out
 have HLc:=Lib.hid (show(ctd tx).length≤50009 by have:=L1.out;have:=aa0 tx.length;rw[ctd,List.length_append,qh];omega)
 have HLb:=Lib.hid (show bk.length=32 from HO.out.1)
 have H:=Lib.hid (i1.raw _ 32 32 _ hb HO.out.1.symm zz35)
 go_wp2_with fail
 (with_reducible refine H.out.mono ?_);rintro e w4 ⟨rfl,i2⟩
 clear H r hb
 have r:=i2.keep ne.out r0'.out
 have H:=Lib.hid (i2.aKw ix (by have:=HO.out.2.1;omega) zz35)
 go_wp2_with fail
 (with_reducible refine H.out.mono ?_);rintro e w5 ⟨rfl,i3⟩
 clear H r c33 d33
 have r:=i3.keep ne.out r0'.out
 have H:=Lib.hid (i3.aKw cn (by have:=HO.out.2.2.1;omega) zz31)
 go_wp2_with fail
 (with_reducible refine H.out.mono ?_);rintro e w6 ⟨rfl,i4⟩
 clear H r c34 d34
 have r:=i4.keep ne.out r0'.out
 have H:=Lib.hid (i4.count m (by have:=L1.out;have:=hm.out;omega) zz31)
 go_wp2_with fail
 (with_reducible refine H.out.mono ?_);rintro e w7 ⟨rfl,i5⟩
 clear H r
 have r:=i5.keep ne.out r0'.out
 obtain⟨pre,hpre⟩:∃l,l = []++ctd tx++bk++le 4 ix++le 4 cn++cnt m:=⟨_,rfl⟩
 rw[←hpre]at i5
 have HP:=Lib.hid (show pre.length≤50100 by have:=HLc.out;have:=HLb.out;have:=aa0 m;rw[hpre];simp only[List.length_append,List.length_nil,jy,qh];omega)
 replace hpre:=Lib.hid hpre
 clear HLc HLb i0 i1 i2 i3 i4 hi hc
 go_wp2_with fail
 go_loopw [28] (λiv wr=>∃k:Nat,k≤m∧iv = .int .i64 k∧WI W2 g1 (pre++(wy.take k).flatten) wr) (λiv _=>m-(intOf iv).toNat)
 case atStart=>exact⟨0,Nat.zero_le _,rfl,by rw[List.take_zero,List.flatten_nil,List.append_nil];exact i5⟩
 case round =>
  obtain⟨k,hk,rfl,hw⟩:=hrel
  clear i5 r
  have F:=hw.frB fW.out gw.out
  by_cases hkm:k<m
  ·have hkl:k<wy.length:=by have:=hm.out;omega
   obtain⟨bb,off,rfl,hld,_⟩:=(HS0.out.fr F).load k hkl
   have ld:=hld wr (Fr.refl F0 wr)
   have l32:=HO.out.2.2.2.get hkl
   have HE:=Lib.hid (ais wy k hkl)
   have hlen:=acd (wy.take k) (λy hy=>HO.out.2.2.2 y (List.mem_of_mem_take hy))
   rw[List.length_take,Nat.min_eq_left aPl]at hlen
   have sH:=jl l32
   have oH:=qg (wy.getD k [])
   have HL:=Lib.hid (show(pre++(wy.take k).flatten).length+(wy.getD k []).length≤100000 by have:=HP.out;have:=L1.out;rw[List.length_append,hlen,l32];have:k*32≤1000*32:=Nat.mul_le_mul_right _ aPl;omega)
   have H32:=Lib.hid l32
   replace HE:Hid ((wy.take (k+1)).flatten=(wy.take k).flatten++wy.getD k []):=HE
   obtain⟨q,hq⟩:∃q,q=wy.getD k []:=⟨_,rfl⟩
   rw[←hq]at HE HL H32 ld sH oH
   have l1:(k:Int)<(m:Int):=by omega
   replace hw:=Lib.hid hw
   clear hld l32 hlen hq
   have hcq:hc q=(q.map B8).toArray:=rfl
   replace hcq:=Lib.hid hcq
   generalize hc q=X at *
   go_upto_region 10 with fail
   refine uy λW4 N4=>?_
   have r5:=N4.new
   have W4':=hw.out.fr0 N4.fr
   rw[hcq.out]at r5
   have hb5:=Bs.alb (n:=32) r5 H32.out.symm aPl
   have HR:=Lib.hid (W4'.raw _ 32 32 q hb5 H32.out.symm HL.out)
   clear N4 ld hb5 W4'
   go_wp2_with fail
   (with_reducible refine HR.out.mono ?_);rintro e w5 ⟨rfl,W5⟩
   clear HR r5
   go_wp2_with fail
   go_roundw
   case rel=>exact⟨k+1,by omega,by go_num,by rw[HE.out,←List.append_assoc];exact W5⟩
   case measure=>simp[intOf];omega
  ·obtain rfl:k=m:=by omega
   rw[hm.out,List.take_length]at hw
   have hlen:=acd wy HO.out.2.2.2
   have HB:=Lib.hid (hw.bytes fW.out gw.out (by have:=HP.out;have:=L1.out;rw[List.length_append,hlen];omega))
   have e:pre++wy.flatten=ctd tx++(bk++(le 4 ix++(le 4 cn++(cnt k++wy.flatten)))):=by rw[hpre.out];simp only[List.append_assoc,List.nil_append]
   rw[e]at HB
   clear e hlen hw F
   go_wp2_with fail
   refine HB.out.mono ?_
   rintro e w9 ⟨a9,c9,rfl,hb9,f9,n9⟩
   have HN:=Lib.hid (And.intro hb9 (And.intro f9 n9))
   clear n9 hb9 f9 HB
   obtain⟨N,hN⟩:∃N,N=(ctd tx++(bk++(le 4 ix++(le 4 cn++(cnt k++wy.flatten))))).length:=⟨_,rfl⟩
   rw[←hN]
   replace hN:=Lib.hid hN
   go_wp2_with fail
   go_ret
   exact⟨a9,c9,by rw[←hN.out];rfl,HN.out.1,HN.out.2.1,HN.out.2.2⟩
theorem alh{w:World}{g c n:Nat}{a:Option Addr}{Z:Array Value}{l:List UInt8}{ty:TypeId}(hg:w.heap[g]? = some (.cells Z 24 (0,0)))(hz:Z=hc z32)(hl:l = []∨l.length=32)(hn:n=l.length)(hb:Bs w a c l):
  (Builtin.copy_ #[22,22] ty #[.slice (some ⟨g,0,none⟩) 32 32,.slice a n c]).run Tryz.prog w = .ok (.int .i64 (n:Int)) (w.setRow g (hc (ak8 l))):=by
 subst hn
 have zs:Z.size=32:=by rw[hz];rfl
 rcases hl with rfl|hl
 ·rw[show ak8 []=z32 from rfl,←hz,akk hg]
  exact run_copy_none (P:=Tryz.prog) w 22 22 ty 5 (some ⟨g,0,none⟩) a 32 32 0 c Tryz.underlying22 (by kernel_rfl) rfl
 ·rw[show ak8 l=l from if_pos hl,hl]
  obtain⟨b,off,rfl,_⟩:=hb.at 0 aPl
  have key:=run_copy_row (P:=Tryz.prog) w 22 22 ty 5 g 0 32 32 ⟨b,off,none⟩ 32 c Z 24 (l.map B8) Tryz.underlying22 (by kernel_rfl) hg (by simp[hl]) (λj v hj=>by
    obtain⟨b',o',e,hc⟩:=hb.cell j v hj
    cases e
    rw[Addr.add_lit]
    exact hc) (by simp[hl,zs]) zz38
  rw[key]
  have e:(Z.toList.take 0++l.map B8++Z.toList.drop (0+(l.map B8).length)).toArray=hc l:=by
   rw[List.take_zero,List.nil_append,List.drop_eq_nil_of_le (by simp[hl,zs]),List.append_nil]
   rfl
  rw[e]
  simp[goInt,hl]
theorem ahl(B b:Nat)(st:Option (List UInt8))(w:World)(h:RdI B b st w)(hB:B≤w.heap.size)(hl:lft st≤1000000):
  Calls Tryz.prog 81 #[.pointer (some ⟨b,0,none⟩)] w λe w'=>e = .returned (.agg (hc (rH st).1))∧RdI B b (rH st).2 w'∧Fr (λk=>k=b) w w':=by
 have hbB:=h.lt
 have HR:=Lib.hid (λW (f:Fr F0 w W)=>(h.fr0 f).raw 32 hl)
 have ht:=tk32 st
 have e1:(rH st).1=ak8 (tk 32 st).1:=rfl
 have e2:(rH st).2=(tk 32 st).2:=rfl
 rw[e1,e2]
 generalize (tk 32 st).1=rw at *
 generalize (tk 32 st).2=s1 at *
 clear h e1 e2 hl
 obtain⟨Z,hZ⟩:∃Z,Z=hc z32:=⟨_,rfl⟩
 have zZ:Z.size=32:=by rw[hZ];rfl
 have hZ':=hZ
 replace hZ:=Lib.hid hZ
 go_enter Tryz.func81,Tryz.ntmps81
 go_upto_region 1 with fail
 refine lu λW1 N1=>?_
 have r2:=N1.new
 replace r2:W1.heap[w.heap.size]? = some (.cells Z 24 (0,0)):=by rw[hZ.out];exact r2
 have F:=N1.fr
 obtain⟨g2,hg2⟩:∃g,g=w.heap.size:=⟨_,rfl⟩
 rw[←hg2]at r2 ⊢
 clear N1
 go_upto_region 2 with fail
 refine lu λW2 N2=>?_
 have r3:=N2.new
 replace r3:W2.heap[W1.heap.size]? = some (.cells Z 24 (0,0)):=by rw[hZ.out];exact r3
 have ne:=N2.ne r2
 replace r2:=N2.old r2
 obtain⟨g3,hg3⟩:∃g,g=W1.heap.size:=⟨_,rfl⟩
 rw[←hg3]at r3 ne ⊢
 have hs3:w.heap.size≤g3:=by rw[hg3];exact F.size
 replace F:=F.trans' N2.fr
 have nb2:g2≠b:=by omega
 have nb3:g3≠b:=by omega
 have hs:=Lib.hid (show w.heap.size≤g3∧w.heap.size≤g2∧B≤w.heap.size by omega)
 clear N2 hg2 hg3 hs3
 obtain⟨rn,hrn⟩:∃n,n=rw.length:=⟨_,rfl⟩
 rw[←hrn]at HR
 replace hrn:=Lib.hid hrn
 replace hZ':=Lib.hid hZ'
 refine jm (S:=(λw'=>True)) ?_ λak=>?_
 ·exact ark
 refine aj 0 ?_
 refine aj 1 ?_
 refine jf 2 λK hK=>?_
 go_simp
 ((with_reducible refine(HR.out _ F.drew).mono ?_);rintro e w3 ⟨a3,c3,rfl,hb3,R3,f3,n3⟩;have r3':=f3.keeps (λe=>nb3 e) (ku r3);have hcp:=λty=>alh (ty:=ty) (c:=c3) r3' hZ'.out ht hrn.out hb3)
 refine rpu hK ark λak=>?_
 clear hK K
 refine jf 3 λK hK=>?_
 go_simp
 refine rpu hK ark λak=>?_
 clear hK K
 refine jg ?_
 have sX:=jl (agq rw)
 have oX:=qg (ak8 rw)
 obtain⟨X,hX⟩:∃X,X=hc (ak8 rw):=⟨_,rfl⟩
 rw[←hX]at sX oX
 replace hX:=Lib.hid hX
 have r2':=f3.keeps (λe=>nb2 e) (ku r2)
 have F3:Fr (λk=>k=b) w w3:=F.drew.of0.trans' f3
 clear HR f3 n3 hb3 hcp
 go_upto_region 3 with fail
 refine auf r3' λW5 r5 f5=>?_
 rw[←hX.out]at r5
 have R5:=R3.fr f5 (λk e=>by have:=hs.out;omega)
 replace r2:=f5.keeps (λe=>ne e) r2'
 have F5:Fr (λk=>k=b) w W5:=F3.trans f5 (λi hi e=>by have:=hs.out;omega)
 clear r2' r3' r3 F F3 f5 R3
 go_wp2_with fail
 refine bodyPost_ret (results_cell_row rfl _ _ g2 _ _ _ _ rfl zz64 Tryz.underlying24 rfl (by rw[Tryz.szHashJ,sX])) rfl ?_
 have fE:Fr (λk=>k=g2) W5 (W5.setRow g2 X):=Fr.setRow (S:=λk=>k=g2) (Fr.refl _ W5) (λ_=>rfl) _
 exact⟨by rw[hX.out],R5.fr fE (λk e=>by have:=hs.out;omega),F5.trans fE (λi hi e=>by have:=hs.out;omega)⟩
theorem aio(B b:Nat)(st:Option (List UInt8))(w:World)(h:RdI B b st w)(hl:lft st≤1000000):
  Calls Tryz.prog 82 #[.pointer (some ⟨b,0,none⟩)] w λe w'=>e = .returned (.int .u32 ((rW st).1:Int))∧RdI B b (rW st).2 w'∧Fr (λk=>k=b) w w':=by
 have HG:=Lib.hid (h.get 4 rfl hl)
 have hx:=acg st
 have h1:(rW st).1=ofLE (tk 4 st).1:=rfl
 have h2:(rW st).2=(tk 4 st).2:=rfl
 rw[h1,h2]
 generalize ofLE (tk 4 st).1=x at *
 generalize (tk 4 st).2=st' at *
 have hw:IntKind.u32.wrap (x:Int)=(x:Int):=by rw[IntWalk.u32_in _ aPl]
 clear h h1 h2 hl
 go_enter Tryz.func82,Tryz.ntmps82
 go_wp2_with fail
 (with_reducible refine HG.out.mono ?_);rintro e w2 ⟨rfl,R2,f2⟩
 go_wp2_with fail
 go_ret
 exact⟨rfl,R2,f2⟩
theorem RdI.aM9{B b:Nat}{st:Option (List UInt8)}{w:World}(h:RdI B b st w)(hl:lft st≤1000000):
  Calls Tryz.prog 83 #[.pointer (some ⟨b,0,none⟩),.int .u64 16] w λe w'=>e = .returned (.int .u64 (rc 16 st).1)∧RdI B b (rc 16 st).2 w'∧Fr (λk=>k=b) w w':=h.count 16 aPl hl
theorem ak2(w:World)(g:Nat)(cells:Array Value):(ji 24 (.pointer (some ⟨g,1,none⟩)) (.agg cells)).run Tryz.prog w=awo Tryz.prog 24 (.pointer (some ⟨g,1,none⟩)) cells g w 32 1 36 w.heap[g]? :=
 acs w _ g 1 32 36 cells aPl aPl Tryz.szHashJ
attribute [local go_sem] ak2
theorem aCc(b:Nat)(st:Option (List UInt8))(w:World)(h:RdI w.heap.size b st w)(hl:lft st≤1000000):
  Calls Tryz.prog 44 #[.pointer (some ⟨b,0,none⟩)] w λe w'=>∃a c b2 d,e = .returned (.agg (pfC (rP st).1 a c b2 d))∧Bs w' a c (rP st).1.tx∧Hs w' b2 d (rP st).1.wy∧(rP st).1.Ok∧RdI w.heap.size b (rP st).2 w'∧Fr (λk=>k=b) w w' ∧
   (∀k,ql a=some k→w.heap.size≤k)∧∀k,ql b2=some k→w.heap.size≤k:=by
 obtain⟨B,hB⟩:∃B,B=w.heap.size:=⟨_,rfl⟩
 rw[←hB]at h ⊢
 have hbB:=h.lt
 obtain⟨tx,htx⟩:∃t,t=(aa7 4096 st).1:=⟨_,rfl⟩
 obtain⟨s0,hs0⟩:∃s,s=(aa7 4096 st).2:=⟨_,rfl⟩
 obtain⟨bk,hbk⟩:∃k,k=(rH s0).1:=⟨_,rfl⟩
 obtain⟨s1,hs1⟩:∃s,s=(rH s0).2:=⟨_,rfl⟩
 obtain⟨ix,hix⟩:∃i,i=(rW s1).1:=⟨_,rfl⟩
 obtain⟨s2,hs2⟩:∃s,s=(rW s1).2:=⟨_,rfl⟩
 obtain⟨cn,hcn⟩:∃c,c=(rW s2).1:=⟨_,rfl⟩
 obtain⟨s3,hs3⟩:∃s,s=(rW s2).2:=⟨_,rfl⟩
 obtain⟨n,hn⟩:∃n,n=(rc 16 s3).1:=⟨_,rfl⟩
 obtain⟨s4,hs4⟩:∃s,s=(rc 16 s3).2:=⟨_,rfl⟩
 have eT:rP st=(⟨tx,bk,ix,cn,(uh rH n s4).1⟩,(uh rH n s4).2):=by rw[rP,htx,hbk,hix,hcn,hn,hs4,hs3,hs2,hs1,hs0]
 rw[eT]
 have k0:lft s0≤lft st:=by rw[hs0];exact ag0 4096 st
 have k1:lft s1≤lft s0:=by rw[hs1];exact auh s0
 have k2:lft s2≤lft s1:=by rw[hs2];exact af2 s1
 have k3:lft s3≤lft s2:=by rw[hs3];exact af2 s2
 have k4:lft s4≤lft s3:=by rw[hs4];exact aib 16 s3
 have k5:∀k,lft (uh rH k s4).2≤lft s4:=λk=>ab6 rH auh k s4
 have n16:n≤16:=by rw[hn];exact azb 16 s3
 have xi:=acg s1
 replace xi:(rW s1).1<4294967296:=xi
 have xc:=acg s2
 replace xc:(rW s2).1<4294967296:=xc
 have l32:bk.length=32:=by rw[hbk];exact aJt s0
 have H0:=Lib.hid (λW (r:RdI B b st W)=>r.counted 4096 aPl hl)
 have H1:=Lib.hid (λW (r:RdI B b s0 W) (hs:B≤W.heap.size)=>ahl B b s0 W r hs aPl)
 have H2:=Lib.hid (λW (r:RdI B b s1 W)=>aio B b s1 W r aPl)
 have H3:=Lib.hid (λW (r:RdI B b s2 W)=>aio B b s2 W r aPl)
 have H4:=Lib.hid (λW (r:RdI B b s3 W)=>r.aM9 aPl)
 have H5:=Lib.hid (λk W (r:RdI B b (uh rH k s4).2 W) (hs:B≤W.heap.size)=>ahl B b _ W r hs (by have:=k5 k;omega))
 rw[←htx,←hs0]at H0
 rw[←hbk,←hs1]at H1
 rw[←hix]at H2 xi
 rw[←hs2]at H2
 rw[←hcn]at H3 xc
 rw[←hs3]at H3
 rw[←hn,←hs4]at H4
 have HA:=Lib.hid (And.intro l32 (And.intro xi xc))
 clear eT htx hs0 hbk hs1 hix hs2 hcn hs3 hn hs4 k0 k1 k2 k3 k4 k5
 obtain⟨Z,hZ⟩:∃Z,Z=rowP (.slice none 0 0) z32 (.int .u32 0) (.int .u32 0) (.slice none 0 0):=⟨_,rfl⟩
 have sZ:Z.size=36:=by rw[hZ];rfl
 replace hZ:=Lib.hid hZ
 go_enter Tryz.func44,Tryz.ntmps44
 go_upto_region 1 with fail
 refine lu λW1 N1=>?_
 have r2:=N1.new
 replace r2:W1.heap[w.heap.size]? = some (.cells Z 28 (0,0)):=by rw[hZ.out];exact r2
 have F:=N1.fr
 have R1:=h.fr0 F
 obtain⟨g2,hg2⟩:∃g,g=w.heap.size:=⟨_,rfl⟩
 rw[←hg2]at r2 ⊢
 have nb2:g2≠b:=by omega
 replace hg2:=Lib.hid (show B≤g2 by omega)
 clear N1 h
 go_upto_region 2 with fail
 refine lu λW4 N4=>?_
 have r3:=N4.new
 replace r3:W4.heap[W1.heap.size]? = some (.cells (rowP (.slice none 0 0) z32 (.int .u32 0) (.int .u32 0) (.slice none 0 0)) 28 (0,0)):=r3
 have r2w:=r2
 replace r2:=N4.old r2
 obtain⟨g3,hg3⟩:∃g,g=W1.heap.size:=⟨_,rfl⟩
 rw[←hg3]at r3 ⊢
 have R4:=R1.fr0 N4.fr
 have hs3:B≤g3:=by rw[hg3,hB];exact F.size
 have F4:Fr (λk=>k=b) w W4:=F.of0.trans N4.fr (λi hi e=>e.elim)
 have nb3:g3≠b:=by omega
 have ne:g2≠g3:=by rw[hg3];exact N4.ne r2w
 obtain⟨B4,hB4⟩:∃x,x=W4.heap.size:=⟨_,rfl⟩
 have hlt3:g3<B4:=by rw[hB4];exact(Array.getElem?_eq_some_iff.1 r3).1
 have hlt2:g2<B4:=by rw[hB4];exact(Array.getElem?_eq_some_iff.1 r2).1
 replace hs3:=Lib.hid (show B≤g3∧B≤g2∧g3<B4∧g2<B4∧B4≤W4.heap.size∧B≤B4 from⟨hs3,hg2.out,hlt3,hlt2,Nat.le_of_eq hB4,by omega⟩)
 clear N4 hg3 R1 F hlt3 hlt2 hB4 r2w
 obtain⟨tn,htn⟩:∃n,n=tx.length:=⟨_,rfl⟩
 rw[←htn]at H0
 replace htn:=Lib.hid htn
 have hz32:z32.length=32:=rfl
 go_wp2_with fail
 (with_reducible refine(H0.out _ R4).mono ?_);rintro e w5 ⟨a5,c5,rfl,hb5,R5,f5,n5⟩
 replace r2:=f5.keeps (λe=>nb2 e) r2
 replace r3:=f5.keeps (λe=>nb3 e) r3
 have z3:=pq hz32 (.slice none 0 0) (.int .u32 0) (.int .u32 0) (.slice none 0 0)
 have c3:=alz (.slice none 0 0) z32 (.int .u32 0) (.int .u32 0) (.slice none 0 0)
 replace F4:=F4.trans' f5
 have hs5:=Lib.hid f5.size
 have hn5:=Lib.hid (show(∀k,ql a5=some k→B4≤k)∧(tx ≠ []→∀k,ql a5=some k→k<w5.heap.size)from⟨λk hk=>Nat.le_trans hs3.out.2.2.2.2.1 (n5 k hk),λht=>hb5.low ht⟩)
 clear f5 R4 H0 n5
 go_wp2_with fail
 refine aaw r3 λW6 r6 f6=>?_
 rw[aLv]at r6
 have R6:=R5.fr f6 (λk e=>by have:=hs3.out;omega)
 replace r2:=f6.keeps (λe=>ne e) r2
 have F6:Fr (λk=>k=b) w W6:=F4.trans f6 (λi hi e=>by have:=hs3.out;omega)
 have hb6:=hb5.frx f6 (λ_ k hk e=>by have h1:=hn5.out.1 k hk;have h2:=hs3.out;omega)
 have hs6:=Lib.hid (show B4≤W6.heap.size∧B≤W6.heap.size∧w5.heap.size≤W6.heap.size from by have h1:=hs5.out;have h2:=f6.size;have h3:=hs3.out;omega)
 clear f6 r3 F4 R5 z3 c3 hb5
 (with_reducible refine(H1.out _ R6 hs6.out.2.1).mono ?_);rintro e w7 ⟨rfl,R7,f7⟩
 replace r2:=f7.keeps (λe=>nb2 e) r2
 replace r6:=f7.keeps (λe=>nb3 e) r6
 replace F6:=F6.trans' f7
 have hb7:=hb6.frx f7 (λ_ k hk e=>by have h1:=hn5.out.1 k hk;have h2:=hs3.out;omega)
 have hs7:=Lib.hid (show B4≤w7.heap.size∧B≤w7.heap.size∧w5.heap.size≤w7.heap.size from by have h1:=hs6.out;have h2:=f7.size;omega)
 have z6:=pq hz32 (.slice a5 tn c5) (.int .u32 0) (.int .u32 0) (.slice none 0 0)
 have szX:=jl l32
 have onX:=qg bk
 clear f7 R6 H1 hb6 hs6
 go_wp2_with fail
 refine aj8 r6 λW8 r8 f8=>?_
 rw[show(hc bk).toList=bk.map B8 from rfl,aLw hz32 l32]at r8
 have R8:=R7.fr f8 (λk e=>by have:=hs3.out;omega)
 replace r2:=f8.keeps (λe=>ne e) r2
 have F8:Fr (λk=>k=b) w W8:=F6.trans f8 (λi hi e=>by have:=hs3.out;omega)
 have hb8:=hb7.frx f8 (λ_ k hk e=>by have h1:=hn5.out.1 k hk;have h2:=hs3.out;omega)
 have hs8:=Lib.hid (show B4≤W8.heap.size∧B≤W8.heap.size∧w5.heap.size≤W8.heap.size from by have h1:=hs7.out;have h2:=f8.size;omega)
 clear f8 r6 F6 R7 z6 szX onX hb7 hs7
 have z8:=pq l32 (.slice a5 tn c5) (.int .u32 0) (.int .u32 0) (.slice none 0 0)
 have c8:=ajq l32 (.slice a5 tn c5) (.int .u32 0) (.int .u32 0) (.slice none 0 0)
 (with_reducible refine(H2.out _ R8).mono ?_);rintro e w9 ⟨rfl,R9,f9⟩
 replace r2:=f9.keeps (λe=>nb2 e) r2
 replace r8:=f9.keeps (λe=>nb3 e) r8
 replace F8:=F8.trans' f9
 have hb9:=hb8.frx f9 (λ_ k hk e=>by have h1:=hn5.out.1 k hk;have h2:=hs3.out;omega)
 have hs9:=Lib.hid (show B4≤w9.heap.size∧B≤w9.heap.size∧w5.heap.size≤w9.heap.size from by have h1:=hs8.out;have h2:=f9.size;omega)
 clear f9 R8 H2 hb8 hs8
 go_wp2_with fail
 refine aaw r8 λW10 r10 f10=>?_
 rw[aF9 l32]at r10
 have R10:=R9.fr f10 (λk e=>by have:=hs3.out;omega)
 replace r2:=f10.keeps (λe=>ne e) r2
 have F10:Fr (λk=>k=b) w W10:=F8.trans f10 (λi hi e=>by have:=hs3.out;omega)
 have ay7:=hb9.frx f10 (λ_ k hk e=>by have h1:=hn5.out.1 k hk;have h2:=hs3.out;omega)
 have hs10:=Lib.hid (show B4≤W10.heap.size∧B≤W10.heap.size∧w5.heap.size≤W10.heap.size from by have h1:=hs9.out;have h2:=f10.size;omega)
 clear f10 r8 F8 R9 z8 c8 hb9 hs9
 have z10:=pq l32 (.slice a5 tn c5) (.int .u32 (ix:Int)) (.int .u32 0) (.slice none 0 0)
 have c10:=ahs l32 (.slice a5 tn c5) (.int .u32 (ix:Int)) (.int .u32 0) (.slice none 0 0)
 (with_reducible refine(H3.out _ R10).mono ?_);rintro e w11 ⟨rfl,R11,f11⟩
 replace r2:=f11.keeps (λe=>nb2 e) r2
 replace r10:=f11.keeps (λe=>nb3 e) r10
 replace F10:=F10.trans' f11
 have hb11:=ay7.frx f11 (λ_ k hk e=>by have h1:=hn5.out.1 k hk;have h2:=hs3.out;omega)
 have hs11:=Lib.hid (show B4≤w11.heap.size∧B≤w11.heap.size∧w5.heap.size≤w11.heap.size from by have h1:=hs10.out;have h2:=f11.size;omega)
 clear f11 R10 H3 ay7 hs10
 go_wp2_with fail
 refine aaw r10 λW12 r12 f12=>?_
 rw[aF8 l32]at r12
 have R12:=R11.fr f12 (λk e=>by have:=hs3.out;omega)
 replace r2:=f12.keeps (λe=>ne e) r2
 have F12:Fr (λk=>k=b) w W12:=F10.trans f12 (λi hi e=>by have:=hs3.out;omega)
 have hb12:=hb11.frx f12 (λ_ k hk e=>by have h1:=hn5.out.1 k hk;have h2:=hs3.out;omega)
 have hs12:=Lib.hid (show B4≤W12.heap.size∧B≤W12.heap.size∧w5.heap.size≤W12.heap.size from by have h1:=hs11.out;have h2:=f12.size;omega)
 clear f12 r10 F10 R11 z10 c10 hb11 hs11
 (with_reducible refine(H4.out _ R12).mono ?_);rintro e w13 ⟨rfl,R13,f13⟩
 replace r2:=f13.keeps (λe=>nb2 e) r2
 replace r12:=f13.keeps (λe=>nb3 e) r12
 replace F12:=F12.trans' f13
 have hb13:=hb12.frx f13 (λ_ k hk e=>by have h1:=hn5.out.1 k hk;have h2:=hs3.out;omega)
 have aPw:=Lib.hid (show B4≤w13.heap.size∧B≤w13.heap.size∧w5.heap.size≤w13.heap.size from by have h1:=hs12.out;have h2:=f13.size;omega)
 clear f13 R12 H4 hb12 hs12
 obtain⟨B5,hB5⟩:∃x,x=w13.heap.size:=⟨_,rfl⟩
 have hlo:=Lib.hid (show B4≤B5∧B≤B5∧(tx ≠ []→∀k,ql a5=some k→k<B5)∧b<B5 from⟨by have:=aPw.out;omega,by have:=aPw.out;omega,λht k hk=>by have h1:=hn5.out.2 ht k hk;have h2:=aPw.out;omega,by have:=aPw.out;omega⟩)
 have aJc:=Lib.hid (Nat.le_of_eq hB5)
 replace hb13:=Lib.hid hb13
 clear hB5 aPw
 go_wp2_with fail
 go_loopw [18] (λiv wr=>∃(k:Nat) (l:List (List UInt8)) (vi:Value),k≤n∧iv = .int .u64 (k:Int)∧Hid (l=(uh rH k s4).1)∧wr.heap[g3]? = some (.cells (rowP (.slice a5 tn c5) bk (.int .u32 (ix:Int)) (.int .u32 (cn:Int)) vi) 28 (0,0)) ∧
  wr.heap[g2]? = some (.cells Z 28 (0,0))∧Hid (abh 24 B5 wr vi l)∧Hid (Bs wr a5 c5 tx)∧RdI B b (uh rH k s4).2 wr∧Fr (λk=>k=b) w wr∧Hid (B5≤wr.heap.size)) (λiv _=>n-(intOf iv).toNat)
 case atStart=>exact⟨0,[],_,Nat.zero_le _,rfl,rfl,r12,r2,abh.nil _ _ _,hb13.out,R13,F12,aJc.out⟩
 case round =>
  obtain⟨k,l,vi,hk,rfl,hl0,q3,q2,HO,HB,hR,hF,hz⟩:=hrel
  clear r12 r2 R13 F12 hb13 aJc
  by_cases hkn:k<n
  ·have l1:(k:Int)<(n:Int):=by omega
   have hlen:l.length=k:=by have:=congrArg List.length hl0.out;simpa [aar]using this
   have hx32:=aJt (uh rH k s4).2
   have q3d:=ku q3
   have hRd:=hR.fr0 (Fr.refl F0 _).drew
   have hOd:=Lib.hid (HO.out.fr0 ((Fr.refl F0 _).drew))
   have aud:=Lib.hid (show B5≤wr.drew.heap.size∧B≤wr.drew.heap.size from⟨hz.out,Nat.le_trans hlo.out.2.1 hz.out⟩)
   have HC:=Lib.hid (H5.out k _ hRd aud.out.2)
   have hFd:Fr (λk=>k=b) w wr.drew:=hF.drew
   have HBd:=Lib.hid (Bs.fr7 HB.out (Fr.refl F0 _).drew)
   have aJf:=ac6 l32 (.slice a5 tn c5) (.int .u32 (ix:Int)) (.int .u32 (cn:Int)) vi
   have zz:=pq l32 (.slice a5 tn c5) (.int .u32 (ix:Int)) (.int .u32 (cn:Int)) vi
   obtain⟨X,hX⟩:∃X,X=(rH (uh rH k s4).2).1:=⟨_,rfl⟩
   rw[←hX]at HC hx32
   replace hX:=Lib.hid hX
   have z35:35<(rowP (.slice a5 tn c5) bk (.int .u32 (ix:Int)) (.int .u32 (cn:Int)) vi).size:=by omega
   have aPz:=jd aJf z35
   clear hRd HO hF hR HB
   go_upto_region 8 with fail
   refine jm (S:=(λw'=>True)) ?_ λak=>?_
   ·exact ark
   refine aj 0 ?_
   refine aj 2 ?_
   refine rdy [1,3] ?_
   refine rco (λK hK=>?_) (rco (λK hK=>?_) AllReadyH.nil)
   go_simp
   refine rpu hK ark λak=>?_
   clear hK K
   refine jf 3 λK hK=>?_
   go_simp
   ((with_reducible refine HC.out.mono ?_);rintro e w6 ⟨rfl,R6,f6⟩;have q36:=f6.keeps (λe=>nb3 e) q3d;have O6:=Lib.hid (hOd.out.frS f6 (λk e h=>by have h1:=hOd.out.blk k e;have h2:=hlo.out;omega));have aI7:(w6.alloc (.cells (hc X) 24)).heap[g3]? = _:=bg q36;have ars:=aa3 w6 (hc X) (jl hx32);have happ:=λty=>O6.out.appH X hx32 zz49 aPl ty;obtain⟨a7,c7,w7,happ,O7,f7,s7,n7⟩:=happ 26;have q37:=f7.keeps (λe=>by have h1:=O6.out.blk g3 e;have h2:=hs3.out;have h3:=hlo.out;omega) q36)
   refine rpu hK ark λak=>?_
   clear hK K
   refine jf 4 λK hK=>?_
   go_simp
   refine rpu hK ark λak=>?_
   clear hK K
   refine jf 5 λK hK=>?_
   go_simp
   refine rpu hK ark λak=>?_
   clear hK K
   refine aj 6 ?_
   refine jf 7 λK hK=>?_
   go_simp
   refine rpu hK ark λak=>?_
   clear hK K
   refine jg ?_
   rotate_left
   go_simp
   ((with_reducible refine HC.out.mono ?_);rintro e w6 ⟨rfl,R6,f6⟩;have q36:=f6.keeps (λe=>nb3 e) q3d;have O6:=Lib.hid (hOd.out.frS f6 (λk e h=>by have h1:=hOd.out.blk k e;have h2:=hlo.out;omega));have aI7:(w6.alloc (.cells (hc X) 24)).heap[g3]? = _:=bg q36;have ars:=aa3 w6 (hc X) (jl hx32);have happ:=λty=>O6.out.appH X hx32 zz49 aPl ty;obtain⟨a7,c7,w7,happ,O7,f7,s7,n7⟩:=happ 26;have q37:=f7.keeps (λe=>by have h1:=O6.out.blk g3 e;have h2:=hs3.out;have h3:=hlo.out;omega) q36)
   refine rpu hK ark λak=>?_
   clear hK K
   refine rdy [1,4] ?_
   refine rco (λK hK=>?_) (rco (λK hK=>?_) AllReadyH.nil)
   go_simp
   refine rpu hK ark λak=>?_
   clear hK K
   refine jf 4 λK hK=>?_
   go_simp
   refine rpu hK ark λak=>?_
   clear hK K
   refine jf 5 λK hK=>?_
   go_simp
   refine rpu hK ark λak=>?_
   clear hK K
   refine aj 6 ?_
   refine jf 7 λK hK=>?_
   go_simp
   refine rpu hK ark λak=>?_
   clear hK K
   refine jg ?_
   rotate_left
   go_simp
   refine rpu hK ark λak=>?_
   clear hK K
   refine jf 1 λK hK=>?_
   go_simp
   refine rpu hK ark λak=>?_
   clear hK K
   refine jf 5 λK hK=>?_
   go_simp
   refine rpu hK ark λak=>?_
   clear hK K
   refine aj 6 ?_
   refine jf 7 λK hK=>?_
   go_simp
   refine rpu hK ark λak=>?_
   clear hK K
   refine jg ?_
   rotate_left
   all_goals
    have q27:=f7.keeps (λe=>by have h1:=O6.out.blk g2 e;have h2:=hs3.out;have h3:=hlo.out;omega) (f6.keeps (λe=>nb2 e) (ku q2))
    have R7:=R6.fr f7 (λi e=>by have h1:=O6.out.blk i e;have h3:=hlo.out;omega)
    have F7:Fr (λk=>k=b) w w7:=(hFd.trans' f6).trans f7 (λi hi e=>by have h1:=O6.out.blk i e;have h3:=hlo.out;omega)
    have hb7:=(HBd.out.frx f6 (λ_ k hk e=>by have h1:=hn5.out.1 k hk;have h2:=hs3.out;omega)).frx f7 (λht k hk e=>by have h1:=O6.out.blk k e;have h2:=hlo.out.2.2.1 ht k hk;omega)
    have hz7:=Lib.hid (show B5≤w7.heap.size by have h1:=f6.size;have h3:=aud.out;omega)
    have hE:l ++ [X]=(uh rH (k+1) s4).1:=by rw[hl0.out,aav,hX.out]
    have HE:=Lib.hid hE
    rw[hlen]at O7
    clear hE q3 q2 q3d q36 aI7 R6 happ ars hx32 f6 HC hFd n7 s7 f7 hX
    go_upto_region 9 with fail
    refine aej q37 λW8 r8 f8=>?_
    rw[anx l32]at r8
    have aE0:=hs3.out
    have aOu:=hlo.out
    have r28:=f8.keeps (λe=>ne e) q27
    have R8:=R7.fr f8 (λi e=>by omega)
    have F8:Fr (λk=>k=b) w W8:=F7.trans f8 (λi hi e=>by omega)
    have O8:=Lib.hid (O7.frS f8 (λi e h=>by have h1:=O7.blk i e;omega))
    have HB8:=Lib.hid (hb7.frx f8 (λ_ k hk e=>by have h1:=hn5.out.1 k hk;omega))
    have hz8:=Lib.hid (Nat.le_trans hz7.out f8.size)
    clear f8 q37 q27 R7 F7 O7 hz7 aE0 aOu hb7 zz aJf z35 aPz
    go_wp2_with fail
    go_roundw
    case rel=>exact⟨k+1,l ++ [X],_,by omega,by go_num,HE.out,r8,r28,O8.out,HB8.out,by rw[aav];exact R8,F8,hz8.out⟩
    case measure=>simp[intOf];omega
  ·obtain rfl:k=n:=by omega
   have hlen:l.length=k:=by have:=congrArg List.length hl0.out;simpa [aar]using this
   obtain⟨b2,d2,rfl,hH⟩:=HO.out.is
   have hnb:=HO.out.blk
   have hnl:=HO.out.lt
   have zz:=pq l32 (.slice a5 tn c5) (.int .u32 (ix:Int)) (.int .u32 (cn:Int)) (.slice b2 l.length d2)
   have oo:jh (rowP (.slice a5 tn c5) bk (.int .u32 (ix:Int)) (.int .u32 (cn:Int)) (.slice b2 l.length d2)):=aad bk rfl rfl rfl rfl
   obtain⟨Y,hY⟩:∃Y,Y=rowP (.slice a5 tn c5) bk (.int .u32 (ix:Int)) (.int .u32 (cn:Int)) (.slice b2 l.length d2):=⟨_,rfl⟩
   rw[←hY]at q3 zz oo
   replace hY:=Lib.hid hY
   replace hnb:=Lib.hid (And.intro hnb hnl)
   replace hl0:=Lib.hid hl0.out
   replace hH:=Lib.hid hH
   clear hnl H5 HO
   go_wp2_with fail
   have fE:Fr (λk=>k=g2) wr (wr.setRow g2 Y):=Fr.setRow (S:=λk=>k=g2) (Fr.refl _ wr) (λ_=>rfl) _
   have aE0:=hs3.out
   have aOu:=hlo.out
   refine bodyPost_ret (results_cell_row rfl _ _ g2 _ _ _ _ rfl zz62 Tryz.underlying28 rfl (by rw[Tryz.szProof,zz])) rfl ?_
   refine⟨a5,c5,b2,d2,?_,?_,?_,⟨HA.out.1,HA.out.2.1,HA.out.2.2,?_⟩,hR.fr fE (λi e=>by omega),hF.trans fE (λi hi e=>by omega),λi hi=>by have h1:=hn5.out.1 i hi;omega,λi hi=>by have h1:=hnb.out.1 i aPo;omega⟩
   ·rw[hY.out,pfC,←htn.out,←hl0.out]
   ·exact HB.out.frx fE (λ_ i hi e=>by have h1:=hn5.out.1 i hi;omega)
   ·show Hs _ b2 d2 (uh rH k s4).1
    rw[←hl0.out]
    exact hH.out.frx fE (λi hi e=>by have h1:=hnb.out.1 i aPo;omega)
   ·show afx (uh rH k s4).1
    rw[←hl0.out]
    exact hH.out.ok
end Go.Proofs.YtjlelckefiannaaGreatDoor
namespace Go.Proofs.YtjlelckefiannaaGreatDoor
set_option linter.unusedVariables false
set_option linter.unusedSimpArgs false
open Go.RowKit
theorem aRc(st:Option (List UInt8)):lft (rP st).2≤lft st:=by
 obtain⟨s0,hs0⟩:∃s,s=(aa7 4096 st).2:=⟨_,rfl⟩
 obtain⟨s1,hs1⟩:∃s,s=(rH s0).2:=⟨_,rfl⟩
 obtain⟨s2,hs2⟩:∃s,s=(rW s1).2:=⟨_,rfl⟩
 obtain⟨s3,hs3⟩:∃s,s=(rW s2).2:=⟨_,rfl⟩
 obtain⟨n,hn⟩:∃n,n=(rc 16 s3).1:=⟨_,rfl⟩
 obtain⟨s4,hs4⟩:∃s,s=(rc 16 s3).2:=⟨_,rfl⟩
 have eT:(rP st).2=(uh rH n s4).2:=by rw[rP,hn,hs4,hs3,hs2,hs1,hs0]
 have k0:lft s0≤lft st:=by rw[hs0];exact ag0 4096 st
 have k1:lft s1≤lft s0:=by rw[hs1];exact auh s0
 have k2:lft s2≤lft s1:=by rw[hs2];exact af2 s1
 have k3:lft s3≤lft s2:=by rw[hs3];exact af2 s2
 have k4:lft s4≤lft s3:=by rw[hs4];exact aib 16 s3
 have k5:=ab6 rH auh n s4
 rw[eT]
 omega
def PfQ(bs:List UInt8)(w:World)(e:Ending)(w':World):Prop :=
 ∃(p:MP) (E:Int) (a:Option Addr) (c:Nat) (b:Option Addr) (d:Nat),e = .returned (.tuple #[.agg (pfC p a c b d),.int .i64 E])∧((ak6 bs=some p∧E=0)∨(ak6 bs=none∧E=2∧p=MP.zero))∧p.Ok∧Bs w' a c p.tx∧Hs w' b d p.wy∧Fr F0 w w' ∧
  (∀k,ql a=some k→w.heap.size≤k)∧∀k,ql b=some k→w.heap.size≤k
theorem amk(a:Option Addr)(n c:Nat)(bs:List UInt8)(w:World)(h:Bs w a c bs)(hn:n=bs.length)(hl:bs.length≤100000):Calls Tryz.prog 10 #[.slice a n c] w (PfQ bs w):=by
 have HR:=Lib.hid (λw' (f:Fr F0 w w')=>aoh a n c bs w' (Bs.fr7 h f) hn aPl)
 have hlf:lft (some bs)≤1000000:=by show bs.length≤_;omega
 have HD:=Lib.hid (λb w' (r:RdI w'.heap.size b (some bs) w')=>aCc b (some bs) w' r hlf)
 have aKz:lft (rP (some bs)).2≤1000000:=Nat.le_trans (aRc _) hlf
 obtain⟨M,hM⟩:∃M,M=(rP (some bs)).1:=⟨_,rfl⟩
 obtain⟨st,hst⟩:∃st,st=(rP (some bs)).2:=⟨_,rfl⟩
 rw[←hM,←hst]at HD
 rw[←hst]at aKz
 have hP:ak6 bs=if st=some []then some M else none:=by unfold ak6;rw[←hM,←hst]
 replace hP:=Lib.hid hP
 clear hM hst h hlf
 replace hn:=Lib.hid hn
 replace hl:=Lib.hid hl
 obtain⟨Z,hZ⟩:∃Z,Z=rowP (.slice none 0 0) z32 (.int .u32 0) (.int .u32 0) (.slice none 0 0):=⟨_,rfl⟩
 have sZ:Z.size=36:=by rw[hZ];rfl
 have oZ:jh Z:=by rw[hZ];exact aad z32 rfl rfl rfl rfl
 have hzb:∀w,(ang #[]).run Tryz.prog w = .ok (.agg Z) w:=λw=>by rw[hZ];exact agi w #[] _ ap9
 replace hZ:=Lib.hid hZ
 go_enter Tryz.func10,Tryz.ntmps10
 go_upto_region 1 with fail
 refine lu λW1 N1=>?_
 have r2:=N1.new
 replace r2:W1.heap[w.heap.size]? = some (.cells Z 28 (0,0)):=by rw[hZ.out];exact r2
 have F:=N1.fr
 obtain⟨g2,hg2⟩:∃g,g=w.heap.size:=⟨_,rfl⟩
 rw[←hg2]at r2 ⊢
 replace hg2:=Lib.hid (Nat.le_of_eq hg2.symm)
 clear N1
 go_wp2_with fail
 (with_reducible refine(HR.out _ F).mono ?_);rintro e w3 hr
 obtain⟨b,rfl,R3,f3,hb3⟩:=RdI.of hr
 have n2b:g2≠b:=by have:=(Array.getElem?_eq_some_iff.1 r2).1;omega
 replace r2:=f3.keeps (λf=>f) r2
 have hbl:=Lib.hid (show w.heap.size≤b from Nat.le_trans F.size hb3)
 replace F:=F.trans' f3
 clear hr f3 HR hb3
 go_wp2_with fail
 have sz3:=Lib.hid F.size
 have g23:=Lib.hid (show g2<w3.heap.size from(Array.getElem?_eq_some_iff.1 r2).1)
 (with_reducible refine(HD.out _ _ R3).mono ?_);rintro e w4 ⟨a4,c4,b4,d4,rfl,hb4,hs4,ok4,R4,f4,na,nb⟩
 replace r2:=f4.keeps (λe=>n2b e) r2
 replace F:Fr F0 w w4:=F.trans f4 (λi hi e=>by have:=hbl.out;omega)
 have HE:=Lib.hid (λW (f:Fr F0 w4 W)=>(R4.fr0 f).ended (st:=st) aKz)
 have HN:=Lib.hid (show(∀k,ql a4=some k→w3.heap.size≤k)∧(∀k,ql b4=some k→w3.heap.size≤k)from⟨na,nb⟩)
 have HM:=Lib.hid (And.intro hb4 (And.intro hs4 ok4))
 have sY:=pq ok4.bk (.slice a4 M.tx.length c4) (.int .u32 (M.ix:Int)) (.int .u32 (M.cn:Int)) (.slice b4 M.wy.length d4)
 have oY:jh (pfC M a4 c4 b4 d4):=aad _ rfl rfl rfl rfl
 replace sY:(pfC M a4 c4 b4 d4).size=36:=sY
 obtain⟨Y,hY⟩:∃Y,Y=pfC M a4 c4 b4 d4:=⟨_,rfl⟩
 rw[←hY]at sY oY ⊢
 replace hY:=Lib.hid hY
 clear f4 R4 R3 HD aKz hb4 hs4 ok4 na nb n2b hbl
 go_upto_region 3 with fail
 refine uy λW5 N5=>?_
 have r5:=N5.new
 replace r2:=N5.old r2
 replace F:=F.trans' N5.fr
 have F5:=N5.fr
 clear N5
 generalize w4.heap.size=g5 at *
 go_wp2_with fail
 (with_reducible refine(HE.out _ F5).mono ?_);rintro e w6 ⟨rfl,rfl⟩
 cases q2:decide (st=some [])with
 |false =>
  have hp:ak6 bs=none:=by rw[hP.out];exact if_neg (λh=>by rw[decide_eq_false_iff_not]at q2;exact q2 h)
  replace hp:=Lib.hid hp
  clear hP q2 r5 HE
  go_wp2_with fail
  refine bodyPost_ret (cu rfl _ _ g2 _ _ _ _ rfl zz64 Tryz.underlying28 rfl (by rw[Tryz.szProof,sZ])) rfl ?_
  exact⟨MP.zero,2,none,0,none,0,by rw[hZ.out];rfl,.inr ⟨hp.out,rfl,rfl⟩,MP.ar1,Bs.nothing _,Hs.nothing _,F.setRow (λh=>by have:=hg2.out;omega) _,(λk e=>by cases e),(λk e=>by cases e)⟩
 |true =>
  have hp:ak6 bs=some M:=by rw[hP.out];exact if_pos (by rw[decide_eq_true_iff]at q2;exact q2)
  replace hp:=Lib.hid hp
  clear hP q2 HE
  have FE:=Lib.hid F5
  go_wp2_with fail
  have fE:Fr (λk=>k=g2) W5 (W5.setRow g2 Y):=Fr.setRow (S:=λk=>k=g2) (Fr.refl _ W5) (λ_=>rfl) _
  have f5g:Fr (λk=>k=g2) w4 (W5.setRow g2 Y):=(FE.out.of0 (T:=λk=>k=g2)).trans fE λ_ _ e=>e
  refine bodyPost_ret (cu rfl _ _ g2 _ _ _ _ rfl zz64 Tryz.underlying28 rfl (by rw[Tryz.szProof,sY])) rfl ?_
  exact⟨M,0,a4,c4,b4,d4,by rw[hY.out];rfl,.inl ⟨hp.out,rfl⟩,HM.out.2.2,HM.out.1.frx f5g (λ_ k hk e=>by have h1:=HN.out.1 k hk;have h2:=g23.out;omega),HM.out.2.1.frx f5g (λk hk e=>by have h1:=HN.out.2 k hk;have h2:=g23.out;omega),F.setRow (λh=>by have:=hg2.out;omega) _,
   λk hk=>Nat.le_trans sz3.out (HN.out.1 k hk),λk hk=>Nat.le_trans sz3.out (HN.out.2 k hk)⟩
end Go.Proofs.YtjlelckefiannaaGreatDoor
namespace Go.Proofs.YtjlelckefiannaaGreatDoor
set_option linter.unusedVariables false
set_option linter.unusedSimpArgs false
open Go.RowKit Go.ChangeShapes Go.WideShapes Go.Deep
theorem aLk(cs:List Value)(h:cs.length=36):cs=(cs.drop 0).take 1++((cs.drop 1).take 32++((cs.drop 33).take 1++((cs.drop 34).take 1++(cs.drop 35).take 1))):=by
 have e:∀(a b:Nat) (l:List Value),(l.drop a).take b++l.drop (a+b)=l.drop a:=λa b l=>by
  rw[←List.drop_drop,List.take_append_drop]
 have e35:(cs.drop 35).take 1=cs.drop 35:=List.take_of_length_le (by simp;omega)
 rw[e35,e 34 1 cs,e 33 1 cs,e 1 32 cs,e 0 1 cs]
 rfl
theorem take_one(cs:List Value)(n k:Nat)(h:cs.length=n)(hk:k<n):∃v,(cs.drop k).take 1 = [v]:=by
 match hd:(cs.drop k).take 1,(show((cs.drop k).take 1).length=1 by simp;omega)with
 |[v],_=>exact⟨v,rfl⟩
section
variable {H:Type} {enc:TypeId×Value→H} {w:World} {base:Nat} {spare:Nat→Bool} {held:Bool}
theorem axn{r:Reach}{b0:Nat}{v:Value}{d:DataW H}{ps:List MemPlace}(hd:DataW.Trod enc Tryz.prog w base spare held 28 v d ps)(hv:Value.okWide Tryz.prog w r b0 28 v):
  ∃(p:MP) (a:Option Addr) (c:Nat) (b:Option Addr) (e:Nat),p.Ok∧Bs w a c p.tx∧Hs w b e p.wy∧v = .agg (pfC p a c b e):=by
 simp only[Value.okWide,Tryz.underlying28]at hv
 obtain⟨cs,rfl,hs,_⟩:=hv
 obtain⟨fuel,hf⟩:=hd
 obtain⟨xs,n,_,_,hl,hlen,hc⟩:=DataW.trod_struct Tryz.underlying28 hf
 have h36:Tryz.prog.cellsOf 28=36:=by kernel_rfl
 have hb:Tryz.prog.cellsOf 22=1:=by kernel_rfl
 have hh:Tryz.prog.cellsOf 24=32:=by kernel_rfl
 have h1:Tryz.prog.cellsOf 25=1:=by kernel_rfl
 have hw:Tryz.prog.cellsOf 26=1:=by kernel_rfl
 match xs,hlen with
 |[y0,y1,y2,y3,y4],_ =>
  have k0:DataW.trod enc Tryz.prog w base spare held n 22 ((cs.toList.drop 0).take (Tryz.prog.cellsOf 22))=some y0:=hc 0 _ rfl
  have k1:DataW.trod enc Tryz.prog w base spare held n 24 ((cs.toList.drop 1).take (Tryz.prog.cellsOf 24))=some y1:=hc 1 _ rfl
  have k2:DataW.trod enc Tryz.prog w base spare held n 25 ((cs.toList.drop 33).take (Tryz.prog.cellsOf 25))=some y2:=hc 2 _ rfl
  have k3:DataW.trod enc Tryz.prog w base spare held n 25 ((cs.toList.drop 34).take (Tryz.prog.cellsOf 25))=some y3:=hc 3 _ rfl
  have k4:DataW.trod enc Tryz.prog w base spare held n 26 ((cs.toList.drop 35).take (Tryz.prog.cellsOf 26))=some y4:=hc 4 _ rfl
  rw[hb]at k0
  rw[hh]at k1
  rw[h1]at k2 k3
  rw[hw]at k4
  have hl':cs.toList.length=36:=by rw[←h36,←hl];rfl
  obtain⟨bk,e1,e2⟩:=atu k1 (by simp at hl' ⊢;omega)
  obtain⟨ix,b3,e3⟩:=ak0 k2
  obtain⟨cn,b4,e4⟩:=ak0 k3
  obtain⟨v0,ev⟩:=take_one cs.toList 36 0 hl' aPl
  obtain⟨v4,ew⟩:=take_one cs.toList 36 35 hl' aPl
  rw[ev]at k0
  rw[ew]at k4
  obtain⟨a,c,bs,rfl,hbs⟩:=arb k0
  obtain⟨b,m,e,rfl⟩:=aCu Tryz.underlying26 k4
  obtain⟨l,rfl,hhs⟩:=atc k4
  refine⟨⟨bs,bk,ix,cn,l⟩,a,c,b,e,⟨e1,b3,b4,hhs.ok⟩,hbs,hhs,?_⟩
  congr 1
  refine Array.toList_inj.1 ?_
  have:=aLk cs.toList hl'
  rw[ev,e2,e3,e4,ew]at this
  rw[this]
  rfl
end
end Go.Proofs.YtjlelckefiannaaGreatDoor
