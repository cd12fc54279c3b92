import Derived.Test.YtjlelckefiannaaGreatDoorZ2
import Derived.Test.YtjlelckefiannaaGreatDoorZ32
import Derived.Test.YtjlelckefiannaaGreatDoorZ35
import Derived.Test.YtjlelckefiannaaGreatDoorZ31
import Derived.Test.YtjlelckefiannaaGreatDoorZ33
set_option maxRecDepth 100000
set_option maxHeartbeats 64000000
namespace Go.Proofs.YtjlelckefiannaaGreatDoor
set_option linter.unusedVariables false
set_option linter.unusedSimpArgs false
open Go.RowKit
def hsL(L:List Bk)(r:List Nat):List (List UInt8):=r.map λk=>(bkT L k).hash
theorem aem(L:List Bk)(r:List Nat):(hsL L r).length=r.length:=List.length_map _
theorem Hs.of_HA{w:World}{g c:Nat}{cs:Array Value}{t:TypeId}{fr:Nat×Nat}{l:List (List UInt8)}(h:HA cs l)(hg:w.heap[g]? = some (.cells cs t fr))(hc:l.length≤c)(hm:c≤maxLen):Hs w (some ⟨g,0,none⟩) c l:=by
 refine⟨⟨acp l h.ok,hc,hm,(λe=>by cases e),λj u hj=>⟨g,0,rfl,?_⟩⟩,h.ok⟩
 rw[Nat.zero_add,cell_of_row w g j _ _ _ hg]
 have hlt:=(List.getElem?_eq_some_iff.1 hj).1
 rw[acp l h.ok]at hlt
 have e1:j/32<l.length:=by omega
 have:=ane l h.ok (j/32) e1 (j % 32) aPl
 rw[show j/32*32+j % 32=j by omega]at this
 have h2:=h.at' (j/32) e1 (j % 32) aPl
 rw[show j/32*32+j % 32=j by omega]at h2
 rw[h2,←this,hj]
theorem Hs.takeK{w:World}{a:Option Addr}{c k:Nat}{l:List (List UInt8)}(h:Hs w a c l)(hk:k≤l.length)(h0:0<k):Hs w a k (l.take k):=by
 have h1:=h.room
 have ok:afx (l.take k):=λx hx=>h.ok x (List.mem_of_mem_take hx)
 have hl:(l.take k).length=k:=by rw[List.length_take];omega
 refine⟨⟨acp _ ok,by omega,by have:=h.sl.most;omega,λe=>?_,λj u hj=>?_⟩,ok⟩
 ·have:=h.sl.nil e;omega
 ·have e:(l.flatMap λh=>h.map B8)=((l.take k).flatMap λh=>h.map B8)++((l.drop k).flatMap λh=>h.map B8):=by rw[←List.flatMap_append,List.take_append_drop]
  refine h.sl.cell j u ?_
  rw[e,List.getElem?_append_left (List.getElem?_eq_some_iff.1 hj).1]
  exact hj
theorem in_is{H:List Hd}{L:List Bk}{ps:List Nat}(I:TI H L ps){k0 j:Nat}(hk:k0<L.length)(hj:j<L.length):inM (hsL L (qx L k0)) (bkT L j).hash (ig L j)=decide (j∈anc L k0):=by
 unfold inM
 refine decide_eq_decide.2 ⟨fun⟨h1,h2⟩=>?_,λh=>?_⟩
 ·rw[aem]at h1
  unfold hsL at h2
  rw[List.getD_eq_getElem?_getD,List.getElem?_map,List.getElem?_eq_getElem h1]at h2
  have hm:=avm I.wf hk (List.getElem?_eq_getElem h1)
  have:=I.nh _ _ hm.2 hj h2
  rw[←this]
  exact hm.1
 ·obtain⟨h1,_,h3⟩:=ana I.wf hk h
  refine⟨by rw[aem];exact h3,?_⟩
  unfold hsL
  rw[List.getD_eq_getElem?_getD,List.getElem?_map,h1]
  rfl
theorem aq9{w:World}{p:Nat}{R:Array Value}{bm:Nat}{H:List Hd}{L:List Bk}{ps:List Nat}{v:Value}{k0:Nat}(hR:R.size=72)(I:TI H L ps)(hk0:k0<L.length)(T:TM w p R bm H L ps v (hsL L (qx L k0)))(i:Nat)(hi:i<L.length)(ni:¬i∈anc L k0):
  Calls Tryz.prog 157 #[.pointer (some ⟨p,0,none⟩),.pointer (some ⟨ps.getD i 0,0,none⟩)] w λe w'=>(∃a n c,e = .returned (.slice a n c)∧abh 24 0 w' (.slice a n c) (hsL L (qx L i))∧∀k,ql a=some k→v.ownBlock=some k∨w.heap.size≤k)∧Fr (λk=>v.ownBlock=some k) w w':=by
 have HI:=Lib.hid I
 have HT:=Lib.hid T
 have HII:=Lib.hid (And.intro hi (And.intro hk0 ni))
 have HIN:=Lib.hid (λW (f:Fr F0 w W) j (hj:j<L.length)=>show Calls Tryz.prog 183 #[.pointer (some ⟨p,0,none⟩),.pointer (some ⟨ps.getD j 0,0,none⟩)] W λe w'=>e = .returned (.bool (decide (j∈anc L k0)))∧Fr F0 W w' from by
  have:=aCp hR (T.fr f) (ps.getD j 0) (hdT H j) (I.hd j hj).1 (bkT L j).hash (I.at32 hj) _ _ _ _ ((T.fr f).blk j hj)
  rw[in_is I hk0 hj]at this
  exact this)
 have hR':=Lib.hid hR
 clear T I hi hk0 ni hR
 go_enter Tryz.func157,Tryz.ntmps157
 go_wp2_with fail
 go_loopw [1,5] (λbv sv wr=>∃(pre:List Nat) (j n:Nat) (a:Option Addr) (c:Nat),bv = .pointer (some ⟨ps.getD j 0,0,none⟩)∧sv = .slice a n c∧n=pre.length∧j<L.length∧abh 24 w.heap.size wr (.slice a n c) (hsL L pre)∧anc L i=pre++anc L j∧Fr F0 w wr) (λ_ sv _=>5001-lenV sv)
 case atStart=>exact⟨[],i,0,none,0,rfl,rfl,rfl,HII.out.1,abh.nil _ _ _,rfl,Fr.refl _ _⟩
 case round =>
  obtain⟨pre,j,n,a,c,rfl,rfl,hn,hj,ho,ays,F⟩:=hrel
  have T1:=HT.out.fr F
  have r1:=T1.blk j hj
  have sB:=HI.out.aau hj
  have oj:=HI.out.hd j hj
  have ayu:(yt H L ps j)[100]? = some (ptV ps (bkT L j).ahead):=ahx oj.1 (HI.out.at32 hj)
  have ayt:(yt H L ps j)[101]? = some (.int .i64 (ig L j:Int)):=aeo oj.1 (HI.out.at32 hj)
  have cm:∀k,k<32→(yt H L ps j)[68+k]? = ((bkT L j).hash.map B8)[k]? := λk hk=>ai7 oj.1 (HI.out.at32 hj) k hk
  have l32:=HI.out.at32 hj
  have hLD:=Lib.hid (λW (h:W.heap[ps.getD j 0]? = some (.cells (yt H L ps j) 145 (0,0)))=>show(iq 24 (.pointer (some ⟨ps.getD j 0,68,none⟩))).run Tryz.prog W = .ok (.agg (hc (bkT L j).hash)) W from
   abf l32 λk u hk=>by
    have hl:k<32:=by have:=(List.getElem?_eq_some_iff.1 hk).1;rw[List.length_map,l32]at this;exact this
    rw[cell_of_row W _ (68+k) _ _ _ h,cm k hl]
    exact hk)
  have ld:=hLD.out _ r1
  have HJ:=Lib.hid (HIN.out _ F j hj)
  have HX:=Lib.hid (And.intro hn (And.intro hj (And.intro ays ho)))
  have hlen:n≤5000:=by
   have h1:=(ab3 HI.out.wf i HII.out.1).2
   have h2:=HI.out.small
   have h3:=HII.out.1
   rw[ays,List.length_append]at h1
   omega
  have hht:=HI.out.height hj
  obtain⟨q,hq⟩:∃q,ps.getD j 0=q:=⟨_,rfl⟩
  rw[hq]at r1 ld HJ hLD ⊢
  have HQ:=Lib.hid hq
  obtain⟨B,hB⟩:∃B,yt H L ps j=B:=⟨_,rfl⟩
  rw[hB]at r1 sB ayu ayt hLD
  have HB:=Lib.hid hB
  obtain⟨X,hX⟩:∃X,hc (bkT L j).hash=X:=⟨_,rfl⟩
  rw[hX]at ld hLD
  have sX:=jl l32
  have oX:=qg (bkT L j).hash
  rw[hX]at sX oX
  have HXX:=Lib.hid hX
  have aoq:100<B.size:=by omega
  have aOw:=jd ayu aoq
  have ajd:101<B.size:=by omega
  have aOv:=jd ayt ajd
  obtain⟨b,hb⟩:∃b,decide (j∈anc L k0)=b:=⟨_,rfl⟩
  rw[hb]at HJ
  have HBB:=Lib.hid hb
  clear hn hj ho ays oj cm hq hB hX l32 T1 hb
  go_wp2_with fail
  (with_reducible refine(HJ.out).mono ?_);rintro e w2 ⟨rfl,f⟩
  replace r1:=au f r1
  replace F:=F.trans' f
  have ld2:=hLD.out _ r1
  cases b
  ·have nin:=of_decide_eq_false HBB.out
   obtain⟨hn,hj,ays,ho⟩:=HX.out
   obtain⟨m,hm⟩:∃m:Nat,(bkT L j).ahead=m:=by
    by_cases h0:j=0
    ·subst h0
     exact absurd (zero_mem HI.out.wf HI.out.one k0 HII.out.2.1) nin
    ·exact Int.eq_ofNat_of_zero_le (HI.out.one j aPl hj)
   obtain⟨hmj,hst⟩:=aal HI.out.wf hj hm
   rw[hm,vw]at ayu aOw
   obtain⟨q2,hq2⟩:∃q2,ps.getD m 0=q2:=⟨_,rfl⟩
   rw[hq2]at ayu aOw
   obtain⟨a1,c1,w3,hap,o3,f3,hsz,hnb⟩:=(ho.fr0 f).appH (bkT L j).hash (HI.out.at32 hj) F.size (by rw[aem];omega) 26
   rw[HXX.out,aem,←hn]at hap
   rw[aem,←hn]at o3
   have F3:Fr F0 w w3:=F.trans f3 λk hk e=>by have:=ho.blk k e;omega
   have r3:=(HT.out.fr F3).blk j hj
   rw[HQ.out,HB.out]at r3
   have hbl:=aa3 w2 X sX
   have HZ:=Lib.hid (And.intro o3 (And.intro hm (And.intro hmj (And.intro hst (And.intro F3 hq2)))))
   clear ho ays hn hj hm hmj hst o3 f3 hsz hnb nin hq2
   go_wp2_with fail
   go_roundw
   case rel =>
    obtain⟨hn,hj,ays,ho⟩:=HX.out
    obtain⟨o3,hm,hmj,hst,F3,hq2⟩:=HZ.out
    exact⟨pre ++ [j],m,n+1,a1,c1,by rw[hq2],rfl,by rw[List.length_append,hn];rfl,by omega,by rw[hsL,List.map_append];exact o3,by rw[ays,hst,List.append_assoc];rfl,F3⟩
   case measure=>simp[lenV];omega
  ·have hin:=of_decide_eq_true HBB.out
   obtain⟨hn,hj,ays,ho⟩:=HX.out
   have hpre:0<n:=by
    rcases Nat.eq_zero_or_pos n with h0|h0
    ·have:pre = []:=List.eq_nil_of_length_eq_zero aPl
     subst this
     obtain⟨ra,ea⟩:=afi HI.out.wf HII.out.1
     obtain⟨rb,eb⟩:=afi HI.out.wf hj
     rw[List.nil_append,ea,eb,List.cons.injEq]at ays
     exact absurd (by rw[ays.1];exact hin) HII.out.2.2
    ·exact h0
   have hlp:(hsL L pre).length=n:=by rw[aem,hn]
   have ho2:=ho.fr0 f
   obtain⟨a',c',e',hs'⟩:=ho2.is
   rcases ho2.own.2 with⟨e1,e2⟩|⟨g,cap,cur,e1,_,hg,hnc,hcm,hcs,htk⟩
   ·rw[hlp]at e2;omega
   rw[hlp]at e1 e' hnc
   rw[e1]at e'
   simp only[Value.slice.injEq]at e1 e'
   obtain⟨rfl,_,rfl⟩:=e1
   obtain⟨e'1,_,e'2⟩:=e'
   rw[←e'1,←e'2]at hs'
   have ha:=HA.af4 (n:=0) (m:=0) ho2.ok hs' hg (by rw[hlp,hcs];omega)
   have HRV:=Lib.hid (aDt g n c cur (hsL L pre) w2 hlp.symm hpre aPl ha hg)
   have hgw:w.heap.size≤g:=ho.blk g rfl
   -- the chain
   have hll:=aak HI.out.wf HII.out.2.1
   rcases HT.out.own.own.2 with⟨e1,e2⟩|⟨b0,c0,cur0,ev,_,hg0,hnc0,hcm0,hcs0,htk0⟩
   ·rw[aem,hll]at e2;omega
   have hnch:(hsL L (qx L k0)).length=ig L k0+1:=by rw[aem,hll]
   have hat:=ana HI.out.wf HII.out.2.1 hin
   rw[hnch]at ev hnc0
   obtain⟨nch,hnn⟩:∃nch,ig L k0+1=nch:=⟨_,rfl⟩
   rw[hnn]at ev hnc0 hnch hll
   have hh0:=HI.out.height HII.out.2.1
   subst ev
   have sC:=aa1 (bm:=bm) (v := .slice (some ⟨b0,0,none⟩) nch c0) (afu:=uq L) hR'.out
   have c73:=ar5 (bm:=bm) (v := .slice (some ⟨b0,0,none⟩) nch c0) (afu:=uq L) hR'.out
   obtain⟨C,hC⟩:∃C,ado R bm (.slice (some ⟨b0,0,none⟩) nch c0) (uq L)=C:=⟨_,rfl⟩
   have HC:=Lib.hid hC
   obtain⟨h1,hh1⟩:∃h1,ig L j+1=h1:=⟨_,rfl⟩
   have m1:IntKind.i64.wrap ((ig L j:Int)+1)=(h1:Int):=by rw[IntWalk.i64_in _ aPl];omega
   have hle:h1≤nch:=by have:=hat.2.2;rw[hll]at this;omega
   have l1:(h1:Int)≤(c0:Int):=by omega
   have l2:h1≤c0:=by omega
   have HEQ:=Lib.hid (show(hsL L (qx L k0)).take h1++(hsL L pre).reverse=hsL L (qx L i)from by
    have e:qx L i=qx L j++pre.reverse:=by rw[qx,ays,List.reverse_append];rfl
    rw[e,←hat.2.1,hh1]
    simp[hsL,List.map_take])
   have HZ:=Lib.hid (And.intro hlp (And.intro hgw (And.intro hnc (And.intro hcm (And.intro hnch (And.intro hle (And.intro hpre (And.intro hlen (show nch≤5000∧0<h1 by omega)))))))))
   generalize ig L j=hj1 at *
   rw[hC]at sC c73
   have s73:73<C.size:=by omega
   have d73:=jd c73 s73
   clear hn hj ays ho hs' e'1 e'2 ha ho2 hlp hg hcs htk hgw hll hnch hat hg0 hnc0 hcm0 hcs0 htk0 hin HJ hht hpre hnc hcm hlen hnn hh0 hh1 hC
   go_wp2_with fail
   (with_reducible refine(HRV.out).mono ?_);rintro e w3 ⟨rfl,cs3,hg3,hsz3,ha3,f3⟩
   have F3:Fr F0 w w3:=F.trans f3 λk hk e=>by have:=HZ.out.2.1;omega
   have T3:=HT.out.fr F3
   have r3:=T3.blk j HX.out.2.1
   rw[HQ.out,HB.out]at r3
   have r4:=T3.top
   rw[HC.out]at r4
   have hs3:Hs w3 (some ⟨g,0,none⟩) c (hsL L pre).reverse:=Hs.of_HA ha3 hg3 (by rw[List.length_reverse,HZ.out.1];exact HZ.out.2.2.1) HZ.out.2.2.2.1
   have HS3:=Lib.hid hs3
   have F:=F3
   clear r1 ld ld2 hg3 hsz3 ha3 f3 T3 hs3 F3
   go_upto_region 6 with fail
   refine jm (S:=(λw'=>(w'.heap[p]? = some (.cells C 171 (0,0))∧w'.heap[q]? = some (.cells B 145 (0,0)))∧Fr F0 w3 w')) ?_ λak=>?_
   ·exact(by((try dsimp only)<;>(exact⟨⟨r4,r3⟩,(Fr.refl F0 w3).drew⟩)))
   refine aj 0 ?_
   refine aj 1 ?_
   refine aj 2 ?_
   refine aj 3 ?_
   refine aj 4 ?_
   refine aj 5 ?_
   refine aj 6 ?_
   refine aj 7 ?_
   refine aj 8 ?_
   refine aj 9 ?_
   refine aj 10 ?_
   refine jg ?_
   all_goals
    clear r3 r4
    obtain⟨⟨r4,r3⟩,f4⟩:=ak
    generalize w3.drew=w4 at *
    have hs4:=HS3.out.fr f4
    have hF:=F.trans' f4
    have T4:=HT.out.fr hF
    have hl3:(hsL L pre).reverse.length=n:=by rw[List.length_reverse,HZ.out.1]
    by_cases h2:h1<nch
    ·have l3:(h1:Int)<(nch:Int):=by omega
     have HCL:=Lib.hid (λW=>aym (some ⟨b0,0,none⟩) h1 c0 W (by have:=HZ.out;omega) l2)
     obtain⟨a0,c00,e00,hs0⟩:=T4.chain
     simp only[Value.slice.injEq]at e00
     obtain⟨rfl,_,rfl⟩:=e00
     have hs1:=hs0.takeK (k:=h1) (by rw[HZ.out.2.2.2.2.1];omega) HZ.out.2.2.2.2.2.2.2.2.2
     have hlt1:((hsL L (qx L k0)).take h1).length=h1:=by rw[List.length_take,HZ.out.2.2.2.2.1];omega
     obtain⟨a5,c5,w5,hap,o5,f5⟩:=hs1.grow hlt1.symm hs4 hl3.symm HZ.out.2.2.2.2.2.2.1 (by rw[hlt1];have:=HZ.out;omega) (by rw[hl3];have:=HZ.out;omega) 26
     rw[HEQ.out]at o5
     have HO:=Lib.hid (And.intro o5 f5)
     clear hs0 hs1 hs4 o5 f5 T4
     go_wp2_with fail
     (with_reducible refine(HCL.out _).mono ?_);rintro e w9 ⟨rfl,hw⟩;replace hw:=hw.symm;subst hw
     go_wp2_with fail
     go_ret
     exact⟨⟨a5,h1+n,c5,rfl,HO.out.1.mono (Nat.zero_le _),λk hk => .inr (Nat.le_trans hF.size (HO.out.1.blk k ak9))⟩,(hF.trans' HO.out.2).of0⟩
    ·have l3:¬(h1:Int)<(nch:Int):=by omega
     have he:h1=nch:=by have:=HZ.out.2.2.2.2.2.1;omega
     have hnl:=HZ.out.2.2.2.2.1
     obtain⟨a5,c5,w5,hap,o5,f5,hb5⟩:=T4.own.appLs n hs4 hl3.symm (Nat.zero_le _) (by rw[hnl];have:=HZ.out;omega) (by rw[hl3];have:=HZ.out;omega) 26
     have hEQ:=HEQ.out
     rw[he,←hnl,List.take_length]at hEQ
     rw[hEQ,hnl,hl3]at o5
     rw[hnl,hl3,←he]at hap
     rw[←he]at o5
     have HO:=Lib.hid (And.intro o5 (And.intro f5 hb5))
     clear hs4 o5 f5 hb5 T4 hEQ
     subst he
     go_wp2_with fail
     go_ret
     exact⟨⟨a5,h1+n,c5,rfl,HO.out.1,λk hk=>(HO.out.2.2 k hk).imp id λh=>Nat.le_trans hF.size h⟩,hF.of0.trans' HO.out.2.1⟩
theorem aA2{H:List Hd}{h:Hd}{k:Nat}(hk:k<H.length):hdT (H ++ [h]) k=hdT H k:=by
 unfold hdT
 rw[List.getD_eq_getElem?_getD,List.getD_eq_getElem?_getD,List.getElem?_append_left hk]
theorem aA3{H:List Hd}{h:Hd}:hdT (H ++ [h]) H.length=h:=by
 unfold hdT
 rw[List.getD_eq_getElem?_getD,List.getElem?_append_right (Nat.le_refl _),Nat.sub_self]
 rfl
theorem ahu{ps:List Nat}{q:Nat}{k:Nat}(hk:k<ps.length):(ps ++ [q]).getD k 0=ps.getD k 0:=by
 rw[List.getD_eq_getElem?_getD,List.getD_eq_getElem?_getD,List.getElem?_append_left hk]
theorem am6{ps:List Nat}{q:Nat}:(ps ++ [q]).getD ps.length 0=q:=by
 rw[List.getD_eq_getElem?_getD,List.getElem?_append_right (Nat.le_refl _),Nat.sub_self]
 rfl
theorem aAo{ps:List Nat}{q:Nat}{z:Int}(hz:z<(ps.length:Int)):ptV (ps ++ [q]) z=ptV ps z:=by
 unfold ptV
 by_cases h:z<0
 ·rw[if_pos h,if_pos h]
 ·rw[if_neg h,if_neg h,ahu aPl]
structure NB (H:List Hd) (L:List Bk) (ps:List Nat) (i:Nat) (h:Hd) (b:Bk) (q:Nat):Prop where
 hi:i<L.length
 oh:h.Ok
 ob:b.Ok
 up:b.ahead=(i:Int)
 hash:b.hash=uj h.bytes
 time:b.time=h.time
 bits:b.bits=h.bits
 new:yj L b.hash<0
 apart:∀k,k<L.length→ps.getD k 0≠q
 wk:su L i+wkN (btT b.bits)<ng
 room:L.length<5000
theorem TI.snoc{H:List Hd}{L:List Bk}{ps:List Nat}(I:TI H L ps){i:Nat}{h:Hd}{b:Bk}{q:Nat}(N:NB H L ps i h b q):TI (H ++ [h]) (L ++ [b]) (ps ++ [q]):=by
 have hn:=I.hlen
 have hp:=I.arp
 refine⟨I.wf.snoc N.ob N.hi N.up,I.one.snoc N.up,I.nh.snoc N.new,by rw[aat];omega,by rw[aat];have:=N.room;omega,by simp[hp],by simp[hn],λk hk=>?_,λj k hj hk e=>?_,λk hk=>?_⟩
 ·rw[aat]at hk
  by_cases h1:k<L.length
  ·rw[aA2 aPl,abj h1]
   exact I.hd k h1
  ·obtain rfl:k=L.length:=by omega
   rw[ac9,←hn,aA3]
   exact⟨N.oh,N.hash,N.time,N.bits⟩
 ·rw[aat]at hj hk
  by_cases h1:j<L.length
  ·by_cases h2:k<L.length
   ·rw[ahu aPl,ahu aPl]at e
    exact I.inj j k h1 h2 e
   ·obtain rfl:k=L.length:=by omega
    rw[ahu aPl,←hp,am6]at e
    exact absurd e (N.apart j h1)
  ·obtain rfl:j=L.length:=by omega
   by_cases h2:k<L.length
   ·rw[ahu (k:=k) aPl,←hp,am6]at e
    exact absurd e.symm (N.apart k h2)
   ·omega
 ·rw[aat]at hk
  by_cases h1:k<L.length
  ·rw[adx I.wf b h1];exact I.wk k h1
  ·obtain rfl:k=L.length:=by omega
   rw[anp I.wf N.ob N.hi N.up];exact N.wk
theorem aDi{H:List Hd}{L:List Bk}{ps:List Nat}(I:TI H L ps){i:Nat}{h:Hd}{b:Bk}{q:Nat}(N:NB H L ps i h b q){k:Nat}(hk:k<L.length):
  yt (H ++ [h]) (L ++ [b]) (ps ++ [q]) k=acz (hdT H k) (bkT L k).hash (ptV ps (bkT L k).ahead) (ig L k) (su L k) (abg L k && !decide (i=k)):=by
 have hn:=I.hlen
 have hp:=I.arp
 have hu:=I.wf.up k hk
 unfold yt
 rw[aA2 aPl,abj hk,aAo aPl,ax5 I.wf b hk,adx I.wf b hk,ahg L N.up]
theorem aDj{H:List Hd}{L:List Bk}{ps:List Nat}(I:TI H L ps){i:Nat}{h:Hd}{b:Bk}{q:Nat}(N:NB H L ps i h b q):
  yt (H ++ [h]) (L ++ [b]) (ps ++ [q]) L.length=acz h b.hash (ptV ps (i:Int)) (ig L i+1) (su L i+wkN (btT b.bits)) true:=by
 have hn:=I.hlen
 have hp:=I.arp
 have hi:=N.hi
 unfold yt
 rw[ac9,N.up,aAo aPl,ax6 I.wf N.ob N.hi N.up,anp I.wf N.ob N.hi N.up,apx I.wf N.hi N.up,←hn,aA3]
theorem TM.snoc{w w':World}{p:Nat}{R:Array Value}{bm:Nat}{H:List Hd}{L:List Bk}{ps:List Nat}{v:Value}{ch:List (List UInt8)}(I:TI H L ps)(T:TM w p R bm H L ps v ch){i:Nat}{h:Hd}{b:Bk}{q:Nat}(N:NB H L ps i h b q)
  (top:w'.heap[p]? = some (.cells (ado R bm v (uq (L ++ [b]))) 171 (0,0))) (map:aou w' bm (L ++ [b]) (ps ++ [q]))
  (old:∀k,k<L.length→k≠i→w'.heap[ps.getD k 0]? = w.heap[ps.getD k 0]?)
  (at':w'.heap[ps.getD i 0]? = some (.cells (acz (hdT H i) (bkT L i).hash (ptV ps (bkT L i).ahead) (ig L i) (su L i) false) 145 (0,0)))
  (new:w'.heap[q]? = some (.cells (acz h b.hash (ptV ps (i:Int)) (ig L i+1) (su L i+wkN (btT b.bits)) true) 145 (0,0)))
  (own:abh 24 0 w' v ch):TM w' p R bm (H ++ [h]) (L ++ [b]) (ps ++ [q]) v ch:=by
 have hp:=I.arp
 refine⟨top,map,λk hk=>?_,own⟩
 rw[aat]at hk
 by_cases h1:k<L.length
 ·rw[ahu aPl,aDi I N h1]
  by_cases h2:k=i
  ·subst h2
   rw[at',decide_eq_true rfl]
   simp
  ·rw[old k h1 h2,T.blk k h1,decide_eq_false (λe=>h2 e.symm)]
   unfold yt
   simp
 ·obtain rfl:k=L.length:=by omega
  rw[←hp,am6,hp,new,aDj I N]
theorem avx{H:List Hd}{L:List Bk}{ps:List Nat}(I:TI H L ps)(b:Bk){k:Nat}(hk:k<L.length):hsL (L ++ [b]) (qx (L ++ [b]) k)=hsL L (qx L k):=by
 rw[aG6 I.wf b hk]
 unfold hsL
 refine List.map_congr_left λx hx=>?_
 have:=aif I.wf k hk x (List.mem_reverse.1 hx)
 rw[abj aPl]
theorem ao3(L:List Bk):chn L=hsL L (qx L (ug L)):=rfl
def TS(p bm:Nat)(ps:List Nat)(v:Value):Nat→Prop:=λk=>k=p∨k=bm∨k∈ps∨v.ownBlock=some k
theorem getD_mem{ps:List Nat}{k:Nat}(h:k<ps.length):ps.getD k 0∈ps:=by
 rw[List.getD_eq_getElem?_getD,List.getElem?_eq_getElem h]
 exact List.getElem_mem h
theorem qo{w:World}{a b:Nat}{A B:Array Value}{s t:TypeId}{f g:Nat×Nat}(ha:w.heap[a]? = some (.cells A s f))(hb:w.heap[b]? = some (.cells B t g))(h:s≠t):a≠b:=by
 rintro rfl
 rw[ha]at hb
 cases hb
 exact h rfl
theorem ab7{w:World}{a b:Nat}{A:Array Value}{s:TypeId}{f:Nat×Nat}{L:List Bk}{ps:List Nat}(ha:w.heap[a]? = some (.cells A s f))(hb:aou w b L ps):a≠b:=by
 rintro rfl
 obtain⟨es,c,h,_⟩:=hb
 rw[ha]at h
 cases h
theorem aev{B:Nat}{w:World}{v:Value}{l:List (List UInt8)}(h:abh 24 B w v l){k:Nat}(hk:v.ownBlock=some k):∃cur,w.heap[k]? = some (.cells cur 24 (0,0)):=by
 rcases h.own.2 with⟨rfl,_⟩|⟨g,cap,cur,rfl,_,hg,_⟩
 ·cases hk
 ·cases hk
  exact⟨cur,hg⟩
theorem TM.own_ne{w:World}{p:Nat}{R:Array Value}{bm:Nat}{H:List Hd}{L:List Bk}{ps:List Nat}{v:Value}{ch:List (List UInt8)}(T:TM w p R bm H L ps v ch){B:Nat}{v2:Value}{l:List (List UInt8)}(o:abh 24 B w v2 l){k:Nat}(hk:v2.ownBlock=some k):
  p≠k∧bm≠k∧∀j,j<L.length→ps.getD j 0≠k:=by
 obtain⟨cur,hc⟩:=aev o hk
 exact⟨qo T.top hc (by decide),λe=>ab7 hc T.map e.symm,λj hj=>qo (T.blk j hj) hc (by decide)⟩
theorem TM.aHn{w w':World}{p:Nat}{R:Array Value}{bm:Nat}{H:List Hd}{L:List Bk}{ps:List Nat}{v:Value}{ch:List (List UInt8)}(hR:R.size=72)(T:TM w p R bm H L ps v ch)(f:Fr (λk=>v.ownBlock=some k) w w'){v2:Value}{ch2:List (List UInt8)}(o:abh 24 0 w' v2 ch2):
  TM (w'.setCell ⟨p,73,none⟩ v2) p R bm H L ps v2 ch2:=by
 have n1:¬(v.ownBlock=some p):=λe=>(T.own_ne T.own e).1 rfl
 have n2:¬(v.ownBlock=some bm):=λe=>(T.own_ne T.own e).2.1 rfl
 have n3:∀j,j<L.length→¬(v.ownBlock=some (ps.getD j 0)):=λj hj e=>(T.own_ne T.own e).2.2 j hj rfl
 have t1:w'.heap[p]? = some (.cells (ado R bm v (uq L)) 171 (0,0)):=f.keeps n1 T.top
 have t3:∀j,j<L.length→w'.heap[ps.getD j 0]? = some (.cells (yt H L ps j) 145 (0,0)):=λj hj=>f.keeps (n3 j hj) (T.blk j hj)
 have t2:aou w' bm L ps:=T.map.keep (f.block bm T.map.lt n2)
 refine⟨?_,t2.keep (dn _ _ _ _ _ λe=>ab7 t1 t2 e.symm),λj hj=>?_,o.frS (S:=λk=>k=p) (Fr.setCell (S:=λk=>k=p) (Fr.refl _ _) (p:=⟨p,73,none⟩) (λ_=>rfl) _) λk hk e=>?_⟩
 ·rw[gq,t1,jr,awy hR]
 ·rw[dn _ _ _ _ _ (λe=>qo t1 (t3 j hj) (by decide) e.symm)]
  exact t3 j hj
 ·obtain⟨cur,hc⟩:=aev o hk
  exact qo t1 hc (by decide) e.symm
theorem aG9{w:World}{p:Nat}{R:Array Value}{bm:Nat}{H:List Hd}{L:List Bk}{ps:List Nat}{v:Value}(hR:R.size=72)(I:TI H L ps)(T:TM w p R bm H L ps v (chn L)){i:Nat}{h:Hd}{b:Bk}{q:Nat}(N:NB H L ps i h b q)
  (hq:w.heap[q]? = some (.cells (acz h b.hash (ptV ps (i:Int)) (ig L i+1) (su L i+wkN (btT b.bits)) false) 145 (0,0))) :
  Calls Tryz.prog 106 #[.pointer (some ⟨p,0,none⟩),.pointer (some ⟨q,0,none⟩)] w λe w'=>e = .returned (.tuple #[]) ∧
   (∃v',TM w' p R bm (H ++ [h]) (L ++ [b]) (ps ++ [q]) v' (chn (L ++ [b]))∧∀k,v'.ownBlock=some k→v.ownBlock=some k∨w.heap.size≤k)∧Fr (λk=>k=q∨TS p bm ps v k) w w':=by
 have HI:=Lib.hid I
 have HT:=Lib.hid T
 have HNB:=Lib.hid N
 have hR':=Lib.hid hR
 have hi:=N.hi
 have b32:=N.ob.hash
 -- the tree
 have r1:=T.top
 have sC:=aa1 (bm:=bm) (v:=v) (afu:=uq L) hR
 have c74:=az7 (bm:=bm) (v:=v) (afu:=uq L) hR
 have ct:∀k:Nat,(ado R bm v (uq L)).setIfInBounds 74 (.int .i64 (k:Int))=ado R bm v k:=λk=>awx hR k
 have HTS:=Lib.hid (aBm I.wf hi N.up)
 have htl:uq L≤5000:=Nat.le_trans (aFt L L.length) I.small
 -- the new block
 have sQ:=ahi (up:=ptV ps (i:Int)) (ht:=ig L i+1) (wk:=su L i+wkN (btT b.bits)) (tip:=false) N.oh b32
 have q100:=(ahx (up:=ptV ps (i:Int)) (ht:=ig L i+1) (wk:=su L i+wkN (btT b.bits)) (tip:=false) N.oh b32).trans (congrArg some (vw ps i))
 have q106:=aoe (up:=ptV ps (i:Int)) (ht:=ig L i+1) (wk:=su L i+wkN (btT b.bits)) (tip:=false) N.oh b32
 have qs:=av5 (up:=ptV ps (i:Int)) (ht:=ig L i+1) (wk:=su L i+wkN (btT b.bits)) (tip:=false) N.oh b32 true
 -- the one ahead
 have r2:=T.blk i hi
 have oi:=I.hd i hi
 have sB:=I.aau hi
 have aOx:(yt H L ps i)[106]? = some (.bool (abg L i)):=aoe oi.1 (I.at32 hi)
 have bs:(yt H L ps i).setIfInBounds 106 (.bool false)=acz (hdT H i) (bkT L i).hash (ptV ps (bkT L i).ahead) (ig L i) (su L i) false:=av5 oi.1 (I.at32 hi) false
 -- apart
 have n1:p≠q:=qo r1 hq (by decide)
 have n2:p≠ps.getD i 0:=qo r1 r2 (by decide)
 have n3:ps.getD i 0≠q:=N.apart i hi
 have HNE:=Lib.hid (show q≠bm∧∀k,v.ownBlock=some k→k≠q from⟨ab7 hq T.map,λk hk=>by
  obtain⟨cur,hc⟩:=aev T.own hk
  exact qo hc hq (by decide)⟩)
 obtain⟨C,hC⟩:∃C,ado R bm v (uq L)=C:=⟨_,rfl⟩
 obtain⟨Q,hQ⟩:∃Q,acz h b.hash (ptV ps (i:Int)) (ig L i+1) (su L i+wkN (btT b.bits)) false=Q:=⟨_,rfl⟩
 obtain⟨Q2,hQ2⟩:∃Q2,acz h b.hash (ptV ps (i:Int)) (ig L i+1) (su L i+wkN (btT b.bits)) true=Q2:=⟨_,rfl⟩
 obtain⟨B,hB⟩:∃B,yt H L ps i=B:=⟨_,rfl⟩
 obtain⟨B2,hB2⟩:∃B2,acz (hdT H i) (bkT L i).hash (ptV ps (bkT L i).ahead) (ig L i) (su L i) false=B2:=⟨_,rfl⟩
 obtain⟨u,hu⟩:∃u,ps.getD i 0=u:=⟨_,rfl⟩
 obtain⟨tn,htn⟩:∃tn,uq L=tn:=⟨_,rfl⟩
 obtain⟨tp,htp⟩:∃tp,abg L i=tp:=⟨_,rfl⟩
 rw[hC]at r1 sC c74 ct
 rw[hQ]at hq sQ q100 q106 qs
 rw[hQ2]at qs
 rw[hB]at r2 sB aOx bs
 rw[hB2]at bs
 rw[hu]at r2 q100 n2 n3
 rw[htn]at c74 htl HTS
 rw[htp]at aOx HTS
 have HE:=Lib.hid (And.intro hC (And.intro hQ (And.intro hQ2 (And.intro hB (And.intro hB2 (And.intro hu (And.intro htn htp)))))))
 have HC:=Lib.hid (And.intro ct (And.intro qs bs))
 have s74:74<C.size:=by omega
 have d74:=jd c74 s74
 have aoq:100<Q.size:=by omega
 have aOw:=jd q100 aoq
 have auc:106<Q.size:=by omega
 have d106:=jd q106 auc
 have t106:106<B.size:=by omega
 have e106:=jd aOx t106
 obtain⟨tn1,htn1⟩:∃tn1,tn+1=tn1:=⟨_,rfl⟩
 have m1:IntKind.i64.wrap ((tn:Int)+1)=(tn1:Int):=by rw[IntWalk.i64_in _ aPl];omega
 have F:=Fr.refl (λk=>k=q∨TS p bm ps v k) w
 clear I T N hR hi b32 ct oi bs qs hC hQ hQ2 hB hB2 hu htn htp
 go_enter Tryz.func106,Tryz.ntmps106
 have hL1:uq (L ++ [b])=(if tp=true then tn else tn1):=by rw[HTS.out];cases tp<;>simp[htn1]
 have HL1:=Lib.hid hL1
 clear htn1 hL1
 cases tp
 case' false =>
  go_upto_region 2 with fail
  obtain⟨W1,hW1⟩:∃W,W=w.setCell ⟨p,74,none⟩ (.int .i64 (tn1:Int)):=⟨_,rfl⟩
  refine jo W1 hW1 ?_
  replace r1:W1.heap[p]? = some (.cells (ado R bm v (uq (L ++ [b]))) 171 (0,0)):=by rw[hW1,gq,r1,jr,HC.out.1 tn1,HL1.out];rfl
  replace r2:W1.heap[u]? = some (.cells B 145 (0,0)):=by rw[hW1,dn _ _ _ _ _ (λe=>n2 e.symm)];exact r2
  replace hq:W1.heap[q]? = some (.cells Q 145 (0,0)):=by rw[hW1,dn _ _ _ _ _ (λe=>n1 e.symm)];exact hq
  have f1:Fr (λk=>k=p∨k=u∨k=q) w W1:=by rw[hW1];exact Fr.setCell (S:=λk=>k=p∨k=u∨k=q) (Fr.refl _ _) (p:=⟨p,74,none⟩) (λ_ => .inl rfl) _
  clear hW1
 case' true =>
  go_upto_region 2 with fail
  obtain⟨W1,hW1⟩:∃W,W=w:=⟨_,rfl⟩
  refine jo W1 hW1 ?_
  replace r1:W1.heap[p]? = some (.cells (ado R bm v (uq (L ++ [b]))) 171 (0,0)):=by rw[hW1,r1,HL1.out,if_pos rfl,←HE.out.1,HE.out.2.2.2.2.2.2.1]
  replace r2:W1.heap[u]? = some (.cells B 145 (0,0)):=by rw[hW1];exact r2
  replace hq:W1.heap[q]? = some (.cells Q 145 (0,0)):=by rw[hW1];exact hq
  have f1:Fr (λk=>k=p∨k=u∨k=q) w W1:=by rw[hW1];exact Fr.refl _ _
  clear hW1
 all_goals
  have hq2:(W1.setCell ⟨u,106,none⟩ (.bool false)).heap[q]? = some (.cells Q 145 (0,0)):=by rw[dn _ _ _ _ _ (λe=>n3 e.symm)];exact hq
  go_upto_region 3 with fail
  obtain⟨W2,hW2⟩:∃W,W=(W1.setCell ⟨u,106,none⟩ (.bool false)).setCell ⟨q,106,none⟩ (.bool true):=⟨_,rfl⟩
  refine jo W2 hW2 ?_
  replace hq:W2.heap[q]? = some (.cells Q2 145 (0,0)):=by rw[hW2,gq,hq2,jr,HC.out.2.1]
  replace r2:W2.heap[u]? = some (.cells B2 145 (0,0)):=by rw[hW2,dn _ _ _ _ _ n3,gq,r2,jr,HC.out.2.2]
  replace r1:W2.heap[p]? = some (.cells (ado R bm v (uq (L ++ [b]))) 171 (0,0)):=by rw[hW2,dn _ _ _ _ _ n1,dn _ _ _ _ _ n2];exact r1
  have f2:Fr (λk=>k=p∨k=u∨k=q) w W2:=by rw[hW2];exact(f1.setCell (p:=⟨u,106,none⟩) (λ_ => .inr (.inl rfl)) _).setCell (p:=⟨q,106,none⟩) (λ_ => .inr (.inr rfl)) _
  clear hW2 hq2 f1 F sC c74 s74 d74 sQ q100 q106 aoq aOw auc d106 sB aOx t106 e106 m1 htl
  have T:=HT.out
  have I:=HI.out
  have N:=HNB.out
  have hR:=hR'.out
  have n4:=HNE.out.1
  have eu:=HE.out.2.2.2.2.2.1
  have n5:p≠bm:=ab7 T.top T.map
  have n6:u≠bm:=by rw[←eu];exact ab7 (T.blk i N.hi) T.map
  have hM2:aou W2.drew bm L ps:=T.map.keep (f2.block bm T.map.lt (λh=>by
   rcases h with h|h|h
   ·exact n5 h.symm
   ·exact n6 h.symm
   ·exact n4 h.symm))
  obtain⟨W3,hput,hM3,f3,_⟩:=hM2.put I.h32 I.arp b N.ob.hash N.new q
  have hq3:W3.heap[q]? = some (.cells Q2 145 (0,0)):=f3.keeps n4 hq
  have r23:W3.heap[u]? = some (.cells B2 145 (0,0)):=f3.keeps n6 r2
  have r13:W3.heap[p]? = some (.cells (ado R bm v (uq (L ++ [b]))) 171 (0,0)):=f3.keeps n5 r1
  have T3:TM W3 p R bm (H ++ [h]) (L ++ [b]) (ps ++ [q]) v (chn L):=by
   refine TM.snoc I T N r13 hM3 (λk hk hki=>?_) (by rw[eu,HE.out.2.2.2.2.1];exact r23) (by rw[HE.out.2.2.1];exact hq3) ?_
   ·have hT:=T.blk k hk
    have hlt:=(Array.getElem?_eq_some_iff.1 hT).1
    refine(f3.block _ (f2.lt hlt) (ab7 hT T.map)).trans (f2.block _ hlt λe=>?_)
    rcases e with e|e|e
    ·exact qo T.top hT (by decide) e.symm
    ·exact hki (I.inj k i hk N.hi (e.trans eu.symm))
    ·exact N.apart k hk e
   ·refine(T.own.frS f2.drew λk hk e=>?_).frS (w:=W2.drew) f3 λk hk e=>(T.own_ne T.own hk).2.1 e.symm
    have hne:=T.own_ne T.own hk
    rcases e with e|e|e
    ·exact hne.1 e.symm
    ·exact hne.2.2 i N.hi (by rw[eu];exact e.symm)
    ·exact HNE.out.2 k hk e
  have I3:=I.snoc N
  have F3:Fr (λk=>k=q∨TS p bm ps v k) w W3:=by
   refine(f2.drew.mono λk hk e=>?_).trans (b:=W2.drew) f3 λk hk e => .inr (.inr (.inl e))
   rcases e with e|e|e
   ·exact .inr (.inl e)
   ·exact .inr (.inr (.inr (.inl (by rw[e,←eu];exact getD_mem (by rw[I.arp];exact N.hi)))))
   ·exact .inl e
  have lb:b.hash.length=32:=N.ob.hash
  have HLD:=Lib.hid (λW (hW:W.heap[q]? = some (.cells Q2 145 (0,0)))=>show(iq 24 (.pointer (some ⟨q,68,none⟩))).run Tryz.prog W = .ok (.agg (hc b.hash)) W from
   abf lb λj x hj=>by
    have hl:j<32:=by have:=(List.getElem?_eq_some_iff.1 hj).1;rw[List.length_map,lb]at this;exact this
    rw[cell_of_row W q (68+j) _ _ _ hW,←HE.out.2.2.1,ai7 N.oh lb j hl]
    exact hj)
  have HLW:=Lib.hid (λW (hW:W.heap[q]? = some (.cells Q2 145 (0,0)))=>show(iq 143 (.pointer (some ⟨q,102,none⟩))).run Tryz.prog W = .ok (.agg (gu .u64 64 4 (su L i+wkN (btT b.bits)))) W from by
   have:=run_loadAt_mid (P:=Tryz.prog) W q 102 143 (gu .u64 64 4 (su L i+wkN (btT b.bits))).toList _ (λj x hj=>by
    have hl:j<4:=by have:=(List.getElem?_eq_some_iff.1 hj).1;rw[aah]at this;exact this
    rw[cell_of_row W q (102+j) _ _ _ hW,←HE.out.2.2.1,asn N.oh lb j hl]
    simpa using hj) Tryz.underlying143 rfl (by rw[aah];kernel_rfl)
   rw[Array.toArray_toList]at this
   exact this)
  have hbl:=I.best
  have aQt:=Lib.hid (λW (f:Fr F0 W3 W)=>aey hR (T3.fr f) (by rw[I.aen.1];omega) (by have:=I.aen.2;omega))
  rw[I.aju,←abj (b:=b) hbl]at aQt
  have aQs:=Lib.hid (λW (f:Fr F0 W3 W)=>aCo hR I3 (T3.fr f) (ug L) afa)
  rw[adx I.wf b hbl]at aQs
  have HCmp:=Lib.hid (afd (su L i+wkN (btT b.bits)) (su L (ug L)) N.wk (I.wk _ hbl))
  have HCh:=Lib.hid (λW (f:Fr F0 W3 W)=>by
   have hT:=T3.fr f
   rw[ao3,←avx I b hbl]at hT
   have:=aq9 hR I3 (k0:=ug L) afa hT L.length afa (λhm=>by
    have:=aif I3.wf (ug L) afa _ hm
    omega)
   rw[←I.arp,am6,I.arp]at this
   exact this)
  have hBM:=aDm I.wf N.ob N.hi N.up
  have HCN:=Lib.hid (show(su L (ug L)<su L i+wkN (btT b.bits)→chn (L ++ [b])=hsL (L ++ [b]) (qx (L ++ [b]) L.length))∧(¬su L (ug L)<su L i+wkN (btT b.bits)→chn (L ++ [b])=chn L)from by
   refine⟨λhh=>?_,λhh=>?_⟩
   ·rw[ao3,hBM,if_pos hh]
   ·rw[ao3,hBM,if_neg hh,avx I b hbl,ao3])
  have HT3:=Lib.hid (And.intro T3 (And.intro hR F3))
  have sC:=aa1 (bm:=bm) (v:=v) (afu:=uq (L ++ [b])) hR
  have c72:=ajn (bm:=bm) (v:=v) (afu:=uq (L ++ [b])) hR
  generalize ado R bm v (uq (L ++ [b]))=C2 at *
  have s72:72<C2.size:=by omega
  have d72:=jd c72 s72
  generalize hc b.hash=X at *
  generalize hc (bkT (L ++ [b]) (ug L)).hash=X2 at *
  generalize su L i+wkN (btT b.bits)=y1 at *
  generalize su L (ug L)=y2 at *
  clear T I N hM2 hM3 f3 T3 I3 F3 f2 r2 r23 hbl hBM n1 n2 n3 n4 n5 n6 eu hR
  refine jm (S:=(λw'=>w'.heap[p]? = some (.cells C2 171 (0,0))∧w'.heap[q]? = some (.cells Q2 145 (0,0))∧(iq 24 (.pointer (some ⟨q,68,none⟩))).run Tryz.prog w' = .ok (.agg X) w')) ?_ λak=>?_
  ·exact(by((try dsimp only)<;>(exact⟨r1,hq,HLD.out _ hq⟩)))
  refine aj 0 ?_
  refine aj 1 ?_
  refine aj 2 ?_
  refine aj 3 ?_
  refine aj 4 ?_
  refine aj 5 ?_
  refine aj 6 ?_
  refine aj 7 ?_
  refine aj 8 ?_
  refine jf 9 λK hK=>?_
  go_simp
  refine rpu hK (by((try dsimp only)<;>(first|exact ak|exact⟨r13,hq3,HLD.out _ hq3⟩))) λak=>?_
  clear hK K
  refine jg ?_
  all_goals
   clear ak hput r1 hq
   have F:=Fr.refl F0 W3
   go_upto_region 4 with fail
   refine jm (S:=(λw'=>(iq 143 (.pointer (some ⟨q,102,none⟩))).run Tryz.prog w' = .ok (.agg (gu .u64 64 4 y1)) w'∧Fr F0 W3 w')) ?_ λak=>?_
   ·exact(by((try dsimp only)<;>(exact⟨HLW.out _ hq3,F.drew⟩)))
   refine aj 0 ?_
   refine aj 1 ?_
   refine aj 2 ?_
   refine aj 3 ?_
   refine aj 4 ?_
   refine aj 5 ?_
   refine jf 6 λK hK=>?_
   go_simp
   ((with_reducible refine(aQt.out _ ak.2).mono ?_);rintro e w5 ⟨rfl,f5⟩)
   refine rpu hK zz27 λak=>?_
   clear hK K
   refine jf 7 λK hK=>?_
   go_simp
   ((with_reducible refine(aQs.out _ ak.2).mono ?_);rintro e w5 ⟨rfl,f5⟩)
   refine rpu hK zz27 λak=>?_
   clear hK K
   refine jf 8 λK hK=>?_
   go_simp
   ((with_reducible refine(HCmp.out _).mono ?_);rintro e w5 ⟨rfl,f5⟩)
   refine rpu hK zz27 λak=>?_
   clear hK K
   refine aj 9 ?_
   refine jg ?_
   all_goals
    clear F
    have F:=ak.2
    clear ak
    by_cases hy:y2<y1
    ·have hs:(0:Int)<sgn y1 y2:=by unfold sgn;rw[if_neg aPl,if_pos hy];decide
     have HCN1:=Lib.hid (HCN.out.1 hy)
     generalize sgn y1 y2=sg at *
     have hs2:decide (0<sg)=true:=decide_eq_true hs
     clear hy
     go_wp2_with fail
     (with_reducible refine(HCh.out _ F).mono ?_);rintro e w6 ⟨⟨a,n,c,rfl,o6,hb6⟩,f6⟩
     have T6:=(HT3.out.1.fr F).aHn HT3.out.2.1 f6 o6
     have t6:w6.heap[p]? = some (.cells C2 171 (0,0)):=f6.keeps (λe=>((HT3.out.1.fr F).own_ne (HT3.out.1.fr F).own e).1 rfl) (au F r13)
     have HO:=Lib.hid (And.intro T6 (And.intro hb6 f6))
     have s73:73<C2.size:=by omega
     have hc73:∃z,C2[73]? = some z∧C2[73]=z:=⟨_,Array.getElem?_eq_getElem s73,rfl⟩
     obtain⟨z73,c73,d73⟩:=hc73
     clear T6 o6 hb6 f6
     go_wp2_with fail
     go_end0
     obtain⟨T6,hb6,f6⟩:=HO.out
     refine⟨rfl,⟨_,by rw[HCN1.out];exact T6,λk hk=>?_⟩,?_⟩
     ·rw[qm]at hk
      exact(hb6 k hk).imp id λh=>Nat.le_trans (Nat.le_trans HT3.out.2.2.size F.size) h
     ·exact(((HT3.out.2.2.trans' F.of0).trans f6 λk hk e => .inr (.inr (.inr (.inr e)))).setCell (p:=⟨p,73,none⟩) (λ_ => .inr (.inl rfl)) _)
    ·have hs:¬(0:Int)<sgn y1 y2:=by unfold sgn;split<;>(try split)<;>omega
     have HCN1:=Lib.hid (HCN.out.2 hy)
     generalize sgn y1 y2=sg at *
     have hs2:decide (0<sg)=false:=decide_eq_false hs
     clear hy
     go_wp2_with fail
     go_end0
     refine⟨rfl,⟨v,by rw[HCN1.out];exact HT3.out.1.fr F,λk hk => .inl hk⟩,HT3.out.2.2.trans' F.of0⟩
end Go.Proofs.YtjlelckefiannaaGreatDoor
namespace Go.Proofs.YtjlelckefiannaaGreatDoor
set_option linter.unusedVariables false
set_option linter.unusedSimpArgs false
open Go.RowKit Go.Shelf
attribute [local go_sem] Oper.semAt_some
abbrev encH (l:List (List UInt8)) (k:Nat):Array Value:=#[.int .i64 (k:Int),.agg (hc (l.getD k []))]
end Go.Proofs.YtjlelckefiannaaGreatDoor
namespace Go.Proofs.YtjlelckefiannaaGreatDoor
set_option linter.unusedVariables false
set_option linter.unusedSimpArgs false
open Go.RowKit Go.Shelf
attribute [local go_sem] Oper.semAt_some
end Go.Proofs.YtjlelckefiannaaGreatDoor
