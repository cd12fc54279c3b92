import Derived.Test.YtjlelckefiannaaGreatDoorZ31
import Derived.Test.YtjlelckefiannaaGreatDoorZ30
import Derived.Test.YtjlelckefiannaaGreatDoorZ37
import Derived.Test.YtjlelckefiannaaGreatDoorZ2
import Derived.Test.YtjlelckefiannaaGreatDoorZ38
set_option maxRecDepth 100000
set_option maxHeartbeats 64000000
namespace Go.Proofs.YtjlelckefiannaaGreatDoor
set_option linter.unusedVariables false
set_option linter.unusedSimpArgs false
open Go.RowKit
theorem aof{L:List Bk}(h:WFt L):∀i,i<L.length→∀(k j:Nat),(anc L i)[k]? = some j→(anc L i).drop k=anc L j∧j<L.length:=by
 intro i
 induction i using Nat.strongRecOn with
 |_ i ih =>
  intro hi k j hk
  have hu:=h.up i hi
  by_cases h0:(bkT L i).ahead<0
  ·rw[abe h hi h0]at hk ⊢
   cases k with
   |zero=>simp at hk;subst hk;exact⟨(abe h hi h0).symm,hi⟩
   |succ k=>simp at hk
  ·obtain⟨m,hm⟩:=Int.eq_ofNat_of_zero_le (show 0≤(bkT L i).ahead by omega)
   obtain⟨h1,h2⟩:=aal h hi hm
   cases k with
   |zero=>rw[h2]at hk;simp at hk;subst hk;exact⟨rfl,hi⟩
   |succ k =>
    rw[h2]at hk ⊢
    rw[List.getElem?_cons_succ]at hk
    rw[List.drop_succ_cons]
    exact ih m h1 aPl k j hk
theorem aH4{L:List Bk}(h:WFt L){i:Nat}(hi:i<L.length){k j:Nat}(hk:(anc L i)[k]? = some j)(hl:k+1<(anc L i).length):∃m:Nat,(bkT L j).ahead=m∧m<L.length∧(anc L i)[k+1]? = some m:=by
 obtain⟨h1,h2⟩:=aof h i hi k j hk
 have hu:=h.up j h2
 have hlen:=congrArg List.length h1
 rw[List.length_drop]at hlen
 by_cases h0:(bkT L j).ahead<0
 ·rw[abe h h2 h0]at hlen
  simp at hlen
  omega
 ·obtain⟨m,hm⟩:=Int.eq_ofNat_of_zero_le (show 0≤(bkT L j).ahead by omega)
  obtain⟨h3,h4⟩:=aal h h2 hm
  refine⟨m,hm,by omega,?_⟩
  rw[h4]at h1
  have e:=congrArg (λl:List Nat=>l[1]?) h1
  simp only[List.getElem?_drop,List.getElem?_cons_succ]at e
  rw[e]
  obtain⟨r,hr⟩:=afi h (show m<L.length by omega)
  rw[hr];rfl
theorem aMv{L:List Bk}(h:WFt L){i e j:Nat}(hi:i<L.length)(he:0<e)(hle:e≤(qx L i).length)(hj:(anc L i)[e-1]? = some j):aze L e i=j:=by
 unfold aze
 have hl:(qx L i).length=(anc L i).length:=by rw[qx,List.length_reverse]
 rw[hl]at hle ⊢
 rw[List.getD_eq_getElem?_getD,qx,List.getElem?_reverse aPl,show(anc L i).length-1-((anc L i).length-e)=e-1 by omega,hj]
 rfl
theorem aHc{C:Array Value}{e:Nat}{span limit:Nat}{confirm:Int}(h:aJh C (e:Int) span limit confirm)(he:0<e)(he2:e≤100000)(n:Nat)(hn:0<n)(hn2:n≤100000)(w:World):
  Calls Tryz.prog 152 #[.agg C,.int .i64 (n:Int)] w λed w'=>ed = .returned (.bool (decide (n % e=0)))∧Fr F0 w w':=by
 obtain⟨s,c0,_,_,_,_,_,_⟩:=h
 have s0:0<C.size:=by omega
 have d0:=jd c0 s0
 have F:=(Fr.refl F0 w).alloc (.cells C 49)
 have l1:(1:Int)≤(e:Int):=by omega
 have l2:¬(n:Int)=0:=by omega
 have l2':¬n=0:=by omega
 have l3:¬(e:Int)=0:=by omega
 have l3':¬e=0:=by omega
 have hmod:((n:Int).tmod (e:Int))=((n % e:Nat):Int):=by rw[Int.tmod_eq_emod_of_nonneg aPl];omega
 obtain⟨m,hm⟩:∃m,n % e=m:=⟨_,rfl⟩
 have hm2:(n:Int) % (e:Int)=(m:Int):=by rw[←hm];omega
 rw[hm]at hmod ⊢
 clear hm he he2 hn hn2
 go_enter Tryz.func152,Tryz.ntmps152
 go_wp2_with fail
 go_ret
 have hb:((m:Int)==0)=decide (m=0):=by
  rw[Bool.eq_iff_iff,beq_iff_eq,decide_eq_true_eq]
  omega
 have hc:((n:Int) != 0&&(m:Int)==0)=decide (m=0):=by rw[show((n:Int) != 0)=true from bne_iff_ne.2 l2,Bool.true_and,hb]
 rw[←hc]
 exact⟨rfl,F⟩
structure RI (R:Array Value) (e span limit:Nat):Prop where
 of:∃confirm:Int,aJh R (e:Int) span limit confirm
 e0:2≤e
 e1:e≤100000
 s0:0<span
 lim:btP limit
theorem aww{R:Array Value}{bm:Nat}{v:Value}{afu:Nat}(hR:R.size=72)(W:World)(p:Nat)(h:W.heap[p]? = some (.cells (ado R bm v afu) 171 (0,0))):(iq 49 (.pointer (some ⟨p,0,none⟩))).run Tryz.prog W = .ok (.agg R) W:=by
 have:=run_loadAt_mid (P:=Tryz.prog) W p 0 49 R.toList _ (λj u hj=>by
  have hl:j<72:=by have:=(List.getElem?_eq_some_iff.1 hj).1;rw[Array.length_toList]at this;omega
  rw[cell_of_row W p (0+j) _ _ _ h,Nat.zero_add,az6 hR j hl]
  simpa using hj) Tryz.underlying49 rfl (by rw[Array.length_toList,hR];kernel_rfl)
 rw[Array.toArray_toList]at this
 exact this
theorem amr(HD:aJi)(HE:EncC)(HS:aup){w:World}{p:Nat}{R:Array Value}{bm:Nat}{H:List Hd}{L:List Bk}{ps:List Nat}{v:Value}{ch:List (List UInt8)}{e span limit:Nat}(ri:RI R e span limit)(I:TI H L ps)(T:TM w p R bm H L ps v ch)(i:Nat)(hi:i<L.length)(aox:btP (bkT L i).bits):
  Calls Tryz.prog 98 #[.pointer (some ⟨p,0,none⟩),.pointer (some ⟨ps.getD i 0,0,none⟩)] w λed w'=>ed = .returned (.int .u32 ((afw L e span limit i:Nat):Int))∧Fr F0 w w':=by
 obtain⟨confirm,hru⟩:=ri.of
 have hR:=hru.size
 have hht:=I.height hi
 have HDue:=Lib.hid (aHc hru (by have:=ri.e0;omega) ri.e1 (ig L i+1) aPl aPl)
 have HNx:=Lib.hid (fun(k:Int) w=>aCt HD HE HS hru (bkT L i).bits (I.wf.at hi).bits k w)
 have HLR:=Lib.hid (λW (h:W.heap[p]? = some (.cells (ado R bm v (uq L)) 171 (0,0)))=>aww hR W p h)
 have r1:=T.top
 have sC:=aa1 (bm:=bm) (v:=v) (afu:=uq L) hR
 have c0:(ado R bm v (uq L))[0]? = some (.int .i64 (e:Int)):=(az6 hR 0 aPl).trans hru.c0
 generalize ado R bm v (uq L)=C at *
 have r2:=T.blk i hi
 have oi:=I.hd i hi
 have sB:=I.aau hi
 have c65:(yt H L ps i)[65]? = some (.int .u32 ((bkT L i).time:Int)):=by rw[oi.2.2.1];exact akb oi.1
 have c66:(yt H L ps i)[66]? = some (.int .u32 ((bkT L i).bits:Int)):=by rw[oi.2.2.2];exact aDk oi.1
 have ayt:(yt H L ps i)[101]? = some (.int .i64 (ig L i:Int)):=aeo oi.1 (I.at32 hi)
 generalize yt H L ps i=B at *
 have s0:0<C.size:=by omega
 have d0:=jd c0 s0
 have s65:65<B.size:=by omega
 have d65:=jd c65 s65
 have s66:66<B.size:=by omega
 have d66:=jd c66 s66
 have ajd:101<B.size:=by omega
 have aOv:=jd ayt ajd
 have ll:=aak I.wf hi
 have HB:=Lib.hid (show(((ig L i+1) % e=0→afw L e span limit i=enB (scN (btT (bkT L i).bits) (tkN span (((bkT L i).time:Int)-((bkT L (aze L e i)).time:Int))) span (btT limit))))∧(¬(ig L i+1) % e=0→afw L e span limit i=(bkT L i).bits)from by
  unfold afw
  rw[ll]
  exact⟨λh=>if_pos h,λh=>if_neg h⟩)
 have hti:(bkT L i).time<4294967296:=(I.wf.at hi).time
 generalize ig L i=ht at *
 obtain⟨V,hV⟩:∃V,afw L e span limit i=V:=⟨_,rfl⟩
 rw[hV]at HB ⊢
 have HT:=Lib.hid T
 have HI:=Lib.hid (And.intro I (And.intro hi (And.intro ll (And.intro aox ri))))
 have HTI:=Lib.hid hti
 obtain⟨q,hq⟩:∃q,ps.getD i 0=q:=⟨_,rfl⟩
 have HQ:=Lib.hid hq
 rw[hq]at r2 ⊢
 obtain⟨xi,hxi⟩:∃xi,(bkT L i).bits=xi:=⟨_,rfl⟩
 rw[hxi]at c66 d66 HNx HB
 have HXI:=Lib.hid hxi
 obtain⟨ti,hti2⟩:∃ti,(bkT L i).time=ti:=⟨_,rfl⟩
 rw[hti2]at c65 d65 HB HTI
 obtain⟨h1,hh1⟩:∃h1,ht+1=h1:=⟨_,rfl⟩
 rw[hh1]at HDue HB
 have m1:IntKind.i64.wrap ((ht:Int)+1)=(h1:Int):=by rw[IntWalk.i64_in _ aPl];omega
 obtain⟨due,aK2⟩:∃due,decide (h1 % e=0)=due:=⟨_,rfl⟩
 rw[aK2]at HDue
 have HDD:=Lib.hid aK2
 have HHT:=Lib.hid (And.intro hht hh1)
 have F:=Fr.refl F0 w
 clear T I hi hq hxi hti2 hV hru aox ri hR oi ll hti aK2 hht hh1
 go_enter Tryz.func98,Tryz.ntmps98
 go_upto_region 2 with fail
 refine jm (S:=(λw'=>(w'.heap[p]? = some (.cells C 171 (0,0))∧w'.heap[q]? = some (.cells B 145 (0,0))∧(iq 49 (.pointer (some ⟨p,0,none⟩))).run Tryz.prog w' = .ok (.agg R) w')∧Fr F0 w w')) ?_ λak=>?_
 ·exact(by((try dsimp only)<;>(exact⟨⟨r1,r2,HLR.out _ r1⟩,F.drew⟩)))
 refine aj 0 ?_
 refine aj 1 ?_
 refine aj 2 ?_
 refine aj 3 ?_
 refine aj 4 ?_
 refine aj 5 ?_
 refine aj 6 ?_
 refine aj 7 ?_
 refine aj 8 ?_
 refine jf 9 λK hK=>?_
 go_simp
 ((with_reducible refine(HDue.out _).mono ?_);rintro e5 w5 ⟨rfl,f5⟩)
 refine rpu hK (by((try dsimp only)<;>(first|exact ak|exact⟨⟨au f5 ak.1.1,au f5 ak.1.2.1,HLR.out _ (au f5 ak.1.1)⟩,ak.2.trans' f5⟩))) λak=>?_
 clear hK K
 refine aj 10 ?_
 refine jg ?_
 all_goals
  clear r1 r2 F
  obtain⟨⟨r1,r2,rl⟩,F⟩:=ak
  cases due
  ·have HX:=Lib.hid (HB.out.2 (of_decide_eq_false HDD.out))
   go_wp2_with fail
   go_ret
   exact⟨by rw[HX.out];rfl,F⟩
  ·have aK2:=of_decide_eq_true HDD.out
   have hle:e≤(anc L i).length:=by
    have h5:=HI.out.2.2.1
    rw[qx,List.length_reverse]at h5
    have h6:=HHT.out.2
    rw[h5,h6]
    exact Nat.le_of_dvd aPl (Nat.dvd_of_mod_eq_zero aK2)
   obtain⟨d,hd⟩:∃d,e=d+1:=⟨e-1,by have:=HI.out.2.2.2.2.e0;omega⟩
   have he1:=HI.out.2.2.2.2.e1
   have m2:IntKind.i64.wrap ((e:Int)-1)=(d:Int):=by rw[IntWalk.i64_in _ aPl];omega
   have HE:=Lib.hid (And.intro hle (And.intro hd (And.intro aK2 he1)))
   clear hle hd aK2 he1
   go_wp2_with fail
   go_loopw [6,34] (λsv kv wr=>∃k j:Nat,kv = .int .i64 (k:Int)∧sv = .pointer (some ⟨ps.getD j 0,0,none⟩)∧k≤d∧(anc L i)[k]? = some j∧wr=w5) (λ_ kv _=>d-(intOf kv).toNat)
   case atStart =>
    obtain⟨r,hr⟩:=afi HI.out.1.wf HI.out.2.1
    exact⟨0,i,rfl,by rw[HQ.out],by omega,by rw[hr];rfl,rfl⟩
   case round =>
    obtain⟨k,j,rfl,rfl,hk,hj,rfl⟩:=hrel
    have hjl:=(aof HI.out.1.wf i HI.out.2.1 k j hj).2
    have r3:=(HT.out.fr F).blk j hjl
    have oj:=HI.out.1.hd j hjl
    have sB2:=HI.out.1.aau hjl
    have e65:(yt H L ps j)[65]? = some (.int .u32 ((bkT L j).time:Int)):=by rw[oj.2.2.1];exact akb oj.1
    have e100:(yt H L ps j)[100]? = some (ptV ps (bkT L j).ahead):=ahx oj.1 (HI.out.1.at32 hjl)
    generalize yt H L ps j=B2 at *
    have t65:65<B2.size:=by omega
    have f65:=jd e65 t65
    have t100:100<B2.size:=by omega
    have f100:=jd e100 t100
    have HJ:=Lib.hid (And.intro hj (And.intro hjl hk))
    by_cases h2:k<d
    ·have l1:(k:Int)<(d:Int):=by omega
     obtain⟨m,hm,hml,hm2⟩:=aH4 HI.out.1.wf HI.out.2.1 hj (by have:=HE.out;omega)
     rw[hm,vw]at e100 f100
     generalize ps.getD j 0=q2 at *
     have hdb:k≤100000:=by have:=HE.out;omega
     have HM:=Lib.hid (And.intro hml (And.intro hm2 h2))
     clear hj hjl hk oj hm hml hm2 h2 e65 f65
     go_wp2_with fail
     go_roundw
     case rel=>exact⟨k+1,m,by go_num,rfl,by have:=HM.out;omega,HM.out.2.1,trivial⟩
     case measure=>have:=HM.out;simp[intOf];omega
    ·have l1:¬(k:Int)<(d:Int):=by omega
     have aQf:aze L e i=j:=aMv HI.out.1.wf HI.out.2.1 (by have:=HE.out;omega) (by rw[qx,List.length_reverse];exact HE.out.1) (by rw[show e-1=k by have:=HE.out;omega];exact hj)
     have htj:(bkT L j).time<4294967296:=(HI.out.1.wf.at hjl).time
     have HX:=Lib.hid (HB.out.1 HE.out.2.2.1)
     rw[aQf]at HX
     generalize ps.getD j 0=q2 at *
     generalize (bkT L j).time=tj at *
     have hti:=HTI.out
     obtain⟨dd,hdd⟩:∃dd,(ti:Int)-(tj:Int)=dd:=⟨_,rfl⟩
     rw[hdd]at HX
     have m7:IntKind.i64.wrap (ti:Int)=(ti:Int):=IntWalk.i64_in _ aPl
     have m8:IntKind.i64.wrap (tj:Int)=(tj:Int):=IntWalk.i64_in _ aPl
     have m9:IntKind.i64.wrap ((ti:Int)-(tj:Int))=dd:=by rw[IntWalk.i64_in _ aPl];exact hdd
     clear hj hjl hk oj aQf htj hti hdd h2 e100 f100
     go_upto_region 9 with fail
     refine jm (S:=(λw'=>(w'.heap[p]? = some (.cells C 171 (0,0))∧w'.heap[q]? = some (.cells B 145 (0,0))∧w'.heap[q2]? = some (.cells B2 145 (0,0)))∧Fr F0 w w')) ?_ λak=>?_
     ·exact zz43
     refine aj 0 ?_
     refine aj 1 ?_
     refine aj 2 ?_
     refine aj 3 ?_
     refine aj 4 ?_
     refine aj 5 ?_
     refine aj 6 ?_
     refine aj 7 ?_
     refine aj 8 ?_
     refine aj 9 ?_
     refine aj 10 ?_
     refine aj 11 ?_
     refine aj 12 ?_
     refine aj 13 ?_
     refine jg ?_
     all_goals
      clear r1 r2 r3 rl F
      obtain⟨⟨r1,r2,r3⟩,F⟩:=ak
      have rl:=HLR.out _ r1
      go_wp2_with fail
      (with_reducible refine(HNx.out _ _).mono ?_);rintro e6 w6 ⟨rfl,f⟩
      replace F:=F.trans' f
      have hyes:=(azq (span:=span) (limit:=limit) (bits:=xi) dd ⟨by rw[←HXI.out];exact HI.out.2.2.2.1,HI.out.2.2.2.2.lim⟩ HI.out.2.2.2.2.s0).1
      rw[hyes,←HX.out]
      go_wp2_with fail
      go_ret
      exact⟨rfl,F⟩
def aJg(L:List Bk)(e span limit:Nat)(h:List UInt8):Nat:=if yj L h<0 then 0 else afw L e span limit (yj L h).toNat
def bitZ(L:List Bk)(h:List UInt8):Int:=if yj L h<0 then 8 else 0
theorem aCr(HD:aJi)(HE:EncC)(HS:aup){w:World}{p:Nat}{R:Array Value}{bm:Nat}{H:List Hd}{L:List Bk}{ps:List Nat}{v:Value}{ch:List (List UInt8)}{e span limit:Nat}(ri:RI R e span limit)(I:TI H L ps)(T:TM w p R bm H L ps v ch)(aox:∀i,i<L.length→btP (bkT L i).bits)(h:List UInt8)(hh:h.length=32):
  Calls Tryz.prog 54 #[.pointer (some ⟨p,0,none⟩),.agg (hc h)] w λed w'=>ed = .returned (.tuple #[.int .u32 ((aJg L e span limit h:Nat):Int),.int .i64 (bitZ L h)])∧Fr F0 w w':=by
 have hR:R.size=72:=by obtain⟨c,h⟩:=ri.of;exact h.size
 have sh:=jl hh
 have oh:=qg h
 have HL:=Lib.hid (λW (f:Fr F0 w W)=>(T.fr f).map.look I.h32 h hh)
 have HB:=Lib.hid (λW (f:Fr F0 w W) i (hi:i<L.length)=>amr HD HE HS ri I (T.fr f) i hi (aox i hi))
 have r1:=T.top
 have sC:=aa1 (bm:=bm) (v:=v) (afu:=uq L) hR
 have c72:=ajn (bm:=bm) (v:=v) (afu:=uq L) hR
 generalize ado R bm v (uq L)=C at *
 unfold aJg bitZ
 have hlt:=afg h L
 generalize yj L h=z at *
 have s72:72<C.size:=by omega
 have d72:=jd c72 s72
 have oV:=aAn ps z
 have hcase:(z<0∧ptV ps z = .pointer none)∨∃i q:Nat,z=i∧i<L.length∧ps.getD i 0=q∧ptV ps z = .pointer (some ⟨q,0,none⟩):=by
  rcases hlt with rfl|⟨i,rfl,hi⟩
  ·exact .inl ⟨by omega,afe _ aPl⟩
  ·exact .inr ⟨i,_,rfl,hi,rfl,vw _ _⟩
 generalize ptV ps z=V at *
 generalize hc h=A at *
 replace r1:=bg (o := .cells A 24) r1
 have r0:=heap_alloc_new w (.cells A 24)
 have F:=(Fr.refl F0 w).alloc (.cells A 24)
 have HC:=Lib.hid hcase
 clear T I hR hh hlt aox hcase
 go_enter Tryz.func54,Tryz.ntmps54
 go_wp2_with fail
 generalize hW:w.alloc (.cells A 24)=W at *
 generalize w.heap.size=g0 at *
 clear hW
 refine jm (S:=(λw'=>(w'.heap[p]? = some (.cells C 171 (0,0))∧w'.heap[g0]? = some (.cells A 24 (0,0))∧(am2 (.map (some bm)) (.agg A) false).run Tryz.prog w' = .ok V w')∧Fr F0 w w')) ?_ λak=>?_
 ·exact zz40
 refine aj 0 ?_
 refine aj 1 ?_
 refine aj 2 ?_
 refine aj 3 ?_
 refine aj 4 ?_
 refine jf 5 λK hK=>?_
 go_simp
 refine rpu hK abz λak=>?_
 clear hK K
 refine aj 6 ?_
 refine jg ?_
 all_goals
  clear r1 r0 F
  have F:=ak.2
  clear ak
  rcases HC.out with⟨hz,rfl⟩|⟨i,q,rfl,hi,hq,rfl⟩
  ·go_wp2_with fail
   go_ret2
   exact⟨rfl,F⟩
  ·have HBi:=Lib.hid (λW f=>HB.out W f i hi)
   rw[hq]at HBi
   clear hq
   go_wp2_with fail
   (with_reducible refine(HBi.out _ F).mono ?_);rintro e6 w6 ⟨rfl,f⟩
   replace F:=F.trans' f
   go_wp2_with fail
   go_ret2
   exact⟨rfl,F⟩
end Go.Proofs.YtjlelckefiannaaGreatDoor
