import Derived.Test.YtjlelckefiannaaGreatDoorZ21
import Derived.Test.YtjlelckefiannaaGreatDoorZ43
import Derived.Test.YtjlelckefiannaaGreatDoorZ33
import Derived.Test.YtjlelckefiannaaGreatDoorZ14
import Derived.Test.YtjlelckefiannaaGreatDoorZ12
set_option maxRecDepth 100000
set_option maxHeartbeats 64000000
namespace Go.Proofs.YtjlelckefiannaaGreatDoor
set_option linter.unusedVariables false
set_option linter.unusedSimpArgs false
open Go.RowKit Go.Shelf
attribute [local go_sem] Oper.semAt_some
def pyC(A:List UInt8)(amt:Nat)(a:Option Addr)(n c:Nat):Array Value:=(A.map B8 ++ [Value.int .u64 (amt:Int),Value.slice a n c]).toArray
theorem ai1{A:List UInt8}(h:A.length=20)(amt:Nat)(a:Option Addr)(n c:Nat):(pyC A amt a n c).size=22:=by simp[pyC,h]
theorem aRf{A:List UInt8}(h:A.length=20)(amt:Nat)(a:Option Addr)(n c:Nat):(pyC A amt a n c)[20]? = some (.int .u64 (amt:Int)):=by simp[pyC,h]
theorem aRe{A:List UInt8}(h:A.length=20)(amt:Nat)(a:Option Addr)(n c:Nat):(pyC A amt a n c)[21]? = some (.slice a n c):=by simp[pyC,h]
theorem aAm(A:List UInt8)(amt:Nat)(a:Option Addr)(n c:Nat):jh (pyC A amt a n c):=by
 unfold jh
 rw[Array.all_eq_true_iff_forall_mem]
 intro v hv
 simp only[pyC,List.mem_toArray,List.mem_append,List.mem_map,List.mem_cons,List.not_mem_nil,or_false]at hv
 rcases hv with⟨_,_,rfl⟩|rfl|rfl<;>rfl
theorem TT.ajf(t:TT):∃(x0 x3:Int) (ia oa:Option Addr) (n m ic oc:Nat),t.cells=#[.int .u32 x0,.slice ia n ic,.slice oa m oc,.int .u32 x3]:=⟨_,_,_,_,_,_,_,_,rfl⟩
theorem aG5(b:List UInt8):(lkP b).2.2.length≤b.length:=by
 unfold lkP
 split
 ·simp
 ·split
  ·simp
  ·simp
theorem aBp(t:List TO)(hs:∀x∈t,x.m.lk.length≤1000):∀b∈afz t,b.length≤1000:=λb hb=>by
 rw[afz,List.mem_map]at hb
 obtain⟨x,hx,rfl⟩:=hb
 exact Nat.le_trans (aG5 x.m.lk) (hs x (List.mem_filter.1 hx).1)
theorem ajx{P:Program}{fn:Func}{p:Tmp}{ty:TypeId}(h:fn.results=#[.cell p ty])(tmps:Array Value)(w:World)(g:Nat)(v:Value)
  (hp:tmps.getD p undef = .pointer (some ⟨g,0,none⟩)) (hc:w.cell? ⟨g,0,none⟩=some v) (hu:P.underlying ty=some .bool):(results fn tmps).run P w = .ok v w:=by
 have hp':tmps[p]?.getD undef = .pointer (some ⟨g,0,none⟩):=by simpa using hp
 have hagg:(isAgg ty).run P w = .ok false w:=by
  unfold isAgg
  rw[Sem.run_bind,run_underlying hu w]
  rfl
 simp[results,h,hp',asAddr,loadVar,Sem.run_bind,hagg,hc]
theorem atb(A:List UInt8)(hA:A.length=20)(amt:Nat)(tag:List UInt8)(a:Option Addr)(c:Nat)(t:TT)(w:World)(ht:t.Ok w)(hb:Bs w a c tag)(hs:∀x∈t.outs,x.m.lk.length≤1000)(h70:t.outs.length≤70):
  Calls Tryz.prog 77 #[.agg (pyC A amt a tag.length c),.agg t.cells] w λe w'=>e = .returned (.bool (decide (tag.length=0)||decide (tag∈afz t.outs)))∧Fr F0 w w':=by
 have hmf:∀(fn:Fn) (first cap:Array Value) (w:World),(Instr.makeFunc fn first cap).run Tryz.prog w = .ok (.func fn first cap) w:=λ_ _ _ _=>rfl
 obtain⟨n,hn⟩:∃n,n=tag.length:=⟨_,rfl⟩
 rw[←hn]
 have sP:=ai1 hA amt a n c
 have c21:=aRe hA amt a n c
 obtain⟨PC,hPC⟩:∃P,P=pyC A amt a n c:=⟨_,rfl⟩
 rw[←hPC]at sP c21 ⊢
 clear hPC
 have z21:21<PC.size:=by omega
 have d21:=jd c21 z21
 have HTg:=Lib.hid (λw' (f:Fr F0 w w')=>aBr t w' (ht.fr f) hs h70)
 have HL:=Lib.hid (aBp t.outs hs)
 obtain⟨TL,hTL⟩:∃L,L=afz t.outs:=⟨_,rfl⟩
 rw[←hTL]at HTg HL ⊢
 clear hTL
 have HB:=Lib.hid hb
 obtain⟨x0,x3,ia,oa,ni,mo,ic,oc,hTC⟩:=t.ajf
 rw[hTC]at HTg ⊢
 have hroom:=hb.room
 have aiw:=hb.most
 rw[←hn]at hroom
 have hnm:n≤9223372036854775807:=by unfold maxLen at aiw;omega
 clear hTC hb ht hs h70 aiw
 by_cases h0:n=0
 ·rw[decide_eq_true h0,Bool.true_or]
  have l0:((n:Int)==0)=true:=by rw[h0];rfl
  clear h0 hn
  go_enter Tryz.func77,Tryz.ntmps77
  go_upto_region 1 with fail
  refine lu λW1 N1=>?_
  have r4:=N1.new
  have r2:=N1.old (bg (o := .cells #[.int .u32 x0,.slice ia ni ic,.slice oa mo oc,.int .u32 x3] 59) (heap_alloc_new w (.cells PC 87)))
  have F:=(((Fr.refl F0 w).alloc (.cells PC 87)).alloc (.cells #[.int .u32 x0,.slice ia ni ic,.slice oa mo oc,.int .u32 x3] 59)).trans' N1.fr
  simp only[World.size_alloc]at r4
  try simp only[World.size_alloc]
  clear N1
  obtain⟨g4,hg4⟩:∃g,g=w.heap.size+1+1:=⟨_,rfl⟩
  obtain⟨g2,hg2⟩:∃g,g=w.heap.size:=⟨_,rfl⟩
  rw[←hg4]at r4 ⊢
  rw[←hg2]at r2 ⊢
  try rw[←hg2]
  replace hg4:=Lib.hid (show w.heap.size≤g4 by omega)
  clear hg2
  go_wp2_with fail
  refine bodyPost_ret (ajx rfl _ _ g4 _ rfl (by rw[jq,gq,r4];rfl) Tryz.underlying4) rfl ⟨rfl,?_⟩
  exact F.setCell (p:=⟨g4,0,none⟩) (λh=>by have:=hg4.out;simp only at h;omega) _
 rw[decide_eq_false h0,Bool.false_or]
 have l0:((n:Int)==0)=false:=beq_false_of_ne aPl
 replace hn:=Lib.hid hn
 refine callsIn_wide (n:=6) |>.1 ?_
 refine callsIn_of_wp_marks Tryz.func77 rfl trivial ?_ rfl
 simp only[Tryz.ntmps77,List.size_toArray,List.length_cons,List.length_nil,Nat.reduceAdd,Nat.reduceSub,Array.replicate_succ,Array.replicate_zero,List.push_toArray,List.append_toArray,List.nil_append,List.cons_append]
 gi_upto_region 1 with fail
 refine ag4 λW1 N1=>?_
 have r4:=N1.new
 have r3:=N1.old (heap_alloc_new (w.alloc (.cells PC 87)) (.cells #[.int .u32 x0,.slice ia ni ic,.slice oa mo oc,.int .u32 x3] 59))
 have r2:=N1.old (bg (o := .cells #[.int .u32 x0,.slice ia ni ic,.slice oa mo oc,.int .u32 x3] 59) (heap_alloc_new w (.cells PC 87)))
 have F:=(((Fr.refl F0 w).alloc (.cells PC 87)).alloc (.cells #[.int .u32 x0,.slice ia ni ic,.slice oa mo oc,.int .u32 x3] 59)).trans' N1.fr
 simp only[World.size_alloc]at r4 r3
 try simp only[World.size_alloc]
 clear N1
 obtain⟨g4,hg4⟩:∃g,g=w.heap.size+1+1:=⟨_,rfl⟩
 obtain⟨g3,hg3⟩:∃g,g=w.heap.size+1:=⟨_,rfl⟩
 obtain⟨g2,hg2⟩:∃g,g=w.heap.size:=⟨_,rfl⟩
 rw[←hg4]at r4
 rw[←hg3]at r3
 rw[←hg2]at r2
 try rw[←hg4]
 try rw[←hg3]
 try rw[←hg2]
 have n24:g2≠g4:=by omega
 replace hg4:=Lib.hid (show w.heap.size≤g4 by omega)
 clear hg2 hg3
 gi_upto_region 3 with fail
 have hTT:=Lib.hid (HTg.out _ F)
 clear HTg
 gi_wp2_with ((with_reducible apply And.intro);(exact trivial);gi_at_call 31;with_reducible refine(callsIn_wide.2 hTT.out).mono ?_;rintro e w2 ⟨gt,TGl,rfl,hTI,hTm,f⟩;replace r2:=au f r2;replace r4:=au f r4;replace F:=F.trans' f;clear f hTT r3)
 obtain⟨vt,ht3,ht4⟩:=hTI
 have HT:=Lib.hid (show aP0 W1.heap.size gt vt TGl w2 from⟨ht3,ht4⟩)
 have HQ:=Lib.hid (aBq W1.heap.size gt vt TGl (λx hx=>HL.out _ (by rw[←hTm];exact List.mem_map_of_mem hx)))
 have hwz:=Lib.hid F.size
 have HZ:=Lib.hid (show g2<w2.heap.size∧g4<w2.heap.size from⟨(Array.getElem?_eq_some_iff.1 r2).1,(Array.getElem?_eq_some_iff.1 r4).1⟩)
 have HB2:=Lib.hid (Bs.fr7 HB.out F)
 have HM:=Lib.hid hTm
 clear ht3 ht4 hTm
 have hOI:OwnFrom w2.heap.size (fun(pre:List TG) W'=>((W'.heap[g2]? = some (.cells PC 87 (0,0))∧W'.heap[g4]? = some (.cells #[.bool false] 4 (0,0)))∧Bs W' a c tag)∧(tag∉pre.map TG.bs)∧Fr F0 w2 W') :=
  OwnFrom.and (λsx A D row h hgr hr=>⟨⟨al1 h.1.1 hgr hr,al1 h.1.2 hgr hr⟩,azp h.2 hgr hr⟩) (OwnFrom.and (yx _ _) (λsx A D row h hgr hr=>h.grown hgr λk hk hlt=>by have:=(hr k hk).1;omega))
 have hO2:OwnFrom w2.heap.size (fun(_:Unit) W'=>Fr (λk=>k=g4) w2 W'):=λsx A D row h hgr hr=>h.grown hgr λk hk hlt=>by have:=(hr k hk).1;omega
 refine adi (gf:=75) (lb:=#[.pointer (some ⟨gt,0,none⟩)]) rfl (enters_of Tryz.func75 (by kernel_rfl) rfl) HQ.out (λ_=>rfl) (λ_ _=>trivial) (λ_ _=>trivial)
  (fun(pre:List TG) W'=>((W'.heap[g2]? = some (.cells PC 87 (0,0))∧W'.heap[g4]? = some (.cells #[.bool false] 4 (0,0)))∧Bs W' a c tag)∧(tag∉pre.map TG.bs)∧Fr F0 w2 W')
  (λcc _ W'=>(cc = .ret∧tag∈TL)∧W'.heap[g4]? = some (.cells #[.bool true] 4 (0,0))∧Fr (λk=>k=g4) w2 W')
  hOI (λcc=>OwnFrom.and (yx _ _) (OwnFrom.and (λsx A D row h hgr hr=>al1 h hgr hr) (λsx A D row h hgr hr=>h.grown hgr λk hk hlt=>by have:=(hr k hk).1;omega)))
  (λpre W' h=>HT.out.fr0 h.2.2)
  ⟨⟨⟨r2,r4⟩,HB2.out⟩,by simp,Fr.refl _ _⟩
  (λpre x a' W'=>a' = { tmps:=#[.agg PC,.agg #[.int .u32 x0,.slice ia ni ic,.slice oa mo oc,.int .u32 x3],.pointer (some ⟨g2,0,none⟩),.pointer (some ⟨g3,0,none⟩),.pointer (some ⟨g4,0,none⟩),x.val,.pointer (some ⟨g2,21,none⟩),.slice a n c,.int .i64 (n:Int),.bool false,.agg #[.int .u32 x0,.slice ia ni ic,.slice oa mo oc,.int .u32 x3],.func (.func 75) #[] #[.pointer (some ⟨gt,0,none⟩)],x.val,undef,undef,undef,undef],defers := [] }∧x.Ok W'∧x.bs∈TL)
  (λpre x a' sx A D row h hgr hr=>⟨h.1,azp h.2.1 hgr hr,h.2.2⟩) ?assign ?body ?done ?stop
 case assign =>
  intro l2 pre x W0 W' K hi0 f0 hn hK
  gi_wp2
  have hi4:=aap hOI hi0 f0
  refine hK _ _ (KeepsFrom.refl _ _) trivial hi4 ⟨rfl,hn.ok,?_⟩
  obtain⟨k,hk,e,_⟩:=hn.k
  rw[e,←HM.out]
  exact List.mem_map_of_mem (List.getElem_mem hk)
 case body =>
  rintro l2 pre x a' W' ⟨⟨⟨q2,q4⟩,hb⟩,hpre,fJ⟩ ⟨rfl,hx,hm⟩
  have HEq:=Lib.hid (ah9 x.bs tag x.a a x.bs.length n x.c c W' hx hb rfl hn.out)
  have HI:=Lib.hid (show tag∉pre.map TG.bs from hpre)
  have HJ:=Lib.hid (And.intro fJ hb)
  have n42:=n24.symm
  unfold TG.val
  clear hx hb hpre fJ
  obtain⟨ln,hln⟩:∃k,k=x.bs.length:=⟨_,rfl⟩
  rw[←hln]at HEq ⊢
  clear hln
  by_cases he:x.bs=tag
  ·have HTa:=Lib.hid (show tag∈TL by rw[←he];exact hm)
   rw[decide_eq_true he]at HEq
   clear he hm
   gi_wp2_with ((with_reducible apply And.intro);(exact trivial);gi_at_call 133;with_reducible refine(CallsIn.inRound l2 (callsIn_wide.2 HEq.out)).mono ?_;rintro e w5 ⟨rfl,rfl⟩;clear HEq)
   have f9:Fr (λk=>k=g4) w5 (w5.setCell ⟨g4,0,none⟩ (.bool true)):=Fr.setCell (S:=λk=>k=g4) (Fr.refl _ _) (p:=⟨g4,0,none⟩) (λ_=>rfl) _
   refine⟨(KeepsOthers.setCell w5 ⟨g4,0,none⟩ _).from _,⟨⟨rfl,HTa.out⟩,?_,HJ.out.1.of0.trans' f9⟩,trivial⟩
   rw[gq,q4];rfl
  ·have HNe:=Lib.hid he
   rw[decide_eq_false he]at HEq
   clear he hm
   gi_wp2_with ((with_reducible apply And.intro);(exact trivial);gi_at_call 133;with_reducible refine(CallsIn.inRound l2 (callsIn_wide.2 HEq.out)).mono ?_;rintro e w5 ⟨rfl,rfl⟩;clear HEq)
   refine⟨KeepsFrom.refl _ _,trivial,⟨⟨q2,q4⟩,HJ.out.2⟩,?_,HJ.out.1⟩
   rw[List.map_append,List.mem_append]
   rintro(h|h)
   ·exact HI.out h
   ·simp only[List.map_cons,List.map_nil,List.mem_singleton]at h
    exact HNe.out h.symm
 case done =>
  rintro D ys W' hD hy ⟨⟨⟨q2,q4⟩,hb⟩,hpre,fJ⟩ hK
  have hnt:¬tag∈TL:=by rw[←HM.out,←hy];exact hpre
  have HNT:=Lib.hid (decide_eq_false hnt)
  have hDg:D≠g4:=λe=>by have:=HZ.out;omega
  have HF:=Lib.hid (show Fr (λk=>k=g4) w2 (W'.setCell ⟨g4,0,none⟩ (.bool false))from(Fr.of0 (T:=λk=>k=g4) fJ).setCell (p:=⟨g4,0,none⟩) (λ_=>rfl) _)
  clear hnt hpre hb fJ q2
  gi_wp2
  refine⟨by simp,.inl ⟨_,_,rfl,run_takeDeferred (by rw[dn _ _ _ _ _ hDg];exact hK),?_⟩⟩
  refine⟨_,ajx rfl _ _ g4 _ rfl (by rw[jq,World.putObj_heap_other hDg.symm,gq,q4];rfl) Tryz.underlying4,by rw[HNT.out];rfl,?_⟩
  exact F.trans (hO2.putObj (.deferred none) (s:=()) HF.out hD (by rw[dn _ _ _ _ _ hDg];exact hK) rfl) λk hk e=>by have:=hg4.out;omega
 case stop =>
  rintro D cc pre W' hD ⟨⟨rfl,htl⟩,q4,fJ⟩ hK
  have HNT:=Lib.hid (decide_eq_true htl)
  have hDg:D≠g4:=λe=>by have:=HZ.out;omega
  clear htl
  gi_wp2
  refine⟨by simp,.inl ⟨_,_,rfl,run_takeDeferred hK,?_⟩⟩
  refine⟨_,ajx rfl _ _ g4 _ rfl (by rw[jq,World.putObj_heap_other hDg.symm,q4];rfl) Tryz.underlying4,by rw[HNT.out];rfl,?_⟩
  exact F.trans (hO2.putObj (.deferred none) (s:=()) fJ hD hK rfl) λk hk e=>by have:=hg4.out;omega
end Go.Proofs.YtjlelckefiannaaGreatDoor
namespace Go.Proofs.YtjlelckefiannaaGreatDoor
set_option linter.unusedVariables false
set_option linter.unusedSimpArgs false
open Go.RowKit
theorem az2{P:Program}{c:Code}{Q:Exit→Act→World→Prop}{a:Act}{w:World}{A B C:Array Value}{ta tb tc:TypeId}
  (k:∀W,W.heap[w.heap.size]? = some (.cells A ta (0,0))→W.heap[w.heap.size+1]? = some (.cells B tb (0,0))→W.heap[w.heap.size+1+1]? = some (.cells C tc (0,0))→Fr F0 w W→Code.wp P c Q a W) :
  Code.wp P c Q a (((w.alloc (.cells A ta)).alloc (.cells B tb)).alloc (.cells C tc)) :=
 k _ (aA1 w _ _ _) (aA0 w _ _ _) (aAz w _ _ _) ((((Fr.refl F0 w).alloc _).alloc _).alloc _)
theorem TIs.one{w:World}{g:Nat}{x:TIx}(h:w.heap[g]? = some (.cells x.row.toArray 124 (0,0)))(hx:x.Ok w):TIs w (some ⟨g,0,none⟩) 1 [x]:=by
 have hl:x.row.length=35:=TIx.yh hx.m
 refine⟨⟨by simp[hl],Nat.le_refl _,by unfold maxLen;decide,(λe=>by cases e),λj u hj=>⟨_,_,rfl,?_⟩⟩,λt ht=>by rw[List.mem_singleton]at ht;rw[ht];exact hx⟩
 rw[jq,h,mg,Nat.zero_add]
 simpa using hj
theorem wz.one{w:World}{g B:Nat}{x:TO}(h:w.heap[g]? = some (.cells x.row.toArray 126 (0,0)))(hx:x.Ok w)(hB:B≤g)(hn:x.m.lk ≠ []→∀k,ql x.a=some k→B≤k∧k≠g):wz B w (.slice (some ⟨g,0,none⟩) 1 1) [x]:=by
 refine⟨⟨by simp[TO.row],.inr ⟨g,1,x.row.toArray,rfl,Nat.zero_le _,h,Nat.le_refl _,by unfold maxLen;decide,by simp[TO.row],by simp[TO.row]⟩⟩,λk e=>by cases e;exact hB,λy hy=>by rw[List.mem_singleton]at hy;rw[hy];exact hx,λy hy hne k hk=>?_⟩
 rw[List.mem_singleton]at hy
 subst hy
 have:=hn hne k hk
 exact⟨this.1,λe=>by cases e;exact this.2 rfl⟩
theorem aDb(x:Int)(a:Option Addr)(n c:Nat):Tryz.prog.built 124 [(1,.int .u32 x),(2,.slice a n c)]=some (adp wu (.int .u32 x) (.slice a n c) (.int .u32 0)):=by kernel_rfl
def aOl(A:List UInt8)(amt:Nat)(tag B:List UInt8)(n:Nat):MT:=⟨1,[⟨wu,n,20::B,0⟩],⟨amt,ak7 A⟩::(if lkE 2 tag=0 then [⟨0,lkB 2 yu tag⟩]else []),0⟩
theorem aDu(A:List UInt8)(hA:A.length=20)(amt:Nat)(aPx:amt<18446744073709551616)(tag:List UInt8)(a:Option Addr)(n c:Nat)(B:List UInt8)(hB:B.length=20)(ix:Nat)(hix:ix<4294967296)(w:World)(hb:Bs w a c tag)(hn:n=tag.length)(hl:tag.length≤1000):
  Calls Tryz.prog 14 #[.agg (A.map B8).toArray,.int .u64 (amt:Int),.slice a n c,.agg (B.map B8).toArray,.int .u32 (ix:Int)] w λe w'=>∃t:TT,e = .returned (.agg t.cells)∧t.m=aOl A amt tag B ix∧alv w.heap.size w' t∧Fr F0 w w':=by
 have H1:=Lib.hid (λW=>aAy 1 A [] none 0 0 W hA (Bs.nothing _) rfl (by simp))
 have H2:=Lib.hid (λW=>aQc B W hB)
 have H3:=Lib.hid (λW (f:Fr F0 w W)=>aAy 2 yu tag a n c W rfl (Bs.fr7 hb f) hn hl)
 rw[show lkB 1 A []=ak7 A from rfl,show lkE 1 []=0 from rfl]at H1
 have b1:∀W,(anh #[(0,.int .i64 1),(1,.agg (A.map B8).toArray)]).run Tryz.prog W = .ok (.agg (lkC 1 A (.slice none 0 0))) W:=λW=>ab9 W _ _ (aqb A hA)
 have b2:∀W,(anh #[(0,.int .i64 2),(2,.slice a n c)]).run Tryz.prog W = .ok (.agg (lkC 2 yu (.slice a n c))) W:=λW=>ab9 W _ _ (aqa a n c)
 have sA:(A.map B8).toArray.size=20:=by simp[hA]
 have sB:(B.map B8).toArray.size=20:=by simp[hB]
 obtain⟨AA,hAA⟩:∃X,X=(A.map B8).toArray:=⟨_,rfl⟩
 obtain⟨BB,hBB⟩:∃X,X=(B.map B8).toArray:=⟨_,rfl⟩
 rw[←hAA]at sA b1 ⊢
 rw[←hBB]at sB H2 ⊢
 obtain⟨L1,hL1⟩:∃L,L=lkC 1 A (.slice none 0 0):=⟨_,rfl⟩
 obtain⟨L2,hL2⟩:∃L,L=lkC 2 yu (.slice a n c):=⟨_,rfl⟩
 rw[←hL1]at H1 b1
 rw[←hL2]at H3 b2
 have hll:(ak7 A).length=25:=by simp[ak7,hA]
 rw[hll]at H1
 have HLL:=Lib.hid hll
 have hE01:lkE 2 tag=0∨lkE 2 tag=3:=by
  unfold lkE
  rw[if_neg (by decide),if_pos rfl]
  split
  ·exact .inr rfl
  ·exact .inl rfl
 obtain⟨E,hE⟩:∃E,E=lkE 2 tag:=⟨_,rfl⟩
 rw[←hE]at H3 hE01
 have HE:=Lib.hid hE
 have HBl:=Lib.hid hB
 have HN2:=Lib.hid (show(20::B).length=21 by simp[hB])
 unfold ou at H2
 rw[show(20::B).length=21 by simp[hB]]at H2
 have HM:=Lib.hid (And.intro aPx hix)
 clear hAA hBB hL1 hL2 hll hE hn hl hb hA hB aPx hix
 go_enter Tryz.func14,Tryz.ntmps14
 go_upto_region 1 with fail
 refine az2 λW1 r5 r8 r10 F=>?_
 try simp only[World.size_alloc]
 obtain⟨g10,aOr⟩:∃g,g=w.heap.size+1+1:=⟨_,rfl⟩
 obtain⟨g8,hg8⟩:∃g,g=w.heap.size+1:=⟨_,rfl⟩
 obtain⟨g5,hg5⟩:∃g,g=w.heap.size:=⟨_,rfl⟩
 rw[←aOr]at r10
 rw[←hg8]at r8
 rw[←hg5]at r5
 try rw[←aOr]
 try rw[←hg8]
 try rw[←hg5]
 have hz1:=Lib.hid (show w.heap.size≤g10∧g10<W1.heap.size∧w.heap.size≤W1.heap.size from⟨by omega,(Array.getElem?_eq_some_iff.1 r10).1,F.size⟩)
 clear aOr hg8 hg5
 go_wp2_with fail
 (with_reducible refine(H1.out _).mono ?_);rintro e w2 ⟨a2,n2,c2,rfl,hn2,hb2,f2,nb2⟩
 replace r8:=au f2 r8
 replace r10:=au f2 r10
 replace F:=F.trans' f2
 have HA2:=Lib.hid (show Bs w2 a2 c2 (ak7 A)∧(∀k,ql a2=some k→W1.heap.size≤k)∧∀k,ql a2=some k→k<w2.heap.size from⟨hb2,nb2,λk hk=>hb2.low (by simp[ak7]) k hk⟩)
 have HS2:=Lib.hid f2.size
 clear f2 H1 hb2 nb2 r5
 go_wp2_with fail
 (with_reducible refine(H2.out _).mono ?_);rintro e w3 ⟨a3,c3,rfl,hb3,f3,nb3⟩
 replace r8:=au f3 r8
 replace r10:=au f3 r10
 replace F:=F.trans' f3
 have HA3:=Lib.hid (show Bs w3 a3 c3 (20::B)∧(∀k,ql a3=some k→W1.heap.size≤k)∧Bs w3 a2 c2 (ak7 A)∧W1.heap.size≤w3.heap.size∧(∀k,ql a2=some k→k<w3.heap.size)∧(∀k,ql a3=some k→k<w3.heap.size)from⟨hb3,λk hk=>Nat.le_trans HS2.out (nb3 k hk).1,Bs.fr7 HA2.out.1 f3,Nat.le_trans HS2.out f3.size,λk hk=>Nat.lt_of_lt_of_le (HA2.out.2.2 k hk) f3.size,λk hk=>(nb3 k hk).2⟩)
 clear f3 H2 hb3 nb3 HS2
 subst hn2
 have bi:∀W,(av3 #[(1,.int .u32 (ix:Int)),(2,.slice a3 21 c3)]).run Tryz.prog W = .ok (.agg (adp wu (.int .u32 (ix:Int)) (.slice a3 21 c3) (.int .u32 0))) W:=λW=>run_build W _ _ _ (aDb _ _ _ _)
 have sI:=ab5 (fr:=wu) rfl (.int .u32 (ix:Int)) (.slice a3 21 c3) (.int .u32 0)
 have bis:=λW=>ae3 W (adp wu (.int .u32 (ix:Int)) (.slice a3 21 c3) (.int .u32 0)) sI
 obtain⟨XI,hXI⟩:∃X,X=adp wu (.int .u32 (ix:Int)) (.slice a3 21 c3) (.int .u32 0):=⟨_,rfl⟩
 rw[←hXI]at bi sI bis
 have HXI:=Lib.hid hXI
 clear hXI
 have bo:=λW=>abw W #[.int .u64 (amt:Int),.slice a2 25 c2] rfl
 go_upto_region 3 with fail
 refine az2 λW5 ri ro rt f5=>?_
 replace r10:=au f5 r10
 replace F:=F.trans' f5
 obtain⟨gi,hgi⟩:∃g,g=w3.heap.size:=⟨_,rfl⟩
 rw[←hgi]at ri ro rt
 try rw[←hgi]
 try simp only[World.size_alloc]
 try rw[←hgi]
 obtain⟨go,hgo⟩:∃g,g=gi+1:=⟨_,rfl⟩
 rw[←hgo]at ro rt
 try rw[←hgo]
 obtain⟨gt,hgt⟩:∃g,g=go+1:=⟨_,rfl⟩
 rw[←hgt]at rt
 try rw[←hgt]
 have hz5:=Lib.hid (show W1.heap.size≤gi∧gi<go∧go<gt∧g10<gi∧gt<W5.heap.size∧(∀k,ql a2=some k→k<gi)∧(∀k,ql a3=some k→k<gi)from⟨by have:=HA3.out.2.2.2.1;omega,by omega,by omega,by have h1:=HA3.out.2.2.2.1;have h2:=hz1.out;omega,(Array.getElem?_eq_some_iff.1 rt).1,λk hk=>by have:=HA3.out.2.2.2.2.1 k hk;omega,λk hk=>by have:=HA3.out.2.2.2.2.2 k hk;omega⟩)
 have hO5:wz W1.heap.size W5 (.slice (some ⟨go,0,none⟩) 1 1) [⟨⟨amt,ak7 A⟩,a2,c2⟩]:=by
  refine wz.one ?_ ⟨⟨HM.out.1⟩,Bs.fr7 HA3.out.2.2.1 f5⟩ (by have:=hz5.out;omega) λ_ k hk=>⟨HA2.out.2.1 k hk,by have:=hz5.out.2.2.2.2.2.1 k hk;have:=hz5.out;omega⟩
  rw[show(TO.row ⟨⟨amt,ak7 A⟩,a2,c2⟩) = [.int .u64 (amt:Int),.slice a2 25 c2] by rw[TO.row,HLL.out]]
  exact ro
 have HO5:=Lib.hid hO5
 have hb3:=Lib.hid (Bs.fr7 HA3.out.1 f5)
 have ntg:=Lib.hid (show gt≠g10∧go≠g10∧go≠gt∧gi≠go∧gi≠gt by have:=hz5.out;omega)
 clear hO5 f5 hgi hgo hgt ro bi bis bo sI r8
 go_wp2_with fail
 (with_reducible refine(H3.out _ F).mono ?_);rintro e w6 ⟨a6,n6,c6,rfl,hn6,hb6,f6,nb6⟩
 replace ri:=au f6 ri
 replace rt:=au f6 rt
 replace r10:=au f6 r10
 replace F:=F.trans' f6
 have HO6:=Lib.hid (HO5.out.frS f6 (λ_ _ e=>e) (λ_ _ _ _ _ e=>e))
 have hb36:=Lib.hid (Bs.fr7 hb3.out f6)
 have hz6:=Lib.hid (show gt<w6.heap.size∧W1.heap.size≤w6.heap.size∧(∀k,ql a6=some k→gt<k)from⟨by have:=hz5.out;have:=f6.size;omega,by have:=hz5.out;have:=f6.size;omega,λk hk=>by have h1:=nb6 k hk;have:=hz5.out;omega⟩)
 have HX0:∀(W:World),W.heap[gi]? = some (.cells XI 124 (0,0))→Bs W a3 c3 (20::B)→TIs W (some ⟨gi,0,none⟩) 1 [⟨⟨wu,ix,20::B,0⟩,a3,c3⟩]:=λW r hb=>by
  refine TIs.one ?_ ⟨⟨rfl,HM.out.2,(show(0:Nat)<4294967296 by decide)⟩,hb⟩
  rw[TIx.adp]
  dsimp only
  rw[HN2.out]
  rw[HXI.out]at r
  exact r
 replace HX0:=Lib.hid HX0
 rcases hE01 with h0|h0
 ·have l1:(E==0)=true:=by rw[h0];rfl
  have HE0:=Lib.hid h0
  have HB6:=Lib.hid (And.intro hn6 (And.intro hb6 nb6))
  have e7:∀k,(Value.slice (some ⟨go,0,none⟩) 1 1).ownBlock=some k→k=go:=λk e=>by cases e;rfl
  have hap:=HO6.out.app ⟨⟨0,lkB 2 yu tag⟩,a6,c6⟩ ⟨⟨(show(0:Nat)<18446744073709551616 by decide)⟩,hb6⟩ (λ_ k hk=>⟨by have h1:=nb6 k hk;have:=hz5.out;have:=f6.size;omega,λe=>by have h3:=e7 _ e;have h4:=hz6.out.2.2 _ hk;have h5:=hz5.out;omega⟩) hz6.out.2.1 (by simp) 57
  obtain⟨a7,c7,w7,happ,O7,f7,s7,n7⟩:=hap
  rw[show(TO.row ⟨⟨0,lkB 2 yu tag⟩,a6,c6⟩).toArray=#[.int .u64 0,.slice a6 n6 c6] by rw[TO.row,hn6];rfl]at happ
  have bo:=abw w6 #[.int .u64 0,.slice a6 n6 c6] rfl
  simp only[List.length_cons,List.length_nil,Nat.zero_add,Nat.reduceAdd]at happ O7
  have ri7:=f7.keeps (λe=>ntg.out.2.2.2.1 (e7 _ e)) ri
  have rt7:=f7.keeps (λe=>ntg.out.2.2.1 (e7 _ e).symm) rt
  have rt6:(w6.alloc (.cells #[.int .u64 0,.slice a6 n6 c6] 126)).heap[gt]? = _:=bg rt
  have r107:=f7.keeps (λe=>ntg.out.2.1 (e7 _ e).symm) r10
  have F7:=Lib.hid (F.trans f7 λk hk e=>by have:=e7 _ e;have:=hz5.out;have:=hz1.out;omega)
  have hb37:=Lib.hid (hb36.out.frx f7 λ_ k hk e=>by have:=e7 _ e;have:=hz5.out.2.2.2.2.2.2 k hk;have:=hz5.out;omega)
  have HO7:=Lib.hid O7
  have HN7:=Lib.hid n7
  clear h0 hn6 hb6 nb6 f7 s7 n7 O7 f6
  go_upto_region 6 with fail
  refine aej rt7 λW8 r8 f8=>?_
  replace r8:W8.heap[gt]? = some (.cells #[.int .u32 1,.slice (some ⟨gi,0,none⟩) 1 1,.slice a7 2 c7,.int .u32 0] 59 (0,0)):=r8
  have ri8:=f8.keeps (λe=>ntg.out.2.2.2.2 e) ri7
  have r108:=f8.keeps (λe=>ntg.out.1 e.symm) r107
  have F8:=Lib.hid (F7.out.trans f8 λk hk e=>by have:=hz5.out;have:=hz1.out;omega)
  have hb38:=Lib.hid (hb37.out.frx f8 λ_ k hk e=>by have:=hz5.out.2.2.2.2.2.2 k hk;have:=hz5.out;omega)
  have HO8:=Lib.hid (HO7.out.frS f8 (λk e h=>by
    rcases HN7.out k (by rw[←qm];exact e)with e9|e9
    ·have:=e7 _ e9;have:=ntg.out;omega
    ·have:=hz6.out;omega) (λx hx hne k hk h=>by
    simp only[List.cons_append,List.nil_append,List.mem_cons,List.not_mem_nil,or_false]at hx
    rcases hx with rfl|rfl
    ·have:=hz5.out.2.2.2.2.2.1 k hk;have:=hz5.out;omega
    ·have:=hz6.out.2.2 k hk;omega))
  clear f8 ri7 rt7 rt6 r107 ri rt r10 happ bo
  go_wp2_with fail
  refine bodyPost_ret (results_cell_row rfl _ _ g10 _ _ _ _ rfl (agu r108) Tryz.underlying59 rfl zz79) rfl ?_
  obtain⟨_,_,e9,hTo⟩:=HO8.out.is
  cases e9
  have hT:alv W1.heap.size W8 ⟨1,some ⟨gi,0,none⟩,1,[⟨⟨wu,ix,20::B,0⟩,a3,c3⟩],a7,c7,[⟨⟨amt,ak7 A⟩,a2,c2⟩] ++ [⟨⟨0,lkB 2 yu tag⟩,a6,c6⟩],0⟩ :=
   ⟨⟨(show(1:Nat)<4294967296 by decide),(show(0:Nat)<4294967296 by decide),HX0.out _ ri8 hb38.out,hTo⟩,λk e=>by cases e;show W1.heap.size≤gi;have:=hz5.out;omega,λk e=>HO8.out.blk k (by rw[qm];exact e),λx hx _ k hk=>by
    rw[List.mem_singleton]at hx
    subst hx
    exact HA3.out.2.1 k hk,λx hx hne k hk=>(HO8.out.new x hx hne k hk).1⟩
  refine⟨_,rfl,?_,(hT.fr Fr.aza λk e=>by have:=hz1.out;omega).mono hz1.out.2.2,F8.out.agu hz1.out.1⟩
  rw[TT.m,aOl,if_pos (by rw[←HE.out];exact HE0.out)]
  rfl
 ·have l1:(E==0)=false:=by rw[h0];rfl
  have HE0:=Lib.hid h0
  clear h0 hn6 hb6 nb6 f6
  go_wp2_with fail
  refine bodyPost_ret (results_cell_row rfl _ _ g10 _ _ _ _ rfl (agu r10) Tryz.underlying59 rfl zz79) rfl ?_
  obtain⟨_,_,e9,hTo⟩:=HO6.out.is
  cases e9
  have hT:alv W1.heap.size w6 ⟨1,some ⟨gi,0,none⟩,1,[⟨⟨wu,ix,20::B,0⟩,a3,c3⟩],some ⟨go,0,none⟩,1,[⟨⟨amt,ak7 A⟩,a2,c2⟩],0⟩ :=
   ⟨⟨(show(1:Nat)<4294967296 by decide),(show(0:Nat)<4294967296 by decide),HX0.out _ ri hb36.out,hTo⟩,λk e=>by cases e;show W1.heap.size≤gi;have:=hz5.out;omega,λk e=>HO6.out.blk k (by rw[qm];exact e),λx hx _ k hk=>by
    rw[List.mem_singleton]at hx
    subst hx
    exact HA3.out.2.1 k hk,λx hx hne k hk=>(HO6.out.new x hx hne k hk).1⟩
  refine⟨_,rfl,?_,(hT.fr Fr.aza λk e=>by have:=hz1.out;omega).mono hz1.out.2.2,F.agu hz1.out.1⟩
  rw[TT.m,aOl,if_neg (by rw[←HE.out,HE0.out];decide)]
  rfl
end Go.Proofs.YtjlelckefiannaaGreatDoor
