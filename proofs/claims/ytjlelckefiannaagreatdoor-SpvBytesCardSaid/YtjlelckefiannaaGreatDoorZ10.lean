import Derived.Test.YtjlelckefiannaaGreatDoorZ9
import Derived.Test.YtjlelckefiannaaGreatDoorZ7
import Derived.Test.YtjlelckefiannaaGreatDoorZ2
import Derived.RecoverIn
set_option maxRecDepth 100000
set_option maxHeartbeats 64000000
namespace Go.Proofs.YtjlelckefiannaaGreatDoor
set_option linter.unusedVariables false
set_option linter.unusedSimpArgs false
open Go.RowKit
@[simp high] theorem aO9 (m x:Nat):adq m x x=true:=decide_eq_true rfl
theorem aia{x:Nat}(h:x<18446744073709551616):x<ng:=Nat.lt_of_lt_of_le (show x<2 ^ 64 by omega) (Nat.pow_le_pow_right aPl aPl)
theorem aIa:ng=2 ^ 256:=rfl
def wkN(t:Nat):Nat:=if t=0 then ng-1 else ng/(t+1)
def scN(t up by' most:Nat):Nat:=if most<t*up/by' then most else if t*up/by'=0 then 1 else t*up/by'
def btE(b:Nat):Nat:=b/16777216
def btM(b:Nat):Nat:=b % 8388608
def btS(b:Nat):Nat:=b/8388608 % 2
def btT(b:Nat):Nat:=tgt (btE b) (btM b)
def btP(b:Nat):Prop:=¬(btS b=1∧0<btM b)∧0<btT b∧btT b<ng
instance (b:Nat):Decidable (btP b):=by unfold btP;infer_instance
def enB(t:Nat):Nat:=enM t+enE t*16777216
theorem aRn{t:Nat}(h:t<ng):nby t≤32:=by
 rw[ao2,ac7]
 exact h
theorem azu{t:Nat}(h:t<ng):enE t≤33:=by
 have:=aRn h
 unfold enE
 split<;>omega
end Go.Proofs.YtjlelckefiannaaGreatDoor
namespace Go.Proofs.YtjlelckefiannaaGreatDoor
set_option linter.unusedVariables false
set_option linter.unusedSimpArgs false
open Go.RowKit Go.Shelf
attribute [local go_sem] Oper.semAt_some
abbrev encA (x:Nat):Array Value:=#[.int .u64 (x:Int)]
def azc(l:List Nat)(pre:List Nat)(x:Nat):Prop:=pre.length<l.length∧x=l.getD pre.length 0∧pre=l.take pre.length
theorem ain(n:Nat)(w:World):
  CallsDIn Fence.wide n Tryz.prog 164 #[] .returning w λe u' w'=>(∃v,e = .returned v)∧u' = .returning∧w'=w:=by
 refine callsDIn_of_wpSIn Tryz.func164 rfl (by trivial) λc₀ cs hu=>?_
 apply wpSIn_region
 simp[wpOpsSIn,go_sem,recoverD,hu,Tryz.ntmps164,Exit.thenS]
 cases c₀
 simp_all [bodyPostS,results,Tryz.results164]
end Go.Proofs.YtjlelckefiannaaGreatDoor
namespace Go.Proofs.YtjlelckefiannaaGreatDoor
set_option linter.unusedVariables false
set_option linter.unusedSimpArgs false
open Go.RowKit Go.Shelf
attribute [local go_sem] Oper.semAt_some
def toV:Nat→List Nat→Nat
 |s,[]=>s
 |s,x::l=>if adE s x=0 then toV (s+x) l else 0
def toE:Nat→List Nat→Int
 |s,[]=>0
 |s,x::l=>if adE s x=0 then toE (s+x) l else adE s x
theorem aFm(s x:Nat)(l:List Nat):toV s (x::l)=if adE s x=0 then toV (s+x) l else 0:=rfl
theorem aFo(s x:Nat)(l:List Nat):toE s (x::l)=if adE s x=0 then toE (s+x) l else adE s x:=rfl
theorem aLh(s:Nat):toV s []=s:=rfl
theorem aLi(s:Nat):toE s []=0:=rfl
theorem awm{w:World}{g:Nat}{v:Value}{t:TypeId}{f:Nat×Nat}(h:w.heap[g]? = some (.cells #[v] t f)):(w.setCell ⟨g,0,none⟩ v).heap[g]? = some (.cells #[v] t f):=by rw[gq,h];rfl
theorem aa5{w:World}{g g' i:Nat}{v:Value}{o:Obj}(hn:g≠g')(h:w.heap[g]? = some o):(w.setCell ⟨g',i,none⟩ v).heap[g]? = some o:=by rw[dn _ _ _ _ _ hn];exact h
theorem apl{P:Program}{fn:Func}{p q:Tmp}{ty ty2:TypeId}{k k2:IntKind}(h:fn.results=#[.cell p ty,.cell q ty2])(tmps:Array Value)(w:World)(g g':Nat)(v v':Value)
  (hp:tmps.getD p undef = .pointer (some ⟨g,0,none⟩)) (hq:tmps.getD q undef = .pointer (some ⟨g',0,none⟩)) (hc:w.cell? ⟨g,0,none⟩=some v) (hc':w.cell? ⟨g',0,none⟩=some v')
  (hu:P.underlying ty=some (.int k)) (hu':P.underlying ty2=some (.int k2)):(results fn tmps).run P w = .ok (.tuple #[v,v']) w:=by
 have hp':tmps[p]?.getD undef = .pointer (some ⟨g,0,none⟩):=by simpa using hp
 have hq':tmps[q]?.getD undef = .pointer (some ⟨g',0,none⟩):=by simpa using hq
 have hagg:(isAgg ty).run P w = .ok false w:=by
  unfold isAgg
  rw[Sem.run_bind,run_underlying hu w]
  rfl
 have hagg2:(isAgg ty2).run P w = .ok false w:=by
  unfold isAgg
  rw[Sem.run_bind,run_underlying hu' w]
  rfl
 simp[results,h,hp',hq',asAddr,loadVar,Sem.run_bind,hagg,hagg2,hc,hc']
theorem aJ9{a b:Nat}(h:adE a b=0):a≤4611686018427387904∧b≤4611686018427387904∧a+b≤4611686018427387904:=by
 unfold adE at h
 split at h
 ·rename_i h1
  split at h
  ·exact⟨h1.1,h1.2,by assumption⟩
  ·cases h
 ·cases h
theorem aSh{a b:Nat}(h:adE a b=0):adV a b=a+b:=if_pos (aJ9 h)
theorem aSi{a b:Nat}(h:¬adE a b=0):adV a b=0:=by
 refine if_neg λh1=>h ?_
 unfold adE
 rw[if_pos ⟨h1.1,h1.2.1⟩,if_pos h1.2.2]
end Go.Proofs.YtjlelckefiannaaGreatDoor
namespace Go.Proofs.YtjlelckefiannaaGreatDoor
set_option linter.unusedVariables false
set_option linter.unusedSimpArgs false
open Go.RowKit Go.Shelf
attribute [local go_sem] Oper.semAt_some
theorem axr(gf:Nat)(lb:Array Value)(l:List Nat)(hl:∀x∈l,x<18446744073709551616)(C:List Nat→World→Prop)(w:World)(eg:∀args w,(callFunc gf args).run Tryz.prog w = .ok (.enter gf args) w)
  (hseq:aOy Tryz.prog gf lb encA Ku C (λpre x _ _=>azc l pre x) (λxs=>xs=l)) (hC:∀pre W,Fr F0 w W→C pre W) :
  Calls Tryz.prog 129 #[.func (.func gf) #[] lb] w λe w'=>e = .returned (.tuple #[.int .u64 (toV 0 l:Nat),.int .i64 (toE 0 l)])∧Fr F0 w w':=by
 have hmf:∀(fn:Fn) (first cap:Array Value) (w:World),(Instr.makeFunc fn first cap).run Tryz.prog w = .ok (.func fn first cap) w:=λ_ _ _ _=>rfl
 refine callsIn_wide (n:=6) |>.1 ?_
 refine callsIn_of_wp_marks Tryz.func129 rfl trivial ?_ rfl
 simp only[Tryz.ntmps129,List.size_toArray,List.length_cons,List.length_nil,Nat.reduceAdd,Nat.reduceSub,Array.replicate_succ,Array.replicate_zero,List.push_toArray,List.append_toArray,List.nil_append,List.cons_append]
 gi_wp2
 obtain⟨W1,hW1⟩:∃W1,W1=(w.alloc (.cells #[.int .u64 0] 55)).alloc (.cells #[.int .i64 0] 37):=⟨_,rfl⟩
 refine ad6 W1 hW1 ?_
 have f1:Fr F0 w W1:=by rw[hW1];exact((Fr.refl F0 w).alloc _).alloc _
 obtain⟨r2,r3⟩:=heap2 w (.cells #[.int .u64 0] 55) (.cells #[.int .i64 0] 37)
 rw[←hW1]at r2 r3
 have hs1:W1.heap.size=w.heap.size+1+1:=by rw[hW1];simp
 clear hW1
 generalize hg2:w.heap.size=g2 at *
 generalize hg3:g2+1=g3 at *
 have n32:g3≠g2:=by omega
 have n23:g2≠g3:=by omega
 have HG:=Lib.hid (show w.heap.size=g2∧g2≤W1.heap.size∧g2≤g3∧g3<W1.heap.size by omega)
 have HX:=Lib.hid hl
 have HC:=Lib.hid hC
 clear hg2 hg3 hs1 hl hC
 have hOI:=OwnFrom.and (OwnFrom.and (og W1.heap.size g2 (λpre:List Nat=>#[.int .u64 (pre.sum:Nat)]) 55 (0,0)) (og W1.heap.size g3 (λ_:List Nat=>#[.int .i64 0]) 37 (0,0))) (OwnFrom.and (yx W1.heap.size (λpre:List Nat=>pre.sum<18446744073709551616∧toV 0 l=toV pre.sum (l.drop pre.length)∧toE 0 l=toE pre.sum (l.drop pre.length))) (own_below (β:=List Nat) W1.heap.size g2 W1 (Nat.le_refl _) HG.out.2.1))
 refine adi (gf:=gf) (lb:=lb) rfl eg hseq (λ_=>rfl) Ku.trans (λW o=>Ku.put o aPl)
  (λpre W=>(W.heap[g2]? = some (.cells #[.int .u64 (pre.sum:Nat)] 55 (0,0))∧W.heap[g3]? = some (.cells #[.int .i64 0] 37 (0,0)))∧(pre.sum<18446744073709551616∧toV 0 l=toV pre.sum (l.drop pre.length)∧toE 0 l=toE pre.sum (l.drop pre.length))∧Below g2 W1 W)
  (λcc _ W=>cc = .exit 0∧(W.heap[g2]? = some (.cells #[.int .u64 (toV 0 l:Nat)] 55 (0,0))∧W.heap[g3]? = some (.cells #[.int .i64 (toE 0 l)] 37 (0,0)))∧Below g2 W1 W)
  hOI
  (λcc=>OwnFrom.and (yx _ _) (OwnFrom.and (OwnFrom.and (og _ _ _ _ _) (og _ _ _ _ _)) (own_below _ _ _ (Nat.le_refl _) HG.out.2.1)))
  ?sees ⟨⟨r2,r3⟩,⟨by simp,rfl,rfl⟩,Below.refl _ _⟩
  (λpre x a' _=>a' = { tmps:=#[.func (.func gf) #[] lb,undef,.pointer (some ⟨g2,0,none⟩),.pointer (some ⟨g3,0,none⟩),.int .u64 (x:Int),.func (.func gf) #[] lb,.int .u64 (x:Int),undef,undef,undef,undef,undef,undef,undef,undef,undef,undef],defers := [] }∧azc l pre x)
  (λ_ _ _=>yx _ _) ?assign ?body ?done ?stop
 case sees =>
  rintro pre W ⟨_,_,hB⟩
  have hF:Fr F0 w W:=f1.trans (Fr.uz hB) λi hi hk=>by have:=HG.out;omega
  exact HC.out _ _ hF
 case assign =>
  intro lp pre x W0 W K hi0 f0 hn hK
  gi_wp2
  exact hK _ _ (KeepsFrom.refl _ _) (Ku.refl _ _) (aap hOI hi0 f0) ⟨rfl,hn⟩
 case body =>
  rintro lp pre x a' W ⟨⟨q2,q3⟩,⟨hs,hV,hE⟩,hB⟩ ⟨rfl,hlt,rfl,hpre⟩
  obtain⟨k,hk⟩:∃k,k=pre.length:=⟨_,rfl⟩
  rw[←hk]at hlt hV hE ⊢
  have hx:l.getD k 0<18446744073709551616:=HX.out _ (by rw[show l.getD k 0=l[k] by simp[List.getD,List.getElem?_eq_getElem hlt]];exact List.getElem_mem _)
  have hd:l.drop k=l.getD k 0::l.drop (k+1):=by rw[List.drop_eq_getElem_cons hlt];simp[List.getD,List.getElem?_eq_getElem hlt]
  rw[hd]at hV hE
  have HK:=Lib.hid (show(pre ++ [l.getD k 0]).length=k+1∧(pre ++ [l.getD k 0]).sum=pre.sum+l.getD k 0 by simp[hk])
  generalize l.getD k 0=x at *
  generalize pre.sum=s at *
  have HA:=Lib.hid (aH9 s x hs hx)
  rw[aFm]at hV
  rw[aFo]at hE
  clear hs hx hd hk hpre hlt
  by_cases he:adE s x=0
  ·have hk:=aJ9 he
   rw[aSh he,he]at HA
   rw[if_pos he]at hV hE
   have HV:=Lib.hid (And.intro hV (And.intro hE (show s+x<18446744073709551616 by omega)))
   clear hV hE he hk
   gi_wp2_with (refine⟨trivial,?_⟩;gi_at_call 165;refine(CallsIn.inRound lp (callsIn_wide.2 (HA.out _))).mono ?_;rintro e w4 ⟨rfl,f4⟩;replace q2:=f4.keeps (λf=>f) q2;replace q3:=f4.keeps (λf=>f) q3;have H4:=Lib.hid f4;clear f4)
   have b4:Below g2 W1 w4:=hB.trans (H4.out.below (Nat.le_trans HG.out.2.1 hB.size) λ_ _ f=>f)
   have b5:=(b4.setCell (p:=⟨g2,0,none⟩) (Nat.le_refl _) (.int .u64 ((s:Int)+(x:Int)))).setCell (p:=⟨g3,0,none⟩) HG.out.2.2.1 (.int .i64 0)
   have k5:=((H4.out.aex W1.heap.size).trans ((KeepsOthers.setCell w4 ⟨g2,0,none⟩ (.int .u64 ((s:Int)+(x:Int)))).from _)).trans ((KeepsOthers.setCell _ ⟨g3,0,none⟩ (.int .i64 0)).from _)
   have u5:Ku (W1.heap.size+2) W ((w4.setCell ⟨g2,0,none⟩ (.int .u64 ((s:Int)+(x:Int)))).setCell ⟨g3,0,none⟩ (.int .i64 0)):=Ku.fr (S:=λk=>k=g2∨k=g3) ((H4.out.of0.setCell (p:=⟨g2,0,none⟩) (λ_ => .inl rfl) _).setCell (p:=⟨g3,0,none⟩) (λ_ => .inr rfl) _) (λk e=>by have:=HG.out;omega)
   refine⟨k5,u5,⟨?_,?_⟩,⟨?_,?_,?_⟩,b5⟩
   ·rw[HK.out.2,dn _ _ _ _ _ n23,gq,q2];rfl
   ·rw[gq,dn _ _ _ _ _ n32,q3];rfl
   ·rw[HK.out.2];exact HV.out.2.2
   ·rw[HK.out.1,HK.out.2];exact HV.out.1
   ·rw[HK.out.1,HK.out.2];exact HV.out.2.1
  ·rw[aSi he]at HA
   rw[if_neg he]at hV hE
   have HV:=Lib.hid (And.intro hV hE)
   clear hV hE
   generalize adE s x=ee at *
   gi_wp2_with (refine⟨trivial,?_⟩;gi_at_call 165;refine(CallsIn.inRound lp (callsIn_wide.2 (HA.out _))).mono ?_;rintro e w4 ⟨rfl,f4⟩;replace q2:=f4.keeps (λf=>f) q2;replace q3:=f4.keeps (λf=>f) q3;have H4:=Lib.hid f4;clear f4)
   have b4:Below g2 W1 w4:=hB.trans (H4.out.below (Nat.le_trans HG.out.2.1 hB.size) λ_ _ f=>f)
   have b5:=(b4.setCell (p:=⟨g2,0,none⟩) (Nat.le_refl _) (.int .u64 (0))).setCell (p:=⟨g3,0,none⟩) HG.out.2.2.1 (.int .i64 ee)
   have k5:=((H4.out.aex W1.heap.size).trans ((KeepsOthers.setCell w4 ⟨g2,0,none⟩ (.int .u64 (0))).from _)).trans ((KeepsOthers.setCell _ ⟨g3,0,none⟩ (.int .i64 ee)).from _)
   have u5:Ku (W1.heap.size+2) W ((w4.setCell ⟨g2,0,none⟩ (.int .u64 0)).setCell ⟨g3,0,none⟩ (.int .i64 ee)):=Ku.fr (S:=λk=>k=g2∨k=g3) ((H4.out.of0.setCell (p:=⟨g2,0,none⟩) (λ_ => .inl rfl) _).setCell (p:=⟨g3,0,none⟩) (λ_ => .inr rfl) _) (λk e=>by have:=HG.out;omega)
   refine⟨k5,⟨rfl,⟨?_,?_⟩,b5⟩,u5⟩
   ·rw[dn _ _ _ _ _ n23,gq,q2,HV.out.1];rfl
   ·rw[gq,dn _ _ _ _ _ n32,q3,HV.out.2];rfl
 case done =>
  rintro D ys W hD hy ⟨⟨q2,q3⟩,⟨_,hV,hE⟩,hB⟩ hK
  replace hy:=hy.symm
  subst hy
  rw[List.drop_length]at hV hE
  rw[aLh]at hV
  rw[aLi]at hE
  rw[←hV]at q2
  rw[←hE]at q3
  clear hV hE
  generalize hVV:toV 0 l=V at *
  generalize hEE:toE 0 l=E at *
  have HVE:=Lib.hid (And.intro hVV hEE)
  clear hVV hEE
  gi_wp2
  refine wpIn_wide.2 ?_
  refine jm (S:=(λw'=>w'.heap[g2]? = some (.cells #[.int .u64 (V:Int)] 55 (0,0))∧w'.heap[g3]? = some (.cells #[.int .i64 E] 37 (0,0)))) ?_ λak=>?_
  ·exact(by((try dsimp only)<;>((refine⟨?_,?_⟩<;>(try simp only[dh])<;>(repeat(first|exact q2|exact q3|exact ak.1|exact ak.2|refine awm ?_|refine aa5 n23 ?_|refine aa5 n32 ?_))))))
  refine aj 0 ?_
  refine aj 1 ?_
  refine jf 2 λK hK=>?_
  go_simp
  refine rpu hK (by((try dsimp only)<;>((refine⟨?_,?_⟩<;>(try simp only[dh])<;>(repeat(first|exact q2|exact q3|exact ak.1|exact ak.2|refine awm ?_|refine aa5 n23 ?_|refine aa5 n32 ?_)))))) λak=>?_
  clear hK K
  refine jf 3 λK hK=>?_
  go_simp
  refine rpu hK (by((try dsimp only)<;>((refine⟨?_,?_⟩<;>(try simp only[dh])<;>(repeat(first|exact q2|exact q3|exact ak.1|exact ak.2|refine awm ?_|refine aa5 n23 ?_|refine aa5 n32 ?_)))))) λak=>?_
  clear hK K
  refine jg ?_
  all_goals
   have hD2:D≠g2:=λe=>by subst e;rw[q2]at hK;cases hK
   have hD3:D≠g3:=λe=>by subst e;rw[q3]at hK;cases hK
   obtain⟨e2,e3⟩:=ak
   generalize hW9:World.drew (World.setCell (World.setCell _ _ _) _ _)=W9 at *
   have hK':W9.heap[D]? = some (.deferred (some [])):=by
    rw[←hW9]
    simp only[dh]
    first
     |exact aa5 hD3 (aa5 hD2 hK)
     |exact aa5 hD2 (aa5 hD3 hK)
   have b9:Below g2 W1 W9:=by
    rw[←hW9]
    first
     |exact((hB.setCell (p:=⟨g2,0,none⟩) (Nat.le_refl _) _).setCell (p:=⟨g3,0,none⟩) HG.out.2.2.1 _).drew
     |exact((hB.setCell (p:=⟨g3,0,none⟩) HG.out.2.2.1 _).setCell (p:=⟨g2,0,none⟩) (Nat.le_refl _) _).drew
   clear hW9
   have b10:=b9.trans (belowK_b (w:=W1) HG.out.2.1 W9 D _ (.deferred none) hD hK' rfl rfl)
   replace e2:(W9.putObj D (.deferred none)).heap[g2]? = some (.cells #[.int .u64 (V:Int)] 55 (0,0)):=(World.putObj_heap_other (λe=>hD2 e.symm)).trans e2
   replace e3:(W9.putObj D (.deferred none)).heap[g3]? = some (.cells #[.int .i64 E] 37 (0,0)):=(World.putObj_heap_other (λe=>hD3 e.symm)).trans e3
   gi_wp2
   refine⟨by simp,.inl ⟨_,_,rfl,run_takeDeferred hK',?_⟩⟩
   refine⟨by simp,.inr ⟨by simp[Fence.wide],.func 164,#[],164,#[],rfl,by simp[go_sem],λ_ _=>trivial,?_⟩⟩
   refine(ain _ _).mono ?_
   rintro e u' w' ⟨⟨v,rfl⟩,rfl,hw⟩
   replace hw:=hw.symm
   subst hw
   exact⟨_,apl rfl _ _ g2 g3 _ _ rfl rfl (by rw[jq,e2,HVE.out.1];rfl) (by rw[jq,e3,HVE.out.2];rfl) Tryz.underlying55 Tryz.underlying37,rfl,f1.trans (Fr.uz b10) λi hi hk=>by have:=HG.out;omega⟩
 case stop =>
  rintro D cc pre W hD ⟨rfl,⟨q2,q3⟩,hB⟩ hK
  generalize hVV:toV 0 l=V at *
  generalize hEE:toE 0 l=E at *
  have HVE:=Lib.hid (And.intro hVV hEE)
  clear hVV hEE
  gi_wp2
  refine wpIn_wide.2 ?_
  refine jm (S:=(λw'=>w'.heap[g2]? = some (.cells #[.int .u64 (V:Int)] 55 (0,0))∧w'.heap[g3]? = some (.cells #[.int .i64 E] 37 (0,0)))) ?_ λak=>?_
  ·exact(by((try dsimp only)<;>((refine⟨?_,?_⟩<;>(try simp only[dh])<;>(repeat(first|exact q2|exact q3|exact ak.1|exact ak.2|refine awm ?_|refine aa5 n23 ?_|refine aa5 n32 ?_))))))
  refine aj 0 ?_
  refine aj 1 ?_
  refine jf 2 λK hK=>?_
  go_simp
  refine rpu hK (by((try dsimp only)<;>((refine⟨?_,?_⟩<;>(try simp only[dh])<;>(repeat(first|exact q2|exact q3|exact ak.1|exact ak.2|refine awm ?_|refine aa5 n23 ?_|refine aa5 n32 ?_)))))) λak=>?_
  clear hK K
  refine jf 3 λK hK=>?_
  go_simp
  refine rpu hK (by((try dsimp only)<;>((refine⟨?_,?_⟩<;>(try simp only[dh])<;>(repeat(first|exact q2|exact q3|exact ak.1|exact ak.2|refine awm ?_|refine aa5 n23 ?_|refine aa5 n32 ?_)))))) λak=>?_
  clear hK K
  refine jg ?_
  all_goals
   have hD2:D≠g2:=λe=>by subst e;rw[q2]at hK;cases hK
   have hD3:D≠g3:=λe=>by subst e;rw[q3]at hK;cases hK
   obtain⟨e2,e3⟩:=ak
   generalize hW9:World.drew (World.setCell (World.setCell _ _ _) _ _)=W9 at *
   have hK':W9.heap[D]? = some (.deferred (some [])):=by
    rw[←hW9]
    simp only[dh]
    first
     |exact aa5 hD3 (aa5 hD2 hK)
     |exact aa5 hD2 (aa5 hD3 hK)
   have b9:Below g2 W1 W9:=by
    rw[←hW9]
    first
     |exact((hB.setCell (p:=⟨g2,0,none⟩) (Nat.le_refl _) _).setCell (p:=⟨g3,0,none⟩) HG.out.2.2.1 _).drew
     |exact((hB.setCell (p:=⟨g3,0,none⟩) HG.out.2.2.1 _).setCell (p:=⟨g2,0,none⟩) (Nat.le_refl _) _).drew
   clear hW9
   have b10:=b9.trans (belowK_b (w:=W1) HG.out.2.1 W9 D _ (.deferred none) hD hK' rfl rfl)
   replace e2:(W9.putObj D (.deferred none)).heap[g2]? = some (.cells #[.int .u64 (V:Int)] 55 (0,0)):=(World.putObj_heap_other (λe=>hD2 e.symm)).trans e2
   replace e3:(W9.putObj D (.deferred none)).heap[g3]? = some (.cells #[.int .i64 E] 37 (0,0)):=(World.putObj_heap_other (λe=>hD3 e.symm)).trans e3
   gi_wp2
   refine⟨by simp,.inl ⟨_,_,rfl,run_takeDeferred hK',?_⟩⟩
   refine⟨by simp,.inr ⟨by simp[Fence.wide],.func 164,#[],164,#[],rfl,by simp[go_sem],λ_ _=>trivial,?_⟩⟩
   refine(ain _ _).mono ?_
   rintro e u' w' ⟨⟨v,rfl⟩,rfl,hw⟩
   replace hw:=hw.symm
   subst hw
   exact⟨_,apl rfl _ _ g2 g3 _ _ rfl rfl (by rw[jq,e2,HVE.out.1];rfl) (by rw[jq,e3,HVE.out.2];rfl) Tryz.underlying55 Tryz.underlying37,rfl,f1.trans (Fr.uz b10) λi hi hk=>by have:=HG.out;omega⟩
end Go.Proofs.YtjlelckefiannaaGreatDoor
