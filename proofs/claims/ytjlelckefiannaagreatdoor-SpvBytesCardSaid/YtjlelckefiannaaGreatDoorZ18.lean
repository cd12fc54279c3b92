import Derived.Test.YtjlelckefiannaaGreatDoorZ15
import Derived.Test.YtjlelckefiannaaGreatDoorZ17
set_option maxRecDepth 100000
set_option maxHeartbeats 64000000
namespace Go.Proofs.YtjlelckefiannaaGreatDoor
set_option linter.unusedVariables false
set_option linter.unusedSimpArgs false
open Go.RowKit Go.Shelf
attribute [local go_sem] Oper.semAt_some
def arv(bs:List UInt8)(s:List Wd){m:Nat}(l:List (Fin m)):List Wd:=l.foldl (λs k=>compress (blk bs k.val) s) s
theorem aep(bs:List UInt8)(s:List Wd){m:Nat}(l:List (Fin m))(x:Fin m):arv bs s (l ++ [x])=compress (blk bs x.val) (arv bs s l):=by simp[arv]
theorem agl(bs:List UInt8)(s:List Wd){m:Nat}(l:List (Fin m)):(arv bs s l).length=s.length:=by
 obtain⟨r,rfl⟩:∃r,l=List.reverse r:=⟨l.reverse,by simp⟩
 induction r with
 |nil=>rfl
 |cons x r ih=>rw[List.reverse_cons,aep,zy,ih]
theorem ag7(bs:List UInt8)(s:List Wd)(m:Nat):∀k,k≤m→arv bs s (ay8 m k)=acy bs s k
 |0,_=>by simp[arv,ay8,acy]
 |k+1,h=>by rw[ap6 m k aPl,aep,ag7 bs s m k aPl];rfl
theorem afp(bs:List UInt8)(k m:Nat)(h:k<m)(hb:64*m≤bs.length):(blk bs k).length=64:=by simp[blk];omega
theorem Bs.blk{w:World}{b off c:Nat}{bs:List UInt8}(h:Bs w (some ⟨b,off,none⟩) c bs)(k m:Nat)(hk:k<m)(hb:64*m≤bs.length):Bs w (some ⟨b,off+64*k,none⟩) 64 (blk bs k):=by
 have hl:=afp bs k m hk hb
 refine⟨by simp,by omega,by unfold maxLen;omega,(λe=>by cases e),λj u hj=>⟨b,off+64*k,rfl,?_⟩⟩
 have hj':j<64:=by
  have:=(List.getElem?_eq_some_iff.1 hj).1
  simp[hl]at this
  exact this
 have hc:=h.cell (64*k+j) u (by
  rw[←hj]
  simp only[List.getElem?_map,Go.Proofs.YtjlelckefiannaaGreatDoor.blk,List.getElem?_take,hj',if_true,List.getElem?_drop])
 obtain⟨b',off',e,hc⟩:=hc
 cases e
 rw[←hc]
 congr 2
 omega
theorem Own.block{β:Type}(g:Nat)(f:β→Array Value)(t:TypeId)(fr:Nat×Nat)(B:Nat):OwnFrom B (fun(s:β) W=>W.heap[g]? = some (.cells (f s) t fr)):=by
 intro s A A' row hs hg hr
 rw[hg.block g (Array.getElem?_eq_some_iff.1 hs).1 λe=>?_]
 ·exact hs
 ·obtain⟨_,o,ho,hc⟩:=hr g e.symm
  rw[hs]at ho
  cases ho
  cases hc
theorem aml{β:Type}{S:Nat→Prop}{B:Nat}{w₀:World}(hB:w₀.heap.size≤B):OwnFrom B (fun(_:β) W=>Fr S w₀ W) :=
 λ_ _ _ _ hs hg hr=>hs.grown hg λk e hk=>by have:=(hr k e).1;omega
theorem zi(w:World)(l k:Nat)(o:Obj)(h:k≠l):(w.putObj l o).heap[k]? = w.heap[k]? := by
 simp only[World.putObj]
 rw[Array.getElem?_setIfInBounds_ne aPl]
theorem Fr.putObj{S:Nat→Prop}{a w:World}(h:Fr S a w){l:Nat}(hp:l<a.heap.size→S l)(o:Obj):Fr S a (w.putObj l o) :=
 h.trans (T:=λk=>k=l) ⟨rfl,rfl,rfl,by simp[World.putObj],λk _ hk=>zi w l k o hk⟩ λi hi e=>by subst e;exact hp hi
theorem Bs.tail{w:World}{a:Option Addr}{c:Nat}{bs:List UInt8}(h:Bs w a c bs)(q:Nat)(hq:q≤bs.length):Bs w (a.map λx=>x.add q) (c-q) (bs.drop q):=by
 refine⟨by simp,by have:=h.room;simp;omega,by have:=h.most;omega,λe=>?_,λj u hj=>?_⟩
 ·have:a=none:=by simpa using e
  rw[h.nil this];omega
 ·obtain⟨b,off,e,hc⟩:=h.cell (q+j) u (by rw[←hj];simp)
  subst e
  exact⟨b,off+q,by simp[Addr.add],by rw[←hc];congr 2;omega⟩
theorem Bs.none_left{w:World}{a:Option Addr}{bs:List UInt8}(q:Nat)(hq:bs.length=q):Bs w a 0 (bs.drop q):=by
 rw[List.drop_eq_nil_of_le aPl]
 exact⟨rfl,Nat.le_refl _,by unfold maxLen;omega,λ_=>rfl,λj u hj=>by simp at hj⟩
theorem KeepsOthers.row{W W':World}{g:Nat}{cs:Array Value}{t:TypeId}{fr:Nat×Nat}(hg:W.heap[g]? = some (.cells cs t fr))(h:Fr (λk=>k=g) W W'):KeepsOthers W W':=by
 refine⟨h.size,λl o ho hc=>(h.block l (Array.getElem?_eq_some_iff.1 ho).1 λe=>?_).trans ho⟩
 subst e
 rw[hg]at ho
 cases ho
 cases hc
theorem aBd(a:Option Addr)(n c:Nat)(bs:List UInt8)(hn:n=bs.length)(hl:bs.length≤140737488355000)(w:World)(h:Bs w a c bs)(zn:Cub w):
  Calls Tryz.prog 70 #[.slice a n c] w λe w'=>e = .returned (.agg ((sha bs).map B8).toArray)∧Fr F0 w w':=by
 subst hn
 have HB:=Lib.hid h
 have HC:=Lib.hid zn
 clear h zn
 refine callsIn_wide (n:=6) |>.1 ?_
 refine callsIn_of_wp_marks Tryz.func70 rfl trivial ?_ rfl
 simp only[Tryz.ntmps70,List.size_toArray,List.length_cons,List.length_nil,Nat.reduceAdd,Nat.reduceSub,Array.replicate_succ,Array.replicate_zero,List.push_toArray,List.append_toArray,List.nil_append,List.cons_append]
 obtain⟨m,hm⟩:∃m,m=bs.length/64:=⟨_,rfl⟩
 obtain⟨q,hq0⟩:∃q,q=64*m:=⟨_,rfl⟩
 have hq:(bs.length:Int)-(bs.length:Int) % 64=(q:Int):=by omega
 have hqc:(q:Int)≤c:=by have:=HB.out.room;omega
 have hql:q≤bs.length:=by omega
 have HQ:=Lib.hid (And.intro hm hq0)
 clear hm hq0
 gi_wp2_with (first|((with_reducible apply And.intro);(exact trivial);gi_at_call 124;refine(callsIn_wide.2 (aDn _)).mono ?_;rintro e w1 ⟨rfl,h1⟩)|(refine wo rfl 200 (.tmp 3) (.tmp 7) rfl w1.heap.size _ rfl rfl 200 _ (heap_alloc_new w1 _) (by rw[Tryz.sz8];rfl) rfl (aff _) ?_)|((with_reducible apply And.intro);(exact trivial);gi_at_call 125;refine(awh _ _ trivial rfl _ _ _ _).mono ?_;rintro e w2 ⟨rfl,rfl⟩))
 generalize hSt:w1.heap.size=St at *
 have h1s:=h1.size
 have hlt:w.heap.size<St:=by simp at h1s;omega
 have hF0:Fr F0 w ((w1.alloc (.cells #[.int .u32 0,.int .u32 0,.int .u32 0,.int .u32 0,.int .u32 0,.int .u32 0,.int .u32 0,.int .u32 0] 200)).setRow St (List.map W32 H0).toArray):=((((Fr.refl F0 w).alloc _).trans' h1).alloc _).setRow (λh=>by omega) _
 have hSt0:((w1.alloc (.cells #[.int .u32 0,.int .u32 0,.int .u32 0,.int .u32 0,.int .u32 0,.int .u32 0,.int .u32 0,.int .u32 0] 200)).setRow St (List.map W32 H0).toArray).heap[St]? = some (.cells (List.map W32 H0).toArray 200 (0,0)):=setRow_heap _ _ _ _ _ _ (by rw[←hSt];exact heap_alloc_new w1 _)
 have hR0:∃cs,((w1.alloc (.cells #[.int .u32 0,.int .u32 0,.int .u32 0,.int .u32 0,.int .u32 0,.int .u32 0,.int .u32 0,.int .u32 0] 200)).setRow St (List.map W32 H0).toArray).heap[w.heap.size]? = some (.cells cs 24 (0,0))∧cs.size=32:=⟨_,by rw[setRow_other _ _ _ _ aPl,heap_alloc_old _ _ aPl];exact h1.keeps (λf=>f) (heap_alloc_new w _),rfl⟩
 have hw3:((w1.alloc (.cells #[.int .u32 0,.int .u32 0,.int .u32 0,.int .u32 0,.int .u32 0,.int .u32 0,.int .u32 0,.int .u32 0] 200)).setRow St (List.map W32 H0).toArray).heap.size=St+1:=by simp[hSt]
 generalize ((w1.alloc (.cells #[.int .u32 0,.int .u32 0,.int .u32 0,.int .u32 0,.int .u32 0,.int .u32 0,.int .u32 0,.int .u32 0] 200)).setRow St (List.map W32 H0).toArray)=w3 at *
 have hB3:Bs w3 a c bs:=Sl.fr HB.out hF0 λ_ _ f=>f
 have hC3:Cub w3:=HC.out.fr hF0 λf=>f
 have hal:∀b,bs ≠ []→ql a=some b→b<w.heap.size:=λb hne e=>by
  obtain⟨b',off,rfl,hc⟩:=HB.out.cells hne
  cases e
  exact World.block_lt_of_cell? w _ (hc 0 (List.length_pos_iff.2 hne))
 have hcl:0<w.heap.size:=HC.out.lt
 obtain⟨hm,hq0⟩:=HQ.out
 have hb4:((w3.alloc (.cells #[.slice a q c] 22)).alloc (.cells #[.int .i64 64] 3)).cell? ⟨St+1,0,none⟩=some (.slice a q c):=by rw[←hw3];exact cell_of_one (heap_alloc2_old w3 _ _)
 have hn4:((w3.alloc (.cells #[.slice a q c] 22)).alloc (.cells #[.int .i64 64] 3)).cell? ⟨St+1+1,0,none⟩=some (.int .i64 64):=by rw[←hw3];exact cell_of_one (heap_alloc2_new w3 _ _)
 have hF4:Fr F0 w3 ((w3.alloc (.cells #[.slice a q c] 22)).alloc (.cells #[.int .i64 64] 3)):=((Fr.refl F0 w3).alloc _).alloc _
 have hsz4:((w3.alloc (.cells #[.slice a q c] 22)).alloc (.cells #[.int .i64 64] 3)).heap.size=St+3:=by simp[hw3]
 generalize (w3.alloc (.cells #[.slice a q c] 22)).alloc (.cells #[.int .i64 64] 3)=w4 at *
 refine wpIn_rangeFunc_ownG rfl aPl (gf:=161) (lb:=#[.pointer (some ⟨St+1,0,none⟩),.pointer (some ⟨St+1+1,0,none⟩)]) rfl trivial (enters_of Tryz.func161 (by kernel_rfl) rfl)
  (ags Fence.wide 5 trivial rfl aPl (St+1) (St+1+1) St a c m aPl aPl w4 aPl aPl (by rw[hb4,hq0]) hn4 (λh0=>by
   obtain⟨b,off,e,_⟩:=HB.out.cells (by intro e;simp[e]at hm;omega)
   exact⟨b,off,e⟩))
  (λh k=>Kc.trans h k) (λW l o o' _ h hc _=>Kc.putObj W l o o' h hc) (Below.refl _ _) (λ_=>rfl)
  (λpre W=>W.heap[St]? = some (.cells ((arv bs H0 pre).map W32).toArray 200 (0,0))∧Below St w4 W)
  (λ_ _ _=>False)
  (OwnFrom.and (Own.block _ _ _ _ _) (ownFrom_below aPl aPl))
  (λ_ _ _ _ _ hs _ _=>hs)
  ⟨hF4.keeps (λf=>f) hSt0,Below.refl _ _⟩
  (λx => { tmps:=#[.slice a bs.length c,undef,.pointer (some ⟨w.heap.size,0,none⟩),.pointer (some ⟨St,0,none⟩),.int .i64 q,.slice (a.map λy=>⟨y.block,y.off+64*x.val,none⟩) 64 64,undef,
   .agg (List.map W32 H0).toArray,.slice a bs.length c,.int .i64 bs.length,.slice a bs.length c,.int .i64 bs.length,.int .i64 ((bs.length:Int) % 64),.int .i64 q,.slice a bs.length c,.int .i64 q,.slice a q c,
   .func (.func 161) #[] #[.pointer (some ⟨St+1,0,none⟩),.pointer (some ⟨St+1+1,0,none⟩)],.slice (a.map λy=>⟨y.block,y.off+64*x.val,none⟩) 64 64,
   undef,undef,undef,undef,undef,undef,undef,undef,undef,undef,undef,undef,undef,undef,undef,undef,undef],defers := [] }) ?assign ?body ?done ?stop
 case assign =>
  intro l x W K hK
  clear hm hq0
  gi_wp2
  exact hK
 case body =>
  rintro l pre x W ⟨hst,hB⟩ hlen
  obtain⟨b,off,rfl,_⟩:=HB.out.cells (by have:=x.isLt;intro e;simp[e]at hm;omega)
  have hb:=hal b (by have:=x.isLt;intro e;simp[e]at hm;omega) rfl
  have hx:Bs W (some ⟨b,off+64*x.val,none⟩) 64 (blk bs x.val):=Bs.blk (Sl.kept (Sl.fr hB3 hF4 λ_ _ f=>f) λk e hk=>hB.block k (by have:=Option.some.inj e;simp only at this;omega)) x.val m x.isLt aPl
  have hC:Cub W:=λj hj=>(hB.cell (p:=⟨0,j,none⟩) (by simp only;omega)).trans (hC3.fr hF4 (λf=>f) j hj)
  have hz:(arv bs H0 pre).length=8:=by rw[agl];rfl
  have hb64:=afp bs x.val m x.isLt aPl
  have hsn:=Lib.hid (aep bs H0 pre x)
  generalize arv bs H0 pre=s at *
  dsimp only[Option.map]
  clear hm hq0
  have hsz:(s.map W32).toArray.size=8:=by simp[hz]
  gi_wp2_with (first|(refine aac rfl 200 (.tmp 3) rfl St rfl 200 _ (0,0) _ hst Tryz.underlying200 rfl aPm ?_)|((with_reducible apply And.intro);(exact trivial);gi_at_call 126;refine(CallsIn.inRound l (callsIn_wide.2 (akd s hz _ 64 64 _ rfl hb64 _ hx hC))).mono ?_;rintro e w5 ⟨rfl,h5⟩)|(refine wo rfl 200 (.tmp 3) (.tmp 21) rfl St _ rfl rfl 200 _ (h5.keeps (λf=>f) hst) ahq (by simp[zy,hz]) (aff _) ?_))
  have hF5:Fr (λk=>k=St) W (w5.setRow St ((compress (blk bs x.val) s).map W32).toArray):=Fr.setRow (S:=λk=>k=St) (Fr.of0 h5) (λ_=>rfl) _
  refine⟨(KeepsOthers.row hst hF5).from _,Kc.fr hF5,?_,hB.trans (hF5.below (by have:=hB.size;omega) λk hk=>by omega)⟩
  rw[hsn.out]
  exact setRow_heap _ _ _ _ _ _ (h5.keeps (λf=>f) hst)
 case done =>
  rintro D ys W hD rfl ⟨hst,hB⟩ hK
  rw[ag7 bs H0 m m (Nat.le_refl _)]at hst
  clear hm hq0
  have hSth:St<W.heap.size:=(Array.getElem?_eq_some_iff.1 hst).1
  have HCW:Cub W:=λj hj=>(hB.cell (p:=⟨0,j,none⟩) (by simp only;omega)).trans (hC3.fr hF4 (λf=>f) j hj)
  have hBs:=Bs.tail (Sl.frn (S:=λk=>St≤k) (Sl.fr hB3 hF4 λ_ _ f=>f) (Fr.uz hB) λhne k e h=>by
   have:=hal k (λe=>hne (by rw[e];rfl)) e
   omega) q hql
  have hd:(bs.drop q).length<64:=by have:=HQ.out;simp;omega
  have hlb:bs.length≤140737488355328:=by omega
  gi_wp2_with (first|((with_reducible apply And.intro);(exact trivial);gi_at_call 127;refine(callsIn_wide.2 (ax9 _ _ _ (bs.drop q) (by simp) hd bs.length hlb _ (by first|exact hBs|exact Bs.none_left _ (by have:=HB.out.room;omega)))).mono ?_;rintro e w6 ⟨b6,rfl,hb6,h6,hg6⟩)|((with_reducible apply And.intro);(exact trivial);gi_at_call 125;refine(awh _ _ trivial rfl _ _ _ _).mono ?_;rintro e w7 ⟨rfl,rfl⟩))
  ·try generalize a.map (λx=>x.add q)=a2 at *
   have hfl:=afo (bs.drop q) bs.length hd
   obtain⟨m2,hm2⟩:∃m2,aao (bs.length-q)=64*m2:=⟨aao (bs.length-q)/64,by unfold aao;split<;>omega⟩
   have hm2s:m2≤2:=by have:aao (bs.length-q)≤128:=(by unfold aao;split<;>omega);omega
   have hfl2:(fil (bs.drop q) bs.length).length=64*m2:=by rw[hfl,List.length_drop,hm2]
   have hdl:(bs.drop q).length=bs.length-q:=List.length_drop
   rw[hdl]at hb6
   rw[hm2]at hb6 ⊢
   have aKx:=h6.keeps (λf=>f) hst
   have hF7:Fr F0 w6 ((w6.alloc (.cells #[.slice (some ⟨b6,0,none⟩) (64*m2) (64*m2)] 22)).alloc (.cells #[.int .i64 64] 3)):=((Fr.refl F0 w6).alloc _).alloc _
   have hb7:((w6.alloc (.cells #[.slice (some ⟨b6,0,none⟩) (64*m2) (64*m2)] 22)).alloc (.cells #[.int .i64 64] 3)).cell? ⟨w6.heap.size,0,none⟩=some (.slice (some ⟨b6,0,none⟩) (64*m2) (64*m2)):=cell_of_one (heap_alloc2_old w6 _ _)
   have hn7:((w6.alloc (.cells #[.slice (some ⟨b6,0,none⟩) (64*m2) (64*m2)] 22)).alloc (.cells #[.int .i64 64] 3)).cell? ⟨w6.heap.size+1,0,none⟩=some (.int .i64 64):=cell_of_one (heap_alloc2_new w6 _ _)
   generalize (w6.alloc (.cells #[.slice (some ⟨b6,0,none⟩) (64*m2) (64*m2)] 22)).alloc (.cells #[.int .i64 64] 3)=w7 at *
   have hSt6:St<w6.heap.size:=(Array.getElem?_eq_some_iff.1 aKx).1
   have hSb:St≠b6:=by have:=(Array.getElem?_eq_some_iff.1 hst).1;omega
   refine wpIn_rangeFunc_ownG rfl aPl (gf:=161) (lb:=#[.pointer (some ⟨w6.heap.size,0,none⟩),.pointer (some ⟨w6.heap.size+1,0,none⟩)]) rfl trivial (enters_of Tryz.func161 (by kernel_rfl) rfl)
    (ags Fence.wide 5 trivial rfl aPl (w6.heap.size) (w6.heap.size+1) St (some ⟨b6,0,none⟩) (64*m2) m2 aPl aPl w7 aPl aPl hb7 hn7 (λh0=>⟨b6,0,rfl⟩))
    (λh k=>Kc.trans h k) (λW l o o' _ h hc _=>Kc.putObj W l o o' h hc) (Below.refl _ _) (λ_=>rfl)
    (λpre W'=>W'.heap[St]? = some (.cells ((arv (fil (bs.drop q) bs.length) (acy bs H0 m) pre).map W32).toArray 200 (0,0))∧Fr (λk=>k=St) w7 W')
    (λ_ _ _=>False)
    (OwnFrom.and (Own.block _ _ _ _ _) (aml (Nat.le_refl _)))
    (λ_ _ _ _ _ hs _ _=>hs)
    ⟨hF7.keeps (λf=>f) aKx,Fr.refl _ _⟩
    ?a1a ?aHz ?aSb ?aR3 ?aQ7
   case aHz =>
    intro l x W' K hK
    gi_wp2
    exact hK
   case aSb =>
    rintro l pre x W' ⟨hst',hF'⟩ hlen
    have hxl:=x.isLt
    have hB':Bs W' (some ⟨b6,0,none⟩) (64*m2) (fil (bs.drop q) bs.length):=Sl.fr (Sl.fr hb6 hF7 λ_ _ f=>f) hF' λk e h=>by
     cases e
     exact hSb h.symm
    have hx:=Bs.blk hB' x.val m2 hxl aPl
    rw[Nat.zero_add]at hx
    have hC:Cub W':=(HCW.fr h6 λf=>f).fr (hF7.of0.trans' hF') λh=>by omega
    have hz:(arv (fil (bs.drop q) bs.length) (acy bs H0 m) pre).length=8:=by rw[agl,aaf];rfl
    have hb64:=afp (fil (bs.drop q) bs.length) x.val m2 hxl aPl
    have hsn:=Lib.hid (aep (fil (bs.drop q) bs.length) (acy bs H0 m) pre x)
    generalize arv (fil (bs.drop q) bs.length) (acy bs H0 m) pre=s at *
    try dsimp only[Option.map]
    have hsz:(s.map W32).toArray.size=8:=by simp[hz]
    gi_wp2_with (first|(refine aac rfl 200 (.tmp 3) rfl St rfl 200 _ (0,0) _ hst' Tryz.underlying200 rfl aPm ?_)|((with_reducible apply And.intro);(exact trivial);gi_at_call 126;refine(CallsIn.inRound l (callsIn_wide.2 (akd s hz _ 64 64 _ rfl hb64 _ hx hC))).mono ?_;rintro e w8 ⟨rfl,h8⟩)|(refine wo rfl 200 (.tmp 3) (.tmp 33) rfl St _ rfl rfl 200 _ (h8.keeps (λf=>f) hst') ahq (by simp[zy,hz]) (aff _) ?_))
    have hF8:Fr (λk=>k=St) W' (w8.setRow St ((compress (blk (fil (bs.drop q) bs.length) x.val) s).map W32).toArray):=Fr.setRow (S:=λk=>k=St) (Fr.of0 h8) (λ_=>rfl) _
    refine⟨(KeepsOthers.row hst' hF8).from _,Kc.fr hF8,?_,hF'.trans' hF8⟩
    rw[hsn.out]
    exact setRow_heap _ _ _ _ _ _ (h8.keeps (λf=>f) hst')
   case aR3 =>
    rintro D2 ys W' hD2 rfl ⟨hst',hF'⟩ hK2
    rw[ag7 _ _ m2 m2 (Nat.le_refl _)]at hst'
    have arz:(acy (fil (bs.drop q) bs.length) (acy bs H0 m) m2).length=8:=by rw[aaf,aaf];rfl
    have hsha:sha bs=bytesOf (acy (fil (bs.drop q) bs.length) (acy bs H0 m) m2):=by
     have hq':=HQ.out
     rw[aAd,←hq'.1,←hq'.2]
     have e1:bs.length % 64=bs.length-q:=by omega
     have e2:acy (bs.take q) H0 m=acy bs H0 m:=by
      have:=ag8 (bs.take q) (bs.drop q) H0 m (by simp;omega)
      rw[List.take_append_drop]at this
      exact this.symm
     rw[e1,e2,hm2,Nat.mul_div_cancel_left _ aPl]
    have HS:=Lib.hid hsha
    generalize acy (fil (bs.drop q) bs.length) (acy bs H0 m) m2=sF at *
    obtain⟨csR,hR3,hRz⟩:=hR0
    have hR':=hF'.keeps (k:=w.heap.size) (λh=>by omega) (hF7.keeps (λf=>f) (h6.keeps (λf=>f) ((hB.block w.heap.size hlt).trans (hF4.keeps (λf=>f) hR3))))
    have hsz:(sF.map W32).toArray.size=8:=by simp[arz]
    have hbz:((bytesOf sF).map B8).toArray.size=32:=by simp[bytesOf_length,arz]
    have hWs:=hB.size
    have hW6:=h6.size
    have hW7:=hF7.size
    have hDW:=(Array.getElem?_eq_some_iff.1 hK).1
    have HF:=Lib.hid ((((((hF0.trans' hF4).trans (Fr.uz hB) λi hi h=>by omega).trans' h6).trans' hF7).trans hF' λi hi h=>by omega))
    have HD:=Lib.hid (hF'.keeps (k:=D) (λh=>by subst h;rw[hst]at hK;cases hK) (hF7.keeps (λf=>f) (h6.keeps (λf=>f) hK)))
    have HD2:=Lib.hid hK2
    clear hK hK2
    clear hB hB3 hC3 hF0 hSt0 hR3 hb4 hn4 hst hBs hb6 aKx hb7 hn7 HCW
    gi_wp2_with (first|(refine aac rfl 200 (.tmp 3) rfl St rfl 200 _ (0,0) _ hst' Tryz.underlying200 rfl aPm ?_)|((with_reducible apply And.intro);(exact trivial);gi_at_call 128;refine(callsIn_wide.2 (avs sF arz _)).mono ?_;rintro e w9 ⟨rfl,h9⟩)|(refine wo rfl 24 (.tmp 2) (.tmp 35) rfl w.heap.size _ rfl rfl 24 csR (h9.keeps (λf=>f) hR') (by rw[Tryz.sz32,hbz]) (by rw[hRz,hbz]) (abd _) ?_))
    have g2:(w9.setRow w.heap.size ((bytesOf sF).map B8).toArray).heap[D2]? = some (.deferred (some [])):=by
     rw[setRow_other _ _ _ _ aPl]
     exact h9.keeps (λf=>f) HD2.out
    have g1:((w9.setRow w.heap.size ((bytesOf sF).map B8).toArray).putObj D2 (.deferred none)).heap[D]? = some (.deferred (some [])):=by
     rw[zi _ _ _ _ aPl,setRow_other _ _ _ _ aPl]
     exact h9.keeps (λf=>f) HD.out
    have g0:(((w9.setRow w.heap.size ((bytesOf sF).map B8).toArray).putObj D2 (.deferred none)).putObj D (.deferred none)).heap[w.heap.size]? = some (.cells ((bytesOf sF).map B8).toArray 24 (0,0)):=by
     rw[zi _ _ _ _ aPl,zi _ _ _ _ aPl]
     exact setRow_heap _ _ _ _ _ _ (h9.keeps (λf=>f) hR')
    refine⟨by simp,.inl ⟨_,_,rfl,run_takeDeferred g2,by simp,.inl ⟨_,_,rfl,run_takeDeferred g1,?_⟩⟩⟩
    refine⟨_,results_cell_row rfl _ _ w.heap.size _ _ _ _ rfl g0 Tryz.underlying24 rfl (by rw[Tryz.sz32,hbz]),?_⟩
    exact⟨by rw[HS.out],(((HF.out.trans' h9).setRow (λh=>by omega) _).putObj (λh=>by omega) _).putObj (λh=>by omega) _⟩
   case aQ7 =>
    rintro D c pre W _ _ h _
    exact h.elim
  ·try generalize a.map (λx=>x.add q)=a2 at *
   have hfl:=afo (bs.drop q) bs.length hd
   obtain⟨m2,hm2⟩:∃m2,aao (bs.length-q)=64*m2:=⟨aao (bs.length-q)/64,by unfold aao;split<;>omega⟩
   have hm2s:m2≤2:=by have:aao (bs.length-q)≤128:=(by unfold aao;split<;>omega);omega
   have hfl2:(fil (bs.drop q) bs.length).length=64*m2:=by rw[hfl,List.length_drop,hm2]
   have hdl:(bs.drop q).length=bs.length-q:=List.length_drop
   rw[hdl]at hb6
   rw[hm2]at hb6 ⊢
   have aKx:=h6.keeps (λf=>f) hst
   have hF7:Fr F0 w6 ((w6.alloc (.cells #[.slice (some ⟨b6,0,none⟩) (64*m2) (64*m2)] 22)).alloc (.cells #[.int .i64 64] 3)):=((Fr.refl F0 w6).alloc _).alloc _
   have hb7:((w6.alloc (.cells #[.slice (some ⟨b6,0,none⟩) (64*m2) (64*m2)] 22)).alloc (.cells #[.int .i64 64] 3)).cell? ⟨w6.heap.size,0,none⟩=some (.slice (some ⟨b6,0,none⟩) (64*m2) (64*m2)):=cell_of_one (heap_alloc2_old w6 _ _)
   have hn7:((w6.alloc (.cells #[.slice (some ⟨b6,0,none⟩) (64*m2) (64*m2)] 22)).alloc (.cells #[.int .i64 64] 3)).cell? ⟨w6.heap.size+1,0,none⟩=some (.int .i64 64):=cell_of_one (heap_alloc2_new w6 _ _)
   generalize (w6.alloc (.cells #[.slice (some ⟨b6,0,none⟩) (64*m2) (64*m2)] 22)).alloc (.cells #[.int .i64 64] 3)=w7 at *
   have hSt6:St<w6.heap.size:=(Array.getElem?_eq_some_iff.1 aKx).1
   have hSb:St≠b6:=by have:=(Array.getElem?_eq_some_iff.1 hst).1;omega
   refine wpIn_rangeFunc_ownG rfl aPl (gf:=161) (lb:=#[.pointer (some ⟨w6.heap.size,0,none⟩),.pointer (some ⟨w6.heap.size+1,0,none⟩)]) rfl trivial (enters_of Tryz.func161 (by kernel_rfl) rfl)
    (ags Fence.wide 5 trivial rfl aPl (w6.heap.size) (w6.heap.size+1) St (some ⟨b6,0,none⟩) (64*m2) m2 aPl aPl w7 aPl aPl hb7 hn7 (λh0=>⟨b6,0,rfl⟩))
    (λh k=>Kc.trans h k) (λW l o o' _ h hc _=>Kc.putObj W l o o' h hc) (Below.refl _ _) (λ_=>rfl)
    (λpre W'=>W'.heap[St]? = some (.cells ((arv (fil (bs.drop q) bs.length) (acy bs H0 m) pre).map W32).toArray 200 (0,0))∧Fr (λk=>k=St) w7 W')
    (λ_ _ _=>False)
    (OwnFrom.and (Own.block _ _ _ _ _) (aml (Nat.le_refl _)))
    (λ_ _ _ _ _ hs _ _=>hs)
    ⟨hF7.keeps (λf=>f) aKx,Fr.refl _ _⟩
    ?a1b ?aHy ?aSa ?aR2 ?aQ6
   case aHy =>
    intro l x W' K hK
    gi_wp2
    exact hK
   case aSa =>
    rintro l pre x W' ⟨hst',hF'⟩ hlen
    have hxl:=x.isLt
    have hB':Bs W' (some ⟨b6,0,none⟩) (64*m2) (fil (bs.drop q) bs.length):=Sl.fr (Sl.fr hb6 hF7 λ_ _ f=>f) hF' λk e h=>by
     cases e
     exact hSb h.symm
    have hx:=Bs.blk hB' x.val m2 hxl aPl
    rw[Nat.zero_add]at hx
    have hC:Cub W':=(HCW.fr h6 λf=>f).fr (hF7.of0.trans' hF') λh=>by omega
    have hz:(arv (fil (bs.drop q) bs.length) (acy bs H0 m) pre).length=8:=by rw[agl,aaf];rfl
    have hb64:=afp (fil (bs.drop q) bs.length) x.val m2 hxl aPl
    have hsn:=Lib.hid (aep (fil (bs.drop q) bs.length) (acy bs H0 m) pre x)
    generalize arv (fil (bs.drop q) bs.length) (acy bs H0 m) pre=s at *
    try dsimp only[Option.map]
    have hsz:(s.map W32).toArray.size=8:=by simp[hz]
    gi_wp2_with (first|(refine aac rfl 200 (.tmp 3) rfl St rfl 200 _ (0,0) _ hst' Tryz.underlying200 rfl aPm ?_)|((with_reducible apply And.intro);(exact trivial);gi_at_call 126;refine(CallsIn.inRound l (callsIn_wide.2 (akd s hz _ 64 64 _ rfl hb64 _ hx hC))).mono ?_;rintro e w8 ⟨rfl,h8⟩)|(refine wo rfl 200 (.tmp 3) (.tmp 33) rfl St _ rfl rfl 200 _ (h8.keeps (λf=>f) hst') ahq (by simp[zy,hz]) (aff _) ?_))
    have hF8:Fr (λk=>k=St) W' (w8.setRow St ((compress (blk (fil (bs.drop q) bs.length) x.val) s).map W32).toArray):=Fr.setRow (S:=λk=>k=St) (Fr.of0 h8) (λ_=>rfl) _
    refine⟨(KeepsOthers.row hst' hF8).from _,Kc.fr hF8,?_,hF'.trans' hF8⟩
    rw[hsn.out]
    exact setRow_heap _ _ _ _ _ _ (h8.keeps (λf=>f) hst')
   case aR2 =>
    rintro D2 ys W' hD2 rfl ⟨hst',hF'⟩ hK2
    rw[ag7 _ _ m2 m2 (Nat.le_refl _)]at hst'
    have arz:(acy (fil (bs.drop q) bs.length) (acy bs H0 m) m2).length=8:=by rw[aaf,aaf];rfl
    have hsha:sha bs=bytesOf (acy (fil (bs.drop q) bs.length) (acy bs H0 m) m2):=by
     have hq':=HQ.out
     rw[aAd,←hq'.1,←hq'.2]
     have e1:bs.length % 64=bs.length-q:=by omega
     have e2:acy (bs.take q) H0 m=acy bs H0 m:=by
      have:=ag8 (bs.take q) (bs.drop q) H0 m (by simp;omega)
      rw[List.take_append_drop]at this
      exact this.symm
     rw[e1,e2,hm2,Nat.mul_div_cancel_left _ aPl]
    have HS:=Lib.hid hsha
    generalize acy (fil (bs.drop q) bs.length) (acy bs H0 m) m2=sF at *
    obtain⟨csR,hR3,hRz⟩:=hR0
    have hR':=hF'.keeps (k:=w.heap.size) (λh=>by omega) (hF7.keeps (λf=>f) (h6.keeps (λf=>f) ((hB.block w.heap.size hlt).trans (hF4.keeps (λf=>f) hR3))))
    have hsz:(sF.map W32).toArray.size=8:=by simp[arz]
    have hbz:((bytesOf sF).map B8).toArray.size=32:=by simp[bytesOf_length,arz]
    have hWs:=hB.size
    have hW6:=h6.size
    have hW7:=hF7.size
    have hDW:=(Array.getElem?_eq_some_iff.1 hK).1
    have HF:=Lib.hid ((((((hF0.trans' hF4).trans (Fr.uz hB) λi hi h=>by omega).trans' h6).trans' hF7).trans hF' λi hi h=>by omega))
    have HD:=Lib.hid (hF'.keeps (k:=D) (λh=>by subst h;rw[hst]at hK;cases hK) (hF7.keeps (λf=>f) (h6.keeps (λf=>f) hK)))
    have HD2:=Lib.hid hK2
    clear hK hK2
    clear hB hB3 hC3 hF0 hSt0 hR3 hb4 hn4 hst hBs hb6 aKx hb7 hn7 HCW
    gi_wp2_with (first|(refine aac rfl 200 (.tmp 3) rfl St rfl 200 _ (0,0) _ hst' Tryz.underlying200 rfl aPm ?_)|((with_reducible apply And.intro);(exact trivial);gi_at_call 128;refine(callsIn_wide.2 (avs sF arz _)).mono ?_;rintro e w9 ⟨rfl,h9⟩)|(refine wo rfl 24 (.tmp 2) (.tmp 35) rfl w.heap.size _ rfl rfl 24 csR (h9.keeps (λf=>f) hR') (by rw[Tryz.sz32,hbz]) (by rw[hRz,hbz]) (abd _) ?_))
    have g2:(w9.setRow w.heap.size ((bytesOf sF).map B8).toArray).heap[D2]? = some (.deferred (some [])):=by
     rw[setRow_other _ _ _ _ aPl]
     exact h9.keeps (λf=>f) HD2.out
    have g1:((w9.setRow w.heap.size ((bytesOf sF).map B8).toArray).putObj D2 (.deferred none)).heap[D]? = some (.deferred (some [])):=by
     rw[zi _ _ _ _ aPl,setRow_other _ _ _ _ aPl]
     exact h9.keeps (λf=>f) HD.out
    have g0:(((w9.setRow w.heap.size ((bytesOf sF).map B8).toArray).putObj D2 (.deferred none)).putObj D (.deferred none)).heap[w.heap.size]? = some (.cells ((bytesOf sF).map B8).toArray 24 (0,0)):=by
     rw[zi _ _ _ _ aPl,zi _ _ _ _ aPl]
     exact setRow_heap _ _ _ _ _ _ (h9.keeps (λf=>f) hR')
    refine⟨by simp,.inl ⟨_,_,rfl,run_takeDeferred g2,by simp,.inl ⟨_,_,rfl,run_takeDeferred g1,?_⟩⟩⟩
    refine⟨_,results_cell_row rfl _ _ w.heap.size _ _ _ _ rfl g0 Tryz.underlying24 rfl (by rw[Tryz.sz32,hbz]),?_⟩
    exact⟨by rw[HS.out],(((HF.out.trans' h9).setRow (λh=>by omega) _).putObj (λh=>by omega) _).putObj (λh=>by omega) _⟩
   case aQ6 =>
    rintro D c pre W _ _ h _
    exact h.elim
 case stop =>
  rintro D c pre W _ _ h _
  exact h.elim
end Go.Proofs.YtjlelckefiannaaGreatDoor
