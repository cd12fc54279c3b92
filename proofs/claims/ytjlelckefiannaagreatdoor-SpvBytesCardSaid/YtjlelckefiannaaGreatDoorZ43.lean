import Derived.Test.YtjlelckefiannaaGreatDoorZ14
import Derived.RangeFuncFrom
set_option maxRecDepth 100000
set_option maxHeartbeats 64000000
namespace Go.Proofs.YtjlelckefiannaaGreatDoor
set_option linter.unusedVariables false
set_option linter.unusedSimpArgs false
open Go.RowKit Go.Shelf
structure TG where
 bs:List UInt8
 a:Option Addr
 c:Nat
def TG.val(t:TG):Value := .slice t.a t.bs.length t.c
def TG.Ok(w:World)(t:TG):Prop:=Bs w t.a t.c t.bs
theorem TG.Ok.frx{w w':World}{t:TG}{S:Nat→Prop}(h:t.Ok w)(f:Fr S w w')(hs:t.bs ≠ []→∀k,ql t.a=some k→¬S k):t.Ok w':=Bs.frx h f hs
theorem Tryz.infoBytes:(Tryz.prog.info? 22).map (λi=>(i.zero,i.size,i.bytes))=some (some (.slice none 0 0),1,24):=by kernel_rfl
def aQl(ty:TypeId)(args:Array Value):Sem Value:=Builtin.append_ #[36,36] ty args
@[go_sem ↓ high] theorem app_Ts (ty:TypeId) (args:Array Value):Builtin.append_ #[36,36] ty args=aQl ty args:=rfl
structure abt (B:Nat) (w:World) (v:Value) (l:List TG):Prop where
 own:w.ownsRow 0 22 1 v l.length (l.map TG.val)
 blk:∀k,v.ownBlock=some k→B≤k
 ok:∀x∈l,x.Ok w
 new:∀x∈l,x.bs ≠ []→∀k,ql x.a=some k→B≤k∧v.ownBlock≠some k
theorem abt.nil(B:Nat)(w:World):abt B w (.slice none 0 0) []:=⟨World.ownsRow_nil _ _ _ _,λk h=>(by cases h),λx h=>(by cases h),λx h=>(by cases h)⟩
theorem abt.frS{B:Nat}{S:Nat→Prop}{w w':World}{v:Value}{l:List TG}(h:abt B w v l)(f:Fr S w w')(h1:∀k,v.ownBlock=some k→¬S k)(h2:∀x∈l,x.bs ≠ []→∀k,ql x.a=some k→¬S k):abt B w' v l :=
 ⟨aie h.own f h1,h.blk,λx hx=>(h.ok x hx).frx f (h2 x hx),h.new⟩
theorem abt.fr0{B:Nat}{w w':World}{v:Value}{l:List TG}(h:abt B w v l)(f:Fr F0 w w'):abt B w' v l:=h.frS f (λ_ _ e=>e) λ_ _ _ _ _ e=>e
theorem abt.lt{B:Nat}{w:World}{v:Value}{l:List TG}(h:abt B w v l):∀k,v.ownBlock=some k→k<w.heap.size:=λk hk=>(World.ownsRow.lt h.own k hk).2
theorem abt.is{B:Nat}{w:World}{v:Value}{l:List TG}(h:abt B w v l):∃a c,v = .slice a l.length c∧Sl w 1 a c l.length (l.map TG.val):=by
 obtain⟨a,c,rfl⟩:=yw h.own
 exact⟨a,c,rfl,(Sl.af4 h.own).2⟩
theorem abt.app{B:Nat}{w:World}{v:Value}{l:List TG}(h:abt B w v l)(x:TG)(hx:x.Ok w)(hn:x.bs ≠ []→∀k,ql x.a=some k→B≤k∧v.ownBlock≠some k)(hB:B≤w.heap.size)(hl:l.length≤100000)(ty:TypeId):
  ∃a c w',(aQl ty #[v,.slice (some ⟨w.heap.size,0,none⟩) 1 1]).run Tryz.prog (w.alloc (.cells #[x.val] 22)) = .ok (.slice a (l.length+1) c) w'∧abt B w' (.slice a (l.length+1) c) (l ++ [x]) ∧
   Fr (λk=>v.ownBlock=some k) w w'∧w.heap.size<w'.heap.size∧∀k,ql a=some k→v.ownBlock=some k∨w.heap.size≤k:=by
 obtain⟨i0,hi,hz,hs,hb⟩:=info_parts Tryz.infoBytes
 obtain⟨W,hW⟩:∃W,W=w.alloc (.cells #[x.val] 22):=⟨_,rfl⟩
 have hnew:=heap_alloc_new w (.cells #[x.val] 22)
 have fW:Fr F0 w W:=by rw[hW];exact(Fr.refl F0 w).alloc _
 have sW:W.heap.size=w.heap.size+1:=by rw[hW];simp
 rw[←hW]at hnew ⊢
 have hsl:Sl W 1 (some ⟨w.heap.size,0,none⟩) 1 1 [x.val]:=⟨rfl,Nat.le_refl _,by unfold maxLen;omega,(λe=>by cases e),λj u hj=>⟨_,_,rfl,by rw[jq,hnew,mg,Nat.zero_add];simpa using hj⟩⟩
 obtain⟨v',w',hrun,hown,hg,hnw⟩:=aek (P:=Tryz.prog) (w:=W) 36 ty 22 i0 _ 1 24 Tryz.underlying36 hi hz hs hb rfl aPl v l.length _ (aie h.own fW λ_ _ f=>f) (some ⟨w.heap.size,0,none⟩) 1 1 [x.val] hsl
  (by intro u hu;rw[List.mem_singleton]at hu;subst hu;rfl) aPn aPl
 obtain⟨a,c,rfl⟩:=yw hown
 have F:Fr (λk=>v.ownBlock=some k) w w':=(fW.of0).grown hg λk hk hl=>hk
 have alu:∀k,ql a=some k→v.ownBlock=some k∨w.heap.size≤k:=λk hk=>by
  rcases hnw k ak9 with e|e
  ·exact .inl e
  ·exact .inr aPl
 refine⟨a,c,w',hrun,⟨?_,λk hk=>?_,λy hy=>?_,λy hy hne k hk=>?_⟩,F,by have:=hg.size;omega,alu⟩
 ·rw[List.length_append,List.map_append]
  simpa using hown
 ·rw[qm]at hk
  rcases alu k hk with e|e
  ·exact h.blk k e
  ·omega
 ·rw[List.mem_append,List.mem_singleton]at hy
  rcases hy with hy|rfl
  ·exact(h.ok y hy).frx F λhne k hk e=>(h.new y hy hne k hk).2 e
  ·exact hx.frx F λhne k hk e=>(hn hne k hk).2 e
 ·rw[List.mem_append,List.mem_singleton]at hy
  have hlow:k<w.heap.size:=by
   rcases hy with hy|rfl
   ·exact Bs.low (h.ok y hy) hne k hk
   ·exact Bs.low hx hne k hk
  have hold:B≤k∧v.ownBlock≠some k:=by
   rcases hy with hy|rfl
   ·exact h.new y hy hne k hk
   ·exact hn hne k hk
  refine⟨hold.1,λe=>?_⟩
  rw[qm]at e
  rcases alu k e with e'|e'
  ·exact hold.2 e'
  ·omega
theorem aoa{A D:World}{row:Option Nat}(hg:A.grownBy D row):Fr (λk=>row=some k) A D:=(Fr.refl _ A).grown hg λk hk _=>hk
theorem avy{A:World}{B:Nat}{row:Option Nat}{k:Nat}{cs:Array Value}{t:TypeId}{fr:Nat×Nat}(hr:∀r,row=some r→B≤r∧∃o:Obj,A.heap[r]? = some o∧o.isCells=false)(h:A.heap[k]? = some (.cells cs t fr)):¬row=some k:=λe=>by
 obtain⟨_,o,ho,hc⟩:=hr k e
 rw[h]at ho
 cases ho
 cases hc
theorem aAh{A:World}{B:Nat}{row:Option Nat}{e0 size n:Nat}{v:Value}{xs:List Value}(hr:∀r,row=some r→B≤r∧∃o:Obj,A.heap[r]? = some o∧o.isCells=false)(h:A.ownsRow 0 e0 size v n xs):∀k,v.ownBlock=some k→¬row=some k:=λk hk=>by
 rcases h.2 with⟨rfl,_⟩|⟨g,cap,cur,rfl,_,hg,_⟩
 ·cases hk
 ·cases hk
  exact avy hr hg
theorem aJ7{A:World}{B:Nat}{row:Option Nat}{a:Option Addr}{c:Nat}{bs:List UInt8}(hr:∀r,row=some r→B≤r∧∃o:Obj,A.heap[r]? = some o∧o.isCells=false)(h:Bs A a c bs):bs ≠ []→∀k,ql a=some k→¬row=some k:=λhne k hk e=>by
 obtain⟨b,off,rfl,hc⟩:=h.at 0 (List.length_pos_iff.2 hne)
 cases hk
 rw[jq]at hc
 obtain⟨_,o,ho,hn⟩:=hr _ e
 rw[ho]at hc
 cases o<;>first|(exfalso;simp[Obj.cellAt]at hc;done)|(exfalso;simp[Obj.isCells]at hn;done)
theorem aJw{B B':Nat}{A D:World}{row:Option Nat}{v:Value}{l:List TG}(hs:abt B' A v l)(hg:A.grownBy D row)(hr:∀r,row=some r→B≤r∧∃o:Obj,A.heap[r]? = some o∧o.isCells=false):abt B' D v l :=
 hs.frS (aoa hg) (aAh hr hs.own) λx hx=>aJ7 hr (hs.ok x hx)
theorem azp{B:Nat}{A D:World}{row:Option Nat}{a:Option Addr}{c:Nat}{bs:List UInt8}(hs:Bs A a c bs)(hg:A.grownBy D row)(hr:∀r,row=some r→B≤r∧∃o:Obj,A.heap[r]? = some o∧o.isCells=false):Bs D a c bs:=hs.frx (aoa hg) (aJ7 hr hs)
theorem al1{B:Nat}{A D:World}{row:Option Nat}{k:Nat}{cs:Array Value}{t:TypeId}{fr:Nat×Nat}(hs:A.heap[k]? = some (.cells cs t fr))(hg:A.grownBy D row)(hr:∀r,row=some r→B≤r∧∃o:Obj,A.heap[r]? = some o∧o.isCells=false):D.heap[k]? = some (.cells cs t fr):=(aoa hg).keeps (avy hr hs) hs
end Go.Proofs.YtjlelckefiannaaGreatDoor
namespace Go.Proofs.YtjlelckefiannaaGreatDoor
set_option linter.unusedVariables false
set_option linter.unusedSimpArgs false
open Go.RowKit Go.Shelf
attribute [local go_sem] Oper.semAt_some
theorem aNn{P:World→Prop}{w:World}{z cs:Array Value}{t:TypeId}(k:∀W,adh w W w.heap.size cs t→P W):P ((w.alloc (.cells z t)).setRow w.heap.size cs):=k _ (aa9 w z cs t)
def Ch.tg(h:Ch):TG:=⟨(lkP h.x.m.lk).2.2,h.a,h.c⟩
def afz(l:List TO):List (List UInt8):=(aje aOm l).map λx=>(lkP x.m.lk).2.2
theorem aNe{p:Int×List UInt8×List UInt8→Bool}{l:List TO}{k:Nat}{xs:List Ch}(h:xs.map Ch.x=aje p (l.take k)):xs.length≤l.length:=by
 have h1:=congrArg List.length h
 rw[List.length_map]at h1
 rw[h1,aje]
 have:=List.length_filter_le (λt:TO=>p (lkP t.m.lk)) (l.take k)
 simp only[List.length_take]at this
 omega
theorem abt.mono{B B':Nat}{w:World}{v:Value}{l:List TG}(h:abt B w v l)(hb:B'≤B):abt B' w v l:=⟨h.own,λk hk=>Nat.le_trans hb (h.blk k hk),h.ok,λx hx hn k hk=>⟨Nat.le_trans hb (h.new x hx hn k hk).1,(h.new x hx hn k hk).2⟩⟩
def aK5(B g3:Nat)(pre:List TG)(W:World):Prop:=∃v,W.heap[g3]? = some (.cells #[v] 36 (0,0))∧abt B W v pre
theorem aK5.own{B B' g3:Nat}{pre:List TG}{A D:World}{row:Option Nat}(h:aK5 B g3 pre A)(hg:A.grownBy D row)(hr:∀r,row=some r→B'≤r∧∃o:Obj,A.heap[r]? = some o∧o.isCells=false):aK5 B g3 pre D:=by
 obtain⟨v,h1,h2⟩:=h
 exact⟨v,al1 h1 hg hr,aJw h2 hg hr⟩
theorem aBr(t:TT)(w:World)(ht:t.Ok w)(hs:∀x∈t.outs,x.m.lk.length≤1000)(h70:t.outs.length≤70):
  Calls Tryz.prog 31 #[.agg t.cells] w λe w'=>∃g3 l,e = .returned (.func (.func 75) #[] #[.pointer (some ⟨g3,0,none⟩)])∧aK5 w.heap.size g3 l w'∧l.map TG.bs=afz t.outs∧Fr F0 w w':=by
 have hmf:∀(fn:Fn) (first cap:Array Value) (w:World),(Instr.makeFunc fn first cap).run Tryz.prog w = .ok (.func fn first cap) w:=λ_ _ _ _=>rfl
 have HT:=Lib.hid ht
 have H70:=Lib.hid h70
 have HCh:=Lib.hid (λW=>aki t 74 #[] W)
 have HQ:=Lib.hid (λb2 b3=>akz t b2 b3 74 #[] 148 aOm (λ_=>True) hs (enters_of Tryz.func74 (by kernel_rfl) rfl) (λb a n c W _=>aw3 b a n c W) (λ_ _ _ _=>trivial))
 clear ht hs h70
 obtain⟨v0,a1,n1,c1,a2,n2,c2,v3,hc⟩:∃(v0:Int) (a1:Option Addr) (n1 c1:Nat) (a2:Option Addr) (n2 c2:Nat) (v3:Int),t.cells=#[.int .u32 v0,.slice a1 n1 c1,.slice a2 n2 c2,.int .u32 v3]:=⟨_,_,_,_,_,_,_,_,rfl⟩
 rw[hc]at HCh ⊢
 replace hc:=Lib.hid hc
 refine callsIn_wide (n:=6) |>.1 ?_
 refine callsIn_of_wp_marks Tryz.func31 rfl trivial ?_ rfl
 simp only[Tryz.ntmps31,List.size_toArray,List.length_cons,List.length_nil,Nat.reduceAdd,Nat.reduceSub,Array.replicate_succ,Array.replicate_zero,List.push_toArray,List.append_toArray,List.nil_append,List.cons_append]
 gi_upto_region 2 with fail
 refine aut λW1 N1=>?_
 have r3:=N1.new
 have r1:=N1.old (heap_alloc_new w (.cells #[.int .u32 v0,.slice a1 n1 c1,.slice a2 n2 c2,.int .u32 v3] 59))
 have f1:=((Fr.refl F0 w).alloc (.cells #[.int .u32 v0,.slice a1 n1 c1,.slice a2 n2 c2,.int .u32 v3] 59)).trans' N1.fr
 rw[World.size_alloc]at r3
 clear N1
 have hg:=Lib.hid (show w.heap.size≤w.heap.size+1 by omega)
 obtain⟨g3,hg3⟩:∃g,g=w.heap.size+1:=⟨_,rfl⟩
 obtain⟨g1,hg1⟩:∃g,g=w.heap.size:=⟨_,rfl⟩
 rw[←hg3]at r3 ⊢
 rw[←hg1]at r1 ⊢
 replace hg3:=Lib.hid hg3
 replace hg1:=Lib.hid hg1
 clear hg
 gi_wp2
 refine⟨trivial,?_⟩
 (with_reducible refine(callsIn_wide.2 (HCh.out _)).mono ?_);rintro e w2 ⟨b2,b3,rfl,r5,r6,f2,_,_⟩
 replace r3:=au f2 r3
 have F:=f1.trans' f2
 clear r1 f1 f2 HCh
 gi_wp2
 have hwz:=Lib.hid F.size
 have h3l:=Lib.hid (Array.getElem?_eq_some_iff.1 r3).1
 have h56:=Lib.hid (And.intro (Array.getElem?_eq_some_iff.1 r5).1 (Array.getElem?_eq_some_iff.1 r6).1)
 rw[←hc.out]at r5
 have hOI:OwnFrom w2.heap.size (fun(pre:List Ch) W'=>((W'.heap[b2]? = some (.cells t.cells 59 (0,0))∧W'.heap[b3]? = some (.cells #[.func (.func 74) #[] #[]] 148 (0,0)))∧aK5 w2.heap.size g3 (pre.map Ch.tg) W')∧Below w.heap.size w2 W') :=
  OwnFrom.and (OwnFrom.and (OwnFrom.and (og (β:=List Ch) w2.heap.size b2 (λ_=>t.cells) 59 (0,0)) (og (β:=List Ch) w2.heap.size b3 (λ_=>#[.func (.func 74) #[] #[]]) 148 (0,0))) (λs A D row h hgr hr=>aK5.own h hgr hr)) (own_below (β:=List Ch) w2.heap.size w.heap.size w2 (Nat.le_refl _) hwz.out)
 have hFr:=Lib.hid (show ∀W',Below w.heap.size w2 W'→Fr F0 w W' from λW' b=>F.trans (Fr.uz b) λi hi hk=>by omega)
 refine adi (gf:=131) (lb:=#[.pointer (some ⟨b2,0,none⟩),.pointer (some ⟨b3,0,none⟩)]) rfl (enters_of Tryz.func131 (by kernel_rfl) rfl) (HQ.out b2 b3) (λ_=>rfl) (λ_ _=>trivial) (λ_ _=>trivial)
  (fun(pre:List Ch) W'=>((W'.heap[b2]? = some (.cells t.cells 59 (0,0))∧W'.heap[b3]? = some (.cells #[.func (.func 74) #[] #[]] 148 (0,0)))∧aK5 w2.heap.size g3 (pre.map Ch.tg) W')∧Below w.heap.size w2 W')
  (λ_ _ _=>False)
  hOI (λcc=>yx _ _)
  (λpre W' h=>⟨⟨h.1.1.1,h.1.1.2,HT.out.outs.fr (hFr.out _ h.2)⟩,trivial⟩)
  ⟨⟨⟨r5,r6⟩,⟨_,r3,abt.nil _ _⟩⟩,Below.refl _ _⟩
  (λpre x a' W'=>∃g4 v,a' = { tmps:=#[.agg #[.int .u32 v0,.slice a1 n1 c1,.slice a2 n2 c2,.int .u32 v3],.pointer (some ⟨g1,0,none⟩),Value.nilFunc,.pointer (some ⟨g3,0,none⟩),.pointer (some ⟨g4,0,none⟩),.agg #[.int .u32 v0,.slice a1 n1 c1,.slice a2 n2 c2,.int .u32 v3],.func (.func 131) #[] #[.pointer (some ⟨b2,0,none⟩),.pointer (some ⟨b3,0,none⟩)],.agg x.lk,.int .u64 (x.x.m.py:Int),undef,undef,undef,undef,undef,undef],defers := [] }∧W'.heap[g4]? = some (.cells x.lk 121 (0,0))∧W'.heap[g3]? = some (.cells #[v] 36 (0,0))∧abt w2.heap.size W' v (pre.map Ch.tg)∧x.tg.Ok W'∧(x.tg.bs ≠ []→∀k,ql x.a=some k→w2.heap.size≤k∧v.ownBlock≠some k)∧pre.length≤70)
  (λpre x a' s A D row h hgr hr=>by
   obtain⟨g4,v,e,h4,h3,ho,hb,hn,hl⟩:=h
   exact⟨g4,v,e,al1 h4 hgr hr,al1 h3 hgr hr,aJw ho hgr hr,azp hb hgr hr,hn,hl⟩) ?assign ?body ?done ?stop
 case assign =>
  intro l2 pre x W0 W' K hi0 f0 hn hK
  have sz:x.lk.size=22:=(LkC.of (ahv _) _).size
  have on:jh x.lk:=ajs
  gi_wp2
  refine aNn (P:=K _) λW4 N4=>?_
  have hi4:=aap hOI hi0 (f0.trans' N4.fr)
  refine hK _ _ (N4.fr.aex _) trivial hi4 ?_
  obtain⟨v,q3,ho⟩:=hi4.1.2
  obtain⟨v',q3',ho'⟩:=hi0.1.2
  have ev:v'=v:=by
   have:=au (f0.trans' N4.fr) q3'
   rw[q3]at this
   simpa using this.symm
  subst ev
  obtain⟨k,hk,e,hp,hpre⟩:=hn.k
  exact⟨_,v',rfl,N4.new,q3,ho,Bs.fr7 hn.bs N4.fr,λhne k hk=>⟨Nat.le_trans hi0.2.size (hn.new k hk),λe=>by have:=ho'.lt k e;have:=hn.new k hk;omega⟩,Nat.le_trans (aNe hpre) H70.out⟩
 case body =>
  rintro l2 pre x a' W' hi ⟨g4,v,rfl,q4,q3,ho,hb,hn,hl⟩
  obtain⟨s0,c0,c21,x1⟩:=LkC.of (k:=(lkP x.x.m.lk).1) (ahv x.x.m.lk) (.slice x.a (lkP x.x.m.lk).2.2.length x.c)
  have hB:w2.heap.size≤W'.heap.size:=hi.2.size
  obtain⟨a5,c5,w5,happ,ho5,f5,hs5,hb5⟩:=ho.app x.tg hb hn hB (by simpa using Nat.le_trans hl aPl) 36
  rw[List.length_map]at happ ho5
  have ev:x.tg.val = .slice x.a (lkP x.x.m.lk).2.2.length x.c:=rfl
  rw[ev]at happ
  have el:x.lk=lkC (lkP x.x.m.lk).1 (lkP x.x.m.lk).2.1 (.slice x.a (lkP x.x.m.lk).2.2.length x.c):=rfl
  rw[←el]at s0 c21
  have hgn:v.ownBlock≠some g3:=λe=>by have:=ho.blk g3 e;have:=h3l.out;omega
  have q35:=f5.keeps (λe=>hgn e) q3
  have q45:True:=trivial
  generalize (lkP x.x.m.lk).2.2.length=ln at *
  generalize x.lk=LK at *
  have d21:=jd c21 aPl
  clear c0 x1 ev el
  gi_wp2
  have f6:Fr (λk=>k=g3) w5 (w5.setCell ⟨g3,0,none⟩ (.slice a5 (pre.length+1) c5)):=(Fr.refl (λk=>k=g3) w5).setCell (p:=⟨g3,0,none⟩) (λ_=>rfl) _
  have kp:KeepsFrom w2.heap.size W' w5:=⟨f5.size,λk o hk ho2 hc2=>f5.keeps (λe=>aAh (row:=some k) (B:=w2.heap.size) (λr e=>by cases e;exact⟨hk,o,ho2,hc2⟩) ho.own k e rfl) ho2⟩
  have p5:=f5.keeps (λe=>by have:=ho.blk b2 e;have:=h56.out.1;omega) hi.1.1.1
  have p6:=f5.keeps (λe=>by have:=ho.blk b3 e;have:=h56.out.2;omega) hi.1.1.2
  have n5:b2≠g3:=λe=>by rw[e,q3]at hi;have:=hi.1.1.1;simp at this
  have n6:b3≠g3:=λe=>by rw[e,q3]at hi;have:=hi.1.1.2;simp at this
  refine⟨kp.trans ((KeepsOthers.setCell w5 ⟨g3,0,none⟩ _).from _),trivial,⟨⟨f6.keeps n5 p5,f6.keeps n6 p6⟩,.slice a5 (pre.length+1) c5,?_,?_⟩,?_⟩
  ·rw[gq,q35];rfl
  ·rw[List.map_append]
   refine ho5.frS f6 (λk hk e=>?_) λy hy hne k hk e=>?_
   ·have:=ho5.blk k hk;have:=h3l.out;omega
   ·have:=(ho5.new y hy hne k hk).1;have:=h3l.out;omega
  ·exact(hi.2.trans (f5.below (Nat.le_trans hwz.out hi.2.size) λk hk e=>by have:=ho.blk k e;have:=hwz.out;omega)).trans (f6.below (by have:=hi.2.size;have:=f5.size;have:=hwz.out;omega) λk hk e=>by have:=hg3.out;omega)
 case done =>
  rintro D ys W' hD hy hi hK
  have h9:=hOI.putObj (.deferred none) hi hD hK rfl
  gi_wp2
  refine⟨by simp,.inl ⟨_,_,rfl,run_takeDeferred hK,?_⟩⟩
  refine⟨_,results_tmp rfl _ _ _,g3,ys.map Ch.tg,rfl,?_,?_,hFr.out _ h9.2⟩
  ·obtain⟨v,q3,ho⟩:=h9.1.2
   exact⟨v,q3,ho.mono hwz.out⟩
  ·rw[afz,←hy,List.map_map,List.map_map]
   rfl
 case stop =>
  rintro D cc pre W' hD h hK
  exact h.elim
end Go.Proofs.YtjlelckefiannaaGreatDoor
namespace Go.Proofs.YtjlelckefiannaaGreatDoor
set_option linter.unusedVariables false
set_option linter.unusedSimpArgs false
open Go.RowKit Go.Shelf
attribute [local go_sem] Oper.semAt_some
structure aP0 (B g3:Nat) (v:Value) (l:List TG) (W:World):Prop where
 at_:W.heap[g3]? = some (.cells #[v] 36 (0,0))
 own:abt B W v l
theorem aP0.fr0{B g3:Nat}{v:Value}{l:List TG}{W W':World}(h:aP0 B g3 v l W)(f:Fr F0 W W'):aP0 B g3 v l W':=⟨au f h.at_,h.own.fr0 f⟩
structure aQq (l:List TG) (pre:List TG) (x:TG) (W0 W:World):Prop where
 k:∃k,∃(hk:k<l.length),x.bs=l[k].bs∧pre.map TG.bs=(l.take k).map TG.bs
 ok:x.Ok W
 new:∀k,ql x.a=some k→W0.heap.size≤k
theorem aBq(B g3:Nat)(v:Value)(l:List TG)(hl:∀x∈l,x.bs.length≤1000):
  aOy Tryz.prog 75 #[.pointer (some ⟨g3,0,none⟩)] (λx:TG=>#[x.val]) (λ_ _ _=>True) (λ_ W=>aP0 B g3 v l W) (aQq l) (λxs=>xs.map TG.bs=l.map TG.bs):=by
 intro lp J Jx W oJ oX hC hY h0
 refine(callsIn_wide (n:=6)).1 ?_
 refine callsIn_of_wp Tryz.func75 rfl trivial ?_ rfl
 simp only[Tryz.ntmps75,List.size_toArray,List.length_cons,List.length_nil,Nat.reduceAdd,Nat.reduceSub,Array.replicate_succ,Array.replicate_zero,List.push_toArray,List.append_toArray,List.nil_append,List.cons_append]
 have hv:=(hC _ _ h0)
 obtain⟨a,c,rfl,hsl⟩:=hv.own.is
 have r3:=hv.at_
 have hm:l.length≤9223372036854775807:=by have h1:=hsl.room;have h2:=hsl.most;unfold maxLen at h2;omega
 have hroom:=hsl.room
 have HH:=Lib.hid (And.intro oJ (And.intro oX (And.intro hC hY)))
 have HLn:=Lib.hid hl
 clear oJ oX hC hY hl hv hsl
 obtain⟨n,hn⟩:∃n,n=l.length:=⟨_,rfl⟩
 rw[←hn]at r3 hm HH hroom
 replace hn:=Lib.hid hn
 gi_wp2
 gi_loopw [7] (λi wr=>∃(k:Nat) (pre:List TG),k≤n∧i = .int .i64 (k:Int)∧Hid (pre.map TG.bs=(l.take k).map TG.bs)∧J pre wr) (λi _=>n-(intOf i).toNat)
 case atStart=>exact⟨0,[],Nat.zero_le _,rfl,rfl,h0⟩
 case round =>
  clear r3
  obtain⟨k,pre,hk,rfl,hpre,hJ⟩:=hrel
  by_cases hlt:k<n
  ·have hkl:k<l.length:=by have:=hn.out;omega
   have hS:=HH.out.2.2.1 _ _ hJ
   obtain⟨a',c',ea,hsl⟩:=hS.own.is
   simp only[Value.slice.injEq]at ea
   obtain⟨rfl,e2,rfl⟩:=ea
   clear e2
   obtain⟨bb,off,rfl,hcell⟩:=hsl.cell k (l[k]).val (by rw[List.getElem?_map,List.getElem?_eq_getElem hkl];rfl)
   rw[jq]at hcell
   have hok:=hS.own.ok _ (List.getElem_mem hkl)
   have HP:=Lib.hid (λW (f:Fr F0 wr W)=>ae2 l[k].a l[k].bs.length l[k].c l[k].bs W (Bs.fr7 hok f) rfl (by have:=HLn.out _ (List.getElem_mem hkl);omega))
   have l1:(k:Int)<(n:Int):=by omega
   clear hok hS hsl
   obtain⟨x,hx⟩:∃x,x=l[k]:=⟨_,rfl⟩
   rw[←hx]at hcell HP
   unfold TG.val at hcell
   unfold ou at HP
   obtain⟨ln,hln⟩:∃n,n=x.bs.length:=⟨_,rfl⟩
   rw[←hln]at hcell HP
   replace hln:=Lib.hid hln
   replace hx:=Lib.hid hx
   gi_wp2
   refine⟨trivial,?_⟩
   (with_reducible refine(callsIn_wide.2 (HP.out _ (Fr.refl F0 wr))).mono ?_);rintro e w2 ⟨a2,c2,rfl,hb2,f2,k2⟩
   have hnx:aQq l pre ⟨x.bs,a2,c2⟩ wr w2:=⟨⟨k,hkl,by rw[hx.out],hpre.out⟩,hb2,λk hk=>(k2 k hk).1⟩
   obtain⟨fn,tmps,assign,body,hy,hR⟩:=(HH.out.2.2.2 pre ⟨x.bs,a2,c2⟩ wr w2 hJ f2 hnx).plain (m:=5)
   have eA:(TG.mk x.bs a2 c2).val = .slice a2 ln c2:=by rw[TG.val,←hln.out]
   rw[eA]at hy
   have HT:=Lib.hid (show(pre ++ [(⟨x.bs,a2,c2⟩:TG)]).map TG.bs=(l.take (k+1)).map TG.bs by
    rw[List.map_append,hpre.out,List.take_succ_eq_append_getElem hkl,List.map_append,←hx.out];rfl)
   clear hnx eA hb2 HP hcell
   gi_wp2
   refine hR.mono ?_
   rintro e W5 (⟨rfl,hJ5,_⟩|⟨rfl,hJx,_⟩)
   ·gi_wp2
    go_roundw
    case rel=>exact⟨k+1,pre ++ [⟨x.bs,a2,c2⟩],by omega,by go_num,HT,hJ5⟩
    case measure=>simp[intOf];omega
   ·gi_wp2
    refine bodyPost_ret (results_none rfl _ _ _) rfl ?_
    exact⟨⟨_,rfl⟩,.inr ⟨_,hJx⟩⟩
  ·obtain rfl:k=n:=by omega
   have hpre':=hpre.out
   rw[hn.out,List.take_length]at hpre'
   gi_wp2
   go_end0
   exact⟨⟨_,rfl⟩,.inl ⟨_,hpre',hJ⟩⟩
end Go.Proofs.YtjlelckefiannaaGreatDoor
