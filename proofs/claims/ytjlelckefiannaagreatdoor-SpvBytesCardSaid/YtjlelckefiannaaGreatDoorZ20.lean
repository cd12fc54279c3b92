import Derived.Test.YtjlelckefiannaaGreatDoorZ15
import Derived.Test.YtjlelckefiannaaGreatDoorZ3
import Derived.Test.YtjlelckefiannaaGreatDoorZ9
import Derived.Test.YtjlelckefiannaaGreatDoorZ11
import Derived.Great.BuildSlice
import Derived.Great.FillDense
import Derived.Test.YtjlelckefiannaaGreatDoorZ2
import Derived.Test.YtjlelckefiannaaGreatDoorZ7
import Derived.OwnWalk
import Derived.Test.YtjlelckefiannaaGreatDoorZ1
import Derived.Deep.Cut
import Derived.Test.YtjlelckefiannaaGreatDoorZ19
import Derived.Test.YtjlelckefiannaaGreatDoorZ17
import Derived.WideKeyArr2
import Derived.Below
set_option maxRecDepth 100000
set_option maxHeartbeats 64000000
namespace Go.Proofs.YtjlelckefiannaaGreatDoor
set_option linter.unusedVariables false
set_option linter.unusedSimpArgs false
open Go.RowKit
def z32:List UInt8:=List.replicate 32 0
theorem yg:z32.length=32:=rfl
def hc(h:List UInt8):Array Value:=(h.map B8).toArray
theorem jl{h:List UInt8}(e:h.length=32):(hc h).size=32:=by simp[hc,e]
theorem qg(h:List UInt8):jh (hc h):=by
 unfold jh hc
 rw[Array.all_eq_true_iff_forall_mem]
 intro v hv
 simp only[List.mem_toArray,List.mem_map]at hv
 obtain⟨x,_,rfl⟩:=hv
 rfl
theorem asi(h:List UInt8):∀u∈h.map B8,u.oneCell'=true:=λu hu=>by
 rw[List.mem_map]at hu
 obtain⟨x,_,rfl⟩:=hu
 rfl
theorem Tryz.szHashJ:(Tryz.prog.info? 24).map (·.size)=some 32:=by kernel_rfl
theorem Tryz.szArrJ:(Tryz.prog.info? 23).map (·.size)=some 32:=by kernel_rfl
theorem Tryz.builtHJ:Tryz.prog.built 24 []=some (hc z32):=by kernel_rfl
theorem Tryz.builtAJ:Tryz.prog.built 23 []=some (hc z32):=by kernel_rfl
theorem Tryz.infoHashJ:(Tryz.prog.info? 24).map (λi=>(i.zero,i.size,i.bytes))=some (some (.agg (hc z32)),32,32):=by kernel_rfl
theorem Tryz.infoArrJ:(Tryz.prog.info? 23).map (λi=>(i.zero,i.size,i.bytes))=some (some (.agg (hc z32)),32,32):=by kernel_rfl
@[go_sem ↓ high] theorem aPe (p:Value):Instr.loadAt 24 p=iq 24 p:=rfl
@[go_sem ↓ high] theorem aN6 (p v:Value):Instr.storeAt 24 p v=ji 24 p v:=rfl
@[go_sem] theorem aEi (w:World) (g:Nat):(iq 24 (.pointer (some ⟨g,0,none⟩))).run Tryz.prog w=aa8 Tryz.prog 24 (.pointer (some ⟨g,0,none⟩)) w 32 w.heap[g]? :=
 qc w _ g 32 _ Tryz.underlying24 rfl Tryz.szHashJ
@[go_sem] theorem aD1 (w:World) (g:Nat) (cells:Array Value):(ji 24 (.pointer (some ⟨g,0,none⟩)) (.agg cells)).run Tryz.prog w=aeg Tryz.prog 24 (.pointer (some ⟨g,0,none⟩)) cells g w 32 w.heap[g]? :=
 oq w _ g 32 cells Tryz.szHashJ
def ao5(t:TypeId)(parts:Array (Nat×Value)):Sem Value:=Instr.build t parts
@[go_sem ↓ high] theorem aOf (p:Array (Nat×Value)):Instr.build 24 p=ao5 24 p:=rfl
@[go_sem ↓ high] theorem aPj (p:Array (Nat×Value)):Instr.build 23 p=ao5 23 p:=rfl
@[go_sem] theorem aN8 (w:World):(ao5 24 #[]).run Tryz.prog w = .ok (.agg (hc z32)) w:=run_build w _ #[] _ Tryz.builtHJ
@[go_sem] theorem as5 (w:World):(ao5 23 #[]).run Tryz.prog w = .ok (.agg (hc z32)) w:=run_build w _ #[] _ Tryz.builtAJ
theorem uf(w:World)(l m:List UInt8)(hl:l.length=32)(hm:m.length=32):(Op.equalIn 10000 24 (.agg (hc l)) (.agg (hc m))).run Tryz.prog w = .ok (decide (l=m)) w:=by
 obtain⟨i0,hi,_⟩:=info_parts Tryz.infoU8
 rw[hc,hc,run_equalIn_array w 9999 _ _ Tryz.underlying24 hi,show Tryz.prog.cellsOf 5=1 by kernel_rfl,abn w 5 9998 (by kernel_rfl) Tryz.underlying5 l m 32 hl hm _ (λj hj=>List.mem_range.1 hj)]
 congr 1
 rw[Bool.eq_iff_iff]
 simp only[List.all_eq_true,List.mem_range,decide_eq_true_eq]
 constructor
 ·intro h
  apply List.ext_getElem aPl
  intro j h1 h2
  have:=h j aPl
  simpa [List.getD,List.getElem?_eq_getElem h1,List.getElem?_eq_getElem h2]using this
 ·rintro rfl j _
  rfl
structure Hs (w:World) (a:Option Addr) (c:Nat) (l:List (List UInt8)):Prop where
 sl:Sl w 32 a c l.length (l.flatMap λh=>h.map B8)
 ok:afx l
theorem Hs.fr{w w':World}{a:Option Addr}{c:Nat}{l:List (List UInt8)}(h:Hs w a c l)(f:Fr F0 w w'):Hs w' a c l:=⟨Sl.fr h.sl f λ_ _ f=>f,h.ok⟩
theorem Hs.frx{S:Nat→Prop}{w w':World}{a:Option Addr}{c:Nat}{l:List (List UInt8)}(h:Hs w a c l)(f:Fr S w w')(hs:∀k,ql a=some k→¬S k):Hs w' a c l:=⟨Sl.fr h.sl f hs,h.ok⟩
theorem Hs.room{w:World}{a:Option Addr}{c:Nat}{l:List (List UInt8)}(h:Hs w a c l):l.length≤c∧l.length≤9223372036854775807:=⟨h.sl.room,by have h1:=h.sl.room;have h2:=h.sl.most;unfold maxLen at h2;omega⟩
theorem Hs.nothing(w:World):Hs w none 0 []:=⟨Sl.nothing w 32,λ_ h=>by cases h⟩
theorem acp:∀(l:List (List UInt8)),afx l→(l.flatMap λh=>h.map B8).length=l.length*32
 |[],_=>rfl
 |x::l,h=>by
  rw[List.flatMap_cons,List.length_append,acp l (λy hy=>h y (by simp[hy])),List.length_map,h x (by simp),List.length_cons]
  omega
theorem ane:∀(l:List (List UInt8)),afx l→∀k,k<l.length→∀j,j<32→(l.flatMap λh=>h.map B8)[k*32+j]? = ((l.getD k []).map B8)[j]?
 |[],_,k,h,j,_=>absurd h (by simp)
 |x::l,hl,0,_,j,hj=>by
  rw[List.flatMap_cons,Nat.zero_mul,Nat.zero_add,List.getElem?_append_left (by rw[List.length_map,hl x (by simp)];exact hj)]
  rfl
 |x::l,hl,k+1,h,j,hj=>by
  have e:(x.map B8).length=32:=by rw[List.length_map,hl x (by simp)]
  rw[List.flatMap_cons,List.getElem?_append_right (by rw[e];omega),e,show(k+1)*32+j-32=k*32+j by omega,ane l (λy hy=>hl y (by simp[hy])) k (by simpa using h) j hj]
  rfl
theorem Hs.get{w:World}{a:Option Addr}{c:Nat}{l:List (List UInt8)}(h:Hs w a c l)(k:Nat)(hk:k<l.length):
  ∃b off,a=some ⟨b,off,none⟩∧∀j u,((l.getD k []).map B8)[j]? = some u→w.cell? ⟨b,off+k*32+j,none⟩=some u:=by
 have h0:=h.ok.get hk
 obtain⟨b,off,e,_⟩:=h.sl.cell (k*32+0) _ ((ane l h.ok k hk 0 aPl).trans (List.getElem?_eq_getElem (by rw[List.length_map,h0];omega)))
 refine⟨b,off,e,λj u hj=>?_⟩
 have hj':j<32:=by have:=(List.getElem?_eq_some_iff.1 hj).1;rw[List.length_map,h0]at this;exact this
 obtain⟨b',off',e',hc⟩:=h.sl.cell (k*32+j) u ((ane l h.ok k hk j hj').trans hj)
 rw[e]at e'
 cases e'
 rw[Nat.add_assoc]
 exact hc
theorem abf{w:World}{b o:Nat}{h:List UInt8}(hl:h.length=32)(hc':∀j u,(h.map B8)[j]? = some u→w.cell? ⟨b,o+j,none⟩=some u):(iq 24 (.pointer (some ⟨b,o,none⟩))).run Tryz.prog w = .ok (.agg (hc h)) w :=
 run_loadAt_mid (P:=Tryz.prog) w b o 24 (h.map B8) _ hc' Tryz.underlying24 rfl (by rw[Tryz.szHashJ,List.length_map,hl])
theorem apv{w:World}{b o:Nat}{h:List UInt8}(hl:h.length=32)(hc':∀j u,(h.map B8)[j]? = some u→w.cell? ⟨b,o+j,none⟩=some u):(iq 23 (.pointer (some ⟨b,o,none⟩))).run Tryz.prog w = .ok (.agg (hc h)) w :=
 run_loadAt_mid (P:=Tryz.prog) w b o 23 (h.map B8) _ hc' Tryz.underlying23 rfl (by rw[Tryz.szArrJ,List.length_map,hl])
theorem Hs.load{w:World}{a:Option Addr}{c:Nat}{l:List (List UInt8)}(h:Hs w a c l)(k:Nat)(hk:k<l.length):
  ∃b off,a=some ⟨b,off,none⟩∧(∀W,Fr F0 w W→(iq 24 (.pointer (some ⟨b,off+k*32,none⟩))).run Tryz.prog W = .ok (.agg (hc (l.getD k []))) W) ∧
   (∀W,Fr F0 w W→(iq 23 (.pointer (some ⟨b,off+k*32,none⟩))).run Tryz.prog W = .ok (.agg (hc (l.getD k []))) W):=by
 obtain⟨b,off,e,_⟩:=h.get k hk
 refine⟨b,off,e,λW f=>?_,λW f=>?_⟩
 ·obtain⟨b',off',e',hc'⟩:=(h.fr f).get k hk
  rw[e]at e'
  cases e'
  exact abf (h.ok.get hk) hc'
 ·obtain⟨b',off',e',hc'⟩:=(h.fr f).get k hk
  rw[e]at e'
  cases e'
  exact apv (h.ok.get hk) hc'
structure abh (et:TypeId) (B:Nat) (w:World) (v:Value) (l:List (List UInt8)):Prop where
 own:w.ownsRow 0 et 32 v l.length (l.flatMap λh=>h.map B8)
 blk:∀k,v.ownBlock=some k→B≤k
 ok:afx l
theorem abh.nil(et:TypeId)(B:Nat)(w:World):abh et B w (.slice none 0 0) []:=⟨World.ownsRow_nil _ _ _ _,λk h=>(by cases h),λx h=>(by cases h)⟩
theorem aAs{S:Nat→Prop}{w w':World}{base e size n:Nat}{v:Value}{xs:List Value}(h:w.ownsRow base e size v n xs)(hf:Fr S w w')(hs:∀k,v.ownBlock=some k→¬S k):w'.ownsRow base e size v n xs:=by
 refine⟨h.1,?_⟩
 rcases h.2 with hn|⟨g,cap,cur,rfl,hb,hg,r⟩
 ·exact .inl hn
 ·exact .inr ⟨g,cap,cur,rfl,hb,hf.keeps (hs g rfl) hg,r⟩
theorem abh.frS{et B:Nat}{S:Nat→Prop}{w w':World}{v:Value}{l:List (List UInt8)}(h:abh et B w v l)(f:Fr S w w')(h1:∀k,v.ownBlock=some k→¬S k):abh et B w' v l:=⟨aAs h.own f h1,h.blk,h.ok⟩
theorem abh.fr0{et B:Nat}{w w':World}{v:Value}{l:List (List UInt8)}(h:abh et B w v l)(f:Fr F0 w w'):abh et B w' v l:=h.frS f λ_ _ e=>e
theorem abh.lt{et B:Nat}{w:World}{v:Value}{l:List (List UInt8)}(h:abh et B w v l):∀k,v.ownBlock=some k→k<w.heap.size:=λk hk=>(World.ownsRow.lt h.own k hk).2
theorem abh.mono{et B B':Nat}{w:World}{v:Value}{l:List (List UInt8)}(h:abh et B w v l)(hb:B'≤B):abh et B' w v l:=⟨h.own,λk hk=>Nat.le_trans hb (h.blk k hk),h.ok⟩
theorem abh.is{et B:Nat}{w:World}{v:Value}{l:List (List UInt8)}(h:abh et B w v l):∃a c,v = .slice a l.length c∧Hs w a c l:=by
 obtain⟨a,c,rfl⟩:=yw h.own
 exact⟨a,c,rfl,(Sl.af4 h.own).2,h.ok⟩
theorem agd{P:Program}(w:World)(t e:TypeId)(X:Array Value)(n:Nat)(ie:TypeInfo)(z:Value)(hu:P.underlying t=some (.slice e))(hie:P.info? e=some ie)(hz:ie.zero=some z)(hs:ie.size=n)(h0:0<n)(h1:n≤1000)(hX:X.size=n):
  (Instr.buildSlice t 1 #[(0,.agg X)]).run P w = .ok (.slice (some ⟨w.heap.size,0,none⟩) 1 1) (w.alloc (.cells X e)):=by
 subst hs
 refine run_buildSlice w t e 1 _ X ie z hu hie hz (by rw[Nat.one_mul];have:2 ^ 24=16777216:=rfl;omega) aPl ?_
 have:=Great.fill_whole h0 [.agg X] ((Array.range (1*ie.size)).map (z.cells[· % z.cells.size]!)) (λv hv=>by rw[List.mem_singleton]at hv;subst hv;exact hX) (by simp)
 simpa [Value.cells]using this
def auo(t:TypeId)(parts:Array (Nat×Value)):Sem Value:=Instr.buildSlice t 1 parts
@[go_sem ↓ high] theorem build_L1 (p:Array (Nat×Value)):Instr.buildSlice 26 1 p=auo 26 p:=rfl
@[go_sem ↓ high] theorem build_L2 (p:Array (Nat×Value)):Instr.buildSlice 32 1 p=auo 32 p:=rfl
theorem aa3(w:World)(X:Array Value)(h:X.size=32):(auo 26 #[(0,.agg X)]).run Tryz.prog w = .ok (.slice (some ⟨w.heap.size,0,none⟩) 1 1) (w.alloc (.cells X 24)):=by
 obtain⟨i0,hi,hz,hs,_⟩:=info_parts Tryz.infoHashJ
 exact agd w 26 24 X 32 i0 _ Tryz.underlying26 hi hz hs aPl aPl h
theorem agj(w:World)(X:Array Value)(h:X.size=32):(auo 32 #[(0,.agg X)]).run Tryz.prog w = .ok (.slice (some ⟨w.heap.size,0,none⟩) 1 1) (w.alloc (.cells X 23)):=by
 obtain⟨i0,hi,hz,hs,_⟩:=info_parts Tryz.infoArrJ
 exact agd w 32 23 X 32 i0 _ Tryz.underlying32 hi hz hs aPl aPl h
def aK4(t ty:TypeId)(args:Array Value):Sem Value:=Builtin.append_ #[t,t] ty args
@[go_sem ↓ high] theorem app_L1 (ty:TypeId) (args:Array Value):Builtin.append_ #[26,26] ty args=aK4 26 ty args:=rfl
@[go_sem ↓ high] theorem app_L2 (ty:TypeId) (args:Array Value):Builtin.append_ #[32,32] ty args=aK4 32 ty args:=rfl
theorem abh.app'{st et B:Nat}(hu:Tryz.prog.underlying st=some (.slice et)){z:Value}(hi3:(Tryz.prog.info? et).map (λi=>(i.zero,i.size,i.bytes))=some (some z,32,32))(hzc:z.cells.size=32)
  {w:World} {v:Value} {l:List (List UInt8)} (h:abh et B w v l) (x:List UInt8) (hx:x.length=32) (hB:B≤w.heap.size) (hl:l.length≤100000) (ty:TypeId) :
  ∃a c w',(aK4 st ty #[v,.slice (some ⟨w.heap.size,0,none⟩) 1 1]).run Tryz.prog (w.alloc (.cells (hc x) et)) = .ok (.slice a (l.length+1) c) w'∧abh et B w' (.slice a (l.length+1) c) (l ++ [x]) ∧
   Fr (λk=>v.ownBlock=some k) w w'∧w.heap.size<w'.heap.size∧∀k,ql a=some k→v.ownBlock=some k∨w.heap.size≤k:=by
 obtain⟨i0,hi,hz,hs,hb⟩:=info_parts hi3
 obtain⟨W,hW⟩:∃W,W=w.alloc (.cells (hc x) et):=⟨_,rfl⟩
 have hnew:=heap_alloc_new w (.cells (hc x) et)
 have fW:Fr F0 w W:=by rw[hW];exact(Fr.refl F0 w).alloc _
 have sW:W.heap.size=w.heap.size+1:=by rw[hW];simp
 rw[←hW]at hnew ⊢
 have hsl:Sl W 32 (some ⟨w.heap.size,0,none⟩) 1 1 (x.map B8):=⟨by rw[List.length_map,hx],Nat.le_refl _,by unfold maxLen;omega,(λe=>by cases e),λj u hj=>⟨_,_,rfl,by rw[jq,hnew,mg,Nat.zero_add,hc];simpa using hj⟩⟩
 obtain⟨v',w',hrun,hown,hg,hnw⟩:=aek (P:=Tryz.prog) (w:=W) st ty et i0 _ 32 32 hu hi hz hs hb hzc aPl v l.length _ (aAs h.own fW λ_ _ f=>f) (some ⟨w.heap.size,0,none⟩) 1 1 (x.map B8) hsl
  (asi x) aPn aPl
 obtain⟨a,c,rfl⟩:=yw hown
 have F:Fr (λk=>v.ownBlock=some k) w w':=(fW.of0).grown hg λk hk hl=>hk
 have alu:∀k,ql a=some k→v.ownBlock=some k∨w.heap.size≤k:=λk hk=>by
  rcases hnw k ak9 with e|e
  ·exact .inl e
  ·exact .inr aPl
 refine⟨a,c,w',hrun,⟨?_,λk hk=>?_,λy hy=>?_⟩,F,by have:=hg.size;omega,alu⟩
 ·rw[List.length_append,List.flatMap_append]
  simpa using hown
 ·rw[qm]at hk
  rcases alu k hk with e|e
  ·exact h.blk k e
  ·omega
 ·rw[List.mem_append,List.mem_singleton]at hy
  rcases hy with hy|rfl
  ·exact h.ok y hy
  ·exact hx
theorem abh.appH{B:Nat}{w:World}{v:Value}{l:List (List UInt8)}(h:abh 24 B w v l)(x:List UInt8)(hx:x.length=32)(hB:B≤w.heap.size)(hl:l.length≤100000)(ty:TypeId):
  ∃a c w',(aK4 26 ty #[v,.slice (some ⟨w.heap.size,0,none⟩) 1 1]).run Tryz.prog (w.alloc (.cells (hc x) 24)) = .ok (.slice a (l.length+1) c) w'∧abh 24 B w' (.slice a (l.length+1) c) (l ++ [x]) ∧
   Fr (λk=>v.ownBlock=some k) w w'∧w.heap.size<w'.heap.size∧∀k,ql a=some k→v.ownBlock=some k∨w.heap.size≤k :=
 h.app' Tryz.underlying26 Tryz.infoHashJ rfl x hx hB hl ty
theorem abh.appA{B:Nat}{w:World}{v:Value}{l:List (List UInt8)}(h:abh 23 B w v l)(x:List UInt8)(hx:x.length=32)(hB:B≤w.heap.size)(hl:l.length≤100000)(ty:TypeId):
  ∃a c w',(aK4 32 ty #[v,.slice (some ⟨w.heap.size,0,none⟩) 1 1]).run Tryz.prog (w.alloc (.cells (hc x) 23)) = .ok (.slice a (l.length+1) c) w'∧abh 23 B w' (.slice a (l.length+1) c) (l ++ [x]) ∧
   Fr (λk=>v.ownBlock=some k) w w'∧w.heap.size<w'.heap.size∧∀k,ql a=some k→v.ownBlock=some k∨w.heap.size≤k :=
 h.app' Tryz.underlying32 Tryz.infoArrJ rfl x hx hB hl ty
def ani(t:TypeId)(parts:Array (Nat×Value)):Sem Value:=Instr.buildSlice t 0 parts
@[go_sem ↓ high] theorem aSy (p:Array (Nat×Value)):Instr.buildSlice 26 0 p=ani 26 p:=rfl
@[go_sem ↓ high] theorem aSx (p:Array (Nat×Value)):Instr.buildSlice 32 0 p=ani 32 p:=rfl
theorem amb{P:Program}(w:World)(t e:TypeId)(ie:TypeInfo)(z:Value)(hu:P.underlying t=some (.slice e))(hie:P.info? e=some ie)(hz:ie.zero=some z):
  (Instr.buildSlice t 0 #[]).run P w = .ok (.slice (some ⟨w.heap.size,0,none⟩) 0 0) (w.alloc (.cells #[] e)):=by
 simp[Instr.buildSlice,run_underlying hu,sizeOf,typeInfo,zeroValue,hie,hz,newRow,Instr.fill,Array.range_zero']
theorem aq1(w:World):(ani 26 #[]).run Tryz.prog w = .ok (.slice (some ⟨w.heap.size,0,none⟩) 0 0) (w.alloc (.cells #[] 24)):=by
 obtain⟨i0,hi,hz,hs,_⟩:=info_parts Tryz.infoHashJ
 exact amb w 26 24 i0 _ Tryz.underlying26 hi hz
theorem aq2(w:World):(ani 32 #[]).run Tryz.prog w = .ok (.slice (some ⟨w.heap.size,0,none⟩) 0 0) (w.alloc (.cells #[] 23)):=by
 obtain⟨i0,hi,hz,hs,_⟩:=info_parts Tryz.infoArrJ
 exact amb w 32 23 i0 _ Tryz.underlying32 hi hz
attribute [go_sem] aq1
attribute [go_sem] aq2
theorem amc(w:World)(n:Nat)(hn:n≤1000000):∃C,(Instr.makeSlice 26 (.int .i64 0) (.int .i64 (n:Int))).run Tryz.prog w = .ok (.slice (some ⟨w.heap.size,0,none⟩) 0 n) (w.alloc (.cells C 24)) ∧
  abh 24 w.heap.size (w.alloc (.cells C 24)) (.slice (some ⟨w.heap.size,0,none⟩) 0 n) []:=by
 obtain⟨i0,hi,hz,hs,hb⟩:=info_parts Tryz.infoHashJ
 have:=run_make (P:=Tryz.prog) w 26 24 i0 _ Tryz.underlying26 hi hz .i64 .i64 0 (n:Int) aPl aPl (by rw[hb];omega) aPl
 simp only[Int.toNat_zero,Int.toNat_natCast]at this
 exact⟨_,this,World.ownsRow_made w _ n (Nat.zero_le _) aPn (by rw[size_madeCells,hs]),λk hk=>by cases hk;exact Nat.le_refl _,λ_ h=>by cases h⟩
def Bk.cells(b:Bk):List Value:=b.hash.map B8 ++ [.int .i64 b.ahead,.int .u32 (b.time:Int),.int .u32 (b.bits:Int),b.bytes]
structure Bks (w:World) (a:Option Addr) (c:Nat) (L:List Bk):Prop where
 sl:Sl w 36 a c L.length (L.flatMap Bk.cells)
 ok:∀b∈L,b.Ok
theorem aFt(L:List Bk)(n:Nat):arx L n≤n:=by
 unfold arx
 have:=List.countP_le_length (p:=λi=>abg L i) (l:=List.range n)
 simpa using this
def I64(x:Nat):Value := .int .i64 (x:Int)
def Is(w:World)(a:Option Addr)(c:Nat)(l:List Nat):Prop:=Sl w 1 a c l.length (l.map I64)
theorem Pts.of2J{w:World}{g:Nat}{a b:Option Addr}{n m c d:Nat}{l k:List UInt8}{t:TypeId}{fr:Nat×Nat}(h:w.heap[g]? = some (.cells #[.slice a n c,.slice b m d] t fr))
  (h1:Bs w a c l) (h2:Bs w b d k) (hn:n=l.length) (hm:m=k.length):Pts w (some ⟨g,0,none⟩) [(a,c,l),(b,d,k)]:=by
 subst hn hm
 refine⟨λi hi=>⟨g,0,rfl,?_⟩,λi hi=>?_⟩
 ·rw[Nat.zero_add,jq,h]
  match i,hi with
  |0,_=>rfl
  |1,_=>rfl
 ·match i,hi with
  |0,_=>exact h1
  |1,_=>exact h2
theorem Bs.aJz{w:World}{g n:Nat}{t:TypeId}{fr:Nat×Nat}{L:List UInt8}(h:w.heap[g]? = some (.cells (hc L) t fr))(hn:n=L.length)(hm:n≤1000000):Bs w (some ⟨g,0,none⟩) n L:=by
 subst hn
 exact⟨by simp,Nat.le_refl _,by unfold maxLen;omega,(λe=>by cases e),λj u hj=>⟨g,0,rfl,by rw[Nat.zero_add,cell_of_row w g j _ t _ h,hc];simpa using hj⟩⟩
theorem aH1{P:World→Prop}{w:World}{z:Array Value}{t:TypeId}(k:∀W,adh w W w.heap.size z t→P W):P (w.alloc (.cells z t)).drew:=k _ ⟨heap_alloc_new _ _,λh=>bg h,((Fr.refl F0 w).alloc _).drew,λh=>by have:=(Array.getElem?_eq_some_iff.1 h).1;omega⟩
theorem agp(A B:List UInt8)(hA:A.length=32)(hB:B.length=32)(w:World)(zn:Cub w):
  Calls Tryz.prog 123 #[.agg (hc A),.agg (hc B)] w λe w'=>e = .returned (.agg (hc (hh A B)))∧Fr F0 w w':=by
 have sA:=jl hA
 have sB:=jl hB
 have HA:=Lib.hid hA
 have HB:=Lib.hid hB
 have HC:=Lib.hid zn
 obtain⟨X,hX⟩:∃X,X=hc A:=⟨_,rfl⟩
 obtain⟨Y,hY⟩:∃Y,Y=hc B:=⟨_,rfl⟩
 rw[←hX]at sA ⊢
 rw[←hY]at sB ⊢
 replace hX:=Lib.hid hX
 replace hY:=Lib.hid hY
 clear hA hB zn
 have sR:=jl (aez A B)
 have oR:=qg (hh A B)
 obtain⟨R,hR⟩:∃R,R=hc (hh A B):=⟨_,rfl⟩
 rw[←hR]at sR oR ⊢
 replace hR:=Lib.hid hR
 go_enter Tryz.func123,Tryz.ntmps123
 go_upto_region 1 with fail
 refine lu λW0 N0=>?_
 have r4:=N0.new
 have r2:=N0.old (bg (heap_alloc_new w (.cells X 24)))
 have r3:=N0.old (heap_alloc_new (w.alloc (.cells X 24)) (.cells Y 24))
 have F:=((Fr.refl F0 w).alloc (.cells X 24)).alloc (.cells Y 24) |>.trans' N0.fr
 have F':Fr F0 w W0:=F
 clear N0 F
 simp only[World.size_alloc]at r4 r3
 have g4l:=Lib.hid (show ¬w.heap.size+2<w.heap.size by omega)
 obtain⟨g2,hg2⟩:∃g,g=w.heap.size:=⟨_,rfl⟩
 obtain⟨g3,hg3⟩:∃g,g=w.heap.size+1:=⟨_,rfl⟩
 obtain⟨g4,hg4⟩:∃g,g=w.heap.size+2:=⟨_,rfl⟩
 try rw[show w.heap.size+1+1=w.heap.size+2 from rfl]at r4
 rw[←hg4]at r4 g4l
 rw[←hg3]at r3
 rw[←hg2]at r2
 try rw[←hg4]
 try rw[←hg3]
 try rw[←hg2]
 replace hg2:=Lib.hid hg2
 replace hg3:=Lib.hid hg3
 replace hg4:=Lib.hid hg4
 generalize hZ:#[Value.int IntKind.u8 0,Value.int IntKind.u8 0,Value.int IntKind.u8 0,Value.int IntKind.u8 0,Value.int IntKind.u8 0,Value.int IntKind.u8 0,Value.int IntKind.u8 0,Value.int IntKind.u8 0,Value.int IntKind.u8 0,Value.int IntKind.u8 0,Value.int IntKind.u8 0,Value.int IntKind.u8 0,Value.int IntKind.u8 0,Value.int IntKind.u8 0,Value.int IntKind.u8 0,Value.int IntKind.u8 0,Value.int IntKind.u8 0,Value.int IntKind.u8 0,Value.int IntKind.u8 0,Value.int IntKind.u8 0,Value.int IntKind.u8 0,Value.int IntKind.u8 0,Value.int IntKind.u8 0,Value.int IntKind.u8 0,Value.int IntKind.u8 0,Value.int IntKind.u8 0,Value.int IntKind.u8 0,Value.int IntKind.u8 0,Value.int IntKind.u8 0,Value.int IntKind.u8 0,Value.int IntKind.u8 0,Value.int IntKind.u8 0]=Z at *
 have sZ:Z.size=32:=by rw[←hZ];rfl
 clear hZ
 have HCat:=Lib.hid (λg W (h2:W.heap[g2]? = some (.cells X 24 (0,0))) (h3:W.heap[g3]? = some (.cells Y 24 (0,0))) (hn:W.heap[g]? = some (.cells #[.slice (some ⟨g2,0,none⟩) 32 32,.slice (some ⟨g3,0,none⟩) 32 32] 22 (0,0))) =>
  show Calls Tryz.prog 94 #[.slice (some ⟨g,0,none⟩) 2 2] W λe w'=>∃a c,e = .returned (.slice a 64 c)∧Bs w' a c (A++B)∧Fr F0 W w' from by
   refine(acr [(some ⟨g2,0,none⟩,32,A),(some ⟨g3,0,none⟩,32,B)] (some ⟨g,0,none⟩) 2 2 rfl aPl W (Pts.of2J hn (Bs.aJz (by rw[←hX.out];exact h2) HA.out.symm aPl) (Bs.aJz (by rw[←hY.out];exact h3) HB.out.symm aPl) HA.out.symm HB.out.symm) (by simp[cat,HA.out,HB.out])).mono ?_
   rintro e w' ⟨a,c,rfl,hb,f,_⟩
   have e3:cat [((some ⟨g2,0,none⟩,32,A):Pt),(some ⟨g3,0,none⟩,32,B)]=A++B:=by simp[cat]
   rw[e3]at hb ⊢
   exact⟨a,c,by rw[List.length_append,HA.out,HB.out],hb,f⟩)
 have HDbl:=Lib.hid (λa c W (hb:Bs W a c (A++B)) (f:Fr F0 w W)=>adl a 64 c (A++B) (by rw[List.length_append,HA.out,HB.out]) (by rw[List.length_append,HA.out,HB.out];omega) W hb (HC.out.fr f λe=>e))
 change Hid (∀a c W,Bs W a c (A++B)→Fr F0 w W→Calls Tryz.prog 28 #[.slice a 64 c] W λe w'=>e = .returned (.agg (hc (hh A B)))∧Fr F0 W w')at HDbl
 rw[←hR.out]at HDbl
 refine jm (S:=(λw'=>Fr F0 w w')) ?_ λak=>?_
 ·exact(by((try dsimp only)<;>(exact F'.drew)))
 refine aj 0 ?_
 refine aj 1 ?_
 refine jf 2 λK hK=>?_
 go_simp
 (refine aH1 (P:=K _) λW3 N3=>?_;have q2:=N3.old r2;have q3:=N3.old r3;have q4:=N3.old r4;have q5:=N3.new)
 refine rpu hK zz14 λak=>?_
 clear hK K
 refine jf 3 λK hK=>?_
 go_simp
 ((with_reducible refine(HCat.out _ _ q2 q3 q5).mono ?_);rintro e w3 ⟨a3,c3,rfl,hb3,f5⟩;replace q4:=au f5 q4)
 refine rpu hK zz33 λak=>?_
 clear hK K
 refine jf 4 λK hK=>?_
 go_simp
 ((with_reducible refine(HDbl.out _ _ _ hb3 ak).mono ?_);rintro e w4 ⟨rfl,f5⟩;replace q4:=au f5 q4)
 refine rpu hK zz33 λak=>?_
 clear hK K
 refine jf 5 λK hK=>?_
 go_simp
 refine rpu hK zz14 λak=>?_
 clear hK K
 refine jg ?_
 have q6:=setRow_heap _ _ _ R _ _ q4
 generalize w4.setRow g4 R=w5 at *
 go_wp2
 refine bodyPost_ret (results_cell_row rfl _ _ g4 _ _ _ _ rfl q6 Tryz.underlying24 rfl (by rw[Tryz.szHashJ,sR])) rfl ⟨rfl,ak⟩
def aQr(l:List (List UInt8))(w:World)(e:Ending)(w':World):Prop:=∃a c,e = .returned (.slice a l.length c)∧Hs w' a c l∧Fr F0 w w'∧∀k,ql a=some k→w.heap.size≤k
theorem abh.new_{et:TypeId}{w w':World}{v:Value}{l:List (List UInt8)}(h:abh et w.heap.size w' v l)(f:Fr F0 w w'):aQr l w (.returned v) w':=by
 obtain⟨a,c,rfl,hs⟩:=h.is
 exact⟨a,c,rfl,hs,f,λk hk=>h.blk k ak9⟩
theorem Hs.low{w:World}{a:Option Addr}{c:Nat}{l:List (List UInt8)}(h:Hs w a c l)(h0:0<l.length):∀k,ql a=some k→k<w.heap.size:=λk hk=>by
 obtain⟨b,off,rfl,hcl⟩:=h.get 0 h0
 cases hk
 have:=h.ok.get h0
 exact World.block_lt_of_cell? w _ (hcl 0 _ (List.getElem?_eq_getElem (by rw[List.length_map,this];omega)))
theorem aiy{P:Program}{c:Code}{Q:Exit→Act→World→Prop}{a:Act}{w:World}{t:TypeId}
  (k:∀W Z,Z.size=32→adh w W w.heap.size Z t→Code.wp P c Q a W):Code.wp P c Q a (w.alloc (.cells #[Value.int IntKind.u8 0,Value.int IntKind.u8 0,Value.int IntKind.u8 0,Value.int IntKind.u8 0,Value.int IntKind.u8 0,Value.int IntKind.u8 0,Value.int IntKind.u8 0,Value.int IntKind.u8 0,Value.int IntKind.u8 0,Value.int IntKind.u8 0,Value.int IntKind.u8 0,Value.int IntKind.u8 0,Value.int IntKind.u8 0,Value.int IntKind.u8 0,Value.int IntKind.u8 0,Value.int IntKind.u8 0,Value.int IntKind.u8 0,Value.int IntKind.u8 0,Value.int IntKind.u8 0,Value.int IntKind.u8 0,Value.int IntKind.u8 0,Value.int IntKind.u8 0,Value.int IntKind.u8 0,Value.int IntKind.u8 0,Value.int IntKind.u8 0,Value.int IntKind.u8 0,Value.int IntKind.u8 0,Value.int IntKind.u8 0,Value.int IntKind.u8 0,Value.int IntKind.u8 0,Value.int IntKind.u8 0,Value.int IntKind.u8 0] t)):=lu λW N=>k W _ rfl N
theorem att(x:List UInt8)(r:List (List UInt8))(h:List UInt8)(i n:Nat)(h1:n≠1):zo (x::r) h i n=if(decide (x=h) != alone i n)=true then none else zo r (aro i h x) (i/2) ((n+1)/2):=by rw[zo,if_neg h1]
end Go.Proofs.YtjlelckefiannaaGreatDoor
namespace Go.Proofs.YtjlelckefiannaaGreatDoor
set_option linter.unusedVariables false
set_option linter.unusedSimpArgs false
open Go.RowKit Go.ChangeShapes Go.WideShapes Go.Deep
theorem ap5{α β:Type}(f:α→List β)(n:Nat):∀(l:List α),(∀x∈l,(f x).length=n)→∀(k:Nat) (h:k<l.length) (i:Nat),i<n→(l.flatMap f)[k*n+i]? = (f l[k])[i]?
 |[],_,k,h,i,_=>absurd h (by simp)
 |x::l,hl,0,_,i,hi=>by
  rw[List.flatMap_cons,Nat.zero_mul,Nat.zero_add,List.getElem?_append_left (by rw[hl x (by simp)];exact hi)]
  rfl
 |x::l,hl,k+1,h,i,hi=>by
  have e:=hl x (by simp)
  rw[List.flatMap_cons,List.getElem?_append_right (by rw[e,Nat.succ_mul];omega),e,show(k+1)*n+i-n=k*n+i by rw[Nat.succ_mul];omega,
   ap5 f n l (λy hy=>hl y (by simp[hy])) k (by simpa using h) i hi]
  rfl
theorem amv{α β:Type}(f:α→List β)(n:Nat)(l:List α)(h:∀x∈l,(f x).length=n):(l.flatMap f).length=l.length*n:=by
 induction l with
 |nil=>simp
 |cons x l ih=>rw[List.flatMap_cons,List.length_append,h x (by simp),ih λy hy=>h y (by simp[hy]),List.length_cons,Nat.succ_mul,Nat.add_comm]
theorem Sl.aGs{α:Type}(row:α→List Value)(size:Nat){w:World}{ad:Addr}{n c:Nat}(l:List α)(hs:∀x∈l,(row x).length=size)(hl:l.length=n)(hn:n≤c)(hc:c≤maxLen)
  (h:∀i (hi:i<l.length) j u,(row l[i])[j]? = some u→w.cell? ((ad.add (i*size)).add j)=some u):Sl w size (some ad) c n (l.flatMap row):=by
 subst hl
 refine⟨amv row size l hs,hn,hc,(λe=>by cases e),λj u hj=>?_⟩
 have hjl:j<l.length*size:=by
  have:=(List.getElem?_eq_some_iff.1 hj).1
  rwa [amv row size l hs]at this
 have hsz:0<size:=by
  rcases Nat.eq_zero_or_pos size with rfl|h
  ·omega
  ·exact h
 have hi:j/size<l.length:=Nat.div_lt_of_lt_mul (by rw[Nat.mul_comm];exact hjl)
 have hr:j % size<size:=Nat.mod_lt _ hsz
 have e:j/size*size+j % size=j:=by rw[Nat.mul_comm];exact Nat.div_add_mod j size
 rw[←e,ap5 row size l hs _ hi _ hr]at hj
 have hc1:=h _ hi _ _ hj
 have h0l:0<l.length:=Nat.lt_of_le_of_lt (Nat.zero_le _) hi
 have h0s:0<(row l[0]).length:=by rw[hs _ (List.getElem_mem h0l)];exact hsz
 have hs0:=World.cell?_spot (h 0 h0l 0 _ (List.getElem?_eq_getElem h0s))
 obtain⟨b,off,spot⟩:=ad
 simp[Addr.add]at hs0
 subst hs0
 rw[Addr.add_lit,Addr.add_lit,Nat.add_assoc,e]at hc1
 exact⟨b,off,rfl,hc1⟩
theorem aye(cs:List Value)(n:Nat)(hl:cs.length=n)(h:∀i,i<n→∃z:Int,(cs.drop i).take 1 = [.int .u8 z]∧(Lit.int .u8 z).wf=true):∃l:List UInt8,l.length=n∧cs=l.map B8:=by
 induction n generalizing cs with
 |zero=>exact⟨[],rfl,List.eq_nil_of_length_eq_zero hl⟩
 |succ n ih =>
  match cs,hl with
  |c::cs,hl =>
   obtain⟨z,e,wf⟩:=h 0 aPl
   obtain⟨l,h1,h2⟩:=ih cs (by simpa using hl) (λi hi=>by simpa using h (i+1) aPl)
   simp at e
   have hb:0≤z∧z≤255:=bounds_u8 wf
   refine⟨UInt8.ofNat z.toNat::l,by simp[h1],?_⟩
   rw[List.map_cons,←h2,e]
   congr 1
   simp only[B8,UInt8.toNat_ofNat']
   congr 1
   omega
section
variable {H:Type} {enc:TypeId×Value→H} {w:World} {base:Nat} {spare:Nat→Bool} {held:Bool}
theorem ara{fuel:Nat}{cs:List Value}{y:DataW H×List MemPlace}(hf:DataW.trod enc Tryz.prog w base spare held fuel 24 cs=some y)(hl:cs.length=32):∃l:List UInt8,l.length=32∧cs=l.map B8:=by
 obtain⟨xs,m,rfl,hx,hlen,hn,hel⟩:=DataW.trod_array Tryz.underlying24 hf
 have c1:Tryz.prog.cellsOf 5=1:=by kernel_rfl
 refine aye cs 32 hl (λi hi=>?_)
 have h:=hel i hi
 rw[c1,Nat.mul_one]at h
 rw[List.getElem?_eq_getElem (show i<xs.length by omega)]at h
 obtain⟨z,e,_,wf⟩:=DataW.trod_int Tryz.underlying5 h
 exact⟨z,e,wf⟩
theorem atc{fuel:Nat}{a:Option Addr}{n c:Nat}{x:DataW H×List MemPlace}(h:DataW.trod enc Tryz.prog w base spare held fuel 26 [.slice a n c]=some x):
  ∃l:List (List UInt8),l.length=n∧Hs w a c l:=by
 rcases open_slice Tryz.underlying26 h with⟨hcs,_⟩|⟨ad,len,cap,m,k,D,Pl,hcs,_,hl,hm,hmm,_,hi⟩
 ·simp only[List.cons.injEq,Value.slice.injEq,and_true]at hcs
  obtain⟨rfl,rfl,rfl⟩:=hcs
  exact⟨[],rfl,Hs.nothing w⟩
 ·simp only[List.cons.injEq,Value.slice.injEq,and_true]at hcs
  obtain⟨rfl,rfl,rfl⟩:=hcs
  have hnm:n≤m:=by rw[hmm];split<;>omega
  have hC:Tryz.prog.cellsOf 24=32:=by kernel_rfl
  have one:∀i,i<n→∃t:List UInt8,t.length=32∧(∀j u,(t.map B8)[j]? = some u→w.cell? ((ad.add (i*32)).add j)=some u):=by
   intro i hin
   obtain⟨cs,h1,h2⟩:=hi i aPl
   rw[hC]at h1
   obtain⟨_,hlen,hat⟩:=World.cells?_some h1
   obtain⟨l,h3,rfl⟩:=ara h2 hlen
   refine⟨l,h3,λj u hj=>?_⟩
   have hjl:=(List.getElem?_eq_some_iff.1 hj).1
   rw[hat j aPl]
   exact hj
  obtain⟨T,hT⟩:=choose_lt (α:=List UInt8) (n:=n) (p:=λi t=>t.length=32∧(∀j u,(t.map B8)[j]? = some u→w.cell? ((ad.add (i*32)).add j)=some u)) one
  have hok:∀t∈(List.range n).map T,t.length=32:=λt ht=>by
   simp only[List.mem_map,List.mem_range]at ht
   obtain⟨i,hin,rfl⟩:=ht
   exact(hT i hin).1
  refine⟨(List.range n).map T,by simp,?_⟩
  have hsl:=Sl.aGs (w:=w) (ad:=ad) (n:=n) (c:=c) (λh:List UInt8=>h.map B8) 32 ((List.range n).map T) (λt ht=>by rw[List.length_map];exact hok t ht) (by simp) aPl hm (λi hi j u hj=>by
   simp only[List.length_map,List.length_range]at hi
   simp only[List.getElem_map,List.getElem_range]at hj
   exact(hT i hi).2 j u hj)
  exact⟨by simpa using hsl,hok⟩
end
end Go.Proofs.YtjlelckefiannaaGreatDoor
