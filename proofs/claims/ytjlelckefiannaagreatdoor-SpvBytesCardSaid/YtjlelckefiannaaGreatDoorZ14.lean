import Derived.Test.YtjlelckefiannaaGreatDoorZ13
import Derived.Test.YtjlelckefiannaaGreatDoorZ2
import Derived.Test.YtjlelckefiannaaGreatDoorZ5
set_option maxRecDepth 100000
set_option maxHeartbeats 64000000
namespace Go.Proofs.YtjlelckefiannaaGreatDoor
set_option linter.unusedVariables false
set_option linter.unusedSimpArgs false
open Go.RowKit
theorem aie{S:Nat→Prop}{w w':World}{base e size n:Nat}{v:Value}{xs:List Value}(h:w.ownsRow base e size v n xs)(hf:Fr S w w')(hs:∀k,v.ownBlock=some k→¬S k):w'.ownsRow base e size v n xs:=by
 refine⟨h.1,?_⟩
 rcases h.2 with hn|⟨g,cap,cur,rfl,hb,hg,r⟩
 ·exact .inl hn
 ·exact .inr ⟨g,cap,cur,rfl,hb,hf.keeps (hs g rfl) hg,r⟩
theorem ama{P:Program}(w:World)(t e:TypeId)(X:Array Value)(n:Nat)(ie:TypeInfo)(z:Value)(hu:P.underlying t=some (.slice e))(hie:P.info? e=some ie)(hz:ie.zero=some z)(hs:ie.size=n)(h0:0<n)(h1:n≤1000)(hX:X.size=n):
  (Instr.buildSlice t 1 #[(0,.agg X)]).run P w = .ok (.slice (some ⟨w.heap.size,0,none⟩) 1 1) (w.alloc (.cells X e)):=by
 subst hs
 refine run_buildSlice w t e 1 _ X ie z hu hie hz (by rw[Nat.one_mul];have:2 ^ 24=16777216:=rfl;omega) aPl ?_
 have:=Great.fill_whole h0 [.agg X] ((Array.range (1*ie.size)).map (z.cells[· % z.cells.size]!)) (λv hv=>by rw[List.mem_singleton]at hv;subst hv;exact hX) (by simp)
 simpa [Value.cells]using this
theorem aJx{l:List Value}(h:jh l.toArray):∀u∈l,u.oneCell'=true:=by
 unfold jh at h
 rw[Array.all_eq_true_iff_forall_mem]at h
 intro u hu
 exact h u (by simpa using hu)
theorem Tryz.infoIns:(Tryz.prog.info? 124).map (λi=>(i.zero,i.size,i.bytes))=some (some (.agg (adp wu (.int .u32 0) (.slice none 0 0) (.int .u32 0))),35,72):=by kernel_rfl
def av4(parts:Array (Nat×Value)):Sem Value:=Instr.buildSlice 56 1 parts
@[go_sem ↓ high] theorem aSz (p:Array (Nat×Value)):Instr.buildSlice 56 1 p=av4 p:=rfl
theorem ae3(w:World)(X:Array Value)(h:X.size=35):(av4 #[(0,.agg X)]).run Tryz.prog w = .ok (.slice (some ⟨w.heap.size,0,none⟩) 1 1) (w.alloc (.cells X 124)):=by
 obtain⟨i0,hi,hz,hs,_⟩:=info_parts Tryz.infoIns
 exact ama w 56 124 X 35 i0 _ Tryz.underlying56 hi hz hs aPl aPl h
def aJ8(ty:TypeId)(args:Array Value):Sem Value:=Builtin.append_ #[56,56] ty args
@[go_sem ↓ high] theorem app_Ins (ty:TypeId) (args:Array Value):Builtin.append_ #[56,56] ty args=aJ8 ty args:=rfl
structure aax (B:Nat) (w:World) (v:Value) (l:List TIx):Prop where
 own:w.ownsRow 0 124 35 v l.length (l.flatMap TIx.row)
 blk:∀k,v.ownBlock=some k→B≤k
 ok:∀x∈l,x.Ok w
 new:∀x∈l,x.m.ky ≠ []→∀k,ql x.a=some k→B≤k∧v.ownBlock≠some k
theorem aax.nil(B:Nat)(w:World):aax B w (.slice none 0 0) []:=⟨World.ownsRow_nil _ _ _ _,λk h=>(by cases h),λx h=>(by cases h),λx h=>(by cases h)⟩
theorem aax.fr{B:Nat}{S:Nat→Prop}{w w':World}{v:Value}{l:List TIx}(h:aax B w v l)(f:Fr S w w')(hs:∀k,S k→k<B):aax B w' v l :=
 ⟨aie h.own f λk hk e=>by have h1:=h.blk k hk;have h2:=hs k e;omega,h.blk,λx hx=>⟨(h.ok x hx).m,(h.ok x hx).b.frx f λhn k hk e=>by have h1:=(h.new x hx hn k hk).1;have h2:=hs k e;omega⟩,h.new⟩
theorem aax.frS{B:Nat}{S:Nat→Prop}{w w':World}{v:Value}{l:List TIx}(h:aax B w v l)(f:Fr S w w')(h1:∀k,v.ownBlock=some k→¬S k)(h2:∀x∈l,x.m.ky ≠ []→∀k,ql x.a=some k→¬S k):aax B w' v l :=
 ⟨aie h.own f h1,h.blk,λx hx=>⟨(h.ok x hx).m,(h.ok x hx).b.frx f (h2 x hx)⟩,h.new⟩
theorem aax.lt{B:Nat}{w:World}{v:Value}{l:List TIx}(h:aax B w v l):∀k,v.ownBlock=some k→k<w.heap.size:=λk hk=>(World.ownsRow.lt h.own k hk).2
theorem aax.is{B:Nat}{w:World}{v:Value}{l:List TIx}(h:aax B w v l):∃a c,v = .slice a l.length c∧TIs w a c l:=by
 obtain⟨a,c,rfl⟩:=yw h.own
 exact⟨a,c,rfl,(Sl.af4 h.own).2,h.ok⟩
theorem aax.app{B:Nat}{w:World}{v:Value}{l:List TIx}(h:aax B w v l)(x:TIx)(hx:x.Ok w)(hn:x.m.ky ≠ []→∀k,ql x.a=some k→B≤k∧v.ownBlock≠some k)(hB:B≤w.heap.size)(hl:l.length≤100000)(ty:TypeId):
  ∃a c w',(aJ8 ty #[v,.slice (some ⟨w.heap.size,0,none⟩) 1 1]).run Tryz.prog (w.alloc (.cells x.row.toArray 124)) = .ok (.slice a (l.length+1) c) w'∧aax B w' (.slice a (l.length+1) c) (l ++ [x]) ∧
   Fr (λk=>v.ownBlock=some k) w w'∧w.heap.size<w'.heap.size∧∀k,ql a=some k→v.ownBlock=some k∨w.heap.size≤k:=by
 obtain⟨i0,hi,hz,hs,hb⟩:=info_parts Tryz.infoIns
 have hr:x.row.length=35:=TIx.yh hx.m
 obtain⟨W,hW⟩:∃W,W=w.alloc (.cells x.row.toArray 124):=⟨_,rfl⟩
 have hnew:=heap_alloc_new w (.cells x.row.toArray 124)
 have fW:Fr F0 w W:=by rw[hW];exact(Fr.refl F0 w).alloc _
 have sW:W.heap.size=w.heap.size+1:=by rw[hW];simp
 rw[←hW]at hnew ⊢
 have hsl:Sl W 35 (some ⟨w.heap.size,0,none⟩) 1 1 x.row:=⟨by rw[hr,Nat.one_mul],Nat.le_refl _,by unfold maxLen;omega,(λe=>by cases e),λj u hj=>⟨_,_,rfl,by rw[jq,hnew,mg,Nat.zero_add];simpa using hj⟩⟩
 obtain⟨v',w',hrun,hown,hg,hnw⟩:=aek (P:=Tryz.prog) (w:=W) 56 ty 124 i0 _ 35 72 Tryz.underlying56 hi hz hs hb rfl aPl v l.length _ (aie h.own fW λ_ _ f=>f) (some ⟨w.heap.size,0,none⟩) 1 1 x.row hsl
  (by exact aJx (TIx.cellsOf hx.m).one) aPn aPl
 obtain⟨a,c,rfl⟩:=yw hown
 have F:Fr (λk=>v.ownBlock=some k) w w':=(fW.of0).grown hg λk hk hl=>hk
 have alu:∀k,ql a=some k→v.ownBlock=some k∨w.heap.size≤k:=λk hk=>by
  rcases hnw k ak9 with e|e
  ·exact .inl e
  ·exact .inr aPl
 refine⟨a,c,w',hrun,⟨?_,λk hk=>?_,λy hy=>?_,λy hy hne k hk=>?_⟩,F,by have:=hg.size;omega,alu⟩
 ·rw[List.length_append,List.flatMap_append]
  simpa using hown
 ·rw[qm]at hk
  rcases alu k hk with e|e
  ·exact h.blk k e
  ·omega
 ·rw[List.mem_append,List.mem_singleton]at hy
  rcases hy with hy|rfl
  ·exact⟨(h.ok y hy).m,(h.ok y hy).b.frx F λhne k hk e=>(h.new y hy hne k hk).2 e⟩
  ·exact⟨hx.m,hx.b.frx F λhne k hk e=>(hn hne k hk).2 e⟩
 ·rw[List.mem_append,List.mem_singleton]at hy
  have hlow:k<w.heap.size:=by
   rcases hy with hy|rfl
   ·exact(h.ok y hy).b.low hne k hk
   ·exact hx.b.low hne k hk
  have hold:B≤k∧v.ownBlock≠some k:=by
   rcases hy with hy|rfl
   ·exact h.new y hy hne k hk
   ·exact hn hne k hk
  refine⟨hold.1,λe=>?_⟩
  rw[qm]at e
  rcases alu k e with e'|e'
  ·exact hold.2 e'
  ·omega
theorem Tryz.infoOuts:(Tryz.prog.info? 126).map (λi=>(i.zero,i.size,i.bytes))=some (some (.agg #[.int .u64 0,.slice none 0 0]),2,32):=by kernel_rfl
def aqc(parts:Array (Nat×Value)):Sem Value:=Instr.buildSlice 57 1 parts
@[go_sem ↓ high] theorem aPk (p:Array (Nat×Value)):Instr.buildSlice 57 1 p=aqc p:=rfl
theorem abw(w:World)(X:Array Value)(h:X.size=2):(aqc #[(0,.agg X)]).run Tryz.prog w = .ok (.slice (some ⟨w.heap.size,0,none⟩) 1 1) (w.alloc (.cells X 126)):=by
 obtain⟨i0,hi,hz,hs,_⟩:=info_parts Tryz.infoOuts
 exact ama w 57 126 X 2 i0 _ Tryz.underlying57 hi hz hs aPl aPl h
def aBb(ty:TypeId)(args:Array Value):Sem Value:=Builtin.append_ #[57,57] ty args
@[go_sem ↓ high] theorem app_Outs (ty:TypeId) (args:Array Value):Builtin.append_ #[57,57] ty args=aBb ty args:=rfl
structure wz (B:Nat) (w:World) (v:Value) (l:List TO):Prop where
 own:w.ownsRow 0 126 2 v l.length (l.flatMap TO.row)
 blk:∀k,v.ownBlock=some k→B≤k
 ok:∀x∈l,x.Ok w
 new:∀x∈l,x.m.lk ≠ []→∀k,ql x.a=some k→B≤k∧v.ownBlock≠some k
theorem wz.nil(B:Nat)(w:World):wz B w (.slice none 0 0) []:=⟨World.ownsRow_nil _ _ _ _,λk h=>(by cases h),λx h=>(by cases h),λx h=>(by cases h)⟩
theorem wz.fr{B:Nat}{S:Nat→Prop}{w w':World}{v:Value}{l:List TO}(h:wz B w v l)(f:Fr S w w')(hs:∀k,S k→k<B):wz B w' v l :=
 ⟨aie h.own f λk hk e=>by have h1:=h.blk k hk;have h2:=hs k e;omega,h.blk,λx hx=>⟨(h.ok x hx).m,(h.ok x hx).b.frx f λhn k hk e=>by have h1:=(h.new x hx hn k hk).1;have h2:=hs k e;omega⟩,h.new⟩
theorem wz.frS{B:Nat}{S:Nat→Prop}{w w':World}{v:Value}{l:List TO}(h:wz B w v l)(f:Fr S w w')(h1:∀k,v.ownBlock=some k→¬S k)(h2:∀x∈l,x.m.lk ≠ []→∀k,ql x.a=some k→¬S k):wz B w' v l :=
 ⟨aie h.own f h1,h.blk,λx hx=>⟨(h.ok x hx).m,(h.ok x hx).b.frx f (h2 x hx)⟩,h.new⟩
theorem wz.lt{B:Nat}{w:World}{v:Value}{l:List TO}(h:wz B w v l):∀k,v.ownBlock=some k→k<w.heap.size:=λk hk=>(World.ownsRow.lt h.own k hk).2
theorem wz.is{B:Nat}{w:World}{v:Value}{l:List TO}(h:wz B w v l):∃a c,v = .slice a l.length c∧TOs w a c l:=by
 obtain⟨a,c,rfl⟩:=yw h.own
 exact⟨a,c,rfl,(Sl.af4 h.own).2,h.ok⟩
theorem wz.app{B:Nat}{w:World}{v:Value}{l:List TO}(h:wz B w v l)(x:TO)(hx:x.Ok w)(hn:x.m.lk ≠ []→∀k,ql x.a=some k→B≤k∧v.ownBlock≠some k)(hB:B≤w.heap.size)(hl:l.length≤100000)(ty:TypeId):
  ∃a c w',(aBb ty #[v,.slice (some ⟨w.heap.size,0,none⟩) 1 1]).run Tryz.prog (w.alloc (.cells x.row.toArray 126)) = .ok (.slice a (l.length+1) c) w'∧wz B w' (.slice a (l.length+1) c) (l ++ [x]) ∧
   Fr (λk=>v.ownBlock=some k) w w'∧w.heap.size<w'.heap.size∧∀k,ql a=some k→v.ownBlock=some k∨w.heap.size≤k:=by
 obtain⟨i0,hi,hz,hs,hb⟩:=info_parts Tryz.infoOuts
 have hr:x.row.length=2:=TO.yh x
 obtain⟨W,hW⟩:∃W,W=w.alloc (.cells x.row.toArray 126):=⟨_,rfl⟩
 have hnew:=heap_alloc_new w (.cells x.row.toArray 126)
 have fW:Fr F0 w W:=by rw[hW];exact(Fr.refl F0 w).alloc _
 have sW:W.heap.size=w.heap.size+1:=by rw[hW];simp
 rw[←hW]at hnew ⊢
 have hsl:Sl W 2 (some ⟨w.heap.size,0,none⟩) 1 1 x.row:=⟨by rw[hr,Nat.one_mul],Nat.le_refl _,by unfold maxLen;omega,(λe=>by cases e),λj u hj=>⟨_,_,rfl,by rw[jq,hnew,mg,Nat.zero_add];simpa using hj⟩⟩
 obtain⟨v',w',hrun,hown,hg,hnw⟩:=aek (P:=Tryz.prog) (w:=W) 57 ty 126 i0 _ 2 32 Tryz.underlying57 hi hz hs hb rfl aPl v l.length _ (aie h.own fW λ_ _ f=>f) (some ⟨w.heap.size,0,none⟩) 1 1 x.row hsl
  (by exact aJx (TO.one x)) aPn aPl
 obtain⟨a,c,rfl⟩:=yw hown
 have F:Fr (λk=>v.ownBlock=some k) w w':=(fW.of0).grown hg λk hk hl=>hk
 have alu:∀k,ql a=some k→v.ownBlock=some k∨w.heap.size≤k:=λk hk=>by
  rcases hnw k ak9 with e|e
  ·exact .inl e
  ·exact .inr aPl
 refine⟨a,c,w',hrun,⟨?_,λk hk=>?_,λy hy=>?_,λy hy hne k hk=>?_⟩,F,by have:=hg.size;omega,alu⟩
 ·rw[List.length_append,List.flatMap_append]
  simpa using hown
 ·rw[qm]at hk
  rcases alu k hk with e|e
  ·exact h.blk k e
  ·omega
 ·rw[List.mem_append,List.mem_singleton]at hy
  rcases hy with hy|rfl
  ·exact⟨(h.ok y hy).m,(h.ok y hy).b.frx F λhne k hk e=>(h.new y hy hne k hk).2 e⟩
  ·exact⟨hx.m,hx.b.frx F λhne k hk e=>(hn hne k hk).2 e⟩
 ·rw[List.mem_append,List.mem_singleton]at hy
  have hlow:k<w.heap.size:=by
   rcases hy with hy|rfl
   ·exact(h.ok y hy).b.low hne k hk
   ·exact hx.b.low hne k hk
  have hold:B≤k∧v.ownBlock≠some k:=by
   rcases hy with hy|rfl
   ·exact h.new y hy hne k hk
   ·exact hn hne k hk
  refine⟨hold.1,λe=>?_⟩
  rw[qm]at e
  rcases alu k e with e'|e'
  ·exact hold.2 e'
  ·omega
theorem Tryz.szTx:(Tryz.prog.info? 59).map (·.size)=some 4:=by kernel_rfl
theorem aav{α:Type}(f:Option (List UInt8)→α×Option (List UInt8))(n:Nat)(st:Option (List UInt8)):uh f (n+1) st=((uh f n st).1 ++ [(f (uh f n st).2).1],(f (uh f n st).2).2):=rfl
theorem RdI.aA6{B b:Nat}{st:Option (List UInt8)}{w:World}(h:RdI B b st w)(hl:lft st≤1000000):
  Calls Tryz.prog 83 #[.pointer (some ⟨b,0,none⟩),.int .u64 64] w λe w'=>e = .returned (.int .u64 (rc 64 st).1)∧RdI B b (rc 64 st).2 w'∧Fr (λk=>k=b) w w':=h.count 64 aPl hl
theorem aax.mono{B B':Nat}{w:World}{v:Value}{l:List TIx}(h:aax B w v l)(hb:B'≤B):aax B' w v l:=⟨h.own,λk hk=>Nat.le_trans hb (h.blk k hk),h.ok,λx hx hn k hk=>⟨Nat.le_trans hb (h.new x hx hn k hk).1,(h.new x hx hn k hk).2⟩⟩
theorem wz.mono{B B':Nat}{w:World}{v:Value}{l:List TO}(h:wz B w v l)(hb:B'≤B):wz B' w v l:=⟨h.own,λk hk=>Nat.le_trans hb (h.blk k hk),h.ok,λx hx hn k hk=>⟨Nat.le_trans hb (h.new x hx hn k hk).1,(h.new x hx hn k hk).2⟩⟩
theorem aBs(b:Nat)(st:Option (List UInt8))(w:World)(h:RdI w.heap.size b st w)(hl:lft st≤1000000):
  Calls Tryz.prog 66 #[.pointer (some ⟨b,0,none⟩)] w λe w'=>∃(t:TT) (vi vo:Value),e = .returned (.agg t.cells)∧t.m=(rTx st).1∧t.vr<4294967296∧t.lt<4294967296∧vi = .slice t.ia t.ins.length t.ic∧vo = .slice t.oa t.outs.length t.oc ∧
   aax w.heap.size w' vi t.ins∧wz w.heap.size w' vo t.outs∧RdI w.heap.size b (rTx st).2 w'∧Fr (λk=>k=b) w w':=by
 obtain⟨B,hB⟩:∃B,B=w.heap.size:=⟨_,rfl⟩
 rw[←hB]at h ⊢
 have hbB:=h.lt
 obtain⟨v0,hv0⟩:∃v,v=(rW st).1:=⟨_,rfl⟩
 obtain⟨s0,hs0⟩:∃s,s=(rW st).2:=⟨_,rfl⟩
 obtain⟨n,hn⟩:∃n,n=(rc 64 s0).1:=⟨_,rfl⟩
 obtain⟨s1,hs1⟩:∃s,s=(rc 64 s0).2:=⟨_,rfl⟩
 obtain⟨s2,hs2⟩:∃s,s=(uh rIn n s1).2:=⟨_,rfl⟩
 obtain⟨m,hm⟩:∃n,n=(rc 64 s2).1:=⟨_,rfl⟩
 obtain⟨s3,hs3⟩:∃s,s=(rc 64 s2).2:=⟨_,rfl⟩
 obtain⟨s4,hs4⟩:∃s,s=(uh afc m s3).2:=⟨_,rfl⟩
 have eT:rTx st=(⟨v0,(uh rIn n s1).1,(uh afc m s3).1,(rW s4).1⟩,(rW s4).2):=by rw[rTx,hv0,hs4,hm,hs3,hs2,hn,hs1,hs0]
 have k0:lft s0≤lft st:=by rw[hs0];exact af2 st
 have k1:lft s1≤lft s0:=by rw[hs1];exact aib 64 s0
 have k2:∀k,lft (uh rIn k s1).2≤lft s1:=λk=>ab6 rIn aAl k s1
 have k2':lft s2≤lft s1:=by rw[hs2];exact k2 n
 have k3:lft s3≤lft s2:=by rw[hs3];exact aib 64 s2
 have k4:∀k,lft (uh afc k s3).2≤lft s3:=λk=>ab6 afc avb k s3
 have k4':lft s4≤lft s3:=by rw[hs4];exact k4 m
 have n64:n≤64:=by rw[hn];exact azb 64 s0
 have m64:m≤64:=by rw[hm];exact azb 64 s2
 have x0:=acg st
 replace x0:(rW st).1<4294967296:=x0
 have x4:=acg s4
 replace x4:(rW s4).1<4294967296:=x4
 have H0:=Lib.hid (λW (r:RdI B b st W)=>ag5 B b _ W r hl)
 have H1:=Lib.hid (λW (r:RdI B b s0 W)=>r.aA6 aPl)
 have H2:=Lib.hid (λk W (r:RdI B b (uh rIn k s1).2 W) (hs:B≤W.heap.size)=>asx B b _ W r hs (by have:=k2 k;omega))
 have H3:=Lib.hid (λW (r:RdI B b s2 W)=>r.aA6 aPl)
 have H4:=Lib.hid (λk W (r:RdI B b (uh afc k s3).2 W) (hs:B≤W.heap.size)=>aqn B b _ W r hs (by have:=k4 k;omega))
 have H5:=Lib.hid (λW (r:RdI B b s4 W)=>ag5 B b _ W r aPl)
 rw[←hv0]at x0 H0
 rw[←hs0]at H0
 rw[←hn,←hs1]at H1
 rw[←hm,←hs3]at H3
 obtain⟨v5,hv5⟩:∃v,v=(rW s4).1:=⟨_,rfl⟩
 obtain⟨s5,hs5⟩:∃s,s=(rW s4).2:=⟨_,rfl⟩
 rw[←hv5,←hs5]at H5 eT
 rw[←hv5]at x4
 rw[eT]
 replace hs2:=Lib.hid hs2
 replace hs4:=Lib.hid hs4
 clear eT hv0 hs0 hn hs1 hm hs3 hv5 hs5 k0 k1 k2 k2' k3 k4 k4'
 go_enter Tryz.func66,Tryz.ntmps66
 go_upto_region 1 with fail
 refine lu λW1 N1=>?_
 have r2:=N1.new
 have F:=N1.fr
 have R1:=h.fr0 F
 obtain⟨g2,hg2⟩:∃g,g=w.heap.size:=⟨_,rfl⟩
 rw[←hg2]at r2 ⊢
 have nb2:g2≠b:=by omega
 replace hg2:=Lib.hid (show B≤g2 by omega)
 clear N1 h
 go_wp2_with fail
 (with_reducible refine(H0.out _ R1).mono ?_);rintro e w3 ⟨rfl,R3,f3⟩
 replace r2:=f3.keeps (λe=>nb2 e) r2
 have F3:Fr (λk=>k=b) w w3:=F.of0.trans' f3
 have ars:∀w,(Instr.build 59 #[(0,.int .u32 (v0:Int))]).run Tryz.prog w = .ok (.agg #[.int .u32 (v0:Int),.slice none 0 0,.slice none 0 0,.int .u32 0]) w:=λw=>run_build w _ _ _ (by kernel_rfl)
 clear F f3 R1 H0
 clear ars
 go_upto_region 2 with fail
 refine lu λW4 N4=>?_
 have r3:=N4.new
 have r2w:=r2
 replace r2:=N4.old r2
 obtain⟨g3,hg3⟩:∃g,g=w3.heap.size:=⟨_,rfl⟩
 rw[←hg3]at r3 ⊢
 have R4:=R3.fr0 N4.fr
 have hs3:B≤g3:=by rw[hg3,hB];exact F3.size
 have F4:Fr (λk=>k=b) w W4:=F3.trans N4.fr (λi hi e=>e.elim)
 have nb3:g3≠b:=by omega
 have ne:g2≠g3:=by rw[hg3];exact N4.ne r2w
 obtain⟨B4,hB4⟩:∃x,x=W4.heap.size:=⟨_,rfl⟩
 have hlt3:g3<B4:=by rw[hB4];exact(Array.getElem?_eq_some_iff.1 r3).1
 have hlt2:g2<B4:=by rw[hB4];exact(Array.getElem?_eq_some_iff.1 r2).1
 replace hs3:=Lib.hid (show B≤g3∧B≤g2∧g3<B4∧g2<B4∧B4≤W4.heap.size∧B≤B4 from⟨hs3,hg2.out,hlt3,hlt2,Nat.le_of_eq hB4,by omega⟩)
 clear N4 hg3 F3 R3 hlt3 hlt2 hB4
 go_wp2_with fail
 (with_reducible refine(H1.out _ R4).mono ?_);rintro e w5 ⟨rfl,R5,f5⟩
 replace r2:=f5.keeps (λe=>nb2 e) r2
 replace r3:=f5.keeps (λe=>nb3 e) r3
 replace F4:=F4.trans' f5
 have hs5:=Lib.hid f5.size
 clear f5 R4 H1
 go_wp2_with fail
 go_loopw [9] (λiv wr=>∃(k:Nat) (l:List TIx) (vi:Value),k≤n∧iv = .int .u64 (k:Int)∧Hid (l.map TIx.m=(uh rIn k s1).1)∧wr.heap[g3]? = some (.cells #[.int .u32 (v0:Int),vi,.slice none 0 0,.int .u32 0] 59 (0,0)) ∧
  wr.heap[g2]? = some (.cells #[.int .u32 0,.slice none 0 0,.slice none 0 0,.int .u32 0] 59 (0,0))∧Hid (aax B4 wr vi l)∧RdI B b (uh rIn k s1).2 wr∧Fr (λk=>k=b) w wr∧Hid (W4.heap.size≤wr.heap.size)) (λiv _=>n-(intOf iv).toNat)
 case atStart=>exact⟨0,[],_,Nat.zero_le _,rfl,rfl,r3,r2,aax.nil _ _,R5,F4,hs5.out⟩
 case round =>
  obtain⟨k,l,vi,hk,rfl,hl0,q3,q2,HO,hR,hF,hz⟩:=hrel
  clear r3 r2 R5 F4
  by_cases hkn:k<n
  ·have l1:(k:Int)<(n:Int):=by omega
   have hlen:l.length=k:=by have:=congrArg List.length hl0.out;simpa [aar]using this
   have q3d:=ku q3
   have hRd:=hR.fr0 (Fr.refl F0 _).drew
   have hOd:=Lib.hid (HO.out.frS ((Fr.refl F0 _).drew) (λ_ _ f=>f) (λ_ _ _ _ _ f=>f))
   have aud:=Lib.hid (show B4≤wr.drew.heap.size∧B≤wr.drew.heap.size from⟨Nat.le_trans hs3.out.2.2.2.2.1 hz.out,Nat.le_trans hs3.out.2.2.2.2.2 (Nat.le_trans hs3.out.2.2.2.2.1 hz.out)⟩)
   have HC:=Lib.hid (H2.out k _ hRd aud.out.2)
   have hFd:Fr (λk=>k=b) w wr.drew:=hF.drew
   clear hRd HO hF hR
   go_upto_region 4 with fail
   refine jm (S:=(λw'=>True)) ?_ λak=>?_
   ·exact ark
   refine aj 0 ?_
   refine aj 2 ?_
   refine rdy [1,3] ?_
   refine rco (λK hK=>?_) (rco (λK hK=>?_) AllReadyH.nil)
   go_simp
   refine rpu hK ark λak=>?_
   clear hK K
   refine jf 3 λK hK=>?_
   go_simp
   ((with_reducible refine HC.out.mono ?_);rintro e w6 ⟨x,rfl,hx,hm6,R6,f6,n6⟩;have q36:=f6.keeps (λe=>nb3 e) q3d;have O6:=Lib.hid (hOd.out.fr f6 (λk e=>by have:=hs3.out;omega));have aI7:(w6.alloc (.cells x.row.toArray 124)).heap[g3]? = _:=bg q36;have ars:=ae3 w6 x.row.toArray (TIx.yh hx.m);have hxn:x.m.ky ≠ []→∀k,ql x.a=some k→B4≤k∧vi.ownBlock≠some k:=(λ_ k hk=>by have h1:=n6 k hk;have h2:=aud.out;exact⟨by omega,λe=>by have:=hOd.out.lt k e;omega⟩);have happ:=λty=>O6.out.app x hx hxn zz49 aPl ty;obtain⟨a7,c7,w7,happ,O7,f7,s7,n7⟩:=happ 56;have q37:=f7.keeps (λe=>by have h1:=O6.out.blk g3 e;have h2:=hs3.out;omega) q36)
   refine rpu hK ark λak=>?_
   clear hK K
   refine jf 4 λK hK=>?_
   go_simp
   refine rpu hK ark λak=>?_
   clear hK K
   refine jf 5 λK hK=>?_
   go_simp
   refine rpu hK ark λak=>?_
   clear hK K
   refine aj 6 ?_
   refine jf 7 λK hK=>?_
   go_simp
   refine rpu hK ark λak=>?_
   clear hK K
   refine jg ?_
   rotate_left
   go_simp
   ((with_reducible refine HC.out.mono ?_);rintro e w6 ⟨x,rfl,hx,hm6,R6,f6,n6⟩;have q36:=f6.keeps (λe=>nb3 e) q3d;have O6:=Lib.hid (hOd.out.fr f6 (λk e=>by have:=hs3.out;omega));have aI7:(w6.alloc (.cells x.row.toArray 124)).heap[g3]? = _:=bg q36;have ars:=ae3 w6 x.row.toArray (TIx.yh hx.m);have hxn:x.m.ky ≠ []→∀k,ql x.a=some k→B4≤k∧vi.ownBlock≠some k:=(λ_ k hk=>by have h1:=n6 k hk;have h2:=aud.out;exact⟨by omega,λe=>by have:=hOd.out.lt k e;omega⟩);have happ:=λty=>O6.out.app x hx hxn zz49 aPl ty;obtain⟨a7,c7,w7,happ,O7,f7,s7,n7⟩:=happ 56;have q37:=f7.keeps (λe=>by have h1:=O6.out.blk g3 e;have h2:=hs3.out;omega) q36)
   refine rpu hK ark λak=>?_
   clear hK K
   refine rdy [1,4] ?_
   refine rco (λK hK=>?_) (rco (λK hK=>?_) AllReadyH.nil)
   go_simp
   refine rpu hK ark λak=>?_
   clear hK K
   refine jf 4 λK hK=>?_
   go_simp
   refine rpu hK ark λak=>?_
   clear hK K
   refine jf 5 λK hK=>?_
   go_simp
   refine rpu hK ark λak=>?_
   clear hK K
   refine aj 6 ?_
   refine jf 7 λK hK=>?_
   go_simp
   refine rpu hK ark λak=>?_
   clear hK K
   refine jg ?_
   rotate_left
   go_simp
   refine rpu hK ark λak=>?_
   clear hK K
   refine jf 1 λK hK=>?_
   go_simp
   refine rpu hK ark λak=>?_
   clear hK K
   refine jf 5 λK hK=>?_
   go_simp
   refine rpu hK ark λak=>?_
   clear hK K
   refine aj 6 ?_
   refine jf 7 λK hK=>?_
   go_simp
   refine rpu hK ark λak=>?_
   clear hK K
   refine jg ?_
   rotate_left
   all_goals
    have q27:=f7.keeps (λe=>by have h1:=O6.out.blk g2 e;have h2:=hs3.out;omega) (f6.keeps (λe=>nb2 e) (ku q2))
    have R7:=R6.fr f7 (λi e=>by have h1:=O6.out.blk i e;have h2:=hs3.out;omega)
    have F7:Fr (λk=>k=b) w w7:=(hFd.trans' f6).trans f7 (λi hi e=>by have h1:=O6.out.blk i e;have h2:=hs3.out;omega)
    have hz7:=Lib.hid (show W4.heap.size≤w7.heap.size by have h1:=f6.size;have h2:wr.drew.heap.size=wr.heap.size:=rfl;have h3:=hz.out;omega)
    have hE:(l ++ [x]).map TIx.m=(uh rIn (k+1) s1).1:=by rw[List.map_append,hl0.out,aav];exact congrArg _ (congrArg (λy => [y]) hm6)
    rw[hlen]at O7
    have HE:=Lib.hid hE
    clear hE q3 q2 q3d q36 aI7 R6 happ ars hxn hx f6 n6 HC hFd n7 s7 f7 hm6
    go_upto_region 5 with fail
    refine aej q37 λW8 r8 f8=>?_
    have aE0:=hs3.out
    have r28:=f8.keeps (λe=>ne e) q27
    have R8:=R7.fr f8 (λi e=>by omega)
    have F8:Fr (λk=>k=b) w W8:=F7.trans f8 (λi hi e=>by omega)
    have O8:=Lib.hid (O7.fr f8 (λi e=>by omega))
    have hz8:=Lib.hid (Nat.le_trans hz7.out f8.size)
    clear f8 q37 q27 R7 F7 O7 hz7 aE0
    go_wp2_with fail
    go_roundw
    case rel=>exact⟨k+1,l ++ [x],_,by omega,by go_num,HE.out,r8,r28,O8.out,by rw[aav];exact R8,F8,hz8.out⟩
    case measure=>simp[intOf];omega
  ·obtain rfl:k=n:=by omega
   rw[←hs2.out]at hR
   have hlen:l.length=k:=by have:=congrArg List.length hl0.out;simpa [aar]using this
   replace hl0:=Lib.hid hl0.out
   clear H2
   go_wp2_with fail
   (with_reducible refine(H3.out _ hR).mono ?_);rintro e w5 ⟨rfl,R5,f5⟩
   have r2:=f5.keeps (λe=>nb2 e) q2
   have r3:=f5.keeps (λe=>nb3 e) q3
   have F5:=hF.trans' f5
   have O5:=HO.out.fr f5 (λi e=>by have:=hs3.out;omega)
   obtain⟨B5,hB5⟩:∃x,x=w5.heap.size:=⟨_,rfl⟩
   have hlo:=Lib.hid (show(∀i,vi.ownBlock=some i→i<B5)∧∀x∈l,x.m.ky ≠ []→∀i,ql x.a=some i→i<B5 from⟨by rw[hB5];exact O5.lt,by rw[hB5];exact λx hx hn=>(O5.ok x hx).b.low hn⟩)
   replace hs3:=Lib.hid (show B≤g3∧B≤g2∧g3<B4∧g2<B4∧B4≤B5∧B≤B5∧b<B by
    have h1:=hs3.out;have h2:=hz.out;have h3:=f5.size;omega)
   replace O5:=Lib.hid O5
   have hz5:=Lib.hid (Nat.le_of_eq hB5)
   clear f5 hR HO hz H3 q2 q3 hF hB5
   go_wp2_with fail
   go_loopw [21] (λiv wr=>∃(j:Nat) (l2:List TO) (vo:Value),j≤m∧iv = .int .u64 (j:Int)∧Hid (l2.map TO.m=(uh afc j s3).1)∧wr.heap[g3]? = some (.cells #[.int .u32 (v0:Int),vi,vo,.int .u32 0] 59 (0,0)) ∧
    wr.heap[g2]? = some (.cells #[.int .u32 0,.slice none 0 0,.slice none 0 0,.int .u32 0] 59 (0,0))∧Hid (aax B4 wr vi l)∧Hid (wz B5 wr vo l2)∧RdI B b (uh afc j s3).2 wr∧Fr (λk=>k=b) w wr∧Hid (B5≤wr.heap.size)) (λiv _=>m-(intOf iv).toNat)
   case atStart=>exact⟨0,[],_,Nat.zero_le _,rfl,rfl,r3,r2,O5.out,wz.nil _ _,R5,F5,hz5.out⟩
   case round =>
    obtain⟨j,l2,vo,hj,rfl,hl2,q3,q2,HO,HP,hR,hF,hz⟩:=hrel
    clear r3 r2 R5 F5 O5
    by_cases hjm:j<m
    ·have l1:(j:Int)<(m:Int):=by omega
     have hlen2:l2.length=j:=by have:=congrArg List.length hl2.out;simpa [aar]using this
     have q3d:=ku q3
     have hRd:=hR.fr0 (Fr.refl F0 _).drew
     have hOd:=Lib.hid (HO.out.frS ((Fr.refl F0 _).drew) (λ_ _ f=>f) (λ_ _ _ _ _ f=>f))
     have hPd:=Lib.hid (HP.out.frS ((Fr.refl F0 _).drew) (λ_ _ f=>f) (λ_ _ _ _ _ f=>f))
     have aud:=Lib.hid (show B5≤wr.drew.heap.size∧B≤wr.drew.heap.size from⟨hz.out,Nat.le_trans hs3.out.2.2.2.2.2.1 hz.out⟩)
     have HC:=Lib.hid (H4.out j _ hRd aud.out.2)
     have hFd:Fr (λk=>k=b) w wr.drew:=hF.drew
     clear hRd HO HP hF hR
     go_upto_region 8 with fail
     refine jm (S:=(λw'=>True)) ?_ λak=>?_
     ·exact ark
     refine aj 0 ?_
     refine aj 2 ?_
     refine rdy [1,3] ?_
     refine rco (λK hK=>?_) (rco (λK hK=>?_) AllReadyH.nil)
     go_simp
     refine rpu hK ark λak=>?_
     clear hK K
     refine jf 3 λK hK=>?_
     go_simp
     ((with_reducible refine HC.out.mono ?_);rintro e w6 ⟨x,rfl,hx,hm6,R6,f6,n6⟩;have q36:=f6.keeps (λe=>nb3 e) q3d;have aI7:(w6.alloc (.cells x.row.toArray 126)).heap[g3]? = _:=bg q36;have O6:=Lib.hid (hOd.out.fr f6 (λk e=>by have:=hs3.out;omega));have P6:=Lib.hid (hPd.out.fr f6 (λk e=>by have:=hs3.out;omega));have ars:=abw w6 x.row.toArray (TO.yh x);have hxn:x.m.lk ≠ []→∀k,ql x.a=some k→B5≤k∧vo.ownBlock≠some k:=(λ_ k hk=>by have h1:=n6 k hk;have h2:=aud.out;exact⟨by omega,λe=>by have:=hPd.out.lt k e;omega⟩);have happ:=λty=>P6.out.app x hx hxn zz49 aPl ty;obtain⟨a7,c7,w7,happ,P7,f7,s7,n7⟩:=happ 57;have q37:=f7.keeps (λe=>by have h1:=P6.out.blk g3 e;have h2:=hs3.out;omega) q36)
     refine rpu hK ark λak=>?_
     clear hK K
     refine jf 4 λK hK=>?_
     go_simp
     refine rpu hK ark λak=>?_
     clear hK K
     refine jf 5 λK hK=>?_
     go_simp
     refine rpu hK ark λak=>?_
     clear hK K
     refine aj 6 ?_
     refine jf 7 λK hK=>?_
     go_simp
     refine rpu hK ark λak=>?_
     clear hK K
     refine jg ?_
     rotate_left
     go_simp
     ((with_reducible refine HC.out.mono ?_);rintro e w6 ⟨x,rfl,hx,hm6,R6,f6,n6⟩;have q36:=f6.keeps (λe=>nb3 e) q3d;have aI7:(w6.alloc (.cells x.row.toArray 126)).heap[g3]? = _:=bg q36;have O6:=Lib.hid (hOd.out.fr f6 (λk e=>by have:=hs3.out;omega));have P6:=Lib.hid (hPd.out.fr f6 (λk e=>by have:=hs3.out;omega));have ars:=abw w6 x.row.toArray (TO.yh x);have hxn:x.m.lk ≠ []→∀k,ql x.a=some k→B5≤k∧vo.ownBlock≠some k:=(λ_ k hk=>by have h1:=n6 k hk;have h2:=aud.out;exact⟨by omega,λe=>by have:=hPd.out.lt k e;omega⟩);have happ:=λty=>P6.out.app x hx hxn zz49 aPl ty;obtain⟨a7,c7,w7,happ,P7,f7,s7,n7⟩:=happ 57;have q37:=f7.keeps (λe=>by have h1:=P6.out.blk g3 e;have h2:=hs3.out;omega) q36)
     refine rpu hK ark λak=>?_
     clear hK K
     refine rdy [1,4] ?_
     refine rco (λK hK=>?_) (rco (λK hK=>?_) AllReadyH.nil)
     go_simp
     refine rpu hK ark λak=>?_
     clear hK K
     refine jf 4 λK hK=>?_
     go_simp
     refine rpu hK ark λak=>?_
     clear hK K
     refine jf 5 λK hK=>?_
     go_simp
     refine rpu hK ark λak=>?_
     clear hK K
     refine aj 6 ?_
     refine jf 7 λK hK=>?_
     go_simp
     refine rpu hK ark λak=>?_
     clear hK K
     refine jg ?_
     rotate_left
     go_simp
     refine rpu hK ark λak=>?_
     clear hK K
     refine jf 1 λK hK=>?_
     go_simp
     refine rpu hK ark λak=>?_
     clear hK K
     refine jf 5 λK hK=>?_
     go_simp
     refine rpu hK ark λak=>?_
     clear hK K
     refine aj 6 ?_
     refine jf 7 λK hK=>?_
     go_simp
     refine rpu hK ark λak=>?_
     clear hK K
     refine jg ?_
     rotate_left
     all_goals
      have q27:=f7.keeps (λe=>by have h1:=P6.out.blk g2 e;have h2:=hs3.out;omega) (f6.keeps (λe=>nb2 e) (ku q2))
      have R7:=R6.fr f7 (λi e=>by have h1:=P6.out.blk i e;have h2:=hs3.out;omega)
      have F7:Fr (λk=>k=b) w w7:=(hFd.trans' f6).trans f7 (λi hi e=>by have h1:=P6.out.blk i e;have h2:=hs3.out;omega)
      have hz7:=Lib.hid (show B5≤w7.heap.size by have h1:=f6.size;have h3:=aud.out;omega)
      have O7:=O6.out.frS f7 (λi h1 h2=>by have:=hlo.out.1 i h1;have:=P6.out.blk i h2;omega) (λy hy hn i h1 h2=>by have:=hlo.out.2 y hy hn i h1;have:=P6.out.blk i h2;omega)
      have hE:(l2 ++ [x]).map TO.m=(uh afc (j+1) s3).1:=by rw[List.map_append,hl2.out,aav];exact congrArg _ (congrArg (λy => [y]) hm6)
      rw[hlen2]at P7
      have HE:=Lib.hid hE
      clear hE q3 q2 q3d q36 aI7 R6 happ ars hxn hx f6 n6 HC hFd n7 s7 f7 hm6
      go_upto_region 9 with fail
      refine aej q37 λW8 r8 f8=>?_
      have aE0:=hs3.out
      have r28:=f8.keeps (λe=>ne e) q27
      have R8:=R7.fr f8 (λi e=>by omega)
      have F8:Fr (λk=>k=b) w W8:=F7.trans f8 (λi hi e=>by omega)
      have O8:=Lib.hid (O7.fr f8 (λi e=>by omega))
      have P8:=Lib.hid (P7.fr f8 (λi e=>by omega))
      have hz8:=Lib.hid (Nat.le_trans hz7.out f8.size)
      clear f8 q37 q27 R7 F7 O7 P7 hz7 aE0
      go_wp2_with fail
      go_roundw
      case rel=>exact⟨j+1,l2 ++ [x],_,by omega,by go_num,HE.out,r8,r28,O8.out,P8.out,by rw[aav];exact R8,F8,hz8.out⟩
      case measure=>simp[intOf];omega
    ·obtain rfl:j=m:=by omega
     rw[←hs4.out]at hR
     have hlen2:l2.length=j:=by have:=congrArg List.length hl2.out;simpa [aar]using this
     clear H4
     go_wp2_with fail
     (with_reducible refine(H5.out _ hR).mono ?_);rintro e w6 ⟨rfl,R6,f6⟩
     have r2:=f6.keeps (λe=>nb2 e) q2
     have r3:=f6.keeps (λe=>nb3 e) q3
     have F6:=hF.trans' f6
     have O6:=Lib.hid (HO.out.fr f6 (λi e=>by have:=hs3.out;omega))
     have P6:=Lib.hid (HP.out.fr f6 (λi e=>by have:=hs3.out;omega))
     clear q2 q3 HO HP f6 hR hF H5
     go_upto_region 11 with fail
     refine aej r3 λW7 r7 f7=>?_
     have aE0:=hs3.out
     replace r2:=f7.keeps (λe=>ne e) r2
     have R7:=R6.fr f7 (λi e=>by omega)
     have F7:Fr (λk=>k=b) w W7:=F6.trans f7 (λi hi e=>by omega)
     have O7:=Lib.hid (O6.out.fr f7 (λi e=>by omega))
     have P7:=Lib.hid (P6.out.fr f7 (λi e=>by omega))
     replace r7:W7.heap[g3]? = some (.cells #[.int .u32 (v0:Int),vi,vo,.int .u32 (v5:Int)] 59 (0,0)):=r7
     clear f7 r3 F6 O6 P6 aE0
     obtain⟨ai,ci,rfl,hTi⟩:=O7.out.is
     obtain⟨ao,co,rfl,hTo⟩:=P7.out.is
     go_wp2_with fail
     obtain⟨WE,hWE⟩:∃WE,WE=((((W7.setCell ⟨g2,0,none⟩ (.int .u32 (v0:Int))).setCell ⟨g2,1,none⟩ (.slice ai k ci)).setCell ⟨g2,2,none⟩ (.slice ao j co)).setCell ⟨g2,3,none⟩ (.int .u32 (v5:Int))):=⟨_,rfl⟩
     have rE:WE.heap[g2]? = some (.cells #[.int .u32 (v0:Int),.slice ai k ci,.slice ao j co,.int .u32 (v5:Int)] 59 (0,0)):=by
      rw[hWE,gq,gq,gq,gq,r2]
      rfl
     have fE:Fr (λk=>k=g2) W7 WE:=by
      rw[hWE]
      exact((((Fr.refl (λk=>k=g2) W7).setCell (p:=⟨g2,0,none⟩) (λ_=>rfl) _).setCell (p:=⟨g2,1,none⟩) (λ_=>rfl) _).setCell (p:=⟨g2,2,none⟩) (λ_=>rfl) _).setCell (p:=⟨g2,3,none⟩) (λ_=>rfl) _
     rw[←hWE]
     have aE0:=hs3.out
     refine bodyPost_ret (results_cell_row rfl _ _ g2 _ _ _ _ rfl rE Tryz.underlying59 rfl zz79) rfl ?_
     refine⟨⟨v0,ai,ci,l,ao,co,l2,v5⟩,.slice ai l.length ci,.slice ao l2.length co,by rw[TT.cells,hlen,hlen2],?_,x0,x4,rfl,rfl,(O7.out.fr fE (λi e=>by omega)).mono aPl,(P7.out.fr fE (λi e=>by omega)).mono aPl,R7.fr fE (λi e=>by omega),F7.trans fE (λi hi e=>by omega)⟩
     rw[TT.m,hl0.out,hl2.out]
def prs(b:List UInt8):Option MT:=if szT b.length=true∧(rTx (some b)).2=some []∧(rTx (some b)).1.few=false∧(rTx (some b)).1.over=false then some (rTx (some b)).1 else none
structure alv (B:Nat) (w:World) (t:TT):Prop where
 ok:t.Ok w
 ia:∀k,ql t.ia=some k→B≤k
 oa:∀k,ql t.oa=some k→B≤k
 ins:∀x∈t.ins,x.m.ky ≠ []→∀k,ql x.a=some k→B≤k
 outs:∀x∈t.outs,x.m.lk ≠ []→∀k,ql x.a=some k→B≤k
theorem alv.fr{B:Nat}{S:Nat→Prop}{w w':World}{t:TT}(h:alv B w t)(f:Fr S w w')(hs:∀k,S k→k<B):alv B w' t:=by
 obtain⟨⟨h1,h2,⟨hi,hi2⟩,⟨ho,ho2⟩⟩,a1,a2,a3,a4⟩:=h
 refine⟨⟨h1,h2,⟨hi.fr f λk hk e=>?_,λx hx=>⟨(hi2 x hx).m,(hi2 x hx).b.frx f λhn k hk e=>?_⟩⟩,⟨ho.fr f λk hk e=>?_,λx hx=>⟨(ho2 x hx).m,(ho2 x hx).b.frx f λhn k hk e=>?_⟩⟩⟩,a1,a2,a3,a4⟩
 ·have:=a1 k hk;have:=hs k e;omega
 ·have:=a3 x hx hn k hk;have:=hs k e;omega
 ·have:=a2 k hk;have:=hs k e;omega
 ·have:=a4 x hx hn k hk;have:=hs k e;omega
theorem alv.mono{B B':Nat}{w:World}{t:TT}(h:alv B w t)(hb:B'≤B):alv B' w t:=⟨h.ok,λk hk=>Nat.le_trans hb (h.ia k hk),λk hk=>Nat.le_trans hb (h.oa k hk),λx hx hn k hk=>Nat.le_trans hb (h.ins x hx hn k hk),λx hx hn k hk=>Nat.le_trans hb (h.outs x hx hn k hk)⟩
def TT.zero:TT:=⟨0,none,0,[],none,0,[],0⟩
theorem alv.zero(B:Nat)(w:World):alv B w TT.zero:=⟨⟨by decide,by decide,TIs.nothing w,TOs.nothing w⟩,λk e=>(by cases e),λk e=>(by cases e),λx e=>(by cases e),λx e=>(by cases e)⟩
def ajj(bs:List UInt8)(w:World)(e:Ending)(w':World):Prop :=
 ∃(t:TT) (E:Int),e = .returned (.tuple #[.agg t.cells,.int .i64 E])∧((prs bs=some t.m∧E=0)∨(prs bs=none∧E=2∧t=TT.zero))∧alv w.heap.size w' t∧Fr F0 w w'
theorem ajj.no{bs:List UInt8}{w w':World}(h:prs bs=none)(f:Fr F0 w w'):ajj bs w (.returned (.tuple #[.agg #[.int .u32 0,.slice none 0 0,.slice none 0 0,.int .u32 0],.int .i64 2])) w' :=
 ⟨TT.zero,2,rfl,.inr ⟨h,rfl,rfl⟩,alv.zero _ _,f⟩
theorem agu{w:World}{g:Nat}{a b c d a' b' c' d':Value}{t:TypeId}(h:w.heap[g]? = some (.cells #[a,b,c,d] t (0,0))):
  ((((w.setCell ⟨g,0,none⟩ a').setCell ⟨g,1,none⟩ b').setCell ⟨g,2,none⟩ c').setCell ⟨g,3,none⟩ d').heap[g]? = some (.cells #[a',b',c',d'] t (0,0)):=by
 rw[gq,gq,gq,gq,h]
 rfl
theorem Fr.agu{w w0:World}{g:Nat}{a' b' c' d':Value}(h:Fr F0 w0 w)(hg:w0.heap.size≤g):
  Fr F0 w0 ((((w.setCell ⟨g,0,none⟩ a').setCell ⟨g,1,none⟩ b').setCell ⟨g,2,none⟩ c').setCell ⟨g,3,none⟩ d'):=by
 have k:∀{x:World} (i:Nat) (v:Value),Fr F0 w0 x→Fr F0 w0 (x.setCell ⟨g,i,none⟩ v):=λi v f=>f.setCell (p:=⟨g,i,none⟩) (λe=>by simp only at e;omega) v
 exact k _ _ (k _ _ (k _ _ (k _ _ h)))
theorem Fr.aza{w:World}{g:Nat}{a' b' c' d':Value}:Fr (λk=>k=g) w ((((w.setCell ⟨g,0,none⟩ a').setCell ⟨g,1,none⟩ b').setCell ⟨g,2,none⟩ c').setCell ⟨g,3,none⟩ d') :=
 ((((Fr.refl (λk=>k=g) w).setCell (p:=⟨g,0,none⟩) (λ_=>rfl) _).setCell (p:=⟨g,1,none⟩) (λ_=>rfl) _).setCell (p:=⟨g,2,none⟩) (λ_=>rfl) _).setCell (p:=⟨g,3,none⟩) (λ_=>rfl) _
theorem aL2(st:Option (List UInt8)):lft (rTx st).2≤lft st:=by
 have h0:=af2 st
 obtain⟨s0,hs0⟩:∃s,s=(rW st).2:=⟨_,rfl⟩
 obtain⟨n,hn⟩:∃n,n=(rc 64 s0).1:=⟨_,rfl⟩
 obtain⟨s1,hs1⟩:∃s,s=(rc 64 s0).2:=⟨_,rfl⟩
 obtain⟨s2,hs2⟩:∃s,s=(uh rIn n s1).2:=⟨_,rfl⟩
 obtain⟨m,hm⟩:∃n,n=(rc 64 s2).1:=⟨_,rfl⟩
 obtain⟨s3,hs3⟩:∃s,s=(rc 64 s2).2:=⟨_,rfl⟩
 obtain⟨s4,hs4⟩:∃s,s=(uh afc m s3).2:=⟨_,rfl⟩
 have eT:(rTx st).2=(rW s4).2:=by rw[rTx,hs4,hm,hs3,hs2,hn,hs1,hs0]
 rw[←hs0]at h0
 have h1:=aib 64 s0
 rw[←hs1]at h1
 have h2:=ab6 rIn aAl n s1
 rw[←hs2]at h2
 have h3:=aib 64 s2
 rw[←hs3]at h3
 have h4:=ab6 afc avb m s3
 rw[←hs4]at h4
 have h5:=af2 s4
 rw[eT]
 omega
theorem aw4(a:Option Addr)(n c:Nat)(bs:List UInt8)(w:World)(h:Bs w a c bs)(hn:n=bs.length)(hl:bs.length≤100000):Calls Tryz.prog 23 #[.slice a n c] w (ajj bs w):=by
 have HZ:=Lib.hid (λw'=>akh n w')
 have HR:=Lib.hid (λw' (f:Fr F0 w w')=>aoh a n c bs w' (Bs.fr7 h f) hn aPl)
 have hlf:lft (some bs)≤1000000:=by show bs.length≤_;omega
 have HD:=Lib.hid (λb w' (r:RdI w'.heap.size b (some bs) w')=>aBs b (some bs) w' r hlf)
 have aKz:lft (rTx (some bs)).2≤1000000:=Nat.le_trans (aL2 _) hlf
 obtain⟨M,hM⟩:∃M,M=(rTx (some bs)).1:=⟨_,rfl⟩
 obtain⟨st,hst⟩:∃st,st=(rTx (some bs)).2:=⟨_,rfl⟩
 rw[←hM,←hst]at HD
 rw[←hst]at aKz
 have hP:prs bs=if szT n=true∧st=some []∧M.few=false∧M.over=false then some M else none:=by unfold prs;rw[←hM,←hst,←hn]
 clear hM hst h hlf
 replace hn:=Lib.hid hn
 replace hl:=Lib.hid hl
 cases q1:szT n with
 |false =>
  have hp:prs bs=none:=by rw[hP,q1];exact if_neg (by simp)
  rw[q1]at HZ
  clear HR HD hP
  go_enter Tryz.func23,Tryz.ntmps23
  go_upto_region 1 with fail
  refine lu λW1 N1=>?_
  have r2:=N1.new
  have F:=N1.fr
  obtain⟨g2,hg2⟩:∃g,g=w.heap.size:=⟨_,rfl⟩
  rw[←hg2]at r2 ⊢
  replace hg2:=Lib.hid (Nat.le_of_eq hg2.symm)
  clear N1
  go_wp2_with fail
  (with_reducible refine(HZ.out _).mono ?_);rintro e w2 ⟨rfl,rfl⟩
  go_wp2_with fail
  refine bodyPost_ret (cu rfl _ _ g2 _ _ _ _ rfl (agu r2) Tryz.underlying59 rfl zz79) rfl ?_
  exact ajj.no hp (F.agu hg2.out)
 |true =>
 rw[q1]at HZ hP
 go_enter Tryz.func23,Tryz.ntmps23
 go_upto_region 1 with fail
 refine lu λW1 N1=>?_
 have r2:=N1.new
 have F:=N1.fr
 obtain⟨g2,hg2⟩:∃g,g=w.heap.size:=⟨_,rfl⟩
 rw[←hg2]at r2 ⊢
 replace hg2:=Lib.hid (Nat.le_of_eq hg2.symm)
 clear N1
 go_wp2_with fail
 (with_reducible refine(HZ.out _).mono ?_);rintro e w2 ⟨rfl,rfl⟩
 clear HZ
 go_wp2_with fail
 (with_reducible refine(HR.out _ F).mono ?_);rintro e w3 hr
 obtain⟨b,rfl,R3,f3,hb3⟩:=RdI.of hr
 have n2b:g2≠b:=by have:=(Array.getElem?_eq_some_iff.1 r2).1;omega
 replace r2:=f3.keeps (λf=>f) r2
 have hbl:=Lib.hid (show w.heap.size≤b from Nat.le_trans F.size hb3)
 replace F:=F.trans' f3
 clear hr f3 HR hb3
 go_wp2_with fail
 have sz3:=Lib.hid F.size
 have g23:=Lib.hid (show g2<w3.heap.size from(Array.getElem?_eq_some_iff.1 r2).1)
 (with_reducible refine(HD.out _ _ R3).mono ?_);rintro e w4 ⟨t,vi,vo,rfl,hm,hv,ht,rfl,rfl,O4,P4,R4,f4⟩
 replace r2:=f4.keeps (λe=>n2b e) r2
 replace F:Fr F0 w w4:=F.trans f4 (λi hi e=>by have:=hbl.out;omega)
 have T4:alv w3.heap.size w4 t:=⟨⟨hv,ht,(by obtain⟨_,_,e,h⟩:=O4.is;cases e;exact h),(by obtain⟨_,_,e,h⟩:=P4.is;cases e;exact h)⟩,(λk hk=>O4.blk k ak9),(λk hk=>P4.blk k ak9),(λx hx hn k hk=>(O4.new x hx hn k hk).1),(λx hx hn k hk=>(P4.new x hx hn k hk).1)⟩
 have HE:=Lib.hid (λW (f:Fr F0 w4 W)=>(R4.fr0 f).ended (st:=st) aKz)
 clear O4 P4 f4 R4 R3 HD
 have HF:=Lib.hid (λW (f:Fr F0 w4 W)=>au0 t W (T4.ok.fr f))
 have HO:=Lib.hid (λW (f:Fr F0 w4 W)=>apg t W (T4.ok.fr f))
 rw[hm]at HF HO
 have HT:=Lib.hid T4
 have HM:=Lib.hid hm
 have hlow:=Lib.hid (show g2<w4.heap.size from(Array.getElem?_eq_some_iff.1 r2).1)
 clear hv ht T4 hm
 obtain⟨v0,a1,n1,c1,a2,n2,c2,v3,hc⟩:∃(v0:Int) (a1:Option Addr) (n1 c1:Nat) (a2:Option Addr) (n2 c2:Nat) (v3:Int),t.cells=#[.int .u32 v0,.slice a1 n1 c1,.slice a2 n2 c2,.int .u32 v3]:=⟨_,_,_,_,_,_,_,_,rfl⟩
 rw[hc]at HF HO ⊢
 replace hc:=Lib.hid hc
 clear aKz
 cases q2:decide (st=some [])with
 |false =>
  have hp:prs bs=none:=by rw[hP];exact if_neg (λh=>by rw[decide_eq_false_iff_not]at q2;exact q2 h.2.1)
  rw[q2]at HE
  clear HF HO hP q2
  go_upto_region 5 with fail
  refine lu λW5 N5=>?_
  have r5:=N5.new
  replace r2:=N5.old r2
  replace F:=F.trans' N5.fr
  have F5:=N5.fr
  clear N5
  go_wp2_with fail
  (with_reducible refine(HE.out _ F5).mono ?_);rintro e w6 ⟨rfl,rfl⟩
  go_wp2_with fail
  refine bodyPost_ret (cu rfl _ _ g2 _ _ _ _ rfl (agu r2) Tryz.underlying59 rfl zz79) rfl ?_
  exact ajj.no hp (F.agu hg2.out)
 |true =>
 rw[q2]at HE
 rw[decide_eq_true_iff]at q2
 cases q3:M.few with
 |true =>
  have hp:prs bs=none:=by rw[hP];exact if_neg (λh=>by rw[q3]at h;cases h.2.2.1)
  rw[q3]at HF
  clear HO hP
  go_upto_region 5 with fail
  refine lu λW5 N5=>?_
  have r5:=N5.new
  replace r2:=N5.old r2
  replace F:=F.trans' N5.fr
  have F5:=N5.fr
  clear N5
  go_wp2_with fail
  (with_reducible refine(HE.out _ F5).mono ?_);rintro e w6 ⟨rfl,rfl⟩
  go_wp2_with fail
  (with_reducible refine(HF.out _ F5).mono ?_);rintro e w7 ⟨rfl,f7⟩
  replace r2:=au f7 r2
  replace F:=F.trans' f7
  go_wp2_with fail
  refine bodyPost_ret (cu rfl _ _ g2 _ _ _ _ rfl (agu r2) Tryz.underlying59 rfl zz79) rfl ?_
  exact ajj.no hp (F.agu hg2.out)
 |false =>
 rw[q3]at HF
 cases q4:M.over with
 |true =>
  have hp:prs bs=none:=by rw[hP];exact if_neg (λh=>by rw[q4]at h;cases h.2.2.2)
  rw[q4]at HO
  clear hP
  go_upto_region 5 with fail
  refine lu λW5 N5=>?_
  have r5:=N5.new
  replace r2:=N5.old r2
  replace F:=F.trans' N5.fr
  have F5:=N5.fr
  clear N5
  go_wp2_with fail
  (with_reducible refine(HE.out _ F5).mono ?_);rintro e w6 ⟨rfl,rfl⟩
  go_wp2_with fail
  (with_reducible refine(HF.out _ F5).mono ?_);rintro e w7 ⟨rfl,f7⟩
  replace r2:=au f7 r2
  replace r5:=au f7 r5
  replace F:=F.trans' f7
  replace F5:=F5.trans' f7
  go_wp2_with fail
  (with_reducible refine(HO.out _ F5).mono ?_);rintro e w8 ⟨rfl,f8⟩
  replace r2:=au f8 r2
  replace F:=F.trans' f8
  go_wp2_with fail
  refine bodyPost_ret (cu rfl _ _ g2 _ _ _ _ rfl (agu r2) Tryz.underlying59 rfl zz79) rfl ?_
  exact ajj.no hp (F.agu hg2.out)
 |false =>
  have hp:prs bs=some M:=by rw[hP];exact if_pos ⟨trivial,q2,q3,q4⟩
  rw[q4]at HO
  clear hP
  go_upto_region 5 with fail
  refine lu λW5 N5=>?_
  have r5:=N5.new
  replace r2:=N5.old r2
  replace F:=F.trans' N5.fr
  have F5:=N5.fr
  clear N5
  go_wp2_with fail
  (with_reducible refine(HE.out _ F5).mono ?_);rintro e w6 ⟨rfl,rfl⟩
  go_wp2_with fail
  (with_reducible refine(HF.out _ F5).mono ?_);rintro e w7 ⟨rfl,f7⟩
  replace r2:=au f7 r2
  replace r5:=au f7 r5
  replace F:=F.trans' f7
  replace F5:=F5.trans' f7
  clear f7
  go_wp2_with fail
  (with_reducible refine(HO.out _ F5).mono ?_);rintro e w8 ⟨rfl,f8⟩
  replace r2:=au f8 r2
  replace r5:=au f8 r5
  replace F:=F.trans' f8
  replace F5:=F5.trans' f8
  clear f8
  go_wp2_with fail
  refine bodyPost_ret (cu rfl _ _ g2 _ _ _ _ rfl (agu r2) Tryz.underlying59 rfl zz79) rfl ?_
  refine⟨t,0,by rw[hc.out];rfl,.inl ⟨by rw[HM.out];exact hp,rfl⟩,?_,F.agu hg2.out⟩
  exact(HT.out.fr (F5.of0.trans' Fr.aza) (λk e=>by have:=g23.out;omega)).mono sz3.out
theorem avp:∀(l:List UInt8),le l.length (ofLE l)=l
 |[]=>rfl
 |c::r=>by
  have h:=avp r
  have hc:=c.toNat_lt
  have e:ofLE (c::r)=ofLE r*256+c.toNat:=by show c.toNat+256*ofLE r=_;omega
  rw[List.length_cons,e]
  show UInt8.ofNat ((ofLE r*256+c.toNat) % 256)::le r.length ((ofLE r*256+c.toNat)/256)=c::r
  rw[show(ofLE r*256+c.toNat)/256=ofLE r by omega,h,show(ofLE r*256+c.toNat) % 256=c.toNat by omega,UInt8.ofNat_toNat]
theorem aE9{l:List UInt8}{n:Nat}(h:l.length=n):le n (ofLE l)=l:=by rw[←h];exact avp l
theorem alx{n:Nat}{b r:List UInt8}(h:(tk (n:Int) (some b)).2=some r):(tk (n:Int) (some b)).1.length=n∧b=(tk (n:Int) (some b)).1++r:=by
 by_cases hn:n≤b.length
 ·rw[aP6 hn]at h ⊢
  cases h
  exact⟨by simp;omega,(List.take_append_drop n b).symm⟩
 ·rw[auy n b aPl]at h
  cases h
theorem ar9(b:List UInt8)(h:(rrc b).2.2=true):b=cnt (rrc b).1++b.drop (rrc b).2.1:=by
 cases b with
 |nil=>cases h
 |cons c r =>
  have hc:=c.toNat_lt
  by_cases h1:c.toNat<253
  ·have e:rrc (c::r)=(c.toNat,1,csz c.toNat==1):=by simp[rrc,h1]
   rw[e]
   have:cnt c.toNat = [c]:=by
    unfold cnt
    rw[if_pos aPl]
    show [UInt8.ofNat (c.toNat % 256)] = [c]
    rw[Nat.mod_eq_of_lt hc,UInt8.ofNat_toNat]
   rw[this]
   rfl
  ·obtain⟨s,m,hm,hs⟩:∃s m:Nat,s=m+1∧((c.toNat=253∧s=3∧m=2)∨(c.toNat=254∧s=5∧m=4)∨(c.toNat=255∧s=9∧m=8)):=by
    rcases(show c.toNat=253∨c.toNat=254∨c.toNat=255 from by omega)with h|h|h
    ·exact⟨3,2,rfl,.inl ⟨h,rfl,rfl⟩⟩
    ·exact⟨5,4,rfl,.inr (.inl ⟨h,rfl,rfl⟩)⟩
    ·exact⟨9,8,rfl,.inr (.inr ⟨h,rfl,rfl⟩)⟩
   have e2:rrc (c::r)=if r.length+1<s then(0,0,false)else(ofLE (r.take m),s,csz (ofLE (r.take m))==s):=by
    rcases hs with⟨h,rfl,rfl⟩|⟨h,rfl,rfl⟩|⟨h,rfl,rfl⟩<;>simp[rrc,h]
   rw[e2]at h ⊢
   by_cases hl:r.length+1<s
   ·rw[if_pos hl]at h
    cases h
   ·rw[if_neg hl]at h ⊢
    dsimp only at h ⊢
    have hq:csz (ofLE (r.take m))=s:=by simpa using h
    have htl:(r.take m).length=m:=by simp;omega
    have hle:=aE9 htl
    have hlt:=adv (r.take m)
    rw[htl]at hlt
    obtain⟨x,hx⟩:∃x,x=ofLE (r.take m):=⟨_,rfl⟩
    rw[←hx]at hq hle hlt ⊢
    have hcn:cnt x=c::r.take m:=by
     have hc8:∀v:Nat,c.toNat=v→c=UInt8.ofNat v:=λv h=>by rw[←h,UInt8.ofNat_toNat]
     unfold csz at hq
     unfold cnt
     rcases hs with⟨hcv,rfl,rfl⟩|⟨hcv,rfl,rfl⟩|⟨hcv,rfl,rfl⟩
     ·have hc':=hc8 _ hcv
      have h2:¬x<253:=λe=>by rw[if_pos e]at hq;omega
      rw[if_neg h2,if_pos aPl,hle,hc']
      rfl
     ·have hc':=hc8 _ hcv
      have h2:¬x<253:=λe=>by rw[if_pos e]at hq;omega
      have h3:¬x<65536:=λe=>by rw[if_neg h2,if_pos e]at hq;omega
      rw[if_neg h2,if_neg h3,if_pos aPl,hle,hc']
      rfl
     ·have hc':=hc8 _ hcv
      have h2:¬x<253:=λe=>by rw[if_pos e]at hq;omega
      have h3:¬x<65536:=λe=>by rw[if_neg h2,if_pos e]at hq;omega
      have h4:¬x<4294967296:=λe=>by rw[if_neg h2,if_neg h3,if_pos e]at hq;omega
      rw[if_neg h2,if_neg h3,if_neg h4,hle,hc']
      rfl
    rw[hcn,hm]
    simp
theorem aAa(n:Int):tk n none=([],none):=rfl
theorem ab2:(rW none).2=none:=rfl
theorem adu(m:Nat):rc m none=(0,none):=by rw[asb];rfl
theorem aer(m:Int):(aa7 m none).2=none:=by
 unfold aa7
 split
 ·rfl
 ·rw[adu];rfl
theorem an2:(rIn none).2=none:=by
 show(rW (aa7 520 (rW (tk 32 none).2).2).2).2=none
 rw[aAa,ab2,aer,ab2]
theorem aes:(afc none).2=none:=by
 show(aa7 520 (tk 8 none).2).2=none
 rw[aAa,aer]
theorem zh{α:Type}(f:Option (List UInt8)→α×Option (List UInt8))(hf:(f none).2=none):∀n,(uh f n none).2=none
 |0=>rfl
 |n+1=>by rw[aav];dsimp only;rw[zh f hf n,hf]
theorem al0{b r:List UInt8}(h:(rW (some b)).2=some r):b=le 4 (rW (some b)).1++r:=by
 have h1:=alx (n:=4) h
 conv=>lhs;rw[h1.2]
 congr 1
 exact(aE9 h1.1).symm
theorem ao0{m:Nat}{b r:List UInt8}(h:(rc m (some b)).2=some r):b=cnt (rc m (some b)).1++r∧(rc m (some b)).1≤m:=by
 rw[asb]at h ⊢
 unfold aJb at h ⊢
 dsimp only at h ⊢
 split at h
 ·rename_i hq
  rw[if_pos hq]
  cases h
  exact⟨ar9 b hq.1,hq.2⟩
 ·cases h
theorem aAk(st:Option (List UInt8)):aa7 520 st=tk ((rc 520 st).1:Int) (rc 520 st).2:=by
 unfold aa7
 rw[if_neg aPl]
 rfl
theorem au9{b r:List UInt8}(h:(aa7 520 (some b)).2=some r):b=ctd (aa7 520 (some b)).1++r∧(aa7 520 (some b)).1.length≤520:=by
 rw[aAk]at h ⊢
 obtain⟨n,hn⟩:∃n,n=(rc 520 (some b)).1:=⟨_,rfl⟩
 obtain⟨s,hs⟩:∃s,s=(rc 520 (some b)).2:=⟨_,rfl⟩
 rw[←hn,←hs]at h ⊢
 cases s with
 |none=>cases h
 |some r1 =>
  have h1:=ao0 hs.symm
  rw[←hn]at h1
  have h2:=alx h
  refine⟨?_,by omega⟩
  rw[ctd,h2.1,List.append_assoc,←h2.2]
  exact h1.1
theorem aL4{b r:List UInt8}(h:(rIn (some b)).2=some r):b=(rIn (some b)).1.bytes++r∧(rIn (some b)).1.Ok∧(rIn (some b)).1.ky.length≤520:=by
 have e:rIn (some b)=(⟨ak8 (tk 32 (some b)).1,(rW (tk 32 (some b)).2).1,(aa7 520 (rW (tk 32 (some b)).2).2).1,(rW (aa7 520 (rW (tk 32 (some b)).2).2).2).1⟩,(rW (aa7 520 (rW (tk 32 (some b)).2).2).2).2):=rfl
 rw[e]at h ⊢
 dsimp only at h ⊢
 have x4:=acg (tk 32 (some b)).2
 replace x4:(rW (tk 32 (some b)).2).1<4294967296:=x4
 cases h1:(tk 32 (some b)).2 with
 |none=>rw[h1,ab2,aer,ab2]at h;cases h
 |some b1 =>
 have i1:=alx (n:=32) h1
 rw[h1]at h x4
 cases h2:(rW (some b1)).2 with
 |none=>rw[h2,aer,ab2]at h;cases h
 |some b2 =>
 have i2:=al0 h2
 rw[h2]at h
 cases h3:(aa7 520 (some b2)).2 with
 |none=>rw[h3,ab2]at h;cases h
 |some b3 =>
 have i3:=au9 h3
 have x5:=acg (some b3)
 replace x5:(rW (some b3)).1<4294967296:=x5
 rw[h3]at h
 have i4:=al0 h
 have l32:(tk 32 (some b)).1.length=32:=i1.1
 have ef:ak8 (tk 32 (some b)).1=(tk 32 (some b)).1:=if_pos l32
 rw[ef]
 refine⟨?_,⟨l32,x4,x5⟩,i3.2⟩
 dsimp only[MI.bytes]
 rw[List.append_assoc,List.append_assoc,List.append_assoc,←i4,←i3.1,←i2]
 exact i1.2
theorem aGj{b r:List UInt8}(h:(afc (some b)).2=some r):b=(afc (some b)).1.bytes++r∧(afc (some b)).1.Ok∧(afc (some b)).1.lk.length≤520:=by
 have e:afc (some b)=(⟨ofLE (tk 8 (some b)).1,(aa7 520 (tk 8 (some b)).2).1⟩,(aa7 520 (tk 8 (some b)).2).2):=rfl
 rw[e]at h ⊢
 dsimp only at h ⊢
 cases h1:(tk 8 (some b)).2 with
 |none=>rw[h1,aer]at h;cases h
 |some b1 =>
 have i1:=alx (n:=8) h1
 rw[h1]at h
 have i3:=au9 h
 refine⟨?_,⟨aJo _⟩,i3.2⟩
 dsimp only[MO.bytes]
 have l8:(tk 8 (some b)).1.length=8:=i1.1
 rw[aE9 l8,List.append_assoc,←i3.1]
 exact i1.2
theorem ahd{α:Type}(f:Option (List UInt8)→α×Option (List UInt8))(by':α→List UInt8)(Q:α→Prop)(hf:(f none).2=none)(hi:∀b r,(f (some b)).2=some r→b=by' (f (some b)).1++r∧Q (f (some b)).1):
  ∀(n:Nat) (b r:List UInt8),(uh f n (some b)).2=some r→b=(uh f n (some b)).1.flatMap by'++r∧∀x∈(uh f n (some b)).1,Q x
 |0,b,r,h=>by
  cases h
  exact⟨rfl,λx hx=>by cases hx⟩
 |n+1,b,r,h=>by
  rw[aav]at h ⊢
  dsimp only at h ⊢
  cases h1:(uh f n (some b)).2 with
  |none=>rw[h1,hf]at h;cases h
  |some b1 =>
   have i1:=ahd f by' Q hf hi n b b1 h1
   rw[h1]at h
   have i2:=hi b1 r h
   refine⟨?_,λx hx=>?_⟩
   ·rw[List.flatMap_append,List.append_assoc]
    conv=>lhs;rw[i1.1]
    congr 1
    conv=>lhs;rw[i2.1]
    simp
   ·rw[List.mem_append,List.mem_singleton]at hx
    rcases hx with hx|rfl
    ·exact i1.2 x hx
    ·exact i2.2
structure MT.Fit (t:MT):Prop where
 ok:t.Ok
 ins:t.ins.length≤64
 outs:t.outs.length≤64
 ky:∀x∈t.ins,x.ky.length≤520
 lk:∀x∈t.outs,x.lk.length≤520
theorem aL3{b r:List UInt8}(h:(rTx (some b)).2=some r):b=(rTx (some b)).1.bytes++r∧(rTx (some b)).1.Fit:=by
 obtain⟨v0,hv0⟩:∃v,v=(rW (some b)).1:=⟨_,rfl⟩
 obtain⟨s0,hs0⟩:∃s,s=(rW (some b)).2:=⟨_,rfl⟩
 obtain⟨n,hn⟩:∃n,n=(rc 64 s0).1:=⟨_,rfl⟩
 obtain⟨s1,hs1⟩:∃s,s=(rc 64 s0).2:=⟨_,rfl⟩
 obtain⟨s2,hs2⟩:∃s,s=(uh rIn n s1).2:=⟨_,rfl⟩
 obtain⟨m,hm⟩:∃n,n=(rc 64 s2).1:=⟨_,rfl⟩
 obtain⟨s3,hs3⟩:∃s,s=(rc 64 s2).2:=⟨_,rfl⟩
 obtain⟨s4,hs4⟩:∃s,s=(uh afc m s3).2:=⟨_,rfl⟩
 have eT:rTx (some b)=(⟨v0,(uh rIn n s1).1,(uh afc m s3).1,(rW s4).1⟩,(rW s4).2):=by rw[rTx,hv0,hs4,hm,hs3,hs2,hn,hs1,hs0]
 rw[eT]at h ⊢
 dsimp only at h ⊢
 have x0:=acg (some b)
 replace x0:(rW (some b)).1<4294967296:=x0
 have x4:=acg s4
 replace x4:(rW s4).1<4294967296:=x4
 have ln:=aar rIn n s1
 have lm:=aar afc m s3
 rw[←hv0]at x0
 cases s0 with
 |none=>rw[adu]at hs1;subst hs1;rw[zh rIn an2]at hs2;subst hs2;rw[adu]at hs3;subst hs3;rw[zh afc aes]at hs4;subst hs4;cases h
 |some b0 =>
 have i0:=al0 hs0.symm
 rw[←hv0]at i0
 cases s1 with
 |none=>rw[zh rIn an2]at hs2;subst hs2;rw[adu]at hs3;subst hs3;rw[zh afc aes]at hs4;subst hs4;cases h
 |some b1 =>
 have i1:=ao0 hs1.symm
 rw[←hn]at i1
 cases s2 with
 |none=>rw[adu]at hs3;subst hs3;rw[zh afc aes]at hs4;subst hs4;cases h
 |some b2 =>
 have i2:=ahd rIn MI.bytes (λx=>x.Ok∧x.ky.length≤520) an2 (λb r h=>aL4 h) n b1 b2 hs2.symm
 cases s3 with
 |none=>rw[zh afc aes]at hs4;subst hs4;cases h
 |some b3 =>
 have i3:=ao0 hs3.symm
 rw[←hm]at i3
 cases s4 with
 |none=>cases h
 |some b4 =>
 have i4:=ahd afc MO.bytes (λx=>x.Ok∧x.lk.length≤520) aes (λb r h=>aGj h) m b3 b4 hs4.symm
 have i5:=al0 h
 refine⟨?_,⟨x0,x4,λx hx=>(i2.2 x hx).1,λx hx=>(i4.2 x hx).1⟩,(by show(uh rIn n (some b1)).1.length≤64;omega),(by show(uh afc m (some b3)).1.length≤64;omega),λx hx=>(i2.2 x hx).2,λx hx=>(i4.2 x hx).2⟩
 dsimp only[MT.bytes]
 rw[ln,lm]
 simp only[List.append_assoc]
 rw[←i5,←i4.1,←i3.1,←i2.1,←i1.1]
 exact i0
theorem awn(x:Nat)(r:List UInt8)(hx:x<4294967296):rW (some (le 4 x++r))=(x,some r):=by
 have h:=aly (le 4 x) r
 rw[jy]at h
 have h':tk 4 (some (le 4 x++r))=(le 4 x,some r):=h
 rw[rW,h',ase,Nat.mod_eq_of_lt aPl]
theorem aAj(l r:List UInt8)(hl:l.length≤520):aa7 520 (some (ctd l++r))=(l,some r):=by
 rw[aAk,ctd,List.append_assoc,ao1 _ _ _ aPl hl]
 exact aly l r
theorem aB6(x:MI)(r:List UInt8)(h:x.Ok∧x.ky.length≤520):rIn (some (x.bytes++r))=(x,some r):=by
 obtain⟨⟨h1,h2,h3⟩,h4⟩:=h
 obtain⟨fr,ix,ky,sq⟩:=x
 simp only[MI.bytes,List.append_assoc]at *
 have e0:=aly fr (le 4 ix++(ctd ky++(le 4 sq++r)))
 rw[h1]at e0
 have e0':tk 32 (some (fr++(le 4 ix++(ctd ky++(le 4 sq++r)))))=(fr,some (le 4 ix++(ctd ky++(le 4 sq++r)))):=e0
 have ef:ak8 fr=fr:=if_pos h1
 rw[rIn,e0']
 try dsimp only
 rw[awn ix _ h2]
 try dsimp only
 rw[aAj ky _ h4]
 try dsimp only
 rw[awn sq _ h3,ef]
theorem axh(x:MO)(r:List UInt8)(h:x.Ok∧x.lk.length≤520):afc (some (x.bytes++r))=(x,some r):=by
 obtain⟨⟨h1⟩,h4⟩:=h
 obtain⟨py,lk⟩:=x
 simp only[MO.bytes,List.append_assoc]at *
 have e0:=aly (le 8 py) (ctd lk++r)
 rw[jy]at e0
 have e0':tk 8 (some (le 8 py++(ctd lk++r)))=(le 8 py,some (ctd lk++r)):=e0
 rw[afc,e0']
 try dsimp only
 rw[aAj lk _ h4,ase,Nat.mod_eq_of_lt aPl]
theorem ad4{α:Type}(f:Option (List UInt8)→α×Option (List UInt8))(by':α→List UInt8)(Q:α→Prop)(hf:∀x r,Q x→f (some (by' x++r))=(x,some r)):
  ∀(n:Nat) (l:List α) (r:List UInt8),l.length=n→(∀x∈l,Q x)→uh f n (some (l.flatMap by'++r))=(l,some r)
 |0,l,r,h,_=>by
  obtain rfl:l = []:=List.eq_nil_of_length_eq_zero h
  rfl
 |n+1,l,r,h,hq=>by
  rcases List.eq_nil_or_concat l with rfl|⟨l',x,rfl⟩
  ·cases h
  ·rw[List.concat_eq_append]at *
   rw[aav,List.flatMap_append,List.append_assoc,ad4 f by' Q hf n l' _ (by simpa using h) (λy hy=>hq y (by simp[hy]))]
   try dsimp only
   have : [x].flatMap by'++r=by' x++r:=by simp
   rw[this,hf x r (hq x (by simp))]
theorem aB5(t:MT)(r:List UInt8)(h:t.Fit):rTx (some (t.bytes++r))=(t,some r):=by
 obtain⟨⟨o1,o2,o3,o4⟩,h1,h2,h3,h4⟩:=h
 obtain⟨vr,ins,outs,lt⟩:=t
 simp only[MT.bytes,List.append_assoc]at *
 rw[rTx]
 try dsimp only
 rw[awn vr _ o1]
 try dsimp only
 rw[ao1 _ 64 _ aPl h1]
 try dsimp only
 rw[ad4 rIn MI.bytes (λx=>x.Ok∧x.ky.length≤520) aB6 ins.length ins _ rfl (λx hx=>⟨o3 x hx,h3 x hx⟩)]
 try dsimp only
 rw[ao1 _ 64 _ aPl h2]
 try dsimp only
 rw[ad4 afc MO.bytes (λx=>x.Ok∧x.lk.length≤520) axh outs.length outs _ rfl (λx hx=>⟨o4 x hx,h4 x hx⟩)]
 try dsimp only
 rw[awn lt _ o2]
theorem aL5{b:List UInt8}{t:MT}(h:prs b=some t):b=t.bytes∧t.Fit∧szT b.length=true∧t.few=false∧t.over=false∧rTx (some b)=(t,some []):=by
 unfold prs at h
 split at h
 ·rename_i hq
  cases h
  have h1:=aL3 hq.2.1
  rw[List.append_nil]at h1
  exact⟨h1.1,h1.2,hq.1,hq.2.2.1,hq.2.2.2,by rw[←hq.2.1]⟩
 ·cases h
theorem aB8{t:MT}(h:t.Fit)(h1:szT t.bytes.length=true)(h2:t.few=false)(h3:t.over=false):prs t.bytes=some t:=by
 have e:=aB5 t [] h
 rw[List.append_nil]at e
 unfold prs
 rw[e]
 exact if_pos ⟨h1,rfl,h2,h3⟩
theorem MT.aRx{t:MT}(h:t.Ok)(hl:t.long=false):t.Fit:=by
 rw[MT.long,decide_eq_false_iff_not]at hl
 exact⟨h,Nat.le_of_not_lt λe=>hl (.inl e),Nat.le_of_not_lt λe=>hl (.inr (.inl e)),λx hx=>Nat.le_of_not_lt λe=>hl (.inr (.inr (.inl ⟨x,hx,e⟩))),λx hx=>Nat.le_of_not_lt λe=>hl (.inr (.inr (.inr ⟨x,hx,e⟩)))⟩
theorem aMz{t:MT}(h:t.Ok)(he:t.err=0):prs t.bytes=some t∧t.small=true:=by
 unfold MT.err at he
 split at he
 ·cases he
 ·rename_i h1
  split at he
  ·cases he
  ·rename_i h2
   split at he
   ·cases he
   ·rename_i h3
    split at he
    ·cases he
    ·rename_i h4
     rw[Bool.not_eq_true]at h1 h2 h4
     rw[Bool.not_eq_false]at h3
     exact⟨aB8 (MT.aRx h h2) h3 h1 h4,MT.au3 h2⟩
def MI.row(x:MI):List Value:=x.fr.map B8 ++ [.int .u64 (x.ix:Int),.int .u64 (x.sq:Int),.string (strOf x.ky)]
def MO.row(x:MO):List Value := [.int .u64 (x.py:Int),.string (strOf x.lk)]
structure MIs (w:World) (a:Option Addr) (c:Nat) (l:List MI):Prop where
 sl:Sl w 35 a c l.length (l.flatMap MI.row)
 ok:∀x∈l,x.Ok
structure MOs (w:World) (a:Option Addr) (c:Nat) (l:List MO):Prop where
 sl:Sl w 2 a c l.length (l.flatMap MO.row)
 ok:∀x∈l,x.Ok
structure RT where
 m:MT
 ia:Option Addr
 ic:Nat
 oa:Option Addr
 oc:Nat
structure RT.Ok (w:World) (r:RT):Prop where
 vr:r.m.vr<4294967296
 lt:r.m.lt<4294967296
 ins:MIs w r.ia r.ic r.m.ins
 outs:MOs w r.oa r.oc r.m.outs
theorem aph(bs:List UInt8)(h:(rrc bs).2.2=true):(rrc bs).2.1≤bs.length:=by
 cases bs with
 |nil=>cases h
 |cons c r =>
  simp only[rrc]at h ⊢
  split at h
  ·rename_i h1;rw[if_pos h1];simp
  ·rename_i h1
   rw[if_neg h1]
   split at h
   ·cases h
   ·rename_i h2
    rw[if_neg h2]
    simpa using h2
def filled(F:List UInt8)(j:Nat):List UInt8:=F.take j++wu.drop j
theorem aoo{F:List UInt8}(hF:F = []∨F.length=32)(j:Nat)(hj:j≤F.length):(filled F j).length=32:=by
 have:wu.length=32:=rfl
 rcases hF with rfl|h
 ·simp at hj;subst hj;rfl
 ·simp[filled,this,h];omega
theorem atq{F:List UInt8}(hF:F.length=32)(j:Nat)(hj:j<32):(filled F j).set j (F.getD j 0)=filled F (j+1):=by
 have hz:wu.length=32:=rfl
 have hl:(F.take j).length=j:=by simp;omega
 rw[filled,List.set_append_right _ _ aPl,hl,Nat.sub_self,filled,ada F j aPl,List.append_assoc]
 congr 1
 rw[List.drop_eq_getElem_cons (by omega:j<wu.length)]
 rfl
theorem aya{F:List UInt8}(hF:F = []∨F.length=32):filled F F.length=ak8 F:=by
 rcases hF with rfl|h
 ·rfl
 ·rw[filled,h,List.take_of_length_le aPl,ak8,if_pos h]
  have:wu.drop 32 = []:=rfl
  rw[this,List.append_nil]
end Go.Proofs.YtjlelckefiannaaGreatDoor
