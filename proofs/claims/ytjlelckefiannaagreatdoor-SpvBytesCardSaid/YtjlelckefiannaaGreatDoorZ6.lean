import Derived.Test.YtjlelckefiannaaGreatDoorZ4
import Derived.Test.YtjlelckefiannaaGreatDoorZ5
import Derived.Test.YtjlelckefiannaaGreatDoorZ2
import Derived.WideKeyArr2
import Derived.Below
namespace Go.Proofs.YtjlelckefiannaaGreatDoor
set_option maxRecDepth 100000
set_option linter.unusedVariables false
set_option linter.unusedSimpArgs false
open Go.RowKit
structure MI where
 fr:List UInt8
 ix:Nat
 ky:List UInt8
 sq:Nat
structure MO where
 py:Nat
 lk:List UInt8
structure MT where
 vr:Nat
 ins:List MI
 outs:List MO
 lt:Nat
def MI.bytes(x:MI):List UInt8:=x.fr++(le 4 x.ix++(ctd x.ky++le 4 x.sq))
def MO.bytes(x:MO):List UInt8:=le 8 x.py++ctd x.lk
def MT.bytes(t:MT):List UInt8:=le 4 t.vr++(cnt t.ins.length++(t.ins.flatMap MI.bytes++(cnt t.outs.length++(t.outs.flatMap MO.bytes++le 4 t.lt))))
structure MI.Ok (x:MI):Prop where
 fr:x.fr.length=32
 ix:x.ix<4294967296
 sq:x.sq<4294967296
structure MO.Ok (x:MO):Prop where
 py:x.py<18446744073709551616
structure MT.Ok (t:MT):Prop where
 vr:t.vr<4294967296
 lt:t.lt<4294967296
 ins:∀x∈t.ins,x.Ok
 outs:∀x∈t.outs,x.Ok
def MT.few(t:MT):Bool:=decide (t.ins.length=0∨t.outs.length=0)
def MT.long(t:MT):Bool:=decide (64<t.ins.length∨64<t.outs.length∨(∃x∈t.ins,520<x.ky.length)∨(∃x∈t.outs,520<x.lk.length))
def MT.over(t:MT):Bool:=decide (∃x∈t.outs,4611686018427387904<x.py)
def szT(n:Nat):Bool:=decide (n≤4096∧n≠64)
def MT.err(t:MT):Int:=if t.few then 16 else if t.long then 3 else if szT t.bytes.length=false then 3 else if t.over then 4 else 0
def MT.small(t:MT):Bool:=decide (t.ins.length≤70∧t.outs.length≤70∧(∀x∈t.ins,x.ky.length≤600)∧(∀x∈t.outs,x.lk.length≤600))
structure TIx where
 m:MI
 a:Option Addr
 c:Nat
structure TO where
 m:MO
 a:Option Addr
 c:Nat
def TIx.row(t:TIx):List Value:=t.m.fr.map B8 ++ [.int .u32 (t.m.ix:Int),.slice t.a t.m.ky.length t.c,.int .u32 (t.m.sq:Int)]
def TO.row(t:TO):List Value := [.int .u64 (t.m.py:Int),.slice t.a t.m.lk.length t.c]
structure TIx.Ok (w:World) (t:TIx):Prop where
 m:t.m.Ok
 b:Bs w t.a t.c t.m.ky
structure TO.Ok (w:World) (t:TO):Prop where
 m:t.m.Ok
 b:Bs w t.a t.c t.m.lk
structure TIs (w:World) (a:Option Addr) (c:Nat) (l:List TIx):Prop where
 sl:Sl w 35 a c l.length (l.flatMap TIx.row)
 ok:∀t∈l,t.Ok w
structure TOs (w:World) (a:Option Addr) (c:Nat) (l:List TO):Prop where
 sl:Sl w 2 a c l.length (l.flatMap TO.row)
 ok:∀t∈l,t.Ok w
structure TT where
 vr:Nat
 ia:Option Addr
 ic:Nat
 ins:List TIx
 oa:Option Addr
 oc:Nat
 outs:List TO
 lt:Nat
def TT.m(t:TT):MT:=⟨t.vr,t.ins.map TIx.m,t.outs.map TO.m,t.lt⟩
def TT.cells(t:TT):Array Value:=#[.int .u32 (t.vr:Int),.slice t.ia t.ins.length t.ic,.slice t.oa t.outs.length t.oc,.int .u32 (t.lt:Int)]
structure TT.Ok (w:World) (t:TT):Prop where
 vr:t.vr<4294967296
 lt:t.lt<4294967296
 ins:TIs w t.ia t.ic t.ins
 outs:TOs w t.oa t.oc t.outs
theorem TIx.Ok.fr{w w':World}{t:TIx}(h:t.Ok w)(f:Fr F0 w w'):t.Ok w':=⟨h.m,Bs.fr7 h.b f⟩
theorem TO.Ok.fr{w w':World}{t:TO}(h:t.Ok w)(f:Fr F0 w w'):t.Ok w':=⟨h.m,Bs.fr7 h.b f⟩
theorem Sl.fr7{w w':World}{n c m:Nat}{a:Option Addr}{l:List Value}(h:Sl w n a c m l)(f:Fr F0 w w'):Sl w' n a c m l:=Sl.fr h f λ_ _ f=>f
theorem TIs.fr{w w':World}{a:Option Addr}{c:Nat}{l:List TIx}(h:TIs w a c l)(f:Fr F0 w w'):TIs w' a c l:=⟨h.sl.fr7 f,λt ht=>(h.ok t ht).fr f⟩
theorem TOs.fr{w w':World}{a:Option Addr}{c:Nat}{l:List TO}(h:TOs w a c l)(f:Fr F0 w w'):TOs w' a c l:=⟨h.sl.fr7 f,λt ht=>(h.ok t ht).fr f⟩
theorem TT.Ok.fr{w w':World}{t:TT}(h:t.Ok w)(f:Fr F0 w w'):t.Ok w':=⟨h.vr,h.lt,h.ins.fr f,h.outs.fr f⟩
theorem TIs.most{w:World}{a:Option Addr}{c:Nat}{l:List TIx}(h:TIs w a c l):l.length≤9223372036854775807:=by have h1:=h.sl.room;have h2:=h.sl.most;unfold maxLen at h2;omega
theorem TOs.most{w:World}{a:Option Addr}{c:Nat}{l:List TO}(h:TOs w a c l):l.length≤9223372036854775807:=by have h1:=h.sl.room;have h2:=h.sl.most;unfold maxLen at h2;omega
theorem TIs.nothing(w:World):TIs w none 0 []:=⟨Sl.nothing w 35,λt ht=>by cases ht⟩
theorem TOs.nothing(w:World):TOs w none 0 []:=⟨Sl.nothing w 2,λt ht=>by cases ht⟩
theorem flat_get{α β:Type}(f:α→List β)(n:Nat):∀(l:List α),(∀x∈l,(f x).length=n)→∀(k:Nat) (h:k<l.length) (i:Nat),i<n→(l.flatMap f)[k*n+i]? = (f l[k])[i]?
 |[],_,k,h,i,_=>absurd h (by simp)
 |x::l,hl,0,_,i,hi=>by
  rw[List.flatMap_cons,Nat.zero_mul,Nat.zero_add,List.getElem?_append_left (by rw[hl x (by simp)];exact hi)]
  rfl
 |x::l,hl,k+1,h,i,hi=>by
  have e:=hl x (by simp)
  rw[List.flatMap_cons,List.getElem?_append_right (by rw[e,Nat.succ_mul];omega),e,show(k+1)*n+i-n=k*n+i by rw[Nat.succ_mul];omega,
   flat_get f n l (λy hy=>hl y (by simp[hy])) k (by simpa using h) i hi]
  rfl
theorem TIx.yh{t:TIx}(h:t.m.Ok):t.row.length=35:=by simp[TIx.row,h.fr]
theorem TO.yh(t:TO):t.row.length=2:=rfl
theorem TIs.get{w:World}{a:Option Addr}{c:Nat}{l:List TIx}(h:TIs w a c l)(k:Nat)(hk:k<l.length):l[k].Ok w∧∃b off,a=some ⟨b,off,none⟩∧∀i u,l[k].row[i]? = some u→w.cell? ⟨b,off+k*35+i,none⟩=some u:=by
 have hr:∀x∈l,x.row.length=35:=λx hx=>TIx.yh (h.ok x hx).m
 have hg:=flat_get TIx.row 35 l hr k hk
 have h0:=hr _ (List.getElem_mem hk)
 refine⟨h.ok _ (List.getElem_mem hk),?_⟩
 obtain⟨b,off,e,_⟩:=h.sl.cell (k*35+0) _ ((hg 0 aPl).trans (List.getElem?_eq_getElem aPl))
 refine⟨b,off,e,λi u hi=>?_⟩
 have hi':i<35:=by have:=(List.getElem?_eq_some_iff.1 hi).1;omega
 obtain⟨b',off',e',hc⟩:=h.sl.cell (k*35+i) u ((hg i hi').trans hi)
 rw[e]at e'
 cases e'
 rw[Nat.add_assoc]
 exact hc
theorem TOs.get{w:World}{a:Option Addr}{c:Nat}{l:List TO}(h:TOs w a c l)(k:Nat)(hk:k<l.length):l[k].Ok w∧∃b off,a=some ⟨b,off,none⟩∧∀i u,l[k].row[i]? = some u→w.cell? ⟨b,off+k*2+i,none⟩=some u:=by
 have hg:=flat_get TO.row 2 l (λx _=>TO.yh x) k hk
 refine⟨h.ok _ (List.getElem_mem hk),?_⟩
 obtain⟨b,off,e,_⟩:=h.sl.cell (k*2+0) _ ((hg 0 aPl).trans rfl)
 refine⟨b,off,e,λi u hi=>?_⟩
 have hi':i<2:=by have:=(List.getElem?_eq_some_iff.1 hi).1;rw[TO.yh]at this;exact this
 obtain⟨b',off',e',hc⟩:=h.sl.cell (k*2+i) u ((hg i hi').trans hi)
 rw[e]at e'
 cases e'
 rw[Nat.add_assoc]
 exact hc
theorem Tryz.szTIn:(Tryz.prog.info? 124).map (·.size)=some 35:=by kernel_rfl
@[go_sem ↓ high] theorem load_tin (p:Value):Instr.loadAt 124 p=iq 124 p:=rfl
@[go_sem ↓ high] theorem aSn (p v:Value):Instr.storeAt 124 p v=ji 124 p v:=rfl
@[go_sem] theorem aKi (w:World) (g:Nat):(iq 124 (.pointer (some ⟨g,0,none⟩))).run Tryz.prog w=aa8 Tryz.prog 124 (.pointer (some ⟨g,0,none⟩)) w 35 w.heap[g]? :=
 qc w _ g 35 _ Tryz.underlying124 rfl Tryz.szTIn
@[go_sem] theorem aIg (w:World) (g:Nat) (cells:Array Value):(ji 124 (.pointer (some ⟨g,0,none⟩)) (.agg cells)).run Tryz.prog w=aeg Tryz.prog 124 (.pointer (some ⟨g,0,none⟩)) cells g w 35 w.heap[g]? :=
 oq w _ g 35 cells Tryz.szTIn
def av3(parts:Array (Nat×Value)):Sem Value:=Instr.build 124 parts
@[go_sem ↓ high] theorem aSv (p:Array (Nat×Value)):Instr.build 124 p=av3 p:=rfl
theorem aAv{w:World}{b o:Nat}{t:TIx}(h:t.m.Ok)(hc:∀i u,t.row[i]? = some u→w.cell? ⟨b,o+i,none⟩=some u):(iq 124 (.pointer (some ⟨b,o,none⟩))).run Tryz.prog w = .ok (.agg t.row.toArray) w :=
 run_loadAt_mid (P:=Tryz.prog) w b o 124 t.row _ hc Tryz.underlying124 rfl (by rw[Tryz.szTIn,TIx.yh h])
structure InC (t:TIx) (C:Array Value):Prop where
 size:C.size=35
 c32:C[32]? = some (.int .u32 (t.m.ix:Int))
 c33:C[33]? = some (.slice t.a t.m.ky.length t.c)
 c34:C[34]? = some (.int .u32 (t.m.sq:Int))
 x0:C.extract 0 32=(t.m.fr.map B8).toArray
 one:jh C
theorem TIx.cellsOf{t:TIx}(h:t.m.Ok):InC t t.row.toArray:=by
 have e:=h.fr
 refine⟨by simp[TIx.row,e],by simp[TIx.row,e],by simp[TIx.row,List.getElem?_append,e],by simp[TIx.row,List.getElem?_append,e],?_,?_⟩
 ·apply Array.toList_inj.1
  simp[TIx.row,e,List.take_append]
 ·unfold jh
  rw[Array.all_eq_true_iff_forall_mem]
  intro v hv
  simp only[TIx.row,List.mem_toArray,List.mem_append,List.mem_map,List.mem_cons,List.not_mem_nil,or_false]at hv
  rcases hv with⟨_,_,rfl⟩|rfl|rfl|rfl<;>rfl
end Go.Proofs.YtjlelckefiannaaGreatDoor
namespace Go.Proofs.YtjlelckefiannaaGreatDoor
set_option maxRecDepth 100000
set_option linter.unusedVariables false
set_option linter.unusedSimpArgs false
open Go.RowKit Go.ChangeShapes Go.WideShapes Go.Deep
theorem aDa(cs:List Value)(n:Nat)(hl:cs.length=n)(h:∀i,i<n→∃z:Int,(cs.drop i).take 1 = [.int .u8 z]∧(Lit.int .u8 z).wf=true):∃l:List UInt8,l.length=n∧cs=l.map B8:=by
 induction n generalizing cs with
 |zero=>exact⟨[],rfl,List.eq_nil_of_length_eq_zero hl⟩
 |succ n ih =>
  match cs,hl with
  |c::cs,hl =>
   obtain⟨z,e,wf⟩:=h 0 aPl
   obtain⟨l,h1,h2⟩:=ih cs (by simpa using hl) (λi hi=>by simpa using h (i+1) aPl)
   simp at e
   have hb:0≤z∧z≤255:=bounds_u8 wf
   refine⟨UInt8.ofNat z.toNat::l,by simp[h1],?_⟩
   rw[List.map_cons,←h2,e]
   congr 1
   simp only[B8,UInt8.toNat_ofNat']
   congr 1
   omega
section
variable {H:Type} {enc:TypeId×Value→H} {w:World} {base:Nat} {spare:Nat→Bool} {held:Bool}
theorem atu{fuel:Nat}{cs:List Value}{y:DataW H×List MemPlace}(hf:DataW.trod enc Tryz.prog w base spare held fuel 24 cs=some y)(hl:cs.length=32):∃l:List UInt8,l.length=32∧cs=l.map B8:=by
 obtain⟨xs,m,rfl,hx,hlen,hn,hel⟩:=DataW.trod_array Tryz.underlying24 hf
 have c1:Tryz.prog.cellsOf 5=1:=by kernel_rfl
 refine aDa cs 32 hl (λi hi=>?_)
 have h:=hel i hi
 rw[c1,Nat.mul_one]at h
 rw[List.getElem?_eq_getElem (show i<xs.length by omega)]at h
 obtain⟨z,e,_,wf⟩:=DataW.trod_int Tryz.underlying5 h
 exact⟨z,e,wf⟩
theorem ak0{fuel:Nat}{cs:List Value}{y:DataW H×List MemPlace}(hf:DataW.trod enc Tryz.prog w base spare held fuel 25 cs=some y):∃x:Nat,x<4294967296∧cs = [.int .u32 (x:Int)]:=by
 obtain⟨z,e,_,wf⟩:=DataW.trod_int Tryz.underlying25 hf
 have hb:=bounds_u32 wf
 obtain⟨x,rfl⟩:=Int.eq_ofNat_of_zero_le hb.1
 exact⟨x,by omega,e⟩
theorem arb{fuel:Nat}{v:Value}{y:DataW H×List MemPlace}(hf:DataW.trod enc Tryz.prog w base spare held fuel 22 [v]=some y):∃(a:Option Addr) (c:Nat) (bs:List UInt8),v = .slice a bs.length c∧Bs w a c bs:=by
 have hsl:∃a' n' c',v = .slice a' n' c':=by
  rcases open_ints Tryz.underlying22 Tryz.underlying5 (by kernel_rfl) hf with⟨hcs,_⟩|⟨ad,l,cap,zs,hcs,_⟩
  ·simp only[List.cons.injEq,and_true]at hcs
   exact⟨_,_,_,hcs⟩
  ·simp only[List.cons.injEq,and_true]at hcs
   exact⟨_,_,_,hcs⟩
 obtain⟨a',n',c',rfl⟩:=hsl
 obtain⟨bs,rfl,hb⟩:=open_bytes hf
 exact⟨a',c',bs,rfl,hb⟩
theorem aCu{fuel:Nat}{t e:TypeId}{v:Value}{y:DataW H×List MemPlace}(ht:Tryz.prog.underlying t=some (.slice e))(hf:DataW.trod enc Tryz.prog w base spare held fuel t [v]=some y):∃(a:Option Addr) (n c:Nat),v = .slice a n c:=by
 rcases open_slice ht hf with⟨hcs,_⟩|⟨ad,len,cap,m,k,D,Pl,hcs,_⟩
 ·simp only[List.cons.injEq,and_true]at hcs
  exact⟨_,_,_,hcs⟩
 ·simp only[List.cons.injEq,and_true]at hcs
  exact⟨_,_,_,hcs⟩
end
end Go.Proofs.YtjlelckefiannaaGreatDoor
