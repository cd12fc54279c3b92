import Derived.Test.YtjlelckefiannaaGreatDoorZ30
import Derived.Test.YtjlelckefiannaaGreatDoorZ2
import Derived.Test.YtjlelckefiannaaGreatDoorZ5
import Derived.Test.YtjlelckefiannaaGreatDoorZ15
import Derived.DeepKeys4
import Derived.MapKept
import Derived.ChangeMaps5
import Derived.Test.YtjlelckefiannaaGreatDoorZ29
import Derived.Test.YtjlelckefiannaaGreatDoorZ9
import Derived.LaidEqlPtr
import Derived.Lib.Builder
set_option maxRecDepth 100000
set_option maxHeartbeats 64000000
namespace Go.Proofs.YtjlelckefiannaaGreatDoor
set_option linter.unusedVariables false
set_option linter.unusedSimpArgs false
open Go.RowKit
def acz(h:Hd)(hs:List UInt8)(up:Value)(ht wk:Nat)(tip:Bool):Array Value :=
 (h.cells.toList++(hs.map B8++(up :: .int .i64 (ht:Int)::((gu .u64 64 4 wk).toList ++ [Value.bool tip])))).toArray
theorem aah(x:Nat):(gu .u64 64 4 x).toList.length=4:=by simp[gu]
theorem aB3(x:Nat):∀u∈(gu .u64 64 4 x).toList,u.oneCell'=true:=by
 intro u hu
 simp only[gu]at hu
 simp at hu
 obtain⟨_,_,rfl⟩:=hu
 rfl
section
variable {h:Hd} {hs:List UInt8} {up:Value} {ht wk:Nat} {tip:Bool}
theorem ahi(o:h.Ok)(l:hs.length=32):(acz h hs up ht wk tip).size=107:=by
 have e:h.cells.toList.length=68:=by rw[Array.length_toList];exact Hd.qw o
 have:=aah wk
 simp only[acz,List.size_toArray,List.length_append,List.length_cons,List.length_map,List.length_nil]
 omega
theorem aso(o:h.Ok)(j:Nat)(hj:j<68):(acz h hs up ht wk tip)[j]? = h.cells[j]? := by
 have e:h.cells.toList.length=68:=by rw[Array.length_toList];exact Hd.qw o
 rw[acz,List.getElem?_toArray,List.getElem?_append_left aPl,Array.getElem?_toList]
theorem ai7(o:h.Ok)(l:hs.length=32)(j:Nat)(hj:j<32):(acz h hs up ht wk tip)[68+j]? = (hs.map B8)[j]? := by
 have e:h.cells.toList.length=68:=by rw[Array.length_toList];exact Hd.qw o
 rw[acz,List.getElem?_toArray,List.getElem?_append_right aPl,e,List.getElem?_append_left zz61]
 congr 1;omega
theorem anj(o:h.Ok)(l:hs.length=32)(j:Nat):(acz h hs up ht wk tip)[100+j]? = (up :: .int .i64 (ht:Int)::((gu .u64 64 4 wk).toList ++ [Value.bool tip]))[j]? := by
 have e:h.cells.toList.length=68:=by rw[Array.length_toList];exact Hd.qw o
 rw[acz,List.getElem?_toArray,List.getElem?_append_right aPl,e,List.getElem?_append_right zz61,List.length_map]
 congr 1;omega
theorem ahx(o:h.Ok)(l:hs.length=32):(acz h hs up ht wk tip)[100]? = some up:=anj o l 0
theorem aeo(o:h.Ok)(l:hs.length=32):(acz h hs up ht wk tip)[101]? = some (.int .i64 (ht:Int)):=anj o l 1
theorem asn(o:h.Ok)(l:hs.length=32)(j:Nat)(hj:j<4):(acz h hs up ht wk tip)[102+j]? = (gu .u64 64 4 wk)[j]? := by
 have:=anj (up:=up) (ht:=ht) (wk:=wk) (tip:=tip) o l (2+j)
 rw[show 102+j=100+(2+j) by omega,this,show 2+j=j+1+1 by omega,List.getElem?_cons_succ,List.getElem?_cons_succ,List.getElem?_append_left (by rw[aah];exact hj),Array.getElem?_toList]
theorem aoe(o:h.Ok)(l:hs.length=32):(acz h hs up ht wk tip)[106]? = some (.bool tip):=by
 have:=anj (up:=up) (ht:=ht) (wk:=wk) (tip:=tip) o l 6
 rw[show 106=100+6 from rfl,this,List.getElem?_cons_succ,List.getElem?_cons_succ,List.getElem?_append_right (by rw[aah];omega),aah]
 rfl
theorem akb(o:h.Ok):(acz h hs up ht wk tip)[65]? = some (.int .u32 (h.time:Int)):=(aso o 65 aPl).trans (Hd.azx o)
theorem aDk(o:h.Ok):(acz h hs up ht wk tip)[66]? = some (.int .u32 (h.bits:Int)):=(aso o 66 aPl).trans (Hd.azw o)
theorem aHv(hu:up.oneCell'=true):jh (acz h hs up ht wk tip):=by
 unfold jh
 rw[Array.all_eq_true_iff_forall_mem]
 intro v hv
 have h1:jh h.cells:=Hd.one
 unfold jh at h1
 rw[Array.all_eq_true_iff_forall_mem]at h1
 simp only[acz,List.mem_toArray,List.mem_append,List.mem_cons,List.mem_map,List.not_mem_nil,or_false]at hv
 rcases hv with hv|⟨x,_,rfl⟩|rfl|rfl|hv|rfl
 ·exact h1 v (by simpa using hv)
 ·rfl
 ·exact hu
 ·rfl
 ·exact aB3 wk v hv
 ·rfl
theorem av5(o:h.Ok)(l:hs.length=32)(t2:Bool):(acz h hs up ht wk tip).setIfInBounds 106 (.bool t2)=acz h hs up ht wk t2:=by
 have e:h.cells.toList.length=68:=by rw[Array.length_toList];exact Hd.qw o
 unfold acz
 rw[List.setIfInBounds_toArray,List.set_append_right _ _ aPl,e,List.set_append_right _ _ zz61,List.length_map,l,show 106-68-32=4+1+1 from rfl,List.set_cons_succ,List.set_cons_succ,List.set_append_right _ _ (by rw[aah];omega),aah]
 rfl
end
theorem mapM_some{α β:Type}(f:α→Option β):∀l:List α,(∀x∈l,∃y,f x=some y)→∃ys,l.mapM f=some ys
 |[],_=>⟨[],rfl⟩
 |x::l,h=>by
  obtain⟨y,hy⟩:=h x (by simp)
  obtain⟨ys,hys⟩:=mapM_some f l λz hz=>h z (by simp[hz])
  exact⟨y::ys,by simp[List.mapM_cons,hy,hys]⟩
theorem aC0(h:List UInt8)(hl:h.length=32):∃la,Tryz.prog.keyLits 2 24 (Value.agg (hc h)).cells.toList=some la:=by
 have e:(Value.agg (hc h)).cells.toList=h.map B8:=by simp[Value.cells,hc]
 rw[e]
 unfold Program.keyLits
 simp only[Tryz.underlying24]
 rw[if_pos (by rw[List.length_map,hl];kernel_rfl),show Tryz.prog.cellsOf 5=1 by kernel_rfl]
 obtain⟨ys,hys⟩:=mapM_some (λi=>Tryz.prog.keyLits 1 5 (((h.map B8).drop (i*1)).take 1)) (List.range 32) (λi hi=>by
  have hi:=List.mem_range.1 hi
  have:((h.map B8).drop (i*1)).take 1 = [B8 (h[i]'aPl)]:=by
   rw[Nat.mul_one,List.drop_eq_getElem_cons zz61,List.take_succ_cons,List.take_zero,List.getElem_map]
  rw[this]
  unfold Program.keyLits
  have hx:=(h[i]'aPl).toNat_lt
  simp only[Tryz.underlying5,B8]
  refine⟨_,if_pos ⟨trivial,?_⟩⟩
  simp only[Lit.wf,Bool.and_eq_true,decide_eq_true_eq]
  exact⟨show(0:Int)≤_ by omega,show _≤(255:Int) by omega⟩)
 rw[hys]
 exact⟨_,rfl⟩
theorem abv(em:Bool)(h:List UInt8)(hl:h.length=32)(w:World):(Instr.checkKey em 10000 24 (.agg (hc h))).run Tryz.prog w = .ok () w:=by
 obtain⟨la,hla⟩:=aC0 h hl
 have:=run_checkKey_deep (P:=Tryz.prog) em 9998 2 24 (by kernel_rfl) w 2 (.agg (hc h)) la (by
  simp only[Value.formed,Tryz.underlying24,jl hl];kernel_rfl) hla
 exact this
theorem av8(w:World)(x:List UInt8)(hx:x.length=32):∀(L:List Bk) (es:List MapEntry) (k:Nat),(∀b∈L,b.hash.length=32)→es.map (·.key)=L.map (λb=>Value.agg (hc b.hash)) →
  (aae x L k = -1∧(Instr.findAsking 24 (.agg (hc x)) es k).run Tryz.prog w = .ok none w)∨∃j e,aae x L k=((k+j:Nat):Int)∧es[j]? = some e∧(Instr.findAsking 24 (.agg (hc x)) es k).run Tryz.prog w = .ok (some (k+j,e.val)) w
 |[],[],k,_,_ => .inl ⟨rfl,rfl⟩
 |[],e::es,k,_,h=>by simp at h
 |b::L,[],k,_,h=>by simp at h
 |b::L,e::es,k,hl,h=>by
  rw[List.map_cons,List.map_cons,List.cons.injEq]at h
  have heq:=uf w x b.hash hx (hl b (by simp))
  have hrun:(Instr.findAsking 24 (.agg (hc x)) (e::es) k).run Tryz.prog w=(if decide (x=b.hash)=true then(pure (some (k,e.val)):Sem (Option (Nat×Value)))else Instr.findAsking 24 (.agg (hc x)) es (k+1)).run Tryz.prog w:=by
   rw[Instr.findAsking]
   rw[Sem.run_bind,show(Op.equal 24 (.agg (hc x)) e.key).run Tryz.prog w = .ok (decide (x=b.hash)) w from by rw[h.1];exact heq,Result.andThen_ok]
  by_cases hx2:b.hash=x
  ·right
   refine⟨0,e,?_,rfl,?_⟩
   ·rw[aae,if_pos hx2];rfl
   ·rw[hrun,decide_eq_true hx2.symm,if_pos rfl,Sem.run_pure,Nat.add_zero]
  ·rw[decide_eq_false (λe=>hx2 e.symm),if_neg Bool.false_ne_true]at hrun
   rcases av8 w x hx L es (k+1) (λy hy=>hl y (by simp[hy])) h.2 with⟨h1,h2⟩|⟨j,e',h1,h2,h3⟩
   ·left
    refine⟨by rw[aae,if_neg hx2];exact h1,?_⟩
    rw[hrun];exact h2
   ·right
    refine⟨j+1,e',by rw[aae,if_neg hx2,h1,show k+1+j=k+(j+1) by omega],h2,?_⟩
    rw[hrun,show k+(j+1)=k+1+j by omega];exact h3
def ptV(ps:List Nat)(z:Int):Value:=if z<0 then .pointer none else .pointer (some ⟨ps.getD z.toNat 0,0,none⟩)
theorem afe(ps:List Nat){z:Int}(h:z<0):ptV ps z = .pointer none:=if_pos h
theorem vw(ps:List Nat)(i:Nat):ptV ps (i:Int) = .pointer (some ⟨ps.getD i 0,0,none⟩):=by
 unfold ptV
 rw[if_neg aPl,Int.toNat_natCast]
theorem aAn(ps:List Nat)(z:Int):(ptV ps z).oneCell'=true:=by unfold ptV;split<;>rfl
def aou(w:World)(bm:Nat)(L:List Bk)(ps:List Nat):Prop :=
 ∃es clock,w.heap[bm]? = some (.map es clock)∧es.toList.map (·.key)=L.map (λb=>Value.agg (hc b.hash))∧∀(j:Nat) (e:MapEntry),es.toList[j]? = some e→e.val=ptV ps (j:Int)
theorem aou.keep{w w':World}{bm:Nat}{L:List Bk}{ps:List Nat}(h:aou w bm L ps)(he:w'.heap[bm]? = w.heap[bm]?):aou w' bm L ps:=by
 obtain⟨es,c,h1,h2⟩:=h
 exact⟨es,c,he.trans h1,h2⟩
theorem aou.lt{w:World}{bm:Nat}{L:List Bk}{ps:List Nat}(h:aou w bm L ps):bm<w.heap.size:=by
 obtain⟨es,c,h1,h2⟩:=h
 exact(Array.getElem?_eq_some_iff.1 h1).1
def am2(m k:Value)(ok:Bool):Sem Value:=Instr.lookup 169 m k ok
@[go_sem ↓ high] theorem look_K (m k:Value) (ok:Bool):Instr.lookup 169 m k ok=am2 m k ok:=rfl
def aIp(m k v:Value):Sem Unit:=Instr.mapUpdate 169 m k v
@[go_sem ↓ high] theorem upd_K (m k v:Value):Instr.mapUpdate 169 m k v=aIp m k v:=rfl
theorem aik{w:World}{L:List Bk}{es:Array MapEntry}(hL:∀b∈L,b.hash.length=32)(hk:es.toList.map (·.key)=L.map (λb=>Value.agg (hc b.hash)))(x:List UInt8)(hx:x.length=32):
  (yj L x = -1∧(Instr.findKey 24 (.agg (hc x)) es.toList).run Tryz.prog w = .ok none w)∨∃(j:Nat) (e:MapEntry),yj L x=(j:Int)∧es.toList[j]? = some e∧(Instr.findKey 24 (.agg (hc x)) es.toList).run Tryz.prog w = .ok (some (j,e.val)) w:=by
 rw[run_findKey_eq w (by rw[Tryz.underlying24]) (.agg (hc x)) es.toList]
 rcases av8 w x hx L es.toList 0 hL hk with h|⟨j,e,h1,h2,h3⟩
 ·exact .inl h
 ·rw[Nat.zero_add]at h1 h3
  exact .inr ⟨j,e,h1,h2,h3⟩
theorem aou.look{w:World}{bm:Nat}{L:List Bk}{ps:List Nat}(h:aou w bm L ps)(hL:∀b∈L,b.hash.length=32)(x:List UInt8)(hx:x.length=32):(am2 (.map (some bm)) (.agg (hc x)) false).run Tryz.prog w = .ok (ptV ps (yj L x)) w:=by
 obtain⟨es,clock,hb,hk,hv⟩:=h
 have hz:(zeroValue 140).run Tryz.prog w = .ok (.pointer none) w:=by kernel_rfl
 unfold am2
 rcases aik (w:=w) hL hk x hx with⟨h1,h2⟩|⟨j,e,h1,h2,h3⟩
 ·rw[h1,afe ps aPl]
  simp[Instr.lookup,run_underlying Tryz.underlying169,MapKept.run_getObj_map hb,abv _ x hx w,h2,hz,Result.andThen]
 ·rw[h1,←hv j e h2]
  simp[Instr.lookup,run_underlying Tryz.underlying169,MapKept.run_getObj_map hb,abv _ x hx w,h3,Result.andThen]
theorem aou.put{w:World}{bm:Nat}{L:List Bk}{ps:List Nat}(h:aou w bm L ps)(hL:∀b∈L,b.hash.length=32)(hps:ps.length=L.length)(b:Bk)(hb32:b.hash.length=32)(hn:yj L b.hash<0)(q:Nat):
  ∃w',(aIp (.map (some bm)) (.agg (hc b.hash)) (.pointer (some ⟨q,0,none⟩))).run Tryz.prog w = .ok () w'∧aou w' bm (L ++ [b]) (ps ++ [q])∧Fr (λk=>k=bm) w w'∧w'.heap.size=w.heap.size:=by
 obtain⟨es,clock,hb,hk,hv⟩:=h
 rcases aik (w:=w) hL hk b.hash hb32 with⟨h1,h2⟩|⟨j,e,h1,h2,h3⟩
 ·refine⟨ChangeMaps.setBlock w bm (.map (es.push ⟨.agg (hc b.hash),.pointer (some ⟨q,0,none⟩),clock⟩) (clock+1)),?_,?_,?_,?_⟩
  ·unfold aIp
   simp[Instr.mapUpdate,run_underlying Tryz.underlying169,MapKept.run_getObj_map hb,abv _ b.hash hb32 w,h2,MapKept.run_setObj_map _ hb,Result.andThen,ChangeMaps.setBlock]
  ·refine⟨_,_,ChangeMaps.heap_setBlock_same hb _,?_,?_⟩
   ·simp[hk]
   ·intro j e he
    have hsz:es.toList.length=L.length:=by have:=congrArg List.length hk;simpa using this
    rw[Array.toList_push]at he
    by_cases hj:j<es.toList.length
    ·rw[List.getElem?_append_left hj]at he
     rw[hv j e he,vw,vw,List.getD_eq_getElem?_getD,List.getD_eq_getElem?_getD,List.getElem?_append_left aPl]
    ·have hj2:j=es.toList.length:=by
      have:=(List.getElem?_eq_some_iff.1 he).1
      simp at this hj
      simp
      omega
     subst hj2
     rw[List.getElem?_append_right (Nat.le_refl _),Nat.sub_self]at he
     simp at he
     subst he
     rw[vw,List.getD_eq_getElem?_getD,List.getElem?_append_right aPl,hsz,hps,Nat.sub_self]
     rfl
  ·exact⟨rfl,rfl,rfl,by simp[ChangeMaps.setBlock],λi _ hi=>ChangeMaps.heap_setBlock_other hb _ (λe=>hi (by rw[e]))⟩
  ·simp[ChangeMaps.setBlock]
 ·omega
theorem Tryz.szKBlock:(Tryz.prog.info? 145).map (·.size)=some 107:=by kernel_rfl
theorem ar2{P:Program}{c:Code}{Q:Exit→Act→World→Prop}{a:Act}{w:World}{t:TypeId}
  (k:∀W Z,Z.size=32→adh w W w.heap.size Z t→Code.wp P c Q a W):Code.wp P c Q a (w.alloc (.cells #[Value.int IntKind.u8 0,Value.int IntKind.u8 0,Value.int IntKind.u8 0,Value.int IntKind.u8 0,Value.int IntKind.u8 0,Value.int IntKind.u8 0,Value.int IntKind.u8 0,Value.int IntKind.u8 0,Value.int IntKind.u8 0,Value.int IntKind.u8 0,Value.int IntKind.u8 0,Value.int IntKind.u8 0,Value.int IntKind.u8 0,Value.int IntKind.u8 0,Value.int IntKind.u8 0,Value.int IntKind.u8 0,Value.int IntKind.u8 0,Value.int IntKind.u8 0,Value.int IntKind.u8 0,Value.int IntKind.u8 0,Value.int IntKind.u8 0,Value.int IntKind.u8 0,Value.int IntKind.u8 0,Value.int IntKind.u8 0,Value.int IntKind.u8 0,Value.int IntKind.u8 0,Value.int IntKind.u8 0,Value.int IntKind.u8 0,Value.int IntKind.u8 0,Value.int IntKind.u8 0,Value.int IntKind.u8 0,Value.int IntKind.u8 0] t)):=lu λW N=>k W _ rfl N
def hdT(H:List Hd)(i:Nat):Hd:=H.getD i ⟨0,[],[],0,0,0⟩
def ado(R:Array Value)(bm:Nat)(v:Value)(afu:Nat):Array Value:=(R.toList ++ [.map (some bm),v,.int .i64 (afu:Int)]).toArray
section
variable {R:Array Value} {bm:Nat} {v:Value} {afu:Nat}
theorem aa1(h:R.size=72):(ado R bm v afu).size=75:=by simp[ado,h]
theorem az6(h:R.size=72)(j:Nat)(hj:j<72):(ado R bm v afu)[j]? = R[j]? := by
 rw[ado,List.getElem?_toArray,List.getElem?_append_left zu,Array.getElem?_toList]
theorem ajn(h:R.size=72):(ado R bm v afu)[72]? = some (.map (some bm)):=by
 rw[ado,List.getElem?_toArray,List.getElem?_append_right zu,Array.length_toList,h];rfl
theorem ar5(h:R.size=72):(ado R bm v afu)[73]? = some v:=by
 rw[ado,List.getElem?_toArray,List.getElem?_append_right zu,Array.length_toList,h];rfl
theorem az7(h:R.size=72):(ado R bm v afu)[74]? = some (.int .i64 (afu:Int)):=by
 rw[ado,List.getElem?_toArray,List.getElem?_append_right zu,Array.length_toList,h];rfl
theorem awy(h:R.size=72)(v2:Value):(ado R bm v afu).setIfInBounds 73 v2=ado R bm v2 afu:=by
 unfold ado
 rw[List.setIfInBounds_toArray,List.set_append_right _ _ zu,Array.length_toList,h];rfl
theorem awx(h:R.size=72)(k:Nat):(ado R bm v afu).setIfInBounds 74 (.int .i64 (k:Int))=ado R bm v k:=by
 unfold ado
 rw[List.setIfInBounds_toArray,List.set_append_right _ _ zu,Array.length_toList,h];rfl
end
def chn(L:List Bk):List (List UInt8):=(qx L (ug L)).map λk=>(bkT L k).hash
def yt(H:List Hd)(L:List Bk)(ps:List Nat)(i:Nat):Array Value:=acz (hdT H i) (bkT L i).hash (ptV ps (bkT L i).ahead) (ig L i) (su L i) (abg L i)
structure TI (H:List Hd) (L:List Bk) (ps:List Nat):Prop where
 wf:WFt L
 one:aE5 L
 nh:NH L
 pos:0<L.length
 small:L.length≤5000
 arp:ps.length=L.length
 hlen:H.length=L.length
 hd:∀i,i<L.length→(hdT H i).Ok∧(bkT L i).hash=uj (hdT H i).bytes∧(bkT L i).time=(hdT H i).time∧(bkT L i).bits=(hdT H i).bits
 inj:∀i j,i<L.length→j<L.length→ps.getD i 0=ps.getD j 0→i=j
 wk:∀i,i<L.length→su L i<ng
theorem TI.h32{H:List Hd}{L:List Bk}{ps:List Nat}(I:TI H L ps):∀b∈L,b.hash.length=32:=λb hb=>(I.wf.ok b hb).hash
theorem TI.at32{H:List Hd}{L:List Bk}{ps:List Nat}(I:TI H L ps){i:Nat}(hi:i<L.length):(bkT L i).hash.length=32:=(I.wf.at hi).hash
theorem TI.best{H:List Hd}{L:List Bk}{ps:List Nat}(I:TI H L ps):ug L<L.length:=asq I.pos
theorem TI.aen{H:List Hd}{L:List Bk}{ps:List Nat}(I:TI H L ps):(chn L).length=ig L (ug L)+1∧(chn L).length≤5000:=by
 have h1:=aak I.wf I.best
 have h2:=ab3 I.wf _ I.best
 have h3:=I.best
 have h4:=I.small
 unfold chn
 rw[List.length_map]
 refine⟨h1,?_⟩
 rw[h1]
 unfold ig
 omega
theorem TI.chn32{H:List Hd}{L:List Bk}{ps:List Nat}(I:TI H L ps):afx (chn L):=by
 intro x hx
 obtain⟨k,hk,rfl⟩:=List.mem_map.1 hx
 have:=aif I.wf _ I.best k (List.mem_reverse.1 hk)
 have:=I.best
 exact I.at32 aPl
theorem TI.height{H:List Hd}{L:List Bk}{ps:List Nat}(I:TI H L ps){i:Nat}(hi:i<L.length):ig L i<5000:=by
 have h2:=ab3 I.wf _ hi
 have h4:=I.small
 unfold ig
 omega
theorem TI.aau{H:List Hd}{L:List Bk}{ps:List Nat}(I:TI H L ps){i:Nat}(hi:i<L.length):(yt H L ps i).size=107:=ahi (I.hd i hi).1 (I.at32 hi)
structure TM (w:World) (p:Nat) (R:Array Value) (bm:Nat) (H:List Hd) (L:List Bk) (ps:List Nat) (v:Value) (ch:List (List UInt8)):Prop where
 top:w.heap[p]? = some (.cells (ado R bm v (uq L)) 171 (0,0))
 map:aou w bm L ps
 blk:∀i,i<L.length→w.heap[ps.getD i 0]? = some (.cells (yt H L ps i) 145 (0,0))
 own:abh 24 0 w v ch
theorem TM.fr{w w':World}{p:Nat}{R:Array Value}{bm:Nat}{H:List Hd}{L:List Bk}{ps:List Nat}{v:Value}{ch:List (List UInt8)}(h:TM w p R bm H L ps v ch)(f:Fr F0 w w'):TM w' p R bm H L ps v ch :=
 ⟨au f h.top,h.map.keep (f.block _ h.map.lt λe=>e),λi hi=>au f (h.blk i hi),h.own.fr0 f⟩
theorem TM.chain{w:World}{p:Nat}{R:Array Value}{bm:Nat}{H:List Hd}{L:List Bk}{ps:List Nat}{v:Value}{ch:List (List UInt8)}(h:TM w p R bm H L ps v ch):∃a c,v = .slice a ch.length c∧Hs w a c ch:=h.own.is
theorem abx{w:World}{p:Nat}{R:Array Value}{bm:Nat}{H:List Hd}{L:List Bk}{ps:List Nat}{v:Value}{ch:List (List UInt8)}(hR:R.size=72)(I:TI H L ps)(T:TM w p R bm H L ps v ch)(h:List UInt8)(hh:h.length=32):
  Calls Tryz.prog 67 #[.pointer (some ⟨p,0,none⟩),.agg (hc h)] w λe w'=>e = .returned (ptV ps (yj L h))∧Fr F0 w w':=by
 have sh:=jl hh
 have oh:=qg h
 have HL:=Lib.hid (λW (f:Fr F0 w W)=>(T.fr f).map.look I.h32 h hh)
 have r1:=T.top
 have sC:=aa1 (bm:=bm) (v:=v) (afu:=uq L) hR
 have c72:=ajn (bm:=bm) (v:=v) (afu:=uq L) hR
 generalize ado R bm v (uq L)=C at *
 generalize ptV ps (yj L h)=V at *
 generalize hc h=A at *
 have s72:72<C.size:=by omega
 have d72:=jd c72 s72
 replace r1:=bg (o := .cells A 24) r1
 have r0:=heap_alloc_new w (.cells A 24)
 have F:=(Fr.refl F0 w).alloc (.cells A 24)
 clear T I hR hh
 go_enter Tryz.func67,Tryz.ntmps67
 go_wp2_with fail
 generalize hW:w.alloc (.cells A 24)=W at *
 generalize w.heap.size=g0 at *
 clear hW
 refine jm (S:=(λw'=>(w'.heap[p]? = some (.cells C 171 (0,0))∧w'.heap[g0]? = some (.cells A 24 (0,0))∧(am2 (.map (some bm)) (.agg A) false).run Tryz.prog w' = .ok V w')∧Fr F0 w w')) ?_ λak=>?_
 ·exact zz40
 refine aj 0 ?_
 refine aj 1 ?_
 refine aj 2 ?_
 refine aj 3 ?_
 refine aj 4 ?_
 refine jf 5 λK hK=>?_
 go_simp
 refine rpu hK abz λak=>?_
 clear hK K
 refine aj 6 ?_
 refine jg ?_
 all_goals
  have f:=ak.2
  go_wp2_with fail
  go_ret
  exact⟨rfl,f⟩
theorem aiq{w:World}{p:Nat}{R:Array Value}{bm:Nat}{H:List Hd}{L:List Bk}{ps:List Nat}{v:Value}{ch:List (List UInt8)}(hR:R.size=72)(T:TM w p R bm H L ps v ch):
  Calls Tryz.prog 102 #[.pointer (some ⟨p,0,none⟩)] w λe w'=>e = .returned (.int .i64 (ch.length:Int))∧w'=w:=by
 have r1:=T.top
 obtain⟨a,c,ev,hv⟩:=T.chain
 have sC:=aa1 (bm:=bm) (v:=v) (afu:=uq L) hR
 have c73:=ar5 (bm:=bm) (v:=v) (afu:=uq L) hR
 generalize ado R bm v (uq L)=C at *
 subst ev
 generalize ch.length=n at *
 have s73:73<C.size:=by omega
 have d73:=jd c73 s73
 clear T hv hR
 go_enter Tryz.func102,Tryz.ntmps102
 go_wp2_with fail
 go_ret
 exact⟨rfl,rfl⟩
def atM(ch:List (List UInt8))(z:Int):List UInt8:=if 0≤z∧z<(ch.length:Int)then ch.getD z.toNat []else z32
theorem asg{w:World}{p:Nat}{R:Array Value}{bm:Nat}{H:List Hd}{L:List Bk}{ps:List Nat}{v:Value}{ch:List (List UInt8)}(hR:R.size=72)(T:TM w p R bm H L ps v ch)(z:Int):
  Calls Tryz.prog 101 #[.pointer (some ⟨p,0,none⟩),.int .i64 z] w λe w'=>e = .returned (.tuple #[.agg (hc (atM ch z)),.bool (decide (0≤z∧z<(ch.length:Int)))])∧Fr F0 w w':=by
 have sz:=jl yg
 have oz:=qg z32
 have HLN:=Lib.hid (λW (f:Fr F0 w W)=>aiq hR (T.fr f))
 obtain⟨a,c,ev,hv⟩:=T.chain
 have HV:=Lib.hid hv
 have r1:=T.top
 have sC:=aa1 (bm:=bm) (v:=v) (afu:=uq L) hR
 have c73:=ar5 (bm:=bm) (v:=v) (afu:=uq L) hR
 have H32:=Lib.hid T.own.ok
 generalize ado R bm v (uq L)=C at *
 subst ev
 unfold atM
 generalize ch=l at *
 generalize hn:l.length=n at *
 have HN:=Lib.hid hn
 have s73:73<C.size:=by omega
 have d73:=jd c73 s73
 clear T hv hR hn
 by_cases h0:z<0
 ·have l0:decide (z<0)=true:=decide_eq_true h0
  rw[if_neg aPl,decide_eq_false aPl]
  go_enter Tryz.func101,Tryz.ntmps101
  go_upto_region 1 with fail
  refine ar2 λW1 Z sZ N1=>?_
  have r2:=N1.new
  have F:=N1.fr
  clear N1
  obtain⟨g2,hg2⟩:∃g,g=w.heap.size:=⟨_,rfl⟩
  rw[←hg2]at r2 ⊢
  have g2l:Hid (¬g2<w.heap.size):=by rw[Hid];omega
  clear hg2
  have q2:=Lib.hid (setRow_heap _ _ _ (hc z32) _ _ r2)
  have F9:=Lib.hid (F.setRow (λh=>absurd h g2l.out) (hc z32))
  replace g2l:=Lib.hid g2l
  go_wp2
  refine bodyPost_ret (cu rfl _ _ g2 _ _ _ _ rfl q2.out Tryz.underlying24 rfl aOg) rfl ⟨rfl,F9.out⟩
 ·obtain⟨k,rfl⟩:=Int.eq_ofNat_of_zero_le (show 0≤z by omega)
  rw[Int.toNat_natCast]
  have l0:decide ((k:Int)<0)=false:=decide_eq_false h0
  obtain⟨Y,hY⟩:∃Y,hc (if 0≤(k:Int)∧(k:Int)<(n:Int)then l.getD k []else z32)=Y:=⟨_,rfl⟩
  obtain⟨q,hq⟩:∃q,decide (0≤(k:Int)∧(k:Int)<(n:Int))=q:=⟨_,rfl⟩
  rw[hY,hq]
  have HY:=Lib.hid (And.intro hY hq)
  clear hY hq
  go_enter Tryz.func101,Tryz.ntmps101
  go_upto_region 1 with fail
  refine ar2 λW1 Z sZ N1=>?_
  have r2:=N1.new
  replace r1:=N1.old r1
  have F:=N1.fr
  clear N1
  obtain⟨g2,hg2⟩:∃g,g=w.heap.size:=⟨_,rfl⟩
  rw[←hg2]at r2 ⊢
  have g2l:Hid (¬g2<w.heap.size):=by rw[Hid];omega
  clear hg2
  go_wp2_with fail
  (with_reducible refine(HLN.out _ F).mono ?_);rintro e w2 ⟨rfl,hw⟩;replace hw:=hw.symm;subst hw
  by_cases h1:k<n
  ·have l1:(k:Int)<(n:Int):=by omega
   have l2:decide ((n:Int)≤(k:Int))=false:=decide_eq_false aPl
   obtain⟨hY,hq⟩:=HY.out
   rw[if_pos ⟨by omega,l1⟩]at hY
   rw[decide_eq_true (⟨by omega,l1⟩:0≤(k:Int)∧(k:Int)<(n:Int))]at hq
   subst hY hq
   clear HY
   obtain⟨b,off,ea,hld,_⟩:=HV.out.load k (by rw[HN.out];exact h1)
   subst ea
   have ld:=hld _ F
   have s5:=jl (H32.out.get (show k<l.length by rw[HN.out];exact h1))
   have o5:=qg (l.getD k [])
   obtain⟨X,hX⟩:∃X,hc (l.getD k [])=X:=⟨_,rfl⟩
   rw[hX]at ld s5 o5
   have HX:=Lib.hid hX
   clear hX
   have q2:=Lib.hid (setRow_heap _ _ _ X _ _ r2)
   have F9:=Lib.hid (F.setRow (λh=>absurd h g2l.out) X)
   replace g2l:=Lib.hid g2l
   clear hld HLN
   go_wp2
   refine bodyPost_ret (cu rfl _ _ g2 _ _ _ _ rfl q2.out Tryz.underlying24 rfl (by rw[Tryz.szHashJ,s5])) rfl ⟨by rw[HX.out];rfl,F9.out⟩
  ·have l1:¬(k:Int)<(n:Int):=by omega
   have l2:decide ((n:Int)≤(k:Int))=true:=decide_eq_true aPl
   obtain⟨hY,hq⟩:=HY.out
   rw[if_neg aPl]at hY
   rw[decide_eq_false aPl]at hq
   subst hY hq
   clear HY
   have q2:=Lib.hid (setRow_heap _ _ _ (hc z32) _ _ r2)
   have F9:=Lib.hid (F.setRow (λh=>absurd h g2l.out) (hc z32))
   replace g2l:=Lib.hid g2l
   clear HLN
   go_wp2
   refine bodyPost_ret (cu rfl _ _ g2 _ _ _ _ rfl q2.out Tryz.underlying24 rfl aOg) rfl ⟨rfl,F9.out⟩
theorem TI.aju{H:List Hd}{L:List Bk}{ps:List Nat}(I:TI H L ps):(chn L).getD ((chn L).length-1) []=(bkT L (ug L)).hash:=by
 have e:(chn L).length-1=ig L (ug L):=by have:=I.aen.1;omega
 rw[e]
 unfold chn
 have:=aj2 I.wf I.best
 rw[List.getD_eq_getElem?_getD,List.getElem?_map,this]
 rfl
theorem aey{w:World}{p:Nat}{R:Array Value}{bm:Nat}{H:List Hd}{L:List Bk}{ps:List Nat}{v:Value}{ch:List (List UInt8)}(hR:R.size=72)(T:TM w p R bm H L ps v ch)(h0:0<ch.length)(hl:ch.length≤100000):
  Calls Tryz.prog 56 #[.pointer (some ⟨p,0,none⟩)] w λe w'=>e = .returned (.agg (hc (ch.getD (ch.length-1) [])))∧Fr F0 w w':=by
 have sz:=jl yg
 have oz:=qg z32
 have HLN:=Lib.hid (λW (f:Fr F0 w W)=>aiq hR (T.fr f))
 have HAT:=Lib.hid (λW (f:Fr F0 w W)=>asg hR (T.fr f) ((ch.length:Int)-1))
 rw[show atM ch ((ch.length:Int)-1)=ch.getD (ch.length-1) []from by unfold atM;rw[if_pos aPl,show((ch.length:Int)-1).toNat=ch.length-1 by omega]]at HAT
 have h32:=T.own.ok.get (show ch.length-1<ch.length by omega)
 have sX:=jl h32
 have oX:=qg (ch.getD (ch.length-1) [])
 generalize hc (ch.getD (ch.length-1) [])=X at *
 clear h32
 generalize ch.length=n at *
 have m1:IntKind.i64.wrap ((n:Int)-1)=(n:Int)-1:=by rw[IntWalk.i64_in _ aPl]
 clear T hR
 go_enter Tryz.func56,Tryz.ntmps56
 go_upto_region 1 with fail
 refine ar2 λW1 Z sZ N1=>?_
 have r2:=N1.new
 have F:=N1.fr
 clear N1
 obtain⟨g2,hg2⟩:∃g,g=w.heap.size:=⟨_,rfl⟩
 rw[←hg2]at r2 ⊢
 have g2l:Hid (¬g2<w.heap.size):=by rw[Hid];omega
 clear hg2
 go_wp2_with fail
 (with_reducible refine(HLN.out _ F).mono ?_);rintro e w2 ⟨rfl,hw⟩;replace hw:=hw.symm;subst hw
 go_wp2_with fail
 (with_reducible refine(HAT.out _ F).mono ?_);rintro e w3 ⟨rfl,f⟩
 replace r2:=au f r2
 replace F:=F.trans' f
 clear f
 go_upto_region 2 with fail
 refine uy λW4 N4=>?_
 have r3:=N4.new
 replace r2:=N4.old r2
 replace F:=F.trans' N4.fr
 clear N4
 generalize w3.heap.size=g3 at *
 have q2:=Lib.hid (setRow_heap _ _ _ X _ _ r2)
 have F9:=Lib.hid (F.setRow (λh=>absurd h g2l.out) X)
 replace g2l:=Lib.hid g2l
 go_wp2
 refine bodyPost_ret (results_cell_row rfl _ _ g2 _ _ _ _ rfl q2.out Tryz.underlying24 rfl (by rw[Tryz.szHashJ,sX])) rfl ⟨rfl,F9.out⟩
theorem aou.len{w:World}{bm:Nat}{L:List Bk}{ps:List Nat}(h:aou w bm L ps)(ty:TypeId):(Builtin.len_ #[169] ty #[.map (some bm)]).run Tryz.prog w = .ok (.int .i64 (L.length:Int)) w:=by
 obtain⟨es,c,hb,h2,_⟩:=h
 have e:es.size=L.length:=by have:=congrArg List.length h2;simpa using this
 simp[Builtin.len_,run_underlying Tryz.underlying169,MapKept.run_getObj_map hb,goInt,Result.andThen,e]
theorem ad5{w:World}{p:Nat}{R:Array Value}{bm:Nat}{H:List Hd}{L:List Bk}{ps:List Nat}{v:Value}{ch:List (List UInt8)}(hR:R.size=72)(I:TI H L ps)(T:TM w p R bm H L ps v ch)(i:Nat)(hi:i<L.length):
  Calls Tryz.prog 59 #[.pointer (some ⟨p,0,none⟩),.agg (hc (bkT L i).hash)] w λe w'=>e = .returned (.tuple #[.int .i64 (ig L i:Int),.bool true])∧Fr F0 w w':=by
 have HB:=Lib.hid (λW (f:Fr F0 w W)=>abx hR I (T.fr f) (bkT L i).hash (I.at32 hi))
 rw[afh I.nh hi,vw]at HB
 have r1:=T.blk i hi
 have sC:=I.aau hi
 have ayt:(yt H L ps i)[101]? = some (.int .i64 (ig L i:Int)):=aeo (I.hd i hi).1 (I.at32 hi)
 have sA:=jl (I.at32 hi)
 have oA:=qg (bkT L i).hash
 generalize hc (bkT L i).hash=A at *
 generalize yt H L ps i=C at *
 generalize ig L i=n at *
 generalize ps.getD i 0=q at *
 have ajd:101<C.size:=by omega
 have aOv:=jd ayt ajd
 clear T I hR hi
 go_enter Tryz.func59,Tryz.ntmps59
 go_wp2_with fail
 refine ru λW1 N1=>?_
 replace r1:=N1.old r1
 have F:=N1.fr
 clear N1
 (with_reducible refine(HB.out _ F).mono ?_);rintro e w2 ⟨rfl,f⟩
 replace r1:=au f r1
 replace F:=F.trans' f
 clear f
 go_wp2_with fail
 go_ret2
 exact⟨rfl,F⟩
theorem aCo{w:World}{p:Nat}{R:Array Value}{bm:Nat}{H:List Hd}{L:List Bk}{ps:List Nat}{v:Value}{ch:List (List UInt8)}(hR:R.size=72)(I:TI H L ps)(T:TM w p R bm H L ps v ch)(i:Nat)(hi:i<L.length):
  Calls Tryz.prog 156 #[.pointer (some ⟨p,0,none⟩),.agg (hc (bkT L i).hash)] w λe w'=>e = .returned (.agg (gu .u64 64 4 (su L i)))∧Fr F0 w w':=by
 have HB:=Lib.hid (λW (f:Fr F0 w W)=>abx hR I (T.fr f) (bkT L i).hash (I.at32 hi))
 rw[afh I.nh hi,vw]at HB
 have r1:=T.blk i hi
 have sC:=I.aau hi
 have cwk:∀j,j<4→(yt H L ps i)[102+j]? = (gu .u64 64 4 (su L i))[j]? := λj hj=>asn (I.hd i hi).1 (I.at32 hi) j hj
 have sA:=jl (I.at32 hi)
 have oA:=qg (bkT L i).hash
 generalize hc (bkT L i).hash=A at *
 generalize yt H L ps i=C at *
 generalize su L i=n at *
 generalize ps.getD i 0=q at *
 have HLD:=Lib.hid (λW (h:W.heap[q]? = some (.cells C 145 (0,0)))=>show(iq 143 (.pointer (some ⟨q,102,none⟩))).run Tryz.prog W = .ok (.agg (gu .u64 64 4 n)) W from by
  have:=run_loadAt_mid (P:=Tryz.prog) W q 102 143 (gu .u64 64 4 n).toList _ (λj u hj=>by
   have hl:j<4:=by have:=(List.getElem?_eq_some_iff.1 hj).1;rw[aah]at this;exact this
   rw[cell_of_row W q (102+j) _ _ _ h,cwk j hl]
   simpa using hj) Tryz.underlying143 rfl (by rw[aah];kernel_rfl)
  rw[Array.toArray_toList]at this
  exact this)
 clear T I hR hi cwk
 go_enter Tryz.func156,Tryz.ntmps156
 go_wp2_with fail
 refine ru λW1 N1=>?_
 have r2:=N1.new
 have F:=((Fr.refl F0 w).alloc (.cells A 24)).trans' N1.fr
 replace r1:=N1.old (bg r1)
 rw[World.size_alloc]at r2
 clear N1
 have hg:¬w.heap.size+1<w.heap.size:=by omega
 generalize w.heap.size+1=g2 at *
 replace hg:=Lib.hid hg
 (with_reducible refine(HB.out _ F).mono ?_);rintro e w2 ⟨rfl,f⟩
 replace r1:=au f r1
 replace r2:=au f r2
 replace F:=F.trans' f
 clear f
 have ld:=HLD.out _ r1
 have F9:=Lib.hid (F.setRow (λh=>absurd h hg.out) (gu .u64 64 4 n))
 have q2:=Lib.hid (setRow_heap _ _ _ (gu .u64 64 4 n) _ _ r2)
 go_wp2
 refine bodyPost_ret (results_cell_row rfl _ _ g2 _ _ _ _ rfl q2.out Tryz.underlying143 rfl (by kernel_rfl)) rfl ⟨rfl,F9.out⟩
def lenV:Value→Nat
 |.slice _ n _=>n
 |_=>0
theorem as1(w:World):∃C,(Instr.makeSlice 226 (.int .i64 0) (.int .i64 11)).run Tryz.prog w = .ok (.slice (some ⟨w.heap.size,0,none⟩) 0 11) (w.alloc (.cells C 25))∧awk w.heap.size (w.alloc (.cells C 25)) (.slice (some ⟨w.heap.size,0,none⟩) 0 11) []:=by
 obtain⟨i0,hi,hz,hs,hb⟩:=info_parts Tryz.infoU32
 have:=run_make (P:=Tryz.prog) w 226 25 i0 _ Tryz.underlying226 hi hz .i64 .i64 0 11 aPl aPl (by rw[hb];omega) aPl
 exact⟨_,this,World.ownsRow_made w _ 11 (Nat.zero_le _) aPn (by rw[size_madeCells,hs];rfl),λk hk=>by cases hk;exact Nat.le_refl _⟩
theorem atj{w:World}{p:Nat}{R:Array Value}{bm:Nat}{H:List Hd}{L:List Bk}{ps:List Nat}{v:Value}{ch:List (List UInt8)}(I:TI H L ps)(T:TM w p R bm H L ps v ch)(i:Nat)(hi:i<L.length):
  Calls Tryz.prog 103 #[.pointer (some ⟨ps.getD i 0,0,none⟩)] w λe w'=>e = .returned (.int .u32 ((adw L i:Nat):Int))∧Fr F0 w w':=by
 have HP:=Lib.hid (ab3 I.wf i hi)
 have HT:=Lib.hid T
 have HI:=Lib.hid I
 have HM:=Lib.hid (fun(done:List Nat) a c n W (h:awk w.heap.size W (.slice a n c) (done.map λk=>(bkT L k).time)) (hn:n=done.length) (h0:0<n) (h11:n≤11) (hd:(anc L i).take 11=done) =>
  show Calls Tryz.prog 154 #[.slice a n c] W λe w'=>e = .returned (.int .u32 ((adw L i:Nat):Int))∧Fr F0 W w' from by
   have hl:(done.map λk=>(bkT L k).time).length=n:=by rw[List.length_map,hn]
   have:=atm a c (done.map λk=>(bkT L k).time) W h.vs.2 (by intro e;rw[e]at hl;simp at hl;omega) aPl
   rw[hl]at this
   refine this.mono ?_
   rintro e w' ⟨⟨Lp,hp,hs,rfl⟩,f⟩
   refine⟨?_,f⟩
   have:=axq (L:=L) (i:=i) (l:=done.map λk=>(bkT L k).time) (Lp:=Lp) (by rw[hd]) hp (by rw[hl];exact hs)
   rw[hl]at this
   rw[this])
 obtain⟨C0,hmk,ho⟩:=as1 w
 have F:=(Fr.refl F0 w).alloc (.cells C0 25)
 have HI0:=Lib.hid hi
 have hq0:Value.pointer (some ⟨ps.getD i 0,0,none⟩)=ptV ps (i:Int):=(vw ps i).symm
 rw[hq0]
 obtain⟨pv,hpv⟩:∃pv,pv=ptV ps (i:Int):=⟨_,rfl⟩
 rw[←hpv]
 have HPV:=Lib.hid hpv
 clear hq0 hpv T I hi
 go_enter Tryz.func103,Tryz.ntmps103
 go_wp2_with fail
 clear hmk
 generalize hW:w.alloc (.cells C0 25)=W at *
 obtain⟨g0,hg0⟩:∃g0,w.heap.size=g0:=⟨_,rfl⟩
 rw[hg0]at ho ⊢
 clear hW
 go_loopw [0,3] (λbv sv wr=>∃(done:List Nat) (n:Nat) (z:Int) (a:Option Addr) (c:Nat),bv=ptV ps z∧sv = .slice a n c∧n=done.length∧n≤11∧awk w.heap.size wr (.slice a n c) (done.map λk=>(bkT L k).time)∧Fr F0 w wr ∧
  ((z<0∧anc L i=done)∨∃j:Nat,z=j∧j<L.length∧anc L i=done++anc L j)) (λ_ sv _=>11-lenV sv)
 case atStart=>exact⟨[],0,i,_,11,HPV.out,rfl,rfl,by omega,by rw[hg0];exact ho,F,.inr ⟨i,rfl,HI0.out,rfl⟩⟩
 case round =>
  clear ho F hg0
  obtain⟨done,n,z,a,c,rfl,rfl,hnd,hn11,hv,F,hcase⟩:=hrel
  have hstop:(z<0∨n=11)→(anc L i).take 11=done∧0<n:=by
   intro hs
   have e:(anc L i).take 11=done:=by
    rcases hs with hs|hs
    ·rcases hcase with⟨_,h⟩|⟨j,h,_⟩
     ·rw[h];exact List.take_of_length_le aPl
     ·omega
    ·rcases hcase with⟨_,h⟩|⟨j,_,_,h⟩
     ·rw[h];exact List.take_of_length_le aPl
     ·rw[h,List.take_append_of_le_length aPl]
      exact List.take_of_length_le aPl
   refine⟨e,?_⟩
   have h1:=HP.out.1
   rw[hnd,←e,List.length_take]
   omega
  by_cases h1:z<0∨n=11
  ·obtain⟨hd,hpos⟩:=hstop h1
   have HX:=Lib.hid (HM.out done a c n wr hv hnd hpos hn11 hd)
   have hFF:=Lib.hid F
   have hsplit:(ptV ps z = .pointer none)∨(∃q:Nat,ptV ps z = .pointer (some ⟨q,0,none⟩))∧¬(n:Int)<11∧¬n<11:=by
    by_cases hz:z<0
    ·exact .inl (afe ps hz)
    ·refine .inr ⟨⟨ps.getD z.toNat 0,?_⟩,by omega,by omega⟩
     obtain⟨k,rfl⟩:=Int.eq_ofNat_of_zero_le (show 0≤z by omega)
     exact vw ps k
   clear hstop hcase hd hpos hnd hn11 hv F h1
   generalize ptV ps z=pz at *
   rcases hsplit with rfl|⟨⟨q,rfl⟩,l1,l2⟩
   ·go_wp2_with fail
    (with_reducible refine(HX.out).mono ?_);rintro e w9 ⟨rfl,f⟩
    go_wp2_with fail
    go_ret
    exact⟨rfl,hFF.out.trans' f⟩
   ·go_wp2_with fail
    (with_reducible refine(HX.out).mono ?_);rintro e w9 ⟨rfl,f⟩
    go_wp2_with fail
    go_ret
    exact⟨rfl,hFF.out.trans' f⟩
  ·have hz:0≤z∧n<11:=by omega
   obtain⟨j,rfl,hj,hPj⟩:∃j:Nat,z=j∧j<L.length∧anc L i=done++anc L j:=by
    rcases hcase with⟨h,_⟩|h
    ·omega
    ·exact h
   clear hcase hstop
   have r1:=(HT.out.fr F).blk j hj
   have sC:=HI.out.aau hj
   have oj:=HI.out.hd j hj
   have c65:(yt H L ps j)[65]? = some (.int .u32 ((bkT L j).time:Int)):=by rw[oj.2.2.1];exact akb oj.1
   have ayu:(yt H L ps j)[100]? = some (ptV ps (bkT L j).ahead):=ahx oj.1 (HI.out.at32 hj)
   rw[vw]
   obtain⟨x,hx⟩:∃x,(bkT L j).time=x:=⟨_,rfl⟩
   rw[hx]at c65
   have l1:(n:Int)<11:=by omega
   have l2:n<11:=hz.2
   obtain⟨a1,c1,w1,hap,o1,g1,_⟩:=aRm (m:=1) (n:=n+1) (F.alloc (.cells #[.int .u32 (x:Int)] 25)) (hv.fr0 ((Fr.refl F0 _).alloc _)) (Vs.sing wr x) rfl (by simp) zz61 (by rw[List.length_map,hnd];rfl)
   have r2:=(HT.out.fr g1).blk j hj
   have HU:=Lib.hid (show((bkT L j).ahead<0∧anc L i=done ++ [j])∨∃m:Nat,(bkT L j).ahead=m∧m<L.length∧anc L i=(done ++ [j])++anc L m from by
    have hu:=HI.out.wf.up j hj
    by_cases h0:(bkT L j).ahead<0
    ·exact .inl ⟨h0,by rw[hPj,abe HI.out.wf hj h0]⟩
    ·obtain⟨m,hm⟩:=Int.eq_ofNat_of_zero_le (show 0≤(bkT L j).ahead by omega)
     obtain⟨h3,h4⟩:=aal HI.out.wf hj hm
     exact .inr ⟨m,hm,by omega,by rw[hPj,h4,List.append_assoc];rfl⟩)
   have HO:=Lib.hid (And.intro o1 g1)
   have HX:=Lib.hid (And.intro hx (And.intro hj (And.intro hPj hnd)))
   clear o1 g1 hx oj hj hPj hnd h1 hz hn11 hv
   generalize yt H L ps j=C at *
   generalize ps.getD j 0=q at *
   obtain⟨up,hup⟩:∃up,ptV ps (bkT L j).ahead=up:=⟨_,rfl⟩
   rw[hup]at ayu
   have HUP:=Lib.hid hup
   clear hup
   have s65:65<C.size:=by omega
   have d65:=jd c65 s65
   have aoq:100<C.size:=by omega
   have aOw:=jd ayu aoq
   go_wp2_with fail
   go_roundw
   case rel =>
    obtain⟨hx,hj,hPj,hnd⟩:=HX.out
    exact⟨done ++ [j],n+1,(bkT L j).ahead,a1,c1,HUP.out.symm,rfl,by rw[List.length_append,hnd];rfl,by omega,by rw[List.map_append,List.map_cons,List.map_nil,hx];exact HO.out.1,HO.out.2,HU.out⟩
   case measure=>simp[lenV];omega
theorem alf(w:World){a b:Nat}{A B:Array Value}(hne:a≠b)(ha:w.heap[a]? = some (.cells A 145 (0,0)))(hb:w.heap[b]? = some (.cells B 145 (0,0))):
  (binOp .neq 140 (.pointer (some ⟨a,0,none⟩)) (.pointer (some ⟨b,0,none⟩))).run Tryz.prog w = .ok (.bool true) w:=by
 obtain⟨j,hj,hs⟩:∃j,Tryz.prog.info? 145=some j∧j.size=107:=by
  have:=Tryz.szKBlock
  cases hq:Tryz.prog.info? 145 with
  |none=>rw[hq]at this;cases this
  |some j=>rw[hq]at this;exact⟨j,rfl,by simpa using this⟩
 have hne2:(⟨a,0,none⟩:Addr)≠⟨b,0,none⟩:=λe=>hne (by cases e;rfl)
 have h:∀d:Nat,(Op.equalIn (d+1) 140 (.pointer (some ⟨a,0,none⟩)) (.pointer (some ⟨b,0,none⟩))).run Tryz.prog w = .ok false w:=λd=>by
  simp[Op.equalIn,run_underlying Tryz.underlying140,sizeOf,typeInfo,hj,hs,run_sameAddr_other w hne2 ha hb]
 simp only[binOp]
 simp[Op.equal,Op.maxDepth,h 9999]
theorem aoj(w:World)(a:Nat):(binOp .neq 140 (.pointer (some ⟨a,0,none⟩)) (.pointer (some ⟨a,0,none⟩))).run Tryz.prog w = .ok (.bool false) w:=by
 cases hq:Tryz.prog.info? 145 with
 |none=>have:=Tryz.szKBlock;rw[hq]at this;cases this
 |some j=>exact Lib.run_neq_ptr_same w _ Tryz.underlying140 hq
def idxP(ps:List Nat):Value→Nat
 |.pointer (some a)=>ps.idxOf a.block
 |_=>0
theorem TI.idx{H:List Hd}{L:List Bk}{ps:List Nat}(I:TI H L ps){x:Nat}(hx:x<L.length):ps.idxOf (ps.getD x 0)=x:=by
 have hm:ps.getD x 0∈ps:=by
  rw[List.getD_eq_getElem?_getD,List.getElem?_eq_getElem (by rw[I.arp];exact hx)]
  exact List.getElem_mem _
 have h1:=List.idxOf_lt_length_of_mem hm
 have h2:=List.getElem_idxOf h1
 refine I.inj _ _ (by rw[←I.arp];exact h1) hx ?_
 rw[List.getD_eq_getElem?_getD,List.getElem?_eq_getElem h1]
 exact h2
theorem ax4{L:List Bk}(h:WFt L)(o:aE5 L){y:Nat}(hy:y<L.length)(h0:0<y):0<ig L y:=by
 obtain⟨m,hm⟩:=Int.eq_ofNat_of_zero_le (o y h0 hy)
 obtain⟨h1,h2⟩:=aal h hy hm
 have:=(ab3 h m aPl).1
 rw[ig,h2,List.length_cons]
 omega
theorem aCq{w:World}{p:Nat}{R:Array Value}{bm:Nat}{H:List Hd}{L:List Bk}{ps:List Nat}{v:Value}{ch:List (List UInt8)}(hR:R.size=72)(I:TI H L ps)(T:TM w p R bm H L ps v ch)(i j:Nat)(hi:i<L.length)(hj:j<L.length):
  Calls Tryz.prog 107 #[.pointer (some ⟨p,0,none⟩),.agg (hc (bkT L i).hash),.agg (hc (bkT L j).hash)] w λe w'=>e = .returned (.tuple #[.int .i64 ((af7 L i j:Nat):Int),.bool true])∧Fr F0 w w':=by
 have HB1:=Lib.hid (λW (f:Fr F0 w W)=>abx hR I (T.fr f) (bkT L i).hash (I.at32 hi))
 have HB2:=Lib.hid (λW (f:Fr F0 w W)=>abx hR I (T.fr f) (bkT L j).hash (I.at32 hj))
 rw[afh I.nh hi,vw]at HB1
 rw[afh I.nh hj,vw]at HB2
 have HT:=Lib.hid T
 have HI:=Lib.hid I
 have HIJ:=Lib.hid (And.intro hi hj)
 have sA:=jl (I.at32 hi)
 have oA:=qg (bkT L i).hash
 have sB:=jl (I.at32 hj)
 have oB:=qg (bkT L j).hash
 generalize hc (bkT L i).hash=A at *
 generalize hc (bkT L j).hash=B at *
 have HCM:=Lib.hid (avt I.wf I.one hi hj)
 obtain⟨qi,hqi⟩:∃q,ps.getD i 0=q:=⟨_,rfl⟩
 obtain⟨qj,hqj⟩:∃q,ps.getD j 0=q:=⟨_,rfl⟩
 rw[hqi]at HB1
 rw[hqj]at HB2
 have HQ:=Lib.hid (And.intro hqi hqj)
 obtain⟨r1,r2⟩:=heap2 w (.cells A 24) (.cells B 24)
 have F:=((Fr.refl F0 w).alloc (.cells A 24)).alloc (.cells B 24)
 clear T I hi hj hR hqi hqj
 go_enter Tryz.func107,Tryz.ntmps107
 go_upto_region 1 with fail
 generalize hW:(w.alloc (.cells A 24)).alloc (.cells B 24)=W at *
 generalize w.heap.size+1=g2 at *
 generalize w.heap.size=g1 at *
 clear hW
 refine jm (S:=(λw'=>(w'.heap[g1]? = some (.cells A 24 (0,0))∧w'.heap[g2]? = some (.cells B 24 (0,0)))∧Fr F0 w w')) ?_ λak=>?_
 ·exact zz46
 refine aj 0 ?_
 refine aj 1 ?_
 refine aj 3 ?_
 refine aj 4 ?_
 refine jf 2 λK hK=>?_
 go_simp
 ((with_reducible refine(HB1.out _ ak.2).mono ?_);rintro e w5 ⟨rfl,f5⟩)
 refine rpu hK ak5 λak=>?_
 clear hK K
 refine jf 5 λK hK=>?_
 go_simp
 ((with_reducible refine(HB2.out _ ak.2).mono ?_);rintro e w5 ⟨rfl,f5⟩)
 refine rpu hK ak5 λak=>?_
 clear hK K
 refine aj 6 ?_
 refine aj 7 ?_
 refine jg ?_
 all_goals
  clear r1 r2 F
  have F:=ak.2
  clear ak
  go_wp2_with fail
  go_loopw [8,9] (λav bv wr=>∃x y:Nat,av = .pointer (some ⟨ps.getD x 0,0,none⟩)∧bv = .pointer (some ⟨ps.getD y 0,0,none⟩)∧x<L.length∧y<L.length∧cmM L x y=af7 L i j+1∧Fr F0 w wr) (λav bv _=>idxP ps av+idxP ps bv)
  case atStart=>exact⟨i,j,by rw[HQ.out.1],by rw[HQ.out.2],HIJ.out.1,HIJ.out.2,HCM.out,F⟩
  case round =>
   clear F
   obtain⟨x,y,rfl,rfl,hx,hy,hcm,F⟩:=hrel
   have I:=HI.out
   by_cases hxy:x=y
   ·subst hxy
    have HE:=Lib.hid (show af7 L i j=ig L x by rw[aNd I.wf hx]at hcm;omega)
    have r1:=(HT.out.fr F).blk x hx
    have sC:=I.aau hx
    have ayt:(yt H L ps x)[101]? = some (.int .i64 (ig L x:Int)):=aeo (I.hd x hx).1 (I.at32 hx)
    generalize yt H L ps x=C at *
    have ajd:101<C.size:=by omega
    have aOv:=jd ayt ajd
    generalize ps.getD x 0=q at *
    generalize ig L x=hh at *
    clear hx hy hcm I
    have hnq:=aoj wr q
    go_wp2_with fail
    go_ret2
    exact⟨by rw[HE.out];rfl,F⟩
   ·have hne:¬ps.getD x 0=ps.getD y 0:=λe=>hxy (I.inj x y hx hy e)
    have r1:=(HT.out.fr F).blk x hx
    have r2:=(HT.out.fr F).blk y hy
    have sC:=I.aau hx
    have sD:=I.aau hy
    have ayt:(yt H L ps x)[101]? = some (.int .i64 (ig L x:Int)):=aeo (I.hd x hx).1 (I.at32 hx)
    have e101:(yt H L ps y)[101]? = some (.int .i64 (ig L y:Int)):=aeo (I.hd y hy).1 (I.at32 hy)
    have ayu:(yt H L ps x)[100]? = some (ptV ps (bkT L x).ahead):=ahx (I.hd x hx).1 (I.at32 hx)
    have e100:(yt H L ps y)[100]? = some (ptV ps (bkT L y).ahead):=ahx (I.hd y hy).1 (I.at32 hy)
    have HX:=Lib.hid (And.intro hx (And.intro hy (And.intro hcm hxy)))
    have up:∀a b,a<L.length→b<L.length→a≠b→ig L b≤ig L a→∃z:Nat,(bkT L a).ahead=z∧z<a∧cmM L z b=cmM L a b:=by
     intro a b ha hb hab hh
     by_cases h0:a=0
     ·subst h0
      have h3:=ax4 I.wf I.one hb aPl
      have h4:ig L 0=0:=by
       have:=I.wf.up 0 ha
       rw[ig,abe I.wf ha aPl]
       rfl
      omega
     ·obtain⟨z,hz⟩:=Int.eq_ofNat_of_zero_le (I.one a aPl ha)
      exact⟨z,hz,(aal I.wf ha hz).1,aNc I.wf ha hb hz hab hh⟩
    generalize yt H L ps x=C at *
    generalize yt H L ps y=D at *
    have ajd:101<C.size:=by omega
    have aOv:=jd ayt ajd
    have t101:101<D.size:=by omega
    have f101:=jd e101 t101
    have aoq:100<C.size:=by omega
    have t100:100<D.size:=by omega
    have HIX:=Lib.hid (And.intro (I.idx hx) (I.idx hy))
    obtain⟨q1,hq1⟩:∃q,ps.getD x 0=q:=⟨_,rfl⟩
    obtain⟨q2,hq2⟩:∃q,ps.getD y 0=q:=⟨_,rfl⟩
    rw[hq1]at r1 hne HIX ⊢
    rw[hq2]at r2 hne HIX ⊢
    have HQ2:=Lib.hid (And.intro hq1 hq2)
    have hnq:=alf wr hne r1 r2
    by_cases hh:ig L x<ig L y
    ·have l1:(ig L x:Int)<(ig L y:Int):=by omega
     obtain⟨z,hz,hzl,hzc⟩:=up y x hy hx (λe=>hxy e.symm) aPl
     rw[hz,vw]at e100
     obtain⟨q3,hq3⟩:∃q,ps.getD z 0=q:=⟨_,rfl⟩
     rw[hq3]at e100
     have f100:=jd e100 t100
     have HZ:=Lib.hid (show z<L.length∧cmM L z x=af7 L i j+1∧ps.getD z 0=q3∧ps.idxOf q3=z∧z<y from⟨by omega,by rw[hzc,cmM,aky];exact hcm,hq3,by rw[←hq3];exact I.idx aPl,hzl⟩)
     generalize ig L x=h1 at *
     generalize ig L y=h2 at *
     clear up hz hzl hzc hx hy hcm hxy hh hq1 hq2 hq3 I ayu
     go_upto_region 5 with fail
     refine jm (S:=(λw'=>(w'.heap[q1]? = some (.cells C 145 (0,0))∧w'.heap[q2]? = some (.cells D 145 (0,0)))∧Fr F0 w w')) ?_ λak=>?_
     ·exact zz46
     refine aj 0 ?_
     refine aj 1 ?_
     refine aj 2 ?_
     refine aj 3 ?_
     refine aj 4 ?_
     refine aj 5 ?_
     refine aj 6 ?_
     refine aj 7 ?_
     refine aj 8 ?_
     refine jg ?_
     all_goals
      clear r1 r2 F
      obtain⟨⟨r1,r2⟩,F⟩:=ak
      generalize wr.drew=w6 at *
      go_wp2_with fail
      go_roundw
      case rel=>exact⟨z,x,by rw[HZ.out.2.2.1],by rw[HQ2.out.1],HZ.out.1,HX.out.1,HZ.out.2.1,F⟩
      case measure =>
       have h3:=HZ.out.2.2.2
       have h4:=HIX.out
       simp only[idxP]
       omega
    ·have l1:¬(ig L x:Int)<(ig L y:Int):=by omega
     obtain⟨z,hz,hzl,hzc⟩:=up x y hx hy hxy aPl
     rw[hz,vw]at ayu
     obtain⟨q3,hq3⟩:∃q,ps.getD z 0=q:=⟨_,rfl⟩
     rw[hq3]at ayu
     have aOw:=jd ayu aoq
     have HZ:=Lib.hid (show z<L.length∧cmM L z y=af7 L i j+1∧ps.getD z 0=q3∧ps.idxOf q3=z∧z<x from⟨by omega,by rw[hzc];exact hcm,hq3,by rw[←hq3];exact I.idx aPl,hzl⟩)
     generalize ig L x=h1 at *
     generalize ig L y=h2 at *
     clear up hz hzl hzc hx hy hcm hxy hh hq1 hq2 hq3 I e100
     go_upto_region 5 with fail
     refine jm (S:=(λw'=>(w'.heap[q1]? = some (.cells C 145 (0,0))∧w'.heap[q2]? = some (.cells D 145 (0,0)))∧Fr F0 w w')) ?_ λak=>?_
     ·exact zz46
     refine aj 0 ?_
     refine aj 1 ?_
     refine aj 2 ?_
     refine aj 3 ?_
     refine aj 4 ?_
     refine aj 5 ?_
     refine aj 6 ?_
     refine aj 7 ?_
     refine aj 8 ?_
     refine jg ?_
     all_goals
      clear r1 r2 F
      obtain⟨⟨r1,r2⟩,F⟩:=ak
      generalize wr.drew=w6 at *
      go_wp2_with fail
      go_roundw
      case rel=>exact⟨z,y,by rw[HZ.out.2.2.1],by rw[HQ2.out.2],HZ.out.1,HX.out.2.1,HZ.out.2.1,F⟩
      case measure =>
       have h3:=HZ.out.2.2.2
       have h4:=HIX.out
       simp only[idxP]
       omega
end Go.Proofs.YtjlelckefiannaaGreatDoor
