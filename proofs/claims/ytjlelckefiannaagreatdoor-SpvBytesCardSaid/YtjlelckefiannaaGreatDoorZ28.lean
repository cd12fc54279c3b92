import Derived.Test.YtjlelckefiannaaGreatDoorZ24
import Derived.Test.YtjlelckefiannaaGreatDoorZ27
import Derived.Test.YtjlelckefiannaaGreatDoorZ14
import Derived.Test.YtjlelckefiannaaGreatDoorZ2
import Derived.Test.YtjlelckefiannaaGreatDoorZ1
set_option maxRecDepth 100000
set_option maxHeartbeats 64000000
namespace Go.Proofs.YtjlelckefiannaaGreatDoor
set_option linter.unusedVariables false
set_option linter.unusedSimpArgs false
open Go.RowKit
def alq(S:List UInt8)(m:Nat):List (List UInt8):=(List.range m).map λj=>(S.drop (32*j)).take 32
theorem ao8(S:List UInt8)(k:Nat):alq S (k+1)=alq S k ++ [(S.drop (32*k)).take 32]:=by simp[alq,List.range_succ]
theorem agb(S:List UInt8)(m:Nat):(alq S m).length=m:=by simp[alq]
theorem aFg{S:List UInt8}{m:Nat}(h:32*m≤S.length):afx (alq S m):=by
 intro x hx
 simp only[alq,List.mem_map,List.mem_range]at hx
 obtain⟨j,hj,rfl⟩:=hx
 rw[List.length_take,List.length_drop]
 omega
theorem ao9(S:List UInt8):∀m,(alq S m).flatten=S.take (32*m)
 |0=>by simp[alq]
 |m+1=>by
  rw[ao8,List.flatten_append,ao9 S m,Nat.mul_succ,List.take_add]
  simp
theorem MP.aj9(p:MP)(o:p.Ok):p.bytes.length=csz p.tx.length+p.tx.length+40+csz p.wy.length+32*p.wy.length:=by
 have:=acd p.wy o.wy
 have:=o.bk
 simp only[MP.bytes,ctd,List.length_append,qh,jy]
 omega
theorem MP.rrc(p:MP)(hl:p.tx.length≤100000):rrc p.bytes=(p.tx.length,csz p.tx.length,true):=by
 rw[MP.bytes,ctd,List.append_assoc]
 exact ajp _ _ aPl
theorem MP.aR1(p:MP)(o:p.Ok):p.bytes.drop (csz p.tx.length+p.tx.length+40)=cnt p.wy.length++p.wy.flatten:=by
 have e:p.bytes=(ctd p.tx++(p.bk++(le 4 p.ix++le 4 p.cn)))++(cnt p.wy.length++p.wy.flatten):=by simp only[MP.bytes,List.append_assoc]
 rw[e]
 have hb:=o.bk
 refine List.drop_left' ?_
 simp only[ctd,List.length_append,qh,jy]
 omega
theorem docA{bs:List UInt8}{n sz:Nat}{ok:Bool}(h:rrc bs=(n,sz,ok))(hq:ok=false∨4096<n∨bs.length<sz+n+41):ak6 bs=none:=by
 cases e:ak6 bs with
 |none=>rfl
 |some p =>
  exfalso
  obtain⟨rfl,hf⟩:=ai3 e
  have h1:=p.rrc (by have:=hf.tx;omega)
  rw[h]at h1
  simp only[Prod.mk.injEq]at h1
  obtain⟨rfl,rfl,rfl⟩:=h1
  have h2:=p.aj9 hf.ok
  have h3:=aa0 p.wy.length
  have h4:=hf.tx
  rcases hq with h|h|h
  ·cases h
  ·omega
  ·omega
theorem docB{bs:List UInt8}{n sz m k:Nat}{ok:Bool}(h:rrc bs=(n,sz,true))(h2:rrc (bs.drop (sz+n+40))=(m,k,ok))(hq:ok=false∨16<m∨bs.length≠sz+n+40+k+32*m):ak6 bs=none:=by
 cases e:ak6 bs with
 |none=>rfl
 |some p =>
  exfalso
  obtain⟨rfl,hf⟩:=ai3 e
  have h1:=p.rrc (by have:=hf.tx;omega)
  rw[h]at h1
  simp only[Prod.mk.injEq]at h1
  obtain⟨rfl,rfl,_⟩:=h1
  rw[p.aR1 hf.ok,ajp _ _ (by have:=hf.wy;omega)]at h2
  simp only[Prod.mk.injEq]at h2
  obtain⟨rfl,rfl,rfl⟩:=h2
  have h2:=p.aj9 hf.ok
  have h4:=hf.wy
  rcases hq with h|h|h
  ·cases h
  ·omega
  ·omega
def aE1(bs:List UInt8)(n sz m k:Nat):MP:=⟨(bs.drop sz).take n,(bs.drop (sz+n)).take 32,ofLE ((bs.drop (sz+n+32)).take 4),ofLE ((bs.drop (sz+n+36)).take 4),alq (bs.drop (sz+n+40+k)) m⟩
theorem aQa{l:List UInt8}(h:l.length=4):ofLE l<4294967296:=by have:=adv l;rw[h]at this;exact this
theorem aA5{bs:List UInt8}{n sz m k:Nat}(h:bs.length=sz+n+40+k+32*m):(aE1 bs n sz m k).Ok:=by
 refine⟨?_,aQa ?_,aQa ?_,aFg ?_⟩
 ·show((bs.drop (sz+n)).take 32).length=32
  rw[List.length_take,List.length_drop];omega
 ·rw[List.length_take,List.length_drop];omega
 ·rw[List.length_take,List.length_drop];omega
 ·rw[List.length_drop];omega
theorem docC{bs:List UInt8}{n sz m k:Nat}(h:rrc bs=(n,sz,true))(hn:n≤4096)(h41:sz+n+41≤bs.length)(h2:rrc (bs.drop (sz+n+40))=(m,k,true))(hm:m≤16)(hl:bs.length=sz+n+40+k+32*m):ak6 bs=some (aE1 bs n sz m k):=by
 have o:=aA5 hl
 have e1:=ar9 bs (by rw[h])
 rw[h]at e1
 dsimp only at e1
 have e2:=ar9 (bs.drop (sz+n+40)) (by rw[h2])
 rw[h2]at e2
 dsimp only at e2
 have t1:((bs.drop sz).take n).length=n:=by rw[List.length_take,List.length_drop];omega
 have f:(aE1 bs n sz m k).Fit:=⟨o,by show((bs.drop sz).take n).length≤4096;omega,by show(alq _ m).length≤16;rw[agb];exact hm⟩
 have e:bs=(aE1 bs n sz m k).bytes:=by
  have q4:∀(l:List UInt8),l.length=4→le 4 (ofLE l)=l:=λl hl=>aE9 hl
  show bs=ctd ((bs.drop sz).take n)++((bs.drop (sz+n)).take 32++(le 4 (ofLE ((bs.drop (sz+n+32)).take 4))++(le 4 (ofLE ((bs.drop (sz+n+36)).take 4))++(cnt (alq (bs.drop (sz+n+40+k)) m).length++(alq (bs.drop (sz+n+40+k)) m).flatten))))
  rw[agb,ao9,q4 _ (by rw[List.length_take,List.length_drop];omega),q4 _ (by rw[List.length_take,List.length_drop];omega),ctd,t1,List.take_of_length_le (l:=bs.drop (sz+n+40+k)) (by rw[List.length_drop];omega)]
  rw[List.drop_drop]at e2
  rw[←e2]
  have st:∀(i j:Nat),(bs.drop i).take j++bs.drop (i+j)=bs.drop i:=λi j=>by
   have:=List.take_append_drop j (bs.drop i)
   rwa [List.drop_drop]at this
  rw[show sz+n+40=sz+n+36+4 by omega,st,show sz+n+36=sz+n+32+4 by omega,st,st,List.append_assoc,st]
  exact e1
 have:=ami f
 rw[←e]at this
 exact this
theorem aRs(l:List UInt8)(j:Nat)(y:UInt8):(hc l).setIfInBounds j (.int .u8 (y.toNat:Int))=hc (l.set j y):=by
 rw[hc,hc,List.setIfInBounds_toArray,List.map_set]
 rfl
theorem aRt{l:List UInt8}(j:Nat)(hj:j<l.length):∃v,(hc l)[j]? = some v:=⟨_,Array.getElem?_eq_getElem (by simpa [hc]using hj)⟩
theorem akp(a:Option Addr)(c:Nat)(l:List UInt8)(w:World)(h:Bs w a c l)(hl:l.length=32):Calls Tryz.prog 47 #[.slice a 32 c] w λe w'=>e = .returned (.agg (hc l))∧Fr F0 w w':=by
 have HB:=Lib.hid h
 have hroom:=h.room
 rw[hl]at hroom
 obtain⟨Z,hZ⟩:∃Z,Z=hc z32:=⟨_,rfl⟩
 have sZ:Z.size=32:=by rw[hZ];rfl
 have oZ:jh Z:=by rw[hZ];exact qg z32
 have hzb:∀w,(ao5 23 #[]).run Tryz.prog w = .ok (.agg Z) w:=λw=>by rw[hZ];exact as5 w
 replace hZ:=Lib.hid hZ
 have HL:=Lib.hid hl
 clear h hl
 go_enter Tryz.func47,Tryz.ntmps47
 go_upto_region 1 with fail
 refine lu λW1 N1=>?_
 have r2:=N1.new
 replace r2:W1.heap[w.heap.size]? = some (.cells Z 23 (0,0)):=by rw[hZ.out];exact r2
 have F:=N1.fr
 obtain⟨g2,hg2⟩:∃g,g=w.heap.size:=⟨_,rfl⟩
 rw[←hg2]at r2 ⊢
 replace hg2:=Lib.hid (show w.heap.size≤g2 by omega)
 clear N1
 go_upto_region 2 with fail
 refine uy λW2 N2=>?_
 have r3:=N2.new
 have hs3:w.heap.size≤W1.heap.size:=F.size
 have ne:=N2.ne r2
 replace r2:=N2.old r2
 have hz2:=Lib.hid (show w.heap.size≤W2.heap.size from Nat.le_trans F.size N2.fr.size)
 replace F:=F.trans' N2.fr
 have hlow:=Lib.hid HB.out.low
 replace hlow:=Lib.hid (show l ≠ []→∀k,ql a=some k→k≠W1.heap.size from λh k hk=>by have:=hlow.out h k hk;omega)
 replace hs3:=Lib.hid hs3
 clear N2 hzb
 generalize W1.heap.size=g3 at *
 have HB2:=Lib.hid (Bs.fr7 HB.out F)
 replace F:=Lib.hid F
 rw[hZ.out]at r3
 go_wp2_with fail
 go_loopw [4,6] (λiv jv wr=>∃(k:Nat),k≤32∧jv = .int .i64 k∧wr.heap[g3]? = some (.cells (hc (filled l k)) 23 (0,0))∧wr.heap[g2]? = some (.cells Z 23 (0,0))∧Hid (Fr (λk=>k=g3) W2 wr)) (λ_ jv _=>32-(intOf jv).toNat)
 case atStart=>exact⟨0,Nat.zero_le _,rfl,by rw[show filled l 0=z32 by simp[filled,z32,wu]];exact r3,r2,Fr.refl _ _⟩
 case round =>
  obtain⟨k,hk,rfl,q3,q2,hf⟩:=hrel
  clear r3 r2
  by_cases hkn:k<32
  ·have hb8:=HB2.out.frx hf.out (λhn i hi e=>hlow.out hn i hi e)
   obtain⟨gb,ob,rfl,hcb⟩:=hb8.aPy k (by have:=HL.out;omega)
   have hfl:=aoo (F:=l) (.inr HL.out) k (by have:=HL.out;omega)
   obtain⟨vj,hvj⟩:=aRt (l:=filled l k) k aPl
   have hset:=aRs (filled l k) k (l.getD k 0)
   rw[atq HL.out k hkn]at hset
   have szR:=jl hfl
   obtain⟨R,hR⟩:∃R,R=hc (filled l k):=⟨_,rfl⟩
   rw[←hR]at q3 hvj hset szR
   have dvj:=jd hvj aPl
   obtain⟨y,hy⟩:∃y,y=l.getD k 0:=⟨_,rfl⟩
   rw[←hy]at hcb hset
   rw[jq]at hcb
   have l32:(k:Int)<32:=by omega
   have hk32:=Lib.hid hkn
   clear hb8 hR hy hfl
   go_wp2_with fail
   go_roundw
   case rel=>exact⟨k+1,by have:=hk32.out;omega,by go_num,by rw[gq,q3];show some (Obj.cells (R.setIfInBounds k _) _ _)=_;rw[hset],by rw[dn _ _ _ _ _ ne];exact q2,hf.out.setCell (p:=⟨g3,k,none⟩) (λ_=>rfl) _⟩
   case measure=>have:=hk32.out;simp[intOf];omega
  ·obtain rfl:k=32:=by omega
   rw[show filled l 32=l by have:=aya (F:=l) (.inr HL.out);rw[HL.out]at this;rw[this,ak8,if_pos HL.out]]at q3
   have sX:=jl HL.out
   have oX:=qg l
   obtain⟨X,hX⟩:∃X,X=hc l:=⟨_,rfl⟩
   rw[←hX]at q3 sX oX
   replace hX:=Lib.hid hX
   have HF:=Lib.hid (hf.out)
   go_wp2_with fail
   refine bodyPost_ret (results_cell_row rfl _ _ g2 _ _ _ _ rfl zz62 Tryz.underlying23 rfl (by rw[Tryz.szArrJ,sX])) rfl ?_
   refine⟨by rw[hX.out],?_⟩
   exact(F.out.trans HF.out λi hi e=>by have:=hs3.out;omega).setRow (λe=>by have:=hg2.out;omega) _
theorem Tryz.szRProof:(Tryz.prog.info? 34).map (·.size)=some 36:=by kernel_rfl
@[go_sem ↓ high] theorem aOa (p:Value):Instr.loadAt 34 p=iq 34 p:=rfl
@[go_sem ↓ high] theorem aKe (p v:Value):Instr.storeAt 34 p v=ji 34 p v:=rfl
@[go_sem] theorem aD4 (w:World) (g:Nat):(iq 34 (.pointer (some ⟨g,0,none⟩))).run Tryz.prog w=aa8 Tryz.prog 34 (.pointer (some ⟨g,0,none⟩)) w 36 w.heap[g]? :=
 qc w _ g 36 _ Tryz.underlying34 rfl Tryz.szRProof
@[go_sem] theorem ayz (w:World) (g:Nat) (cells:Array Value):(ji 34 (.pointer (some ⟨g,0,none⟩)) (.agg cells)).run Tryz.prog w=aeg Tryz.prog 34 (.pointer (some ⟨g,0,none⟩)) cells g w 36 w.heap[g]? :=
 oq w _ g 36 cells Tryz.szRProof
def anf(parts:Array (Nat×Value)):Sem Value:=Instr.build 34 parts
@[go_sem ↓ high] theorem aKm (p:Array (Nat×Value)):Instr.build 34 p=anf p:=rfl
theorem agh(w:World)(parts:Array (Nat×Value))(cells:Array Value)(h:Tryz.prog.built 34 parts.toList=some cells):(anf parts).run Tryz.prog w = .ok (.agg cells) w:=run_build w _ parts cells h
theorem aDd:Tryz.prog.built 34 []=some (rowP (.string (strOf [])) z32 (.int .u64 0) (.int .u64 0) (.slice none 0 0)):=by kernel_rfl
theorem av1(l:List UInt8)(h:l.length=32)(x y:Int)(s:ByteArray):Tryz.prog.built 34 [(0,.string s),(1,.agg (hc l)),(2,.int .u64 x),(3,.int .u64 y)]=some (rowP (.string s) l (.int .u64 x) (.int .u64 y) (.slice none 0 0)):=by
 obtain⟨z0,z1,z2,z3,z4,z5,z6,z7,z8,z9,z10,z11,z12,z13,z14,z15,z16,z17,z18,z19,z20,z21,z22,z23,z24,z25,z26,z27,z28,z29,z30,z31,rfl⟩:=af5 l h
 kernel_rfl
theorem aqe(p:MP)(o:p.Ok)(a:Option Addr)(c:Nat)(b:Option Addr)(d:Nat)(w:World)(hb:Bs w a c p.tx)(hs:Hs w b d p.wy)(h2:p.wy.length≤1000):
  Calls Tryz.prog 8 #[.agg (pfC p a c b d)] w λe w'=>∃b2 d2,e = .returned (.agg (rfC p b2 d2))∧Hs w' b2 d2 p.wy∧Fr F0 w w':=by
 obtain⟨tx,bk,ix,cn,wy⟩:=p
 obtain⟨o1,o2,o3,o4⟩:=o
 simp only at o1 o2 o3 o4 hb hs h2
 simp only[pfC,rfC]
 obtain⟨tn,htn⟩:∃n,n=tx.length:=⟨_,rfl⟩
 obtain⟨m,hm⟩:∃n,n=wy.length:=⟨_,rfl⟩
 rw[←htn,←hm]
 have hld:∀W g,W.heap[g]? = some (.cells (rowP (.slice a tn c) bk (.int .u32 (ix:Int)) (.int .u32 (cn:Int)) (.slice b m d)) 28 (0,0))→(iq 24 (.pointer (some ⟨g,1,none⟩))).run Tryz.prog W = .ok (.agg (hc bk)) W:=λW g r=>abf o1 (ahz o1 r)
 have hstr:=λW (f:Fr F0 w W)=>ahw (Bs.fr7 hb f) htn
 have hbr:=λw=>agh w _ _ (av1 bk o1 (ix:Int) (cn:Int) (strOf tx))
 have s0:=pq o1 (.slice a tn c) (.int .u32 (ix:Int)) (.int .u32 (cn:Int)) (.slice b m d)
 have c0:=alz (.slice a tn c) bk (.int .u32 (ix:Int)) (.int .u32 (cn:Int)) (.slice b m d)
 have c33:=ajq o1 (.slice a tn c) (.int .u32 (ix:Int)) (.int .u32 (cn:Int)) (.slice b m d)
 have c34:=ahs o1 (.slice a tn c) (.int .u32 (ix:Int)) (.int .u32 (cn:Int)) (.slice b m d)
 have c35:=ac6 o1 (.slice a tn c) (.int .u32 (ix:Int)) (.int .u32 (cn:Int)) (.slice b m d)
 generalize rowP (.slice a tn c) bk (.int .u32 (ix:Int)) (.int .u32 (cn:Int)) (.slice b m d)=C at *
 have d0:=jd c0 aPl
 have d33:=jd c33 aPl
 have d34:=jd c34 aPl
 have d35:=jd c35 aPl
 have z0:0<C.size:=by omega
 have z33:33<C.size:=by omega
 have z34:34<C.size:=by omega
 have z35:35<C.size:=by omega
 have hi:=IntWalk.u64_in (ix:Int) aPl
 have hcw:=IntWalk.u64_in (cn:Int) aPl
 have hmb:m≤1000:=by rw[hm];exact h2
 have oR:∀y,y.oneCell'=true→jh (rowP (.string (strOf tx)) bk (.int .u64 (ix:Int)) (.int .u64 (cn:Int)) y):=λy hy=>aad bk rfl rfl rfl hy
 have sR:=pq o1 (.string (strOf tx)) (.int .u64 (ix:Int)) (.int .u64 (cn:Int))
 have HO:=Lib.hid o4
 have HO1:=Lib.hid o1
 have HS0:=Lib.hid hs
 have hlow:=Lib.hid hb.low
 obtain⟨TX,hTX⟩:∃T,T=strOf tx:=⟨_,rfl⟩
 rw[←hTX]at hbr hstr oR sR
 replace hTX:=Lib.hid hTX
 have sX:=jl o1
 have oX:=qg bk
 replace hld:=Lib.hid hld
 replace hstr:=Lib.hid hstr
 replace htn:=Lib.hid htn
 replace hm:=Lib.hid hm
 have l32:=o1
 clear hb hs o1 o2 o3 o4 h2
 have hsb:=hbr
 have oR0:=oR (.slice none 0 0) rfl
 have sR0:=sR (.slice none 0 0)
 replace oR:=Lib.hid oR
 replace sR:=Lib.hid sR
 generalize hc bk=X at *
 go_enter Tryz.func8,Tryz.ntmps8
 go_upto_region 1 with fail
 refine lu λW2 N2=>?_
 have r0:=N2.old (heap_alloc_new w (.cells C 28))
 have fW:=((Fr.refl F0 w).alloc (.cells C 28)).trans' N2.fr
 have ne:=N2.ne (heap_alloc_new w (.cells C 28))
 have r2:=N2.new
 rw[World.size_alloc]at r2 ne
 have hz2:w.heap.size+1<W2.heap.size:=(Array.getElem?_eq_some_iff.1 r2).1
 clear N2
 obtain⟨g2,hg2⟩:∃g,g=w.heap.size+1:=⟨_,rfl⟩
 obtain⟨g1,hg1⟩:∃g,g=w.heap.size:=⟨_,rfl⟩
 rw[←hg2]at r2 ne hz2
 rw[←hg1]at r0 ne
 try rw[World.size_alloc]
 try rw[←hg2]
 try rw[←hg1]
 replace hg2:=Lib.hid (show w.heap.size≤g2∧g2<W2.heap.size by omega)
 clear hg1 hz2
 obtain⟨Z,hZ⟩:∃Z,Z=rowP (.string (strOf [])) z32 (.int .u64 0) (.int .u64 0) (.slice none 0 0):=⟨_,rfl⟩
 have sZ:Z.size=36:=by rw[hZ];rfl
 replace r2:W2.heap[g2]? = some (.cells Z 34 (0,0)):=by rw[hZ];exact r2
 clear hZ
 have hst:=hstr.out W2 fW
 have ld:=hld.out W2 g1 r0
 replace fW:=Lib.hid fW
 go_upto_region 2 with fail
 refine uy λW3 N3=>?_
 have r3:=N3.new
 have ne2:=N3.ne r2
 replace r2:=N3.old r2
 replace r0:=N3.old r0
 replace fW:=Lib.hid (fW.out.trans' N3.fr)
 clear oR0 sR0 N3 hst ld hbr hsb hstr hld c0 d0 c33 d33 c34 d34 hi hcw
 have hg3:=Lib.hid (show w.heap.size≤W2.heap.size∧W2.heap.size<W3.heap.size∧g2<W3.heap.size from⟨by have:=hg2.out;omega,(Array.getElem?_eq_some_iff.1 r3).1,(Array.getElem?_eq_some_iff.1 r2).1⟩)
 generalize W2.heap.size=g3 at *
 obtain⟨B5,hB5⟩:∃x,x=W3.heap.size:=⟨_,rfl⟩
 have hlo:=Lib.hid (show g3<B5∧g2<B5∧w.heap.size≤B5∧w.heap.size≤g3 by have:=hg3.out;omega)
 have aJc:=Lib.hid (Nat.le_of_eq hB5)
 clear hB5
 go_wp2_with fail
 go_loopw [21] (λiv wr=>∃(k:Nat) (vi:Value),k≤m∧iv = .int .i64 (k:Int)∧wr.heap[g3]? = some (.cells (rowP (.string TX) bk (.int .u64 (ix:Int)) (.int .u64 (cn:Int)) vi) 34 (0,0)) ∧
  wr.heap[g2]? = some (.cells Z 34 (0,0))∧Hid (abh 23 B5 wr vi (wy.take k))∧Hid (Fr F0 w wr)∧Hid (B5≤wr.heap.size)) (λiv _=>m-(intOf iv).toNat)
 case atStart=>exact⟨0,_,Nat.zero_le _,rfl,r3,r2,abh.nil _ _ _,fW.out,aJc.out⟩
 case round =>
  obtain⟨k,vi,hk,rfl,q3,q2,HOw,hF,hz⟩:=hrel
  clear r3 r2 r0 aJc
  by_cases hkm:k<m
  ·have hkl:k<wy.length:=by have:=hm.out;omega
   obtain⟨bb,off,rfl,hld,_⟩:=(HS0.out.fr hF.out).load k hkl
   have ld:=hld wr (Fr.refl F0 wr)
   have hx32:=HO.out.get hkl
   have HE:=Lib.hid (show wy.take (k+1)=wy.take k ++ [wy.getD k []] by rw[List.take_succ_eq_append_getElem hkl];simp[List.getD,List.getElem?_eq_getElem hkl])
   have sH:=jl hx32
   have oH:=qg (wy.getD k [])
   have hlen:(wy.take k).length=k:=by rw[List.length_take];omega
   obtain⟨q,hq⟩:∃q,q=wy.getD k []:=⟨_,rfl⟩
   rw[←hq]at HE ld sH oH hx32
   have l1:(k:Int)<(m:Int):=by omega
   have aJf:=ac6 l32 (.string TX) (.int .u64 (ix:Int)) (.int .u64 (cn:Int)) vi
   have zz:=pq l32 (.string TX) (.int .u64 (ix:Int)) (.int .u64 (cn:Int)) vi
   have zl:35<(rowP (.string TX) bk (.int .u64 (ix:Int)) (.int .u64 (cn:Int)) vi).size:=by omega
   have aPz:=jd aJf zl
   clear hld hq
   replace hlen:=Lib.hid hlen
   go_upto_region 5 with fail
   refine uy λW4 N4=>?_
   have r5:=N4.new
   replace q3:=N4.old q3
   replace q2:=N4.old q2
   have O4:=HOw.out.fr0 N4.fr
   have F4:=Lib.hid (hF.out.trans' N4.fr)
   have hz4:=Lib.hid (Nat.le_trans hz.out N4.fr.size)
   clear N4 ld HOw hF hz
   generalize wr.heap.size=g5 at *
   have ars:=agj W4 (hc q) sH
   have happ:=λty=>O4.appA q hx32 hz4.out (by have:=hlen.out;omega) ty
   obtain⟨a7,c7,w7,happ,O7,f7,s7,n7⟩:=happ 32
   have q37:=f7.keeps (λe=>by have h1:=O4.blk g3 e;have h3:=hlo.out;omega) q3
   have q27:=f7.keeps (λe=>by have h1:=O4.blk g2 e;have h3:=hlo.out;omega) q2
   have F7:=Lib.hid (show Fr F0 w w7 from F4.out.trans f7 (λi hi e=>by have h1:=O4.blk i e;have h3:=hlo.out;omega))
   have hz7:=Lib.hid (show B5≤w7.heap.size by have h3:=hz4.out;omega)
   have q3a:(W4.alloc (.cells (hc q) 23)).heap[g3]? = _:=bg q3
   rw[←HE.out]at O7
   rw[hlen.out]at O7 happ
   replace O7:=Lib.hid O7
   clear O4 F4 hz4 f7 s7 n7
   go_upto_region 6 with fail
   refine aej q37 λW8 r8 f8=>?_
   rw[anx l32]at r8
   have aOu:=hlo.out
   have r28:=f8.keeps (λe=>ne2 e) q27
   have F8:=Lib.hid (F7.out.trans f8 (λi hi e=>by omega))
   have O8:=Lib.hid (O7.out.frS f8 (λi e h=>by have h1:=O7.out.blk i e;omega))
   have hz8:=Lib.hid (Nat.le_trans hz7.out f8.size)
   clear f8 q37 q27 F7 O7 hz7 aOu zz aJf zl aPz q3 q2 q3a r5 happ ars
   go_wp2_with fail
   go_roundw
   case rel=>exact⟨k+1,_,by omega,by go_num,r8,r28,O8.out,F8.out,hz8.out⟩
   case measure=>simp[intOf];omega
  ·obtain rfl:k=m:=by omega
   have HO2:=HOw.out
   rw[hm.out,List.take_length]at HO2
   obtain⟨b2,d2,rfl,hH⟩:=HO2.is
   rw[←hm.out]at q3
   have hnb:=Lib.hid HO2.blk
   have zz:=sR.out (.slice b2 k d2)
   have oo:=oR.out (.slice b2 k d2) rfl
   obtain⟨Y,hY⟩:∃Y,Y=rowP (.string TX) bk (.int .u64 (ix:Int)) (.int .u64 (cn:Int)) (.slice b2 k d2):=⟨_,rfl⟩
   rw[←hY]at q3 zz oo
   replace hY:=Lib.hid hY
   replace hH:=Lib.hid hH
   clear HOw HO2
   go_wp2_with fail
   have fE:Fr (λk=>k=g2) wr (wr.setRow g2 Y):=Fr.setRow (S:=λk=>k=g2) (Fr.refl _ wr) (λ_=>rfl) _
   refine bodyPost_ret (results_cell_row rfl _ _ g2 _ _ _ _ rfl zz62 Tryz.underlying34 rfl (by rw[Tryz.szRProof,zz])) rfl ?_
   exact⟨b2,d2,by rw[hY.out,hTX.out],hH.out.frx fE (λi hi e=>by have h1:=hnb.out i aPo;have:=hlo.out;omega),hF.out.trans fE (λi hi e=>by have:=hg2.out;omega)⟩
def zRP:Array Value:=rowP (.string (strOf [])) z32 (.int .u64 0) (.int .u64 0) (.slice none 0 0)
theorem aFf:zRP.size=36:=rfl
theorem pr5{s1 s2 s3 s4 s6 s8 s9 s10 s11 s12 s13 s14 s15 s16 s17 s18 s19 s20 s21 s22 s23 s24 s25 s26 s27 s28 s29 s30 s31 s32 s33 s34 s35 s36 s37 s38 s39 s40 s41 s42 s43 s44 s45 s46 s47 s48 s49 s50 s51 s52 s53 s54 s55 s56 s57 s58 s59 s60 s61 s62 s63 s64 s65 s66 s67 s68 s69 s70 s71 s72 s73 s74 s75 s76 s77 s78 s79 s80 s81 s82 s83 s84 s85 s86 s87 s88 s89 s90 s91 s92 s93 s94 s95 s96 s97 s98 s99 aoq ajd aEy aEx aEw aEv auc aEu aEt aEs aEr aEq aEp ay6 ay5:Value}{K:Act→World→Prop}{Q:Exit→Act→World→Prop}(w:World)(a:Option Addr)(N c sz n at0 a1 a2 a3 ix cn:Nat)(TX:ByteArray)(X R:Array Value)(H1:RowKit.Hid (∀W:World,Fr F0 w W→Calls Tryz.prog 47 #[.slice (agv a c at0 1) 32 (c-at0)] W λe w'=>e = .returned (.agg X)∧Fr F0 W w'))(H2:RowKit.Hid (∀W:World,Fr F0 w W→Calls Tryz.prog 48 #[.slice (agv a c a1 1) 4 (c-a1)] W λe w'=>e = .returned (.int .u64 (ix:Int))∧Fr F0 W w'))(H3:RowKit.Hid (∀W:World,Fr F0 w W→Calls Tryz.prog 48 #[.slice (agv a c a2 1) 4 (c-a2)] W λe w'=>e = .returned (.int .u64 (cn:Int))∧Fr F0 W w'))(HS:RowKit.Hid (∀W:World,Fr F0 w W→(convert 22 9 (.slice (agv a c sz 1) n (c-sz))).run Tryz.prog W = .ok (.string TX) W))(hbR:∀w,(anf #[(0,.string TX),(1,.agg X),(2,.int .u64 (ix:Int)),(3,.int .u64 (cn:Int))]).run Tryz.prog w = .ok (.agg R) w)(sR:R.size=36)(oR:jh R)(hz:zRP.size=36)(e1:IntKind.i64.wrap ((at0:Int)+32)=(a1:Int))(e2:IntKind.i64.wrap ((at0:Int)+36)=(a2:Int))(e3:IntKind.i64.wrap ((at0:Int)+40)=(a3:Int))(l0:(0:Int)≤(sz:Int))(l1:(sz:Int)≤(at0:Int))(l2:(at0:Int)≤(c:Int))(l3:(0:Int)≤(at0:Int))(l4:(at0:Int)≤(a1:Int))(l5:(a1:Int)≤(c:Int))(l6:(0:Int)≤(a1:Int))(l7:(a1:Int)≤(a2:Int))(l8:(a2:Int)≤(c:Int))(l9:(0:Int)≤(a2:Int))(l10:(a2:Int)≤(a3:Int))(l11:(a3:Int)≤(c:Int))(d1:at0-sz=n)(d2:a1-at0=32)(d3:a2-a1=4)(d4:a3-a2=4)
  (hK:RowKit.Hid (∀{u8 u39 u40 u41 u42 u43 u44 u45 u46 u47 u48 u49 u50 u51 u52 u53 u54 u55 u56 u57 u58 u59 u60 u61 u62 u63 u64:Value} {w':World},((∃g:Nat,u8 = .pointer (some ⟨g,0,none⟩)∧w'.heap[g]? = some (.cells R 34 (0,0))∧w.heap.size≤g)∧Fr F0 w w')→K ⟨#[.slice a N c,s1,s2,s3,s4,.int .i64 (sz:Int),s6,.int .i64 (at0:Int),u8,s9,s10,s11,s12,s13,s14,s15,s16,s17,s18,s19,s20,s21,s22,s23,s24,s25,s26,s27,s28,s29,s30,s31,s32,s33,s34,s35,s36,s37,s38,u39,u40,u41,u42,u43,u44,u45,u46,u47,u48,u49,u50,u51,u52,u53,u54,u55,u56,u57,u58,u59,u60,u61,u62,u63,u64,s65,s66,s67,s68,s69,s70,s71,s72,s73,s74,s75,s76,s77,s78,s79,s80,s81,s82,s83,s84,s85,s86,s87,s88,s89,s90,s91,s92,s93,s94,s95,s96,s97,s98,s99,aoq,ajd,aEy,aEx,aEw,aEv,auc,aEu,aEt,aEs,aEr,aEq,aEp,ay6,ay5],[]⟩ w')) :
  Code.wp Tryz.prog ((Tryz.f11.body.bind (jw 5)).getD .skip) (Exit.then K Q) ⟨#[.slice a N c,s1,s2,s3,s4,.int .i64 (sz:Int),s6,.int .i64 (at0:Int),s8,s9,s10,s11,s12,s13,s14,s15,s16,s17,s18,s19,s20,s21,s22,s23,s24,s25,s26,s27,s28,s29,s30,s31,s32,s33,s34,s35,s36,s37,s38,s39,s40,s41,s42,s43,s44,s45,s46,s47,s48,s49,s50,s51,s52,s53,s54,s55,s56,s57,s58,s59,s60,s61,s62,s63,s64,s65,s66,s67,s68,s69,s70,s71,s72,s73,s74,s75,s76,s77,s78,s79,s80,s81,s82,s83,s84,s85,s86,s87,s88,s89,s90,s91,s92,s93,s94,s95,s96,s97,s98,s99,aoq,ajd,aEy,aEx,aEw,aEv,auc,aEu,aEt,aEs,aEr,aEq,aEp,ay6,ay5],[]⟩ w:=by
 conv=>arg 2;whnf
 have F9:=Fr.refl F0 w
 have z5:=Nat.le_refl w.heap.size
 refine jm (S:=(λw'=>(convert 22 9 (.slice (agv a c sz 1) n (c-sz))).run Tryz.prog w' = .ok (.string TX) w'∧Fr F0 w w')) ?_ λak=>?_
 ·exact(by((try dsimp only)<;>(exact⟨HS.out _ F9.drew,F9.drew⟩)))
 refine aj 0 ?_
 refine aj 1 ?_
 refine aj 2 ?_
 refine aj 3 ?_
 refine aj 4 ?_
 refine aj 5 ?_
 refine aj 6 ?_
 refine aj 7 ?_
 refine aj 8 ?_
 refine aj 9 ?_
 refine aj 11 ?_
 refine aj 12 ?_
 refine aj 13 ?_
 refine aj 14 ?_
 refine aj 15 ?_
 refine aj 16 ?_
 refine aj 18 ?_
 refine aj 19 ?_
 refine aj 20 ?_
 refine aj 21 ?_
 refine aj 22 ?_
 refine aj 23 ?_
 refine rdy [10,26] ?_
 refine rco (λK hK=>?_) (rco (λK hK=>?_) AllReadyH.nil)
 go_simp
 ((with_reducible refine(H1.out _ ak.2).mono ?_);rintro e w5 ⟨rfl,f5⟩;have z5:=(ak.2.trans' f5).size;(try simp only[World.size_alloc,dh]at z5))
 refine rpu hK aEn λak=>?_
 clear hK K
 refine rdy [17,26] ?_
 refine rco (λK hK=>?_) (rco (λK hK=>?_) AllReadyH.nil)
 go_simp
 ((with_reducible refine(H2.out _ ak.2).mono ?_);rintro e w5 ⟨rfl,f5⟩;have z5:=(ak.2.trans' f5).size;(try simp only[World.size_alloc,dh]at z5))
 refine rpu hK aEn λak=>?_
 clear hK K
 refine rdy [24,26] ?_
 refine rco (λK hK=>?_) (rco (λK hK=>?_) AllReadyH.nil)
 go_simp
 ((with_reducible refine(H3.out _ ak.2).mono ?_);rintro e w5 ⟨rfl,f5⟩;have z5:=(ak.2.trans' f5).size;(try simp only[World.size_alloc,dh]at z5))
 refine rpu hK aEn λak=>?_
 clear hK K
 refine aj 25 ?_
 refine jf 26 λK hK=>?_
 go_simp
 refine rpu hK zz6 λak=>?_
 clear hK K
 refine jf 27 λK hK=>?_
 go_simp
 (try(rw[je (old:=zRP) (t':=34) (by((try rw[←Array.getElem?_eq_getElem]);repeat(first|rfl|exact heap_alloc_new _ _|refine bg ?_|refine au (by assumption) ?_))) hz sR oR];go_simp))
 refine rpu hK zz6 λak=>?_
 clear hK K
 refine jg ?_
 rotate_left
 go_simp
 refine rpu hK zz6 λak=>?_
 clear hK K
 refine jf 24 λK hK=>?_
 go_simp
 ((with_reducible refine(H3.out _ ak.2).mono ?_);rintro e w5 ⟨rfl,f5⟩;have z5:=(ak.2.trans' f5).size;(try simp only[World.size_alloc,dh]at z5))
 refine rpu hK aEn λak=>?_
 clear hK K
 refine aj 25 ?_
 refine jf 27 λK hK=>?_
 go_simp
 (try(rw[je (old:=zRP) (t':=34) (by((try rw[←Array.getElem?_eq_getElem]);repeat(first|rfl|exact heap_alloc_new _ _|refine bg ?_|refine au (by assumption) ?_))) hz sR oR];go_simp))
 refine rpu hK zz6 λak=>?_
 clear hK K
 refine jg ?_
 rotate_left
 go_simp
 refine rpu hK zz6 λak=>?_
 clear hK K
 refine jf 17 λK hK=>?_
 go_simp
 ((with_reducible refine(H2.out _ ak.2).mono ?_);rintro e w5 ⟨rfl,f5⟩;have z5:=(ak.2.trans' f5).size;(try simp only[World.size_alloc,dh]at z5))
 refine rpu hK aEn λak=>?_
 clear hK K
 refine jf 24 λK hK=>?_
 go_simp
 ((with_reducible refine(H3.out _ ak.2).mono ?_);rintro e w5 ⟨rfl,f5⟩;have z5:=(ak.2.trans' f5).size;(try simp only[World.size_alloc,dh]at z5))
 refine rpu hK aEn λak=>?_
 clear hK K
 refine aj 25 ?_
 refine jf 27 λK hK=>?_
 go_simp
 (try(rw[je (old:=zRP) (t':=34) (by((try rw[←Array.getElem?_eq_getElem]);repeat(first|rfl|exact heap_alloc_new _ _|refine bg ?_|refine au (by assumption) ?_))) hz sR oR];go_simp))
 refine rpu hK zz6 λak=>?_
 clear hK K
 refine jg ?_
 rotate_left
 go_simp
 refine rpu hK zz6 λak=>?_
 clear hK K
 refine jf 10 λK hK=>?_
 go_simp
 ((with_reducible refine(H1.out _ ak.2).mono ?_);rintro e w5 ⟨rfl,f5⟩;have z5:=(ak.2.trans' f5).size;(try simp only[World.size_alloc,dh]at z5))
 refine rpu hK aEn λak=>?_
 clear hK K
 refine jf 17 λK hK=>?_
 go_simp
 ((with_reducible refine(H2.out _ ak.2).mono ?_);rintro e w5 ⟨rfl,f5⟩;have z5:=(ak.2.trans' f5).size;(try simp only[World.size_alloc,dh]at z5))
 refine rpu hK aEn λak=>?_
 clear hK K
 refine jf 24 λK hK=>?_
 go_simp
 ((with_reducible refine(H3.out _ ak.2).mono ?_);rintro e w5 ⟨rfl,f5⟩;have z5:=(ak.2.trans' f5).size;(try simp only[World.size_alloc,dh]at z5))
 refine rpu hK aEn λak=>?_
 clear hK K
 refine aj 25 ?_
 refine jf 27 λK hK=>?_
 go_simp
 (try(rw[je (old:=zRP) (t':=34) (by((try rw[←Array.getElem?_eq_getElem]);repeat(first|rfl|exact heap_alloc_new _ _|refine bg ?_|refine au (by assumption) ?_))) hz sR oR];go_simp))
 refine rpu hK zz6 λak=>?_
 clear hK K
 refine jg ?_
 rotate_left
 all_goals
  refine hK.out ⟨⟨_,rfl,?_,by(try simp only[World.size_alloc,dh]at z5 ⊢);omega⟩,ak.2⟩
  refine(qp (z:=zRP) (t:=34) (f:=(0,0)) ?_)
  repeat(first|exact heap_alloc_new _ _|refine bg ?_|refine au (by assumption) ?_)
def aE4(bs:List UInt8)(w:World)(e:Ending)(w':World):Prop :=
 ∃(p:MP) (ok:Bool) (b:Option Addr) (d:Nat),e = .returned (.tuple #[.agg (rfC p b d),.bool ok])∧((ok=true∧ak6 bs=some p)∨(ok=false∧ak6 bs=none∧p=MP.zero))∧p.Ok∧Hs w' b d p.wy∧Fr F0 w w'
theorem aE4.no{bs:List UInt8}{w w':World}{Z:Array Value}(h:ak6 bs=none)(hZ:Z=rowP (.string (strOf [])) z32 (.int .u64 0) (.int .u64 0) (.slice none 0 0))(f:Fr F0 w w'):aE4 bs w (.returned (.tuple #[.agg Z,.bool false])) w' :=
 ⟨MP.zero,false,none,0,by rw[hZ];rfl,.inr ⟨rfl,h,rfl⟩,MP.ar1,Hs.nothing _,f⟩
theorem aq5(a:Option Addr)(N c:Nat)(bs:List UInt8)(w:World)(h:Bs w a c bs)(hN:N=bs.length)(hl:bs.length≤100000):Calls Tryz.prog 11 #[.slice a N c] w (aE4 bs w):=by
 have HRd:=Lib.hid (λW (f:Fr F0 w W)=>aee a N c bs W (Bs.fr7 h f) hN)
 have hroom:=h.room
 have HB0:=Lib.hid h
 have h9:=aph bs
 obtain⟨n,sz,ok,hr⟩:∃n sz ok,rrc bs=(n,sz,ok):=⟨_,_,_,rfl⟩
 rw[hr]at HRd h9
 dsimp only at HRd h9
 rw[←hN]at hroom h9
 have hNl:N≤100000:=by omega
 replace hN:=Lib.hid hN
 replace hr:=Lib.hid hr
 clear h hl
 obtain⟨Z,hZ⟩:∃Z,Z=rowP (.string (strOf [])) z32 (.int .u64 0) (.int .u64 0) (.slice none 0 0):=⟨_,rfl⟩
 have sZ:Z.size=36:=by rw[hZ];rfl
 have oZ:jh Z:=by rw[hZ];exact aad z32 rfl rfl rfl rfl
 have hzb:∀w,(anf #[]).run Tryz.prog w = .ok (.agg Z) w:=λw=>by rw[hZ];exact agh w #[] _ aDd
 replace hZ:=Lib.hid hZ
 go_enter Tryz.func11,Tryz.ntmps11
 go_upto_region 1 with fail
 refine lu λW1 N1=>?_
 have r2:=N1.new
 replace r2:W1.heap[w.heap.size]? = some (.cells Z 34 (0,0)):=by rw[hZ.out];exact r2
 have F:=N1.fr
 obtain⟨g2,hg2⟩:∃g,g=w.heap.size:=⟨_,rfl⟩
 rw[←hg2]at r2 ⊢
 replace hg2:=Lib.hid (Nat.le_of_eq hg2.symm)
 clear N1
 go_wp2_with fail
 (with_reducible refine(HRd.out _ F).mono ?_);rintro e w2 ⟨rfl,f⟩
 replace r2:=au f r2
 replace F:=F.trans' f
 clear f HRd
 cases ok with
 |false =>
  have hp:=Lib.hid (docA hr.out (.inl rfl))
  clear h9
  go_wp2_with fail
  refine bodyPost_ret (cu rfl _ _ g2 _ _ _ _ rfl zz64 Tryz.underlying34 rfl zz74) rfl ?_
  exact aE4.no hp.out hZ.out (F.setRow (λh=>by have:=hg2.out;omega) _)
 |true =>
 have hsz:=h9 rfl
 clear h9
 by_cases hA:4096<n
 ·have hp:=Lib.hid (docA hr.out (.inr (.inl hA)))
  have l1:(4096:Int)<(n:Int):=by omega
  go_wp2_with fail
  refine bodyPost_ret (cu rfl _ _ g2 _ _ _ _ rfl zz64 Tryz.underlying34 rfl zz74) rfl ?_
  exact aE4.no hp.out hZ.out (F.setRow (λh=>by have:=hg2.out;omega) _)
 have l1:¬(4096:Int)<(n:Int):=by omega
 obtain⟨d,hd⟩:∃d,d=N-sz:=⟨_,rfl⟩
 obtain⟨n41,hn41⟩:∃d,d=n+41:=⟨_,rfl⟩
 have e1:IntKind.i64.wrap ((N:Int)-(sz:Int))=(d:Int):=by rw[IntWalk.i64_in _ aPl];omega
 have e2:IntKind.i64.wrap (n:Int)=(n:Int):=by rw[IntWalk.i64_in _ aPl]
 have e3:IntKind.i64.wrap ((n:Int)+41)=(n41:Int):=by rw[IntWalk.i64_in _ aPl];omega
 by_cases hB:d<n41
 ·have hp:=Lib.hid (docA hr.out (.inr (.inr (by have:=hN.out;omega))))
  have l2:(d:Int)<(n41:Int):=by omega
  clear hd hn41 hB hA hsz
  go_wp2_with fail
  refine bodyPost_ret (cu rfl _ _ g2 _ _ _ _ rfl zz64 Tryz.underlying34 rfl zz74) rfl ?_
  exact aE4.no hp.out hZ.out (F.setRow (λh=>by have:=hg2.out;omega) _)
 have l2:¬(d:Int)<(n41:Int):=by omega
 have h41:sz+n+41≤N:=by omega
 obtain⟨at0,hat0⟩:∃d,d=sz+n:=⟨_,rfl⟩
 obtain⟨a1,ha1⟩:∃d,d=at0+32:=⟨_,rfl⟩
 obtain⟨a2,ha2⟩:∃d,d=at0+36:=⟨_,rfl⟩
 obtain⟨a3,ha3⟩:∃d,d=at0+40:=⟨_,rfl⟩
 have e4:IntKind.i64.wrap ((sz:Int)+(n:Int))=(at0:Int):=by rw[IntWalk.i64_in _ aPl];omega
 have e5:IntKind.i64.wrap ((at0:Int)+32)=(a1:Int):=by rw[IntWalk.i64_in _ aPl];omega
 have e6:IntKind.i64.wrap ((at0:Int)+36)=(a2:Int):=by rw[IntWalk.i64_in _ aPl];omega
 have e7:IntKind.i64.wrap ((at0:Int)+40)=(a3:Int):=by rw[IntWalk.i64_in _ aPl];omega
 have HA:=Lib.hid (show n≤4096∧sz+n+41≤N∧at0=sz+n∧a1=at0+32∧a2=at0+36∧a3=at0+40∧N≤c∧N≤100000 from⟨by omega,h41,hat0,ha1,ha2,ha3,hroom,hNl⟩)
 clear hd hn41 hB hA hsz h41 hat0 ha1 ha2 ha3 hNl
 go_upto_region 5 with fail
 have q1:((bs.drop at0).take 32).length=32:=by rw[List.length_take,List.length_drop];have:=HA.out;have:=hN.out;omega
 have q2:((bs.drop a1).take 4).length=4:=by rw[List.length_take,List.length_drop];have:=HA.out;have:=hN.out;omega
 have q3:((bs.drop a2).take 4).length=4:=by rw[List.length_take,List.length_drop];have:=HA.out;have:=hN.out;omega
 have q4:((bs.drop sz).take n).length=n:=by rw[List.length_take,List.length_drop];have:=HA.out;have:=hN.out;omega
 have hsl:∀W,Fr F0 w W→∀k m,k≤N→Bs W (agv a c k 1) (c-k) ((bs.drop k).take m):=λW f k m hk=>((Bs.fr7 HB0.out f).drop k (by have:=hN.out;omega)).take m
 refine pr5 w2 a N c sz n at0 a1 a2 a3 (ofLE ((bs.drop a1).take 4)) (ofLE ((bs.drop a2).take 4)) (strOf ((bs.drop sz).take n)) (hc ((bs.drop at0).take 32)) (rowP (.string (strOf ((bs.drop sz).take n))) ((bs.drop at0).take 32) (.int .u64 (ofLE ((bs.drop a1).take 4):Int)) (.int .u64 (ofLE ((bs.drop a2).take 4):Int)) (.slice none 0 0))
  (Lib.hid λW f=>akp _ _ _ W (hsl W (F.trans' f) at0 32 zz70) q1)
  (Lib.hid λW f=>(ah1 _ 4 _ _ W (hsl W (F.trans' f) a1 4 zz70) q2.symm aPl).mono λe w' h=>⟨h.1,by rw[←h.2];exact Fr.refl _ _⟩)
  (Lib.hid λW f=>(ah1 _ 4 _ _ W (hsl W (F.trans' f) a2 4 zz70) q3.symm aPl).mono λe w' h=>⟨h.1,by rw[←h.2];exact Fr.refl _ _⟩)
  (Lib.hid λW f=>ahw (hsl W (F.trans' f) sz n zz70) q4.symm)
  (λw=>agh w _ _ (av1 _ q1 _ _ _)) (pq q1 _ _ _ _) (aad _ rfl rfl rfl rfl) aFf e5 e6 e7 aPl zz70 zz70 aPl zz70 zz70 aPl zz70 zz70 aPl zz70 zz70
  zz70 zz70 zz70 zz70 (Lib.hid ?_)
 rename_i w3
 rintro⟨⟨g8,rfl,r8,hg8⟩,f3⟩
 have n82:g2≠g8:=by have:=(Array.getElem?_eq_some_iff.1 r2).1;omega
 replace r2:=au f3 r2
 have hg8w:=Lib.hid (show w.heap.size≤g8 from Nat.le_trans F.size hg8)
 replace F:=F.trans' f3
 clear f3 hg8 hsl e4 e5 e6 e1 e2 e3 l1 l2
 obtain⟨tx,htx⟩:∃t,t=(bs.drop sz).take n:=⟨_,rfl⟩
 obtain⟨bk,hbk⟩:∃t,t=(bs.drop at0).take 32:=⟨_,rfl⟩
 obtain⟨ix,hix⟩:∃t,t=ofLE ((bs.drop a1).take 4):=⟨_,rfl⟩
 obtain⟨cn,hcn⟩:∃t,t=ofLE ((bs.drop a2).take 4):=⟨_,rfl⟩
 rw[←htx,←hbk,←hix,←hcn]at r8
 rw[←hbk]at q1
 have HM:=Lib.hid (And.intro htx (And.intro hbk (And.intro hix hcn)))
 clear htx hbk hix hcn q2 q3 q4
 have HR2:=Lib.hid (λW (f:Fr F0 w W)=>aee (agv a c a3 1) (N-a3) (c-a3) (bs.drop a3) W ((Bs.fr7 HB0.out f).drop a3 (by have:=HA.out;have:=hN.out;omega)) (by rw[List.length_drop,←hN.out]))
 have h92:=aph (bs.drop a3)
 have hr0:=hr.out
 obtain⟨m,k2,ok2,hr2⟩:∃m k2 ok2,rrc (bs.drop a3)=(m,k2,ok2):=⟨_,_,_,rfl⟩
 rw[hr2]at HR2 h92
 dsimp only at HR2 h92
 rw[List.length_drop,←hN.out]at h92
 rw[show a3=sz+n+40 by have:=HA.out;omega]at hr2
 replace hr2:=Lib.hid hr2
 replace hr0:=Lib.hid hr0
 have l3:(0:Int)≤(a3:Int):=by omega
 have l4:(a3:Int)≤(N:Int):=by have:=HA.out;omega
 have hk3:=Lib.hid (show w3.heap.size≤w3.heap.size from Nat.le_refl _)
 go_wp2_with fail
 (with_reducible refine(HR2.out _ F).mono ?_);rintro e w4 ⟨rfl,f⟩
 replace r2:=au f r2
 replace r8:=au f r8
 replace F:=F.trans' f
 have HLT:=Lib.hid (show g8<w4.heap.size∧g2<w4.heap.size from⟨(Array.getElem?_eq_some_iff.1 r8).1,(Array.getElem?_eq_some_iff.1 r2).1⟩)
 clear f HR2 l3 l4
 cases ok2 with
 |false =>
  have hp:=Lib.hid (docB hr0.out hr2.out (.inl rfl))
  clear h92
  go_wp2_with fail
  refine bodyPost_ret (cu rfl _ _ g2 _ _ _ _ rfl zz64 Tryz.underlying34 rfl zz74) rfl ?_
  exact aE4.no hp.out hZ.out (F.setRow (λh=>by have:=hg2.out;omega) _)
 |true =>
 have hk2:=h92 rfl
 clear h92
 by_cases hC:16<m
 ·have hp:=Lib.hid (docB hr0.out hr2.out (.inr (.inl hC)))
  have l1:(16:Int)<(m:Int):=by omega
  clear hk2
  go_wp2_with fail
  refine bodyPost_ret (cu rfl _ _ g2 _ _ _ _ rfl zz64 Tryz.underlying34 rfl zz74) rfl ?_
  exact aE4.no hp.out hZ.out (F.setRow (λh=>by have:=hg2.out;omega) _)
 have l1:¬(16:Int)<(m:Int):=by omega
 obtain⟨a4,ha4⟩:∃d,d=a3+k2:=⟨_,rfl⟩
 obtain⟨m32,hm32⟩:∃d,d=32*m:=⟨_,rfl⟩
 obtain⟨a5,ha5⟩:∃d,d=a4+m32:=⟨_,rfl⟩
 have hbd:a4≤100000∧m32≤512:=by have:=HA.out;omega
 have e1:IntKind.i64.wrap ((a3:Int)+(k2:Int))=(a4:Int):=by rw[IntWalk.i64_in _ aPl];omega
 have e2:IntKind.i64.wrap (m:Int)=(m:Int):=by rw[IntWalk.i64_in _ aPl]
 have e3:IntKind.i64.wrap (32*(m:Int))=(m32:Int):=by rw[IntWalk.i64_in _ aPl];omega
 have e4:IntKind.i64.wrap ((a4:Int)+(m32:Int))=(a5:Int):=by rw[IntWalk.i64_in _ aPl];omega
 by_cases hD:N=a5
 ·have l2:((N:Int) != (a5:Int))=false:=by rw[hD];simp
  have HD:=Lib.hid (show N=a4+32*m∧a4=sz+n+40+k2∧m≤16 from by have:=HA.out;omega)
  clear hD ha4 hm32 ha5 hbd hC hk2
  obtain⟨B5,hB5⟩:∃x,x=w4.heap.size:=⟨_,rfl⟩
  have hlo:=Lib.hid (show g8<B5∧g2<B5∧w.heap.size≤B5∧w.heap.size≤g8∧w.heap.size≤g2 from⟨by have:=HLT.out;omega,by have:=HLT.out;omega,by rw[hB5];exact F.size,hg8w.out,hg2.out⟩)
  have aJc:=Lib.hid (Nat.le_of_eq hB5)
  replace F:=Lib.hid F
  clear hB5
  go_wp2_with fail
  go_loopw [7] (λav wr=>∃(j q:Nat) (vi:Value),j≤m∧Hid (q=a4+32*j)∧av = .int .i64 (q:Int)∧wr.heap[g8]? = some (.cells (rowP (.string (strOf tx)) bk (.int .u64 (ix:Int)) (.int .u64 (cn:Int)) vi) 34 (0,0)) ∧
   wr.heap[g2]? = some (.cells Z 34 (0,0))∧Hid (abh 23 B5 wr vi (alq (bs.drop a4) j))∧Hid (Fr F0 w wr)∧Hid (B5≤wr.heap.size)) (λav _=>N-(intOf av).toNat)
  case atStart=>exact⟨0,a4,_,Nat.zero_le _,rfl,rfl,r8,r2,abh.nil _ _ _,F.out,aJc.out⟩
  case round =>
   obtain⟨j,q,vi,hj,hq,rfl,q8,q2,HOw,hF,hz⟩:=hrel
   clear r8 r2 aJc e1 e2 e3 e4 l1 l2
   by_cases hjm:j<m
   ·obtain⟨q32,hq32⟩:∃d,d=q+32:=⟨_,rfl⟩
    have hqN:q+32≤N:=by have:=HD.out;have:=hq.out;omega
    have hqb:q≤100000:=by have:=HA.out;omega
    have e1:IntKind.i64.wrap ((q:Int)+32)=(q32:Int):=by rw[IntWalk.i64_in _ aPl];omega
    have l1:(q:Int)<(N:Int):=by omega
    have l2:(0:Int)≤(q:Int):=by omega
    have l3:(q:Int)≤(q32:Int):=by omega
    have l4:(q32:Int)≤(c:Int):=by have:=HA.out;omega
    have d1:q32-q=32:=by omega
    have hx32:((bs.drop q).take 32).length=32:=by rw[List.length_take,List.length_drop];have:=hN.out;omega
    have HH:=Lib.hid (λW (f:Fr F0 w W)=>akp (agv a c q 1) (c-q) ((bs.drop q).take 32) W (((Bs.fr7 HB0.out f).drop q (by have:=hN.out;omega)).take 32) hx32)
    have HE:=Lib.hid (show alq (bs.drop a4) (j+1)=alq (bs.drop a4) j ++ [(bs.drop q).take 32] by rw[ao8,List.drop_drop,←hq.out])
    have hlen:=Lib.hid (agb (bs.drop a4) j)
    obtain⟨X,hX⟩:∃X,X=(bs.drop q).take 32:=⟨_,rfl⟩
    rw[←hX]at HH HE hx32
    have HQ:=Lib.hid (show q32=a4+32*(j+1)∧q32≤N∧q<q32 by have:=hq.out;omega)
    clear hX hq32 hqN hqb
    have q8d:=ku q8
    have q2d:=ku q2
    have hOd:=Lib.hid (HOw.out.fr0 ((Fr.refl F0 _).drew))
    have hFd:=Lib.hid (hF.out.drew)
    have aud:=Lib.hid (show B5≤wr.drew.heap.size from hz.out)
    have aJf:=ac6 q1 (.string (strOf tx)) (.int .u64 (ix:Int)) (.int .u64 (cn:Int)) vi
    have zz:=pq q1 (.string (strOf tx)) (.int .u64 (ix:Int)) (.int .u64 (cn:Int)) vi
    have zl:35<(rowP (.string (strOf tx)) bk (.int .u64 (ix:Int)) (.int .u64 (cn:Int)) vi).size:=by omega
    have aPz:=jd aJf zl
    have HC:=Lib.hid (HH.out _ hFd.out)
    clear HH HOw hF hz
    go_upto_region 13 with fail
    refine jm (S:=(λw'=>True)) ?_ λak=>?_
    ·exact ark
    refine aj 0 ?_
    refine aj 2 ?_
    refine aj 3 ?_
    refine aj 4 ?_
    refine aj 5 ?_
    refine aj 6 ?_
    refine rdy [1,7] ?_
    refine rco (λK hK=>?_) (rco (λK hK=>?_) AllReadyH.nil)
    go_simp
    refine rpu hK ark λak=>?_
    clear hK K
    refine jf 7 λK hK=>?_
    go_simp
    ((with_reducible refine HC.out.mono ?_);rintro e w6 ⟨rfl,f6⟩;have q86:=au f6 q8d;have O6:=Lib.hid (hOd.out.fr0 f6);have q86a:(w6.alloc (.cells (hc X) 23)).heap[g8]? = _:=bg q86;have ars:=agj w6 (hc X) (jl hx32);have happ:=λty=>O6.out.appA X hx32 zz49 (by have:=hlen.out;have:=HD.out;omega) ty;obtain⟨a7,c7,w7,happ,O7,f7,s7,n7⟩:=happ 32;have q87:=f7.keeps (λe=>by have h1:=O6.out.blk g8 e;have h3:=hlo.out;omega) q86)
    refine rpu hK ark λak=>?_
    clear hK K
    refine jf 8 λK hK=>?_
    go_simp
    refine rpu hK ark λak=>?_
    clear hK K
    refine jf 9 λK hK=>?_
    go_simp
    refine rpu hK ark λak=>?_
    clear hK K
    refine aj 10 ?_
    refine jf 11 λK hK=>?_
    go_simp
    refine rpu hK ark λak=>?_
    clear hK K
    refine jg ?_
    rotate_left
    go_simp
    ((with_reducible refine HC.out.mono ?_);rintro e w6 ⟨rfl,f6⟩;have q86:=au f6 q8d;have O6:=Lib.hid (hOd.out.fr0 f6);have q86a:(w6.alloc (.cells (hc X) 23)).heap[g8]? = _:=bg q86;have ars:=agj w6 (hc X) (jl hx32);have happ:=λty=>O6.out.appA X hx32 zz49 (by have:=hlen.out;have:=HD.out;omega) ty;obtain⟨a7,c7,w7,happ,O7,f7,s7,n7⟩:=happ 32;have q87:=f7.keeps (λe=>by have h1:=O6.out.blk g8 e;have h3:=hlo.out;omega) q86)
    refine rpu hK ark λak=>?_
    clear hK K
    refine rdy [1,8] ?_
    refine rco (λK hK=>?_) (rco (λK hK=>?_) AllReadyH.nil)
    go_simp
    refine rpu hK ark λak=>?_
    clear hK K
    refine jf 8 λK hK=>?_
    go_simp
    refine rpu hK ark λak=>?_
    clear hK K
    refine jf 9 λK hK=>?_
    go_simp
    refine rpu hK ark λak=>?_
    clear hK K
    refine aj 10 ?_
    refine jf 11 λK hK=>?_
    go_simp
    refine rpu hK ark λak=>?_
    clear hK K
    refine jg ?_
    rotate_left
    go_simp
    refine rpu hK ark λak=>?_
    clear hK K
    refine jf 1 λK hK=>?_
    go_simp
    refine rpu hK ark λak=>?_
    clear hK K
    refine jf 9 λK hK=>?_
    go_simp
    refine rpu hK ark λak=>?_
    clear hK K
    refine aj 10 ?_
    refine jf 11 λK hK=>?_
    go_simp
    refine rpu hK ark λak=>?_
    clear hK K
    refine jg ?_
    rotate_left
    all_goals
     have q27:=f7.keeps (λe=>by have h1:=O6.out.blk g2 e;have h3:=hlo.out;omega) (au f6 q2d)
     have F7:=Lib.hid (show Fr F0 w w7 from(hFd.out.trans' f6).trans f7 (λi hi e=>by have h1:=O6.out.blk i e;have h3:=hlo.out;omega))
     have hz7:=Lib.hid (show B5≤w7.heap.size by have h1:=f6.size;have h3:=aud.out;omega)
     rw[←HE.out]at O7
     clear q8 q2 q8d q2d q86 q86a happ ars hx32 f6 HC hFd n7 s7 f7
     go_upto_region 12 with fail
     refine aej q87 λW8 r8 f8=>?_
     rw[anx q1]at r8
     have aOu:=hlo.out
     have r28:=f8.keeps (λe=>n82 e) q27
     have F8:=Lib.hid (F7.out.trans f8 (λi hi e=>by omega))
     have O8:=Lib.hid (O7.frS f8 (λi e h=>by have h1:=O7.blk i e;omega))
     have hz8:=Lib.hid (Nat.le_trans hz7.out f8.size)
     clear f8 q87 q27 F7 O7 hz7 aOu zz aJf zl aPz
     go_wp2_with fail
     go_roundw
     case rel=>exact⟨j+1,q32,_,by omega,HQ.out.1,by first|rfl|go_num,r8,r28,O8.out,F8.out,hz8.out⟩
     case measure=>have:=HQ.out;simp[intOf];omega
   ·obtain rfl:j=m:=by omega
    have l1:¬(q:Int)<(N:Int):=by have:=HD.out;have:=hq.out;omega
    obtain⟨b2,d2,rfl,hH⟩:=HOw.out.is
    have hnb:=Lib.hid HOw.out.blk
    have zz:=pq q1 (.string (strOf tx)) (.int .u64 (ix:Int)) (.int .u64 (cn:Int)) (.slice b2 (alq (bs.drop a4) j).length d2)
    have oo:jh (rowP (.string (strOf tx)) bk (.int .u64 (ix:Int)) (.int .u64 (cn:Int)) (.slice b2 (alq (bs.drop a4) j).length d2)):=aad bk rfl rfl rfl rfl
    obtain⟨Y,hY⟩:∃Y,Y=rowP (.string (strOf tx)) bk (.int .u64 (ix:Int)) (.int .u64 (cn:Int)) (.slice b2 (alq (bs.drop a4) j).length d2):=⟨_,rfl⟩
    rw[←hY]at q8 zz oo
    replace hY:=Lib.hid hY
    replace hH:=Lib.hid hH
    have hD1:=HD.out
    have hA1:=HA.out
    have hN1:=hN.out
    have hp:=Lib.hid (docC hr0.out hA1.1 aPl hr2.out hD1.2.2 aPl)
    have ho:=Lib.hid (aA5 (bs:=bs) (n:=n) (sz:=sz) (m:=j) (k:=k2) aPl)
    have hE:rfC (aE1 bs n sz j k2) b2 d2=Y:=by
     rw[hY.out,rfC,aE1,show sz+n+40+k2=a4 by omega,HM.out.1,HM.out.2.1,HM.out.2.2.1,HM.out.2.2.2,show at0=sz+n by omega,show a1=sz+n+32 by omega,show a2=sz+n+36 by omega]
    have hW:(aE1 bs n sz j k2).wy=alq (bs.drop a4) j:=by rw[aE1,show sz+n+40+k2=a4 by omega]
    replace hE:=Lib.hid hE
    replace hW:=Lib.hid hW
    clear HOw hD1 hA1 hN1
    go_wp2_with fail
    have fE:Fr (λk=>k=g2) wr (wr.setRow g2 Y):=Fr.setRow (S:=λk=>k=g2) (Fr.refl _ wr) (λ_=>rfl) _
    refine bodyPost_ret (cu rfl _ _ g2 _ _ _ _ rfl zz62 Tryz.underlying34 rfl (by rw[Tryz.szRProof,zz])) rfl ?_
    exact⟨aE1 bs n sz j k2,true,b2,d2,by rw[hE.out];rfl,.inl ⟨rfl,hp.out⟩,ho.out,by rw[hW.out];exact hH.out.frx fE (λi hi e=>by have h1:=hnb.out i aPo;have:=hlo.out;omega),hF.out.trans fE (λi hi e=>by have:=hlo.out;omega)⟩
 ·have l2:((N:Int) != (a5:Int))=true:=bne_iff_ne.2 aPl
  have hp:=Lib.hid (docB hr0.out hr2.out (.inr (.inr (by have:=HA.out;have:=hN.out;omega))))
  clear hD ha4 hm32 ha5 hbd hC hk2
  go_wp2_with fail
  refine bodyPost_ret (cu rfl _ _ g2 _ _ _ _ rfl zz64 Tryz.underlying34 rfl zz74) rfl ?_
  exact aE4.no hp.out hZ.out (F.setRow (λh=>by have:=hg2.out;omega) _)
end Go.Proofs.YtjlelckefiannaaGreatDoor
