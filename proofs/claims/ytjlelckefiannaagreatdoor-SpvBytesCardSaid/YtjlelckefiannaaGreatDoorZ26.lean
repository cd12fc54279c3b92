import Derived.Test.YtjlelckefiannaaGreatDoorZ25
import Derived.Test.YtjlelckefiannaaGreatDoorZ5
import Derived.Test.YtjlelckefiannaaGreatDoorZ17
import Derived.Test.YtjlelckefiannaaGreatDoorZ2
import Derived.Deep.MidRow
import Derived.Test.YtjlelckefiannaaGreatDoorZ3
import Derived.Test.YtjlelckefiannaaGreatDoorZ1
import Derived.Test.YtjlelckefiannaaGreatDoorZ19
import Derived.Laws.Small
set_option maxRecDepth 100000
set_option maxHeartbeats 64000000
namespace Go.Proofs.YtjlelckefiannaaGreatDoor
set_option linter.unusedVariables false
set_option linter.unusedSimpArgs false
open Go.RowKit
theorem le4(x:Nat):(le 4 x).length=4:=jy 4 x
theorem Hd.cellH{h:Hd}(o:h.Ok):h.cells.extract 1 33=(h.ahead.map B8).toArray:=by
 apply Array.toList_inj.1
 rw[Hd.aJs o]
theorem Hd.aLb{h:Hd}(o:h.Ok):h.cells.extract 33 65=(h.root.map B8).toArray:=by
 apply Array.toList_inj.1
 rw[Hd.aL1 o]
theorem Tryz.szHeader:(Tryz.prog.info? 47).map (·.size)=some 68:=by kernel_rfl
@[go_sem ↓ high] theorem aOb (p:Value):Instr.loadAt 47 p=iq 47 p:=rfl
@[go_sem ↓ high] theorem aKf (p v:Value):Instr.storeAt 47 p v=ji 47 p v:=rfl
@[go_sem] theorem aD5 (w:World) (g:Nat):(iq 47 (.pointer (some ⟨g,0,none⟩))).run Tryz.prog w=aa8 Tryz.prog 47 (.pointer (some ⟨g,0,none⟩)) w 68 w.heap[g]? :=
 qc w _ g 68 _ Tryz.underlying47 rfl Tryz.szHeader
@[go_sem] theorem ay0 (w:World) (g:Nat) (cells:Array Value):(ji 47 (.pointer (some ⟨g,0,none⟩)) (.agg cells)).run Tryz.prog w=aeg Tryz.prog 47 (.pointer (some ⟨g,0,none⟩)) cells g w 68 w.heap[g]? :=
 oq w _ g 68 cells Tryz.szHeader
@[go_sem ↓ high] theorem aO7 (p v:Value):Instr.storeAt 24 p v=ji 24 p v:=rfl
@[go_sem] theorem aEd (w:World) (g:Nat) (cells:Array Value):(ji 24 (.pointer (some ⟨g,0,none⟩)) (.agg cells)).run Tryz.prog w=aeg Tryz.prog 24 (.pointer (some ⟨g,0,none⟩)) cells g w 32 w.heap[g]? :=
 oq w _ g 32 cells Tryz.szHash
def aga(parts:Array (Nat×Value)):Sem Value:=Instr.build 47 parts
@[go_sem ↓ high] theorem aKo (p:Array (Nat×Value)):Instr.build 47 p=aga p:=rfl
theorem ad1(w:World)(parts:Array (Nat×Value))(cells:Array Value)(h:Tryz.prog.built 47 parts.toList=some cells):(aga parts).run Tryz.prog w = .ok (.agg cells) w:=run_build w _ parts cells h
@[go_sem] theorem aEj (w:World) (g:Nat):(iq 24 (.pointer (some ⟨g,1,none⟩))).run Tryz.prog w=aec Tryz.prog 24 (.pointer (some ⟨g,1,none⟩)) w 32 1 68 w.heap[g]? :=
 agf w _ g 1 32 68 _ aPl Tryz.underlying24 rfl Tryz.szHash
@[go_sem] theorem aD6 (w:World) (g:Nat):(iq 24 (.pointer (some ⟨g,33,none⟩))).run Tryz.prog w=aec Tryz.prog 24 (.pointer (some ⟨g,33,none⟩)) w 32 33 68 w.heap[g]? :=
 agf w _ g 33 32 68 _ aPl Tryz.underlying24 rfl Tryz.szHash
structure aN2 (h:Hd) (C:Array Value):Prop where
 size:C.size=68
 c0:C[0]? = some (.int .u32 (h.ver:Int))
 c65:C[65]? = some (.int .u32 (h.time:Int))
 c66:C[66]? = some (.int .u32 (h.bits:Int))
 c67:C[67]? = some (.int .u32 (h.zq:Int))
 x1:C.extract 1 33=(h.ahead.map B8).toArray
 x33:C.extract 33 65=(h.root.map B8).toArray
 one:jh C
theorem Hd.of{h:Hd}(o:h.Ok):aN2 h h.cells:=⟨Hd.qw o,Hd.cell0 o,Hd.azx o,Hd.azw o,Hd.aR8 o,Hd.cellH o,Hd.aLb o,Hd.one⟩
theorem avd(n x:Nat):ofLE (le n x)=x % 256 ^ n:=by
 induction n generalizing x with
 |zero=>simp[le,ofLE,Nat.mod_one]
 |succ n ih =>
  simp only[le,ofLE,ih,Nat.pow_succ,UInt8.toNat_ofNat',Nat.mod_mod]
  rw[Nat.mul_comm (256 ^ n) 256,Nat.mod_mul]
theorem aF7:∀(l:List UInt8),(gu .u8 8 l.length (ofLE l)).toList=l.map B8:=by
 intro l
 apply List.ext_getElem?
 intro i
 by_cases hi:i<l.length
 ·rw[Array.getElem?_toList,aaj _ _ _ _ _ hi,List.getElem?_map,List.getElem?_eq_getElem hi]
  simp only[Option.map_some,B8,Option.some.injEq,Value.int.injEq,true_and]
  congr 1
  have key:∀(l:List UInt8) (i:Nat) (hi:i<l.length),dgt 8 (ofLE l) i=l[i].toNat:=by
   intro l
   induction l with
   |nil=>intro i hi;simp at hi
   |cons x l ih =>
    intro i hi
    have hx:=x.toNat_lt
    cases i with
    |zero=>simp only[dgt,ofLE,List.getElem_cons_zero];omega
    |succ i =>
     have h2:=ih i (by simpa using hi)
     simp only[List.getElem_cons_succ]
     rw[←h2]
     simp only[dgt,ofLE]
     rw[show 8*(i+1)=8+8*i by omega,Nat.pow_add,←Nat.div_div_eq_div_mul]
     congr 2
     omega
  exact key l i hi
 ·rw[List.getElem?_eq_none (by simp;omega),List.getElem?_eq_none (by simp;omega)]
theorem an9(l:List UInt8)(h:l.length=32):(l.map B8).toArray=gu .u8 8 32 (ofLE l):=by
 have:=aF7 l
 rw[h]at this
 apply Array.toList_inj.1
 rw[this]
theorem asj(l:List UInt8)(h:l.length=32):ofLE l<ng:=by
 have:=adv l
 rw[h]at this
 exact this
def hsh(h:Hd):Nat:=ofLE (uj h.bytes)
def mtH(h:Hd):Bool:=decide (btP h.bits∧hsh h≤btT h.bits)
def aE6:List UInt8:=List.replicate 32 0
def aNz:Prop:=∀(h:Hd),h.Ok→∀w,Calls Tryz.prog 17 #[.agg h.cells] w (ou h.bytes w)
def aai:Hd := { ver:=0,ahead:=aE6,root:=aE6,time:=0,bits:=0,zq:=0 }
theorem aai.ok:aai.Ok:=⟨by decide,rfl,rfl,by decide,by decide,by decide⟩
def aNy:Prop:=∀(bs:List UInt8) (a:Option Addr) (c:Nat) (w:World),Bs w a c bs→bs.length≤1000 →
 (bs.length=80→Calls Tryz.prog 55 #[.slice a 80 c] w λe w'=>∃h:Hd,h.Ok∧h.bytes=bs∧e = .returned (.tuple #[.agg h.cells,.int .i64 0])∧Fr F0 w w') ∧
 (¬bs.length=80→Calls Tryz.prog 55 #[.slice a bs.length c] w λe w'=>e = .returned (.tuple #[.agg aai.cells,.int .i64 2])∧Fr F0 w w')
def aKc:Prop:=∀(h:Hd),h.Ok→∀w,Cub w→Calls Tryz.prog 19 #[.agg h.cells] w λe w'=>e = .returned (.agg ((uj h.bytes).map B8).toArray)∧Fr F0 w w'
def ckE(h:Hd)(l:Nat):Int:=if btP h.bits∧btT h.bits≤l then(if hsh h≤btT h.bits then 0 else 7)else 6
def asu:Prop:=∀(h:Hd),h.Ok→∀(l:Nat),l<ng→∀E,ckE h l=E→∀w,Cub w→Calls Tryz.prog 145 #[.agg h.cells,.agg (gu .u64 64 4 l)] w λe w'=>e = .returned (.int .i64 E)∧Fr F0 w w'
def Hd.with(h:Hd)(n:Nat):Hd := { h with zq:=n }
def aay(h:Hd):Nat→Nat→Option Nat
 |0,n=>if mtH (h.with n)then some n else none
 |k+1,n=>if mtH (h.with n)then some n else if n=4294967295 then none else aay h k (n+1)
def acf(h:Hd)(m:Nat):Hd:=match aay h m h.zq with|some n=>h.with n|none=>aai
def agw(h:Hd)(m:Nat):Bool:=(aay h m h.zq).isSome
def aKb:Prop:=∀(h:Hd),h.Ok→∀(m:Nat),m<4294967296→∀w,Cub w→Calls Tryz.prog 49 #[.agg h.cells,.int .u32 (m:Int)] w λe w'=>e = .returned (.tuple #[.agg (acf h m).cells,.bool (agw h m)])∧Fr F0 w w'
theorem Hd.ext'{a b:Hd}(h1:a.ver=b.ver)(h2:a.ahead=b.ahead)(h3:a.root=b.root)(h4:a.time=b.time)(h5:a.bits=b.bits)(h6:a.zq=b.zq):a=b:=by
 cases a;cases b;simp_all
theorem aul(x y:Nat)(hx:x<4294967296)(hy:y<4294967296)(h:le 4 x=le 4 y):x=y:=by
 have:=congrArg ofLE h
 rw[avd,avd,Nat.mod_eq_of_lt aPl,Nat.mod_eq_of_lt aPl]at this
 exact this
theorem Hd.inj{a b:Hd}(oa:a.Ok)(ob:b.Ok)(h:a.bytes=b.bytes):a=b:=by
 unfold Hd.bytes at h
 obtain⟨h1,h⟩:=List.append_inj h (by rw[le4,le4])
 obtain⟨h2,h⟩:=List.append_inj h (by rw[oa.ahead,ob.ahead])
 obtain⟨h3,h⟩:=List.append_inj h (by rw[oa.root,ob.root])
 obtain⟨h4,h⟩:=List.append_inj h (by rw[le4,le4])
 obtain⟨h5,h6⟩:=List.append_inj h (by rw[le4,le4])
 exact Hd.ext' (aul _ _ oa.ver ob.ver h1) h2 h3 (aul _ _ oa.time ob.time h4) (aul _ _ oa.bits ob.bits h5) (aul _ _ oa.zq ob.zq h6)
theorem aiu(w:World):(aga #[]).run Tryz.prog w = .ok (.agg aai.cells) w:=ad1 w #[] _ (by kernel_rfl)
theorem Hd.ar4{h:Hd}(o:h.Ok)(n:Nat)(hn:n<4294967296):(h.with n).Ok:=⟨o.ver,o.ahead,o.root,o.time,o.bits,hn⟩
theorem Hd.aFh{h:Hd}(o:h.Ok)(n k:Nat):(h.with n).cells.setIfInBounds 67 (.int .u32 (k:Int))=(h.with k).cells:=by
 have e:∀n,(h.with n).cells=((Value.int .u32 (h.ver:Int)::(h.ahead.map B8++(h.root.map B8 ++ [Value.int .u32 (h.time:Int),.int .u32 (h.bits:Int)]))) ++ [Value.int .u32 (n:Int)]).toArray:=by
  intro n
  simp[Hd.cells,Hd.with]
 rw[e,e]
 simp only[List.setIfInBounds_toArray]
 congr 1
 rw[List.set_append_right _ _ (by simp[o.ahead,o.root])]
 simp[o.ahead,o.root]
theorem aj1{h:Hd}{k n:Nat}(e:mtH (h.with n)=true):aay h k n=some n:=by
 cases k<;>simp[aay,e]
theorem ah3{h:Hd}{n:Nat}(e:mtH (h.with n)=false):aay h 0 n=none:=by simp[aay,e]
theorem aj0{h:Hd}{k:Nat}(e:mtH (h.with 4294967295)=false):aay h k 4294967295=none:=by cases k<;>simp[aay,e]
theorem an6{h:Hd}{k n:Nat}(e:mtH (h.with n)=false)(hn:¬n=4294967295):aay h (k+1) n=aay h k (n+1):=by simp[aay,e,hn]
theorem avj{h:Hd}:∀k n,n<4294967296→∀r,aay h k n=some r→r<4294967296
 |0,n,hn,r,e=>by
  cases hm:mtH (h.with n)with
  |true=>rw[aj1 hm]at e;cases e;exact hn
  |false=>rw[ah3 hm]at e;cases e
 |k+1,n,hn,r,e=>by
  cases hm:mtH (h.with n)with
  |true=>rw[aj1 hm]at e;cases e;exact hn
  |false =>
   by_cases h2:n=4294967295
   ·subst h2;rw[aj0 hm]at e;cases e
   ·rw[an6 hm h2]at e
    exact avj k (n+1) aPl r e
theorem aA4:aNz:=by
 intro h o w
 obtain⟨s0,c0,c65,c66,c67,x1,x33,o0⟩:=Hd.of o
 obtain⟨v,A,R,t,b,n⟩:=h
 obtain⟨o1,o2,o3,o4,o5,o6⟩:=o
 simp only at o1 o2 o3 o4 o5 o6 c0 c65 c66 c67 x1 x33
 simp only[Hd.bytes]
 generalize Hd.cells _=C at *
 have d0:=jd c0 aPl
 have d65:=jd c65 aPl
 have d66:=jd c66 aPl
 have d67:=jd c67 aPl
 go_enter Tryz.func17,Tryz.ntmps17
 go_upto_region 2 with fail
 refine lu λW2 N2=>?_
 have r0:=N2.old (heap_alloc_new w (.cells C 47))
 have fW:=((Fr.refl F0 w).alloc (.cells C 47)).trans' N2.fr
 have ne:=N2.ne (heap_alloc_new w (.cells C 47))
 have i0:=WI.of N2.new
 rw[World.size_alloc]at i0 ne
 clear N2
 have gw:w.heap.size≤w.heap.size+1:=by omega
 generalize w.heap.size+1=g1 at *
 have r0':=Lib.hid r0
 clear r0
 obtain⟨g0,hg0⟩:∃g,g=w.heap.size:=⟨_,rfl⟩
 rw[←hg0]at r0' ne ⊢
 replace ne:=Lib.hid ne
 replace gw:=Lib.hid gw
 clear hg0
 have r:=i0.keep ne.out r0'.out
 have H:=Lib.hid (i0.put v o1 aKr)
 go_wp2_with fail
 (with_reducible refine H.out.mono ?_);rintro e w3 ⟨rfl,i1⟩
 clear H r
 have r:=i1.keep ne.out r0'.out
 have hb:=Bs.of_cells (o:=1) (n:=32) r o2 aPl x1
 have H:=Lib.hid (i1.raw _ 32 32 _ hb o2.symm aKr)
 go_wp2_with fail
 (with_reducible refine H.out.mono ?_);rintro e w4 ⟨rfl,i2⟩
 clear H r hb
 have r:=i2.keep ne.out r0'.out
 have hb:=Bs.of_cells (o:=33) (n:=32) r o3 aPl x33
 have H:=Lib.hid (i2.raw _ 32 32 _ hb o3.symm aKr)
 go_wp2_with fail
 (with_reducible refine H.out.mono ?_);rintro e w5 ⟨rfl,i3⟩
 clear H r hb
 have r:=i3.keep ne.out r0'.out
 have H:=Lib.hid (i3.put t o4 aKr)
 go_wp2_with fail
 (with_reducible refine H.out.mono ?_);rintro e w6 ⟨rfl,i4⟩
 clear H r
 have r:=i4.keep ne.out r0'.out
 have H:=Lib.hid (i4.put b o5 aKr)
 go_wp2_with fail
 (with_reducible refine H.out.mono ?_);rintro e w7 ⟨rfl,i5⟩
 clear H r
 have r:=i5.keep ne.out r0'.out
 have H:=Lib.hid (i5.put n o6 aKr)
 go_wp2_with fail
 (with_reducible refine H.out.mono ?_);rintro e w8 ⟨rfl,i6⟩
 clear H r
 have H:=Lib.hid (i6.bytes fW gw.out aKr)
 go_wp2_with fail
 refine H.out.mono ?_
 rintro e w9 ⟨a9,c9,rfl,hb9,f9,n9⟩
 have HN:=Lib.hid n9
 clear n9 H
 have e : []++le 4 v++A++R++le 4 t++le 4 b++le 4 n=le 4 v++(A++(R++(le 4 t++(le 4 b++le 4 n)))):=by simp only[List.append_assoc,List.nil_append]
 rw[e]at hb9 ⊢
 obtain⟨N,hN⟩:∃N,N=(le 4 v++(A++(R++(le 4 t++(le 4 b++le 4 n))))).length:=⟨_,rfl⟩
 rw[←hN]
 replace hN:=Lib.hid hN
 go_wp2_with fail
 go_ret
 exact⟨a9,c9,by rw[←hN.out];rfl,hb9,f9,HN.out⟩
theorem aji:aKc:=by
 intro h o w zn
 have HB:=Lib.hid (aA4 h o)
 have HD:=Lib.hid (λa c w hw hc=>adl a 80 c h.bytes (Hd.aa6 o).symm (by have:=Hd.aa6 o;omega) w hw hc)
 have HC:=Lib.hid zn
 have la:=Hd.aa6 o
 have s0:=Hd.qw o
 unfold ou at HB
 rw[la]at HB
 have sx:((uj h.bytes).map B8).toArray.size=32:=by simp[uj,tu]
 have ox:jh ((uj h.bytes).map B8).toArray:=abd _
 generalize (Array.mk ((uj h.bytes).map B8))=X at *
 generalize h.cells=C at *
 generalize h.bytes=S at *
 clear zn
 go_enter Tryz.func19,Tryz.ntmps19
 go_wp2_with fail
 refine ru λW1 N1=>?_
 have r1:=N1.new
 have F:=((Fr.refl F0 w).alloc (.cells C 47)).trans' N1.fr
 have hz:(#[.int .u8 0,.int .u8 0,.int .u8 0,.int .u8 0,.int .u8 0,.int .u8 0,.int .u8 0,.int .u8 0,.int .u8 0,.int .u8 0,.int .u8 0,.int .u8 0,.int .u8 0,.int .u8 0,.int .u8 0,.int .u8 0,
  .int .u8 0,.int .u8 0,.int .u8 0,.int .u8 0,.int .u8 0,.int .u8 0,.int .u8 0,.int .u8 0,.int .u8 0,.int .u8 0,.int .u8 0,.int .u8 0,.int .u8 0,.int .u8 0,.int .u8 0,.int .u8 0]:Array Value).size=32:=rfl
 rw[World.size_alloc]at r1
 have hg:w.heap.size≤w.heap.size+1:=by omega
 try rw[World.size_alloc]
 clear N1
 generalize (#[.int .u8 0,.int .u8 0,.int .u8 0,.int .u8 0,.int .u8 0,.int .u8 0,.int .u8 0,.int .u8 0,.int .u8 0,.int .u8 0,.int .u8 0,.int .u8 0,.int .u8 0,.int .u8 0,.int .u8 0,.int .u8 0,
  .int .u8 0,.int .u8 0,.int .u8 0,.int .u8 0,.int .u8 0,.int .u8 0,.int .u8 0,.int .u8 0,.int .u8 0,.int .u8 0,.int .u8 0,.int .u8 0,.int .u8 0,.int .u8 0,.int .u8 0,.int .u8 0]:Array Value)=Z at *
 generalize w.heap.size+1=g1 at *
 replace hg:=Lib.hid hg
 (with_reducible refine(HB.out _).mono ?_);rintro e w2 ⟨a2,c2,rfl,hb2,f,n2⟩
 clear n2
 replace r1:=au f r1
 replace F:=F.trans' f
 clear f
 go_wp2_with fail
 (with_reducible refine(HD.out _ _ _ hb2 (HC.out.fr F λf=>f)).mono ?_);rintro e w3 ⟨rfl,f⟩
 replace r1:=au f r1
 replace F:=F.trans' f
 clear f
 go_wp2_with fail
 refine bodyPost_ret (results_cell_row rfl _ _ g1 _ _ _ _ rfl aPp Tryz.underlying24 rfl (by rw[Tryz.szHash,sx])) rfl ⟨rfl,?_⟩
 exact F.setRow (λh=>by have:=hg.out;omega) _
theorem aMu:asu:=by
 intro h o l hl E hE w zn
 have HC:=Lib.hid zn
 have HH:=Lib.hid (aji h o)
 rw[an9 _ aEl]at HH
 have hx:=asj (uj h.bytes) aEl
 obtain⟨sa,c0,c65,c66,c67,x1,x33,oa⟩:=Hd.of o
 clear c0 c65 c67 x1 x33 zn
 rw[ckE,show hsh h=ofLE (uj h.bytes)from rfl]at hE
 generalize ofLE (uj h.bytes)=x at *
 by_cases hb:btP h.bits
 ·have HD:=Lib.hid ((aJe h.bits o.bits).1 hb)
  have hTW:=hb.2.2
  generalize btT h.bits=T at *
  have HCm:=Lib.hid (afd T l hTW hl)
  have HM:=Lib.hid (λo ho w=>azr x T o hx hTW ho w)
  have hE2:E=if T≤l then(if x≤T then 0 else 7)else 6:=by
   rw[←hE]
   by_cases h1:T≤l<;>simp[hb,h1]
  clear hE hb
  generalize h.cells=A at *
  have d66:=jd c66 aPl
  generalize h.bits=b at *
  have hs:(sgn T l≤0)↔T≤l:=azj T l
  generalize sgn T l=s at *
  clear hl hTW hx
  go_enter Tryz.func145,Tryz.ntmps145
  go_wp2_with fail
  refine ru λW1 N1=>?_
  have r1:=N1.new
  have r0:=N1.old (heap_alloc_new w (.cells A 47))
  have F:=((Fr.refl F0 w).alloc (.cells A 47)).trans' N1.fr
  rw[World.size_alloc]at r1
  clear N1
  generalize w.heap.size+1=g1 at *
  generalize w.heap.size=g0 at *
  (with_reducible refine(HD.out _).mono ?_);rintro e w2 ⟨rfl,f⟩
  replace r0:=au f r0
  replace r1:=au f r1
  replace F:=F.trans' f
  clear f HD c66 d66
  go_upto_region 2 with fail
  refine uy λW3 N3=>?_
  have r5:=N3.new
  replace r0:=N3.old r0
  replace r1:=N3.old r1
  replace F:=F.trans' N3.fr
  clear N3
  generalize w2.heap.size=g5 at *
  go_wp2_with fail
  (with_reducible refine(HCm.out _).mono ?_);rintro e w4 ⟨rfl,f⟩
  replace r0:=au f r0
  replace r5:=au f r5
  replace F:=F.trans' f
  clear f HCm r1
  by_cases h1:T≤l
  ·have l1:¬0<s:=by have:=hs.2 h1;omega
   rw[if_pos h1]at hE2
   obtain⟨om,hom⟩:∃om,decide (x≤T)=om:=⟨_,rfl⟩
   have HM2:=Lib.hid (HM.out om hom)
   have hE3:E=if om then 0 else 7:=by
    rw[hE2,←hom]
    by_cases h2:x≤T<;>simp[h2]
   clear hE2 hom hs h1 HM
   go_upto_region 4 with fail
   refine jm (S:=(λw'=>(w'.heap[g0]? = some (.cells A 47 (0,0))∧w'.heap[g5]? = some (.cells (gu .u64 64 4 T) 143 (0,0)))∧Fr F0 w w')) ?_ λak=>?_
   ·exact(by((try dsimp only)<;>(exact⟨⟨r0,r5⟩,F.drew⟩)))
   refine aj 0 ?_
   refine aj 2 ?_
   refine jf 1 λK hK=>?_
   go_simp
   ((with_reducible refine(HH.out _ (HC.out.fr ak.2 λf=>f)).mono ?_);rintro e w6 ⟨rfl,f5⟩)
   refine rpu hK ak5 λak=>?_
   clear hK K
   refine jf 3 λK hK=>?_
   go_simp
   ((with_reducible refine(HM2.out _).mono ?_);rintro e w7 ⟨rfl,f5⟩)
   refine rpu hK ak5 λak=>?_
   clear hK K
   refine aj 4 ?_
   refine aj 5 ?_
   refine jg ?_
   all_goals
    cases om with
    |true =>
     go_wp2
     go_ret
     exact⟨by first|rfl|(rw[hE3];rfl),ak.2⟩
    |false =>
     go_wp2
     go_ret
     exact⟨by first|rfl|(rw[hE3];rfl),ak.2⟩
  ·have l1:0<s:=by have:=hs.1;omega
   rw[if_neg h1]at hE2
   subst hE2
   go_wp2
   go_ret
   exact⟨rfl,F⟩
 ·have HD:=Lib.hid ((aJe h.bits o.bits).2 hb)
  rw[if_neg (λh=>hb h.1)]at hE
  subst hE
  clear hb
  generalize h.cells=A at *
  have d66:=jd c66 aPl
  generalize h.bits=b at *
  clear hl hx
  go_enter Tryz.func145,Tryz.ntmps145
  go_wp2_with fail
  refine ru λW1 N1=>?_
  have r1:=N1.new
  have r0:=N1.old (heap_alloc_new w (.cells A 47))
  have F:=((Fr.refl F0 w).alloc (.cells A 47)).trans' N1.fr
  rw[World.size_alloc]at r1
  clear N1
  generalize w.heap.size+1=g1 at *
  generalize w.heap.size=g0 at *
  (with_reducible refine(HD.out _).mono ?_);rintro e w2 ⟨rfl,f⟩
  replace F:=F.trans' f
  clear f HD c66 d66
  go_wp2
  go_ret
  exact⟨rfl,F.trans' (aa9 _ _ _ _).fr⟩
theorem aMi(h:Hd)(hb:btP h.bits)(n:Nat):mtH (h.with n)=decide (hsh (h.with n)≤btT h.bits):=by
 have e:(h.with n).bits=h.bits:=rfl
 simp only[mtH,e,hb,true_and]
theorem ah2(h:Hd)(hb:¬btP h.bits)(n:Nat):mtH (h.with n)=false:=by
 have e:(h.with n).bits=h.bits:=rfl
 simp only[mtH,e,hb,false_and,decide_false]
theorem aip(h:Hd)(hb:¬btP h.bits):∀k n,aay h k n=none
 |0,n=>ah3 (ah2 h hb n)
 |k+1,n=>by
  by_cases e:n=4294967295
  ·subst e;exact aj0 (ah2 h hb _)
  ·rw[an6 (ah2 h hb n) e];exact aip h hb k (n+1)
theorem aG2(x y z:Nat)(h:min x y=z):(if(y:Int)<(x:Int)then(y:Int)else(x:Int))=(z:Int):=by split<;>omega
theorem axd(ts:Array TypeId)(t:TypeId)(x y z:Nat)(h:min x y=z)(w:World):(Builtin.min_ ts t #[.int .u32 (x:Int),.int .u32 (y:Int)]).run Tryz.prog w = .ok (.int .u32 (z:Int)) w:=by rw[run_min_int2,aG2 x y z h]
theorem aHd(h:Hd)(o:h.Ok)(hb:¬btP h.bits)(m:Nat)(w:World):
  Calls Tryz.prog 49 #[.agg h.cells,.int .u32 (m:Int)] w λe w'=>e = .returned (.tuple #[.agg aai.cells,.bool false])∧Fr F0 w w':=by
 have HD:=Lib.hid ((aJe h.bits o.bits).2 hb)
 obtain⟨sa,c0,c65,c66,c67,x1,x33,oa⟩:=Hd.of o
 have hzb:=aiu
 have zz:Tryz.zeroCells47.size=68:=by kernel_rfl
 have s0:aai.cells.size=68:=rfl
 have o0:jh aai.cells:=Hd.one
 clear c0 c65 c67 x1 x33 hb o
 generalize Tryz.zeroCells47=Z at *
 generalize aai.cells=C at *
 generalize h.cells=A at *
 have d66:=jd c66 aPl
 generalize h.bits=b at *
 go_enter Tryz.func49,Tryz.ntmps49
 go_wp2_with fail
 refine ru λW1 N1=>?_
 have r4:=N1.new
 have F:=((Fr.refl F0 w).alloc (.cells A 47)).trans' N1.fr
 have hg:w.heap.size≤w.heap.size+1:=by omega
 rw[World.size_alloc]at r4
 clear N1
 generalize w.heap.size+1=g4 at *
 replace hg:=Lib.hid hg
 (with_reducible refine(HD.out _).mono ?_);rintro e w2 ⟨rfl,f⟩
 replace r4:=au f r4
 replace F:=F.trans' f
 clear f HD c66 d66
 go_upto_region 2 with fail
 refine uy λW3 N3=>?_
 replace r4:=N3.old r4
 replace F:=F.trans' N3.fr
 clear N3
 go_wp2
 refine bodyPost_ret (cu rfl _ _ g4 _ _ _ _ rfl (by rw[jc,r4];rfl) Tryz.underlying47 rfl (by rw[Tryz.szHeader,s0])) rfl ⟨rfl,?_⟩
 exact F.setRow (λh=>by have:=hg.out;omega) _
theorem aC3(h:Hd)(o:h.Ok)(hb:btP h.bits)(m:Nat)(hm:m<4294967296)(w:World)(zn:Cub w):
  Calls Tryz.prog 49 #[.agg h.cells,.int .u32 (m:Int)] w λe w'=>e = .returned (.tuple #[.agg (acf h m).cells,.bool (agw h m)])∧Fr F0 w w':=by
 have HC:=Lib.hid zn
 have HD:=Lib.hid ((aJe h.bits o.bits).1 hb)
 have hTW:=hb.2.2
 have HH:=Lib.hid (λn (hn:n<4294967296) w hw=>show Calls _ _ _ w λe w'=>e = .returned (.agg (gu .u8 8 32 (hsh (h.with n))))∧Fr F0 w w' from(aji (h.with n) (Hd.ar4 o n hn) w hw).mono λe w' q=>by
  rw[an9 _ aEl]at q
  exact q)
 have HM:=Lib.hid (λn ok (hk:mtH (h.with n)=ok) w=>azr (hsh (h.with n)) (btT h.bits) ok (asj _ aEl) hTW (by rw[←aMi h hb n];exact hk) w)
 obtain⟨sa,c0,c65,c66,c67,x1,x33,oa⟩:=Hd.of o
 have HN:=Lib.hid o.zq
 have HS:=Lib.hid (λn k=>Hd.aFh o n k)
 have HOf:=Lib.hid (λn (hn:n<4294967296)=>Hd.of (Hd.ar4 o n hn))
 have HX:∀r,aay h m h.zq=r→acf h m=(match r with|some n=>h.with n|none=>aai)∧agw h m=r.isSome:=λr e=>by
  rw[acf,agw,e]
  exact⟨rfl,rfl⟩
 replace HX:=Lib.hid HX
 have szX:(acf h m).cells.size=68∧jh (acf h m).cells:=by
  refine⟨?_,Hd.one⟩
  unfold acf
  cases e:aay h m h.zq with
  |none=>exact Hd.qw aai.ok
  |some r=>exact Hd.qw (Hd.ar4 o r (avj m _ o.zq r e))
 obtain⟨sX,oX⟩:=szX
 obtain⟨X,hX⟩:∃X,X=(acf h m).cells:=⟨_,rfl⟩
 obtain⟨O,hO⟩:∃O,O=agw h m:=⟨_,rfl⟩
 rw[←hX]at sX oX ⊢
 rw[←hO]
 replace hX:=Lib.hid hX
 replace hO:=Lib.hid hO
 obtain⟨k,hk⟩:∃k,k=4294967295-h.zq:=⟨_,rfl⟩
 obtain⟨D,hD⟩:∃D,min m k=D:=⟨_,rfl⟩
 have ws:IntKind.u32.wrap (4294967295-(h.zq:Int))=(k:Int):=by have:=o.zq;rw[IntWalk.u32_in _ aPl];omega
 have hmin:=λts t w=>axd ts t m k D hD w
 have wD:(D:Int) % 18446744073709551616=(D:Int):=by omega
 obtain⟨E,hE⟩:∃E,E=D+1:=⟨_,rfl⟩
 have wE:IntKind.u64.wrap ((D:Int)+1)=(E:Int):=by rw[IntWalk.u64_in _ aPl];omega
 have HE:=Lib.hid (show E=min m k+1∧k=4294967295-h.zq by omega)
 have hE2:=Lib.hid (show E<4294967297 by omega)
 have zz:Tryz.zeroCells47.size=68:=by kernel_rfl
 clear zn hb c0 c65 x1 x33 hTW o hm hD hE hk
 rw[show h.cells=(h.with h.zq).cells from rfl]at *
 generalize btT h.bits=T at *
 generalize hA0:(h.with h.zq).cells=A0 at *
 replace hA0:=Lib.hid hA0
 have d66:=jd c66 aPl
 have d67:=jd c67 aPl
 generalize h.bits=b at *
 obtain⟨N,hN⟩:∃N,N=h.zq:=⟨_,rfl⟩
 rw[←hN]at HN HX hA0 HE d67 c67 ws
 replace hN:=Lib.hid hN
 go_enter Tryz.func49,Tryz.ntmps49
 go_wp2_with fail
 refine ru λW1 N1=>?_
 have r4:=N1.new
 have r2:=N1.old (heap_alloc_new w (.cells A0 47))
 have ne:=N1.ne (heap_alloc_new w (.cells A0 47))
 have F:=((Fr.refl F0 w).alloc (.cells A0 47)).trans' N1.fr
 have hg:w.heap.size≤w.heap.size+1:=by omega
 rw[World.size_alloc]at r4 ne
 clear N1
 generalize Tryz.zeroCells47=Z at *
 generalize w.heap.size+1=g4 at *
 obtain⟨g2,hg2⟩:∃g,g=w.heap.size:=⟨_,rfl⟩
 rw[←hg2]at r2 ne hg ⊢
 have hgw:=Lib.hid (show w.heap.size≤g2 by omega)
 replace hg:=Lib.hid (show w.heap.size≤g4 by omega)
 replace hg2:=Lib.hid hg2
 (with_reducible refine(HD.out _).mono ?_);rintro e w2 ⟨rfl,f⟩
 replace r4:=au f r4
 replace r2:=au f r2
 replace F:=F.trans' f
 clear f HD c66 d66
 go_upto_region 2 with fail
 refine uy λW3 N3=>?_
 have r6:=N3.new
 have ne6:=N3.ne r2
 replace r4:=N3.old r4
 replace r2:=N3.old r2
 replace F:=F.trans' N3.fr
 clear N3
 generalize w2.heap.size=g6 at *
 go_wp2_with fail
 go_loopw [26] (λiv wr=>∃j n:Nat,j≤E∧iv = .int .u64 (j:Int)∧n<4294967296∧(wr.heap[g2]? = some (.cells (h.with n).cells 47 (0,0))∧wr.heap[g4]? = some (.cells Z 47 (0,0))∧wr.heap[g6]? = some (.cells (gu .u64 64 4 T) 143 (0,0)))∧Fr F0 w wr∧Hid ((j<E→n=N+j∧aay h m N=aay h (m-j) n)∧(j=E→aay h m N=none))) (λiv _=>E-(intOf iv).toNat)
 case atStart=>exact⟨0,N,Nat.zero_le _,rfl,HN.out,⟨by rw[hA0.out];exact r2,r4,r6⟩,F,⟨λ_=>⟨rfl,rfl⟩,λe=>by have h1:=HE.out;omega⟩⟩
 case round =>
  clear r2 r4 r6 F
  obtain⟨j,n,hj,rfl,hn,⟨r2,r4,r6⟩,F,HJ⟩:=hrel
  by_cases hjE:j<E
  ·have l1:(j:Int)<(E:Int):=by omega
   obtain⟨en,eJ⟩:=HJ.out.1 hjE
   clear HJ
   have HJ:=Lib.hid eJ
   have en2:=Lib.hid en
   clear eJ en
   have HHn:=Lib.hid (HH.out n hn)
   obtain⟨mt,hmt⟩:∃mt,mtH (h.with n)=mt:=⟨_,rfl⟩
   have HMn:=Lib.hid (HM.out n mt hmt)
   have hset:=Lib.hid (λk=>HS.out n k)
   have hof:=HOf.out n hn
   have s7:=hof.size
   have o7:=hof.one
   have c7:(h.with n).cells[67]? = some (.int .u32 (n:Int)):=hof.c67
   clear hof
   generalize hA:(h.with n).cells=A at *
   replace hA:=Lib.hid hA
   have d7:=jd c7 aPl
   replace hmt:=Lib.hid hmt
   replace hjE:=Lib.hid hjE
   generalize hsh (h.with n)=x at *
   go_upto_region 7 with fail
   refine jm (S:=(λw'=>(w'.heap[g2]? = some (.cells A 47 (0,0))∧w'.heap[g4]? = some (.cells Z 47 (0,0))∧w'.heap[g6]? = some (.cells (gu .u64 64 4 T) 143 (0,0)))∧Fr F0 w w')) ?_ λak=>?_
   ·exact(by((try dsimp only)<;>(exact⟨⟨r2,r4,r6⟩,F.drew⟩)))
   refine aj 0 ?_
   refine aj 2 ?_
   refine jf 1 λK hK=>?_
   go_simp
   ((with_reducible refine(HHn.out _ (HC.out.fr ak.2 λf=>f)).mono ?_);rintro e w6 ⟨rfl,f5⟩)
   refine rpu hK aKs λak=>?_
   clear hK K
   refine jf 3 λK hK=>?_
   go_simp
   ((with_reducible refine(HMn.out _).mono ?_);rintro e w7 ⟨rfl,f5⟩)
   refine rpu hK aKs λak=>?_
   clear hK K
   refine jg ?_
   all_goals
    cases mt with
    |true =>
     obtain⟨e1,e2⟩:=HX.out (some n) (by rw[HJ.out,aj1 hmt.out])
     have eX:X=A:=by rw[hX.out,e1,←hA.out]
     have eO:O=true:=by rw[hO.out,e2];rfl
     have q4:=ak.1.2.1
     have fq:=ak.2
     subst eX eO
     clear e1 e2 HJ
     go_wp2
     refine bodyPost_ret (cu rfl _ _ g4 _ _ _ _ rfl (by rw[jc,q4];rfl) Tryz.underlying47 rfl (by rw[Tryz.szHeader,sX])) rfl ⟨rfl,?_⟩
     exact fq.setRow (λh=>by have:=hg.out;omega) _
    |false =>
     have q2:=ak.1.1
     have q4:=ak.1.2.1
     have q6:=ak.1.2.2
     have fq:=ak.2
     obtain⟨n',hn'⟩:∃n',n'=(n+1) % 4294967296:=⟨_,rfl⟩
     have wn:IntKind.u32.wrap ((n:Int)+1)=(n':Int):=by rw[hn'];simp[IntKind.wrap,IntKind.signed,IntKind.bits]
     have wj:IntKind.u64.wrap ((j:Int)+1)=((j+1:Nat):Int):=by have h1:=hjE.out;have h2:=hE2.out;rw[IntWalk.u64_in _ aPl];rfl
     have hn2:=Lib.hid (show n'<4294967296 by omega)
     have HJ2:(j+1<E→n'=N+(j+1)∧aay h m N=aay h (m-(j+1)) n')∧(j+1=E→aay h m N=none):=by
      have h1:=HE.out
      have h2:=en2.out
      have h3:=HN.out
      have h4:=hmt.out
      refine⟨λhj=>?_,λhj=>?_⟩
      ·have e:n'=n+1:=by omega
       refine⟨by omega,?_⟩
       rw[HJ.out,show m-j=m-(j+1)+1 by omega,an6 h4 aPl,e]
      ·rw[HJ.out]
       by_cases e:j=m
       ·subst e
        rw[Nat.sub_self,ah3 h4]
       ·have e:n=4294967295:=by omega
        subst e
        rw[aj0 h4]
     replace HJ2:=Lib.hid HJ2
     replace hn':=Lib.hid hn'
     clear HJ
     go_wp2_with fail
     refine⟨⟨j+1,n',hjE.out,rfl,hn2.out,⟨?_,?_,?_⟩,?_,HJ2⟩,?_⟩
     ·rw[gq,q2]
      have:=hset.out n'
      rw[←this]
      rfl
     ·rw[dn _ _ _ _ _ (Ne.symm ne)]
      exact q4
     ·rw[dn _ _ _ _ _ (Ne.symm ne6)]
      exact q6
     ·exact fq.setCell (p:=⟨g2,67,none⟩) (λh=>by have:=hgw.out;exact absurd h (by simp only;omega)) _
     ·have h1:=hjE.out
      simp only[intOf]
      omega
  ·obtain rfl:j=E:=by omega
   obtain⟨e1,e2⟩:=HX.out none (HJ.out.2 rfl)
   have eX:X=aai.cells:=by rw[hX.out,e1]
   have eO:O=false:=by rw[hO.out,e2];rfl
   have hzb:=aiu
   rw[←eX]at hzb
   subst eO
   have l1:¬(j:Int)<(j:Int):=by omega
   clear e1 e2 HJ eX hjE
   go_wp2
   refine bodyPost_ret (cu rfl _ _ g4 _ _ _ _ rfl (by rw[jc,r4];rfl) Tryz.underlying47 rfl (by rw[Tryz.szHeader,sX])) rfl ⟨rfl,?_⟩
   exact F.setRow (λh=>by have:=hg.out;omega) _
theorem aJ2:aKb:=by
 intro h o m hm w zn
 by_cases hb:btP h.bits
 ·exact aC3 h o hb m hm w zn
 ·have e:aay h m h.zq=none:=aip h hb m h.zq
  have e1:acf h m=aai:=by rw[acf,e]
  have e2:agw h m=false:=by rw[agw,e];rfl
  rw[e1,e2]
  exact aHd h o hb m w
end Go.Proofs.YtjlelckefiannaaGreatDoor
