import Derived.Test.YtjlelckefiannaaGreatDoorZ44
import Derived.Test.YtjlelckefiannaaGreatDoorZ13
set_option maxRecDepth 100000
set_option maxHeartbeats 64000000
namespace Go.Proofs.YtjlelckefiannaaGreatDoor
set_option linter.unusedVariables false
set_option linter.unusedSimpArgs false
open Go.RowKit
theorem Tryz.szPayment:(Tryz.prog.info? 87).map (·.size)=some 22:=by kernel_rfl
@[go_sem ↓ high] theorem aKk (p:Value):Instr.loadAt 87 p=iq 87 p:=rfl
@[go_sem ↓ high] theorem aIe (p v:Value):Instr.storeAt 87 p v=ji 87 p v:=rfl
@[go_sem] theorem ay3 (w:World) (g:Nat):(iq 87 (.pointer (some ⟨g,0,none⟩))).run Tryz.prog w=aa8 Tryz.prog 87 (.pointer (some ⟨g,0,none⟩)) w 22 w.heap[g]? :=
 qc w _ g 22 _ Tryz.underlying87 rfl Tryz.szPayment
def asl(parts:Array (Nat×Value)):Sem Value:=Instr.build 87 parts
@[go_sem ↓ high] theorem aIl (p:Array (Nat×Value)):Instr.build 87 p=asl p:=rfl
theorem as7(w:World)(parts:Array (Nat×Value))(cells:Array Value)(h:Tryz.prog.built 87 parts.toList=some cells):(asl parts).run Tryz.prog w = .ok (.agg cells) w:=run_build w _ parts cells h
theorem aHo(A:List UInt8)(h:A.length=20)(amt:Int)(a:Option Addr)(n c:Nat):Tryz.prog.built 87 [(0,.agg (A.map B8).toArray),(1,.int .u64 amt),(2,.slice a n c)]=some (A.map B8 ++ [Value.int .u64 amt,Value.slice a n c]).toArray:=by
 obtain⟨x0,x1,x2,x3,x4,x5,x6,x7,x8,x9,x10,x11,x12,x13,x14,x15,x16,x17,x18,x19,rfl⟩:=twenty A h
 kernel_rfl
theorem aB2{A:List UInt8}(hA:A.length=20)(amt:Nat)(a:Option Addr)(n c:Nat)(W:World)(g:Nat)(r:W.heap[g]? = some (.cells (pyC A amt a n c) 87 (0,0))):
  aa8 Tryz.prog 62 (.pointer (some ⟨g,0,none⟩)) W 20 (some (.cells (pyC A amt a n c) 87 (0,0))) = .ok (.agg (A.map B8).toArray) W:=by
 unfold aa8
 dsimp only
 rw[if_neg (by rw[ai1 hA];omega),aq7]
 refine run_loadAt_mid (P:=Tryz.prog) W g 0 62 (A.map B8) _ (λj u hj=>?_) Tryz.underlying62 rfl (by rw[Tryz.szAddress,List.length_map,hA])
 rw[jq,r,mg,pyC,List.getElem?_toArray,Nat.zero_add,List.getElem?_append_left (List.getElem?_eq_some_iff.1 hj).1]
 exact hj
def inE(t:TT)(A:List UInt8)(amt:Nat)(tag:List UInt8):Int :=
 if toE 0 (pays (pTo A) t.outs)=0∧amt≤toV 0 (pays (pTo A) t.outs)∧(decide (tag.length=0)||decide (tag∈afz t.outs))=true then 0 else 15
theorem aL7(A:List UInt8)(hA:A.length=20)(amt:Nat)(aPx:amt<18446744073709551616)(tag:List UInt8)(a:Option Addr)(c:Nat)(t:TT)(w:World)(ht:t.Ok w)(hb:Bs w a c tag)(hs:∀x∈t.outs,x.m.lk.length≤1000)(h70:t.outs.length≤70):
  Calls Tryz.prog 32 #[.agg (pyC A amt a tag.length c),.agg t.cells] w λe w'=>e = .returned (.int .i64 (inE t A amt tag))∧Fr F0 w w':=by
 have HPd:=Lib.hid (λw' (f:Fr F0 w w')=>aBt t A hA w' (ht.fr f) hs)
 have HTg:=Lib.hid (λw' (f:Fr F0 w w')=>atb A hA amt tag a c t w' (ht.fr f) (Bs.fr7 hb f) hs h70)
 unfold inE
 obtain⟨n,hn⟩:∃n,n=tag.length:=⟨_,rfl⟩
 rw[←hn]at HTg ⊢
 have sP:=ai1 hA amt a n c
 have oP:=aAm A amt a n c
 have c20:=aRf hA amt a n c
 have hro:=aB2 hA amt a n c
 obtain⟨PC,hPC⟩:∃P,P=pyC A amt a n c:=⟨_,rfl⟩
 rw[←hPC]at sP c20 oP HTg hro ⊢
 clear hPC
 have z20:20<PC.size:=by omega
 have d20:=jd c20 z20
 obtain⟨x0,x3,ia,oa,ni,mo,ic,oc,hTC⟩:=t.ajf
 rw[hTC]at HTg HPd ⊢
 clear hTC
 obtain⟨V,hV⟩:∃V,V=toV 0 (pays (pTo A) t.outs):=⟨_,rfl⟩
 obtain⟨E,hE⟩:∃E,E=toE 0 (pays (pTo A) t.outs):=⟨_,rfl⟩
 obtain⟨tg,htg⟩:∃b,b=(decide (n=0)||decide (tag∈afz t.outs)):=⟨_,rfl⟩
 rw[←hV,←hE]at HPd ⊢
 rw[←htg]at HTg ⊢
 clear hV hE htg hn hb ht hs h70
 obtain⟨R,hR⟩:∃R:Int,R=if E=0∧amt≤V∧tg=true then 0 else 15:=⟨_,rfl⟩
 rw[←hR]
 replace hR:=Lib.hid hR
 obtain⟨AA,hAA⟩:∃X,X=(A.map B8).toArray:=⟨_,rfl⟩
 rw[←hAA]at HPd hro
 clear hAA hA
 have r3:=heap_alloc_new (w.alloc (.cells PC 87)) (.cells #[.int .u32 x0,.slice ia ni ic,.slice oa mo oc,.int .u32 x3] 59)
 have r2:=bg (o := .cells #[.int .u32 x0,.slice ia ni ic,.slice oa mo oc,.int .u32 x3] 59) (heap_alloc_new w (.cells PC 87))
 have F:=((Fr.refl F0 w).alloc (.cells PC 87)).alloc (.cells #[.int .u32 x0,.slice ia ni ic,.slice oa mo oc,.int .u32 x3] 59)
 simp only[World.size_alloc]at r3
 obtain⟨W1,hW1⟩:∃W,W=(w.alloc (.cells PC 87)).alloc (.cells #[.int .u32 x0,.slice ia ni ic,.slice oa mo oc,.int .u32 x3] 59):=⟨_,rfl⟩
 rw[←hW1]at r2 r3 F
 replace hro:=Lib.hid hro
 replace hW1:=Lib.hid hW1
 replace r2:=Lib.hid r2
 replace r3:=Lib.hid r3
 replace F:=Lib.hid F
 go_enter Tryz.func32,Tryz.ntmps32
 go_upto_region 1 with fail
 try simp only[World.size_alloc]
 rw[←hW1.out]
 obtain⟨g3,hg3⟩:∃g,g=w.heap.size+1:=⟨_,rfl⟩
 obtain⟨g2,hg2⟩:∃g,g=w.heap.size:=⟨_,rfl⟩
 rw[←hg3]at r3 ⊢
 rw[←hg2]at r2
 try rw[←hg2]
 clear hW1 hg2 hg3
 replace r2:=r2.out
 replace r3:=r3.out
 replace F:=F.out
 have ro:=hro.out W1 g2 r2
 go_wp2_with fail
 (with_reducible refine(HPd.out _ F).mono ?_);rintro e w2 ⟨rfl,f⟩
 replace r2:=au f r2
 replace r3:=au f r3
 replace F:=F.trans' f
 clear f HPd ro hro
 by_cases hE:E=0
 ·subst hE
  by_cases hv:V<amt
  ·have l1:(V:Int)<(amt:Int):=by omega
   have hv':=Lib.hid hv
   clear hv
   go_wp2_with fail
   go_ret
   exact⟨by rw[hR.out,if_neg (λh=>by have:=hv'.out;omega)];rfl,F⟩
  ·have l1:¬(V:Int)<(amt:Int):=by omega
   have hv':=Lib.hid (Nat.le_of_not_lt hv)
   clear hv
   go_wp2_with fail
   (with_reducible refine(HTg.out _ F).mono ?_);rintro e w3 ⟨rfl,f⟩
   replace F:=F.trans' f
   clear f HTg r2 r3
   cases tg with
   |false =>
    go_wp2_with fail
    go_ret
    exact⟨by rw[hR.out,if_neg (λh=>by cases h.2.2)];rfl,F⟩
   |true =>
    go_wp2_with fail
    go_ret
    exact⟨by rw[hR.out,if_pos (by first|exact⟨rfl,hv'.out,rfl⟩|exact⟨trivial,hv'.out,trivial⟩)];rfl,F⟩
 ·have l1:(E != 0)=true:=bne_iff_ne.2 hE
  have hE':=Lib.hid hE
  clear hE
  go_wp2_with fail
  go_ret
  exact⟨by rw[hR.out,if_neg (λh=>hE'.out h.1)];rfl,F⟩
end Go.Proofs.YtjlelckefiannaaGreatDoor
