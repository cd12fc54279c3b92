import Derived.Test.YtjlelckefiannaaGreatDoorZ2
import Derived.Test.YtjlelckefiannaaGreatDoorZ26
import Derived.Test.YtjlelckefiannaaGreatDoorZ5
import Derived.Laws.Cover3
set_option maxRecDepth 100000
set_option maxHeartbeats 64000000
namespace Go.Proofs.YtjlelckefiannaaGreatDoor
set_option linter.unusedVariables false
set_option linter.unusedSimpArgs false
open Go.RowKit
@[go_sem] theorem aD2 (w:World) (g:Nat) (cells:Array Value):(ji 24 (.pointer (some ⟨g,1,none⟩)) (.agg cells)).run Tryz.prog w=awo Tryz.prog 24 (.pointer (some ⟨g,1,none⟩)) cells g w 32 1 68 w.heap[g]? :=
 acs w _ g 1 32 68 cells aPl aPl Tryz.szHash
@[go_sem] theorem ay1 (w:World) (g:Nat) (cells:Array Value):(ji 24 (.pointer (some ⟨g,33,none⟩)) (.agg cells)).run Tryz.prog w=awo Tryz.prog 24 (.pointer (some ⟨g,33,none⟩)) cells g w 32 33 68 w.heap[g]? :=
 acs w _ g 33 32 68 cells aPl aPl Tryz.szHash
def Hd.L(h:Hd):Prop:=h.ahead.length=32∧h.root.length=32
theorem Hd.awl{h:Hd}(o:h.L):h.cells.size=68:=by simp[Hd.cells,o.1,o.2]
theorem Hd.set0(h:Hd)(x:Nat):h.cells.setIfInBounds 0 (.int .u32 (x:Int))=({ h with ver:=x }:Hd).cells:=by simp[Hd.cells]
theorem Hd.aby(h:Hd):h.cells=((Value.int .u32 (h.ver:Int)::(h.ahead.map B8++h.root.map B8)) ++ [Value.int .u32 (h.time:Int),.int .u32 (h.bits:Int),.int .u32 (h.zq:Int)]).toArray:=by simp[Hd.cells]
theorem Hd.set65{h:Hd}(o:h.L)(x:Nat):h.cells.setIfInBounds 65 (.int .u32 (x:Int))=({ h with time:=x }:Hd).cells:=by
 rw[Hd.aby,Hd.aby,List.setIfInBounds_toArray,List.set_append_right _ _ (by simp[o.1,o.2])]
 simp[o.1,o.2]
theorem Hd.set66{h:Hd}(o:h.L)(x:Nat):h.cells.setIfInBounds 66 (.int .u32 (x:Int))=({ h with bits:=x }:Hd).cells:=by
 rw[Hd.aby,Hd.aby,List.setIfInBounds_toArray,List.set_append_right _ _ (by simp[o.1,o.2])]
 simp[o.1,o.2]
theorem Hd.set67{h:Hd}(o:h.L)(x:Nat):h.cells.setIfInBounds 67 (.int .u32 (x:Int))=({ h with zq:=x }:Hd).cells:=by
 rw[Hd.aby,Hd.aby,List.setIfInBounds_toArray,List.set_append_right _ _ (by simp[o.1,o.2])]
 simp[o.1,o.2]
theorem Hd.put1{h:Hd}(o:h.L)(A:List UInt8)(hA:A.length=32):aaz h.cells 1 (A.map B8)=({ h with ahead:=A }:Hd).cells:=by
 have:=ae7 [Value.int .u32 (h.ver:Int)] (h.ahead.map B8) (h.root.map B8 ++ [.int .u32 (h.time:Int),.int .u32 (h.bits:Int),.int .u32 (h.zq:Int)]) (A.map B8) (by simp[o.1,hA])
 exact this
theorem Hd.aP9{h:Hd}(o:h.L)(A:List UInt8)(hA:A.length=32):aaz h.cells 33 (A.map B8)=({ h with root:=A }:Hd).cells:=by
 have:=ae7 (Value.int .u32 (h.ver:Int)::h.ahead.map B8) (h.root.map B8) [.int .u32 (h.time:Int),.int .u32 (h.bits:Int),.int .u32 (h.zq:Int)] (A.map B8) (by simp[o.2,hA])
 rw[show(Value.int .u32 (h.ver:Int)::h.ahead.map B8).length=33 by simp[o.1]]at this
 simpa [Hd.cells]using this
def Hd.read(b:List UInt8):Hd:=⟨ofLE (b.take 4),(b.drop 4).take 32,(b.drop 36).take 32,ofLE ((b.drop 68).take 4),ofLE ((b.drop 72).take 4),ofLE ((b.drop 76).take 4)⟩
theorem aAx:∀(l:List UInt8),le l.length (ofLE l)=l
 |[]=>rfl
 |c::r=>by
  have:=c.toNat_lt
  simp only[List.length_cons,le,ofLE]
  rw[show(c.toNat+256*ofLE r)/256=ofLE r by omega,aAx r]
  congr 1
  rw[show(c.toNat+256*ofLE r) % 256=c.toNat by omega]
  exact UInt8.toNat_inj.1 (by rw[UInt8.toNat_ofNat'];omega)
theorem Hd.aAi{b:List UInt8}(h:b.length=80):(Hd.read b).Ok:=by
 have q:∀(l:List UInt8),l.length=4→ofLE l<4294967296:=λl hl=>by have:=adv l;rw[hl]at this;exact this
 refine⟨q _ (by simp;omega),by simp[Hd.read];omega,by simp[Hd.read];omega,q _ (by simp;omega),q _ (by simp;omega),q _ (by simp;omega)⟩
theorem Hd.axg{b:List UInt8}(h:b.length=80):(Hd.read b).bytes=b:=by
 have q:∀(l:List UInt8),l.length=4→le 4 (ofLE l)=l:=λl hl=>by have:=aAx l;rwa [hl]at this
 simp only[Hd.bytes,Hd.read]
 rw[q _ (by simp;omega),q _ (by simp;omega),q _ (by simp;omega),q _ (by simp;omega)]
 have e:∀(a c:Nat) (l:List UInt8),(l.drop a).take c++l.drop (a+c)=l.drop a:=λa c l=>by
  rw[←List.drop_drop,List.take_append_drop]
 have e76:(b.drop 76).take 4=b.drop 76:=List.take_of_length_le (by simp;omega)
 rw[e76,e 72 4 b,e 68 4 b,e 36 32 b,e 4 32 b,List.take_append_drop]
theorem aJn(n:Int)(m:Nat)(hn:n=m){bs:List UInt8}(h:m≤bs.length):tk n (some bs)=(bs.take m,some (bs.drop m)):=by subst hn;exact aP6 h
theorem ai5{B b:Nat}{bs:List UInt8}{w:World}(h:RdI B b (some bs) w)(hl:bs.length≤1000000)(h4:4≤bs.length):
  Calls Tryz.prog 99 #[.pointer (some ⟨b,0,none⟩)] w λe w'=>e = .returned (.int .u32 (ofLE (bs.take 4):Nat))∧RdI B b (some (bs.drop 4)) w'∧Fr (λk=>k=b) w w':=by
 have H:=Lib.hid (h.get 4 rfl (by simpa only[lft,Option.getD_some]using hl))
 rw[aJn 4 4 rfl h4]at H
 have hx1:ofLE (bs.take 4)<4294967296:=by have:=adv (bs.take 4);rw[List.length_take,Nat.min_eq_left h4]at this;exact this
 generalize ofLE (bs.take 4)=x at *
 have hxm:(x:Int) % 4294967296=(x:Int):=by omega
 clear h hl h4 hx1
 go_enter Tryz.func99,Tryz.ntmps99
 go_wp2_with fail
 (with_reducible refine H.out.mono ?_);rintro e w1 ⟨rfl,R,f⟩
 clear H
 replace R:=Lib.hid R
 go_wp2
 go_ret
 exact⟨rfl,R.out,f⟩
theorem aok{w:World}{g c:Nat}{a:Addr}{Z:Array Value}{l:List UInt8}{ty:TypeId}(hg:w.heap[g]? = some (.cells Z 24 (0,0)))(hz:Z.size=32)(hl:l.length=32)(hb:Bs w (some a) c l):
  (Builtin.copy_ #[22,22] ty #[.slice (some ⟨g,0,none⟩) 32 32,.slice (some a) 32 c]).run Tryz.prog w = .ok (.int .i64 32) (w.setRow g (l.map B8).toArray):=by
 have key:=run_copy_row (P:=Tryz.prog) w 22 22 ty 5 g 0 32 32 a 32 c Z 24 (l.map B8) Tryz.underlying22 (by kernel_rfl) hg (by simp[hl]) (λj v hj=>by
   obtain⟨b',o',e,hc⟩:=hb.cell j v hj
   cases e
   rw[Addr.add_lit]
   exact hc) (by simp[hl,hz]) zz38
 rw[key]
 have e:(Z.toList.take 0++l.map B8++Z.toList.drop (0+(l.map B8).length)).toArray=(l.map B8).toArray:=by
  rw[List.take_zero,List.nil_append,List.drop_eq_nil_of_le (by simp[hz,hl]),List.append_nil]
 rw[e]
 simp[goInt,hl]
theorem ap2{B b:Nat}{bs:List UInt8}{w:World}(h:RdI B b (some bs) w)(hB:B≤w.heap.size)(hl:bs.length≤1000000)(h32:32≤bs.length):
  Calls Tryz.prog 100 #[.pointer (some ⟨b,0,none⟩)] w λe w'=>e = .returned (.agg ((bs.take 32).map B8).toArray)∧RdI B b (some (bs.drop 32)) w'∧Fr (λk=>k=b) w w':=by
 have R:=h
 replace hB:=Lib.hid hB
 have hL:=Lib.hid (show lft (some bs)≤1000000 by simpa only[lft,Option.getD_some]using hl)
 have hT:=Lib.hid (aJn 32 32 rfl h32)
 have hA:=Lib.hid (show(bs.take 32).length=32 by rw[List.length_take,Nat.min_eq_left h32])
 have hbw:=Lib.hid (show b<w.heap.size by obtain⟨a,hr,_⟩:=h;exact hr.lt)
 have szA:((bs.take 32).map B8).toArray.size=32:=by rw[List.size_toArray,List.length_map,hA.out]
 have onA:jh ((bs.take 32).map B8).toArray:=abd _
 clear h hl h32
 generalize bs.take 32=L at *
 go_enter Tryz.func100,Tryz.ntmps100
 go_upto_region 1 with fail
 refine lu λW1 N1=>?_
 have r2:=N1.new
 have F:=N1.fr
 replace R:=R.fr0 N1.fr
 obtain⟨g2,hg2⟩:∃g,g=w.heap.size:=⟨_,rfl⟩
 rw[←hg2]at r2 ⊢
 replace hg2:=Lib.hid hg2
 clear N1
 go_upto_region 2 with fail
 refine lu λW2 N2=>?_
 have r3:=N2.new
 have ne:=N2.ne r2
 replace r2:=N2.old r2
 have hs1:=Lib.hid F.size
 replace F:=F.trans' N2.fr
 replace R:=R.fr0 N2.fr
 obtain⟨g3,hg3⟩:∃g,g=W1.heap.size:=⟨_,rfl⟩
 rw[←hg3]at r3 ne ⊢
 replace hg3:=Lib.hid hg3
 clear N2
 have hZ:(#[.int .u8 0,.int .u8 0,.int .u8 0,.int .u8 0,.int .u8 0,.int .u8 0,.int .u8 0,.int .u8 0,.int .u8 0,.int .u8 0,.int .u8 0,.int .u8 0,.int .u8 0,.int .u8 0,.int .u8 0,.int .u8 0,
  .int .u8 0,.int .u8 0,.int .u8 0,.int .u8 0,.int .u8 0,.int .u8 0,.int .u8 0,.int .u8 0,.int .u8 0,.int .u8 0,.int .u8 0,.int .u8 0,.int .u8 0,.int .u8 0,.int .u8 0,.int .u8 0]:Array Value).size=32:=rfl
 generalize (#[.int .u8 0,.int .u8 0,.int .u8 0,.int .u8 0,.int .u8 0,.int .u8 0,.int .u8 0,.int .u8 0,.int .u8 0,.int .u8 0,.int .u8 0,.int .u8 0,.int .u8 0,.int .u8 0,.int .u8 0,.int .u8 0,
  .int .u8 0,.int .u8 0,.int .u8 0,.int .u8 0,.int .u8 0,.int .u8 0,.int .u8 0,.int .u8 0,.int .u8 0,.int .u8 0,.int .u8 0,.int .u8 0,.int .u8 0,.int .u8 0,.int .u8 0,.int .u8 0]:Array Value)=Z at *
 have hb2:=Lib.hid (show g2≠b by have h1:=hg2.out;have h2:=hbw.out;omega)
 have hb3:=Lib.hid (show g3≠b by have h1:=hg3.out;have h2:=hbw.out;have h3:=hs1.out;omega)
 have H:=Lib.hid ((R.fr0 ((Fr.refl F0 W2).drew)).raw 32 hL.out)
 rw[hT.out]at H
 clear R
 refine jm (S:=(λw'=>True)) ?_ λak=>?_
 ·exact ark
 refine aj 0 ?_
 refine aj 1 ?_
 refine jf 2 λK hK=>?_
 go_simp
 ((with_reducible refine H.out.mono ?_);rintro e w6 ⟨a6,c6,rfl,hb6,R,f,k6⟩;clear k6;try simp only at hb6;rw[hA.out];obtain⟨b6,o6,rfl,hz⟩:=hb6.at 0 (by rw[hA.out];omega);clear hz;replace r2:=f.keeps hb2.out (ku r2);replace r3:=f.keeps hb3.out (ku r3);have hc:=aok (ty:=3) r3 hZ hA.out hb6;replace hb6:=Lib.hid hb6;replace R:=Lib.hid R)
 refine rpu hK ark λak=>?_
 clear hK K
 refine jf 3 λK hK=>?_
 go_simp
 refine rpu hK ark λak=>?_
 clear hK K
 refine jg ?_
 clear H hc
 have HF:=Lib.hid f
 clear f
 have q2:=Lib.hid (show w.heap.size≤g2 by have h1:=hg2.out;omega)
 have q3:=Lib.hid (show w.heap.size≤g3 by have h1:=hg3.out;have h3:=hs1.out;omega)
 go_wp2
 have f3:Fr (λk=>k=g2∨k=g3) w6 ((w6.setRow g3 (L.map B8).toArray).setRow g2 (L.map B8).toArray):=((Fr.refl _ w6).setRow (λ_=>Or.inr rfl) _).setRow (λ_=>Or.inl rfl) _
 refine bodyPost_ret (results_cell_row rfl _ _ g2 _ _ _ _ rfl (by rw[jc,iy _ _ _ _ ne,r2];rfl) Tryz.underlying24 rfl (by rw[Tryz.szHash,szA])) rfl ⟨rfl,R.out.fr f3 (λk e=>by have h2:=q2.out;have h3:=q3.out;have h4:=hB.out;rcases e with e|e<;>omega),?_⟩
 exact(((F.drew.mono λ_ _ e=>e.elim).trans HF.out λk _ e=>e).setRow (λe=>by have h3:=q3.out;omega) _).setRow (λe=>by have h3:=q2.out;omega) _
theorem aC2(bs:List UInt8)(a:Option Addr)(n c:Nat)(w:World)(hn:¬n=80):Calls Tryz.prog 55 #[.slice a n c] w λe w'=>e = .returned (.tuple #[.agg aai.cells,.int .i64 2])∧Fr F0 w w':=by
 have l1:((n:Int)==80)=false:=beq_false_of_ne aPl
 have l2:((n:Int) != 80)=true:=bne_iff_ne.2 aPl
 have l3:¬(n:Int)=80:=by omega
 have hzb:∀w,(aga #[]).run Tryz.prog w = .ok (.agg aai.cells) w:=λw=>ad1 w #[] _ (by kernel_rfl)
 have zz:Tryz.zeroCells47.size=68:=by kernel_rfl
 have s0:aai.cells.size=68:=rfl
 have o0:jh aai.cells:=Hd.one
 generalize Tryz.zeroCells47=Z at *
 generalize aai.cells=C at *
 clear hn
 go_enter Tryz.func55,Tryz.ntmps55
 go_upto_region 1 with fail
 refine lu λW1 N1=>?_
 have r2:=N1.new
 have F:=N1.fr
 obtain⟨g2,hg2⟩:∃g,g=w.heap.size:=⟨_,rfl⟩
 rw[←hg2]at r2 ⊢
 replace hg2:=Lib.hid hg2
 clear N1
 go_wp2
 refine bodyPost_ret (cu rfl _ _ g2 _ _ _ _ rfl zz64 Tryz.underlying47 rfl (by rw[Tryz.szHeader,s0])) rfl ⟨rfl,?_⟩
 exact F.setRow (λh=>by have:=hg2.out;omega) _
theorem ax7(bs:List UInt8)(a:Option Addr)(c:Nat)(w:World)(hb:Bs w a c bs)(h80:bs.length=80):Calls Tryz.prog 55 #[.slice a 80 c] w λe w'=>e = .returned (.tuple #[.agg (Hd.read bs).cells,.int .i64 0])∧Fr F0 w w':=by
 have HB:=Lib.hid hb
 have H80:=Lib.hid h80
 have zz:Tryz.zeroCells47=aai.cells:=by kernel_rfl
 have hA:=Lib.hid (show((bs.drop 4).take 32).length=32 by simp;omega)
 have hR:=Lib.hid (show((bs.drop 36).take 32).length=32 by simp;omega)
 have hld:∀k,(bs.drop k).length≤1000000:=λk=>by simp;omega
 replace hld:=Lib.hid hld
 have hge:∀k n,k+n≤80→n≤(bs.drop k).length:=λk n h=>by simp;omega
 replace hge:=Lib.hid hge
 clear hb h80
 go_enter Tryz.func55,Tryz.ntmps55
 go_wp2_with fail
 refine ru λW1 N1=>?_
 have r2:=N1.new
 have F:=N1.fr
 obtain⟨g2,hg2⟩:∃g,g=w.heap.size:=⟨_,rfl⟩
 rw[←hg2]at r2 ⊢
 replace hg2:=Lib.hid hg2
 clear N1
 have z2:=Lib.hid (Array.getElem?_eq_some_iff.1 r2).1
 have HRd:=Lib.hid (aoh a 80 c bs W1 (Sl.fr HB.out F λ_ _ f=>f) H80.out.symm (by have:=H80.out;omega))
 refine HRd.out.mono ?_
 intro e w3 h3
 obtain⟨b,rfl,R,f,hbW⟩:=RdI.of h3
 clear h3 HRd
 have hb2:g2≠b:=by have:=z2.out;omega
 replace r2:=au f r2
 have hbw:w.heap.size≤b:=Nat.le_trans F.size hbW
 replace F:=F.trans' f
 go_upto_region 5 with fail
 refine lu λW5 N5=>?_
 have r5:=N5.new
 have ne5:=N5.ne r2
 have hB5:=Lib.hid (show w3.heap.size≤w3.heap.size from Nat.le_refl _)
 have hb5:b<w3.heap.size:=by obtain⟨_,_,h,_⟩:=R;exact h
 replace r2:=N5.old r2
 replace F:=F.trans' N5.fr
 replace R:=R.fr0 N5.fr
 clear N5
 obtain⟨g5,hg5⟩:∃g,g=w3.heap.size:=⟨_,rfl⟩
 rw[←hg5]at r5 ne5 R hb5 ⊢
 have hgw:=Lib.hid (show w.heap.size≤g5 by have h1:=hbw;omega)
 have hne:=Lib.hid (show g5≠b by omega)
 replace hb2:=Lib.hid hb2
 replace ne5:=Lib.hid ne5
 replace hbw:=Lib.hid hbw
 clear hg5 hB5 hb5
 have L0:aai.L:=⟨rfl,rfl⟩
 obtain⟨h0,hh0⟩:∃h0,h0=aai:=⟨_,rfl⟩
 rw[←hh0]at r5
 rw[←hh0]at L0
 replace hh0:=Lib.hid hh0
 have s5:=Hd.awl L0
 have R0:RdI g5 b (some (bs.drop 0)) W5:=R
 clear R
 have R:=R0
 clear R0
 have H:=Lib.hid (ai5 R (hld.out _) (hge.out _ _ aPl))
 go_wp2_with fail
 (with_reducible refine H.out.mono ?_);rintro e w6 ⟨rfl,R',f⟩
 clear R
 have R:=R'
 clear R'
 replace r2:=f.keeps hb2.out r2
 replace r5:=f.keeps hne.out r5
 replace F:=F.trans f λi hi e=>by have h1:=hbw.out;omega
 clear f H
 rw[List.drop_drop]at R
 simp only[Nat.reduceAdd]at R
 obtain⟨x,ex⟩:∃x,x=ofLE ((bs.drop 0).take 4):=⟨_,rfl⟩
 rw[←ex]
 replace ex:=Lib.hid ex
 go_wp2_with fail
 refine aaw r5 λW1 r5' f=>?_
 rw[Hd.set0]at r5'
 clear r5
 obtain⟨h1,hh1⟩:∃h:Hd,h = { h0 with ver:=x }:=⟨_,rfl⟩
 rw[←hh1]at r5'
 have L1:h1.L:=by rw[hh1];exact L0
 clear s5
 have s5:=Hd.awl L1
 have r5:=r5'
 clear r5'
 replace hh1:=Lib.hid hh1
 replace R:=R.fr f λk e=>Nat.le_of_eq e.symm
 replace r2:=f.keeps ne5.out r2
 replace F:=F.trans f λi hi e=>by have h1:=hgw.out;omega
 clear f
 have H:=Lib.hid (ap2 R (Nat.le_of_lt (Array.getElem?_eq_some_iff.1 r5).1) (hld.out _) (hge.out _ _ aPl))
 (with_reducible refine H.out.mono ?_);rintro e w6 ⟨rfl,R',f⟩
 clear R
 have R:=R'
 clear R'
 replace r2:=f.keeps hb2.out r2
 replace r5:=f.keeps hne.out r5
 replace F:=F.trans f λi hi e=>by have h1:=hbw.out;omega
 clear f H
 rw[List.drop_drop]at R
 simp only[Nat.reduceAdd]at R
 have szA:(((bs.drop 4).take 32).map B8).toArray.size=32:=by simp only[List.size_toArray,List.length_map];exact hA.out
 have onA:jh (((bs.drop 4).take 32).map B8).toArray:=abd _
 generalize eA:(bs.drop 4).take 32=A at *
 replace eA:=Lib.hid eA
 go_wp2_with fail
 clear szA onA
 refine aj8 r5 λW1 r5' f=>?_
 rw[Hd.put1 L1 A hA.out]at r5'
 clear r5
 obtain⟨h2,hh2⟩:∃h:Hd,h = { h1 with ahead:=A }:=⟨_,rfl⟩
 rw[←hh2]at r5'
 have L2:h2.L:=by rw[hh2];exact⟨hA.out,L1.2⟩
 clear s5
 have s5:=Hd.awl L2
 have r5:=r5'
 clear r5'
 replace hh2:=Lib.hid hh2
 replace R:=R.fr f λk e=>Nat.le_of_eq e.symm
 replace r2:=f.keeps ne5.out r2
 replace F:=F.trans f λi hi e=>by have h1:=hgw.out;omega
 clear f
 have H:=Lib.hid (ap2 R (Nat.le_of_lt (Array.getElem?_eq_some_iff.1 r5).1) (hld.out _) (hge.out _ _ aPl))
 (with_reducible refine H.out.mono ?_);rintro e w6 ⟨rfl,R',f⟩
 clear R
 have R:=R'
 clear R'
 replace r2:=f.keeps hb2.out r2
 replace r5:=f.keeps hne.out r5
 replace F:=F.trans f λi hi e=>by have h1:=hbw.out;omega
 clear f H
 rw[List.drop_drop]at R
 simp only[Nat.reduceAdd]at R
 have szA:(((bs.drop 36).take 32).map B8).toArray.size=32:=by simp only[List.size_toArray,List.length_map];exact hR.out
 have onA:jh (((bs.drop 36).take 32).map B8).toArray:=abd _
 generalize eR0:(bs.drop 36).take 32=R0 at *
 replace eR0:=Lib.hid eR0
 go_wp2_with fail
 clear szA onA
 refine aj8 r5 λW1 r5' f=>?_
 rw[Hd.aP9 L2 R0 hR.out]at r5'
 clear r5
 obtain⟨h3,hh3⟩:∃h:Hd,h = { h2 with root:=R0 }:=⟨_,rfl⟩
 rw[←hh3]at r5'
 have L3:h3.L:=by rw[hh3];exact⟨L2.1,hR.out⟩
 clear s5
 have s5:=Hd.awl L3
 have r5:=r5'
 clear r5'
 replace hh3:=Lib.hid hh3
 replace R:=R.fr f λk e=>Nat.le_of_eq e.symm
 replace r2:=f.keeps ne5.out r2
 replace F:=F.trans f λi hi e=>by have h1:=hgw.out;omega
 clear f
 have H:=Lib.hid (ai5 R (hld.out _) (hge.out _ _ aPl))
 (with_reducible refine H.out.mono ?_);rintro e w6 ⟨rfl,R',f⟩
 clear R
 have R:=R'
 clear R'
 replace r2:=f.keeps hb2.out r2
 replace r5:=f.keeps hne.out r5
 replace F:=F.trans f λi hi e=>by have h1:=hbw.out;omega
 clear f H
 rw[List.drop_drop]at R
 simp only[Nat.reduceAdd]at R
 obtain⟨t,et⟩:∃x,x=ofLE ((bs.drop 68).take 4):=⟨_,rfl⟩
 rw[←et]
 replace et:=Lib.hid et
 go_wp2_with fail
 refine aaw r5 λW1 r5' f=>?_
 rw[Hd.set65 L3]at r5'
 clear r5
 obtain⟨h4,hh4⟩:∃h:Hd,h = { h3 with time:=t }:=⟨_,rfl⟩
 rw[←hh4]at r5'
 have L4:h4.L:=by rw[hh4];exact L3
 clear s5
 have s5:=Hd.awl L4
 have r5:=r5'
 clear r5'
 replace hh4:=Lib.hid hh4
 replace R:=R.fr f λk e=>Nat.le_of_eq e.symm
 replace r2:=f.keeps ne5.out r2
 replace F:=F.trans f λi hi e=>by have h1:=hgw.out;omega
 clear f
 have H:=Lib.hid (ai5 R (hld.out _) (hge.out _ _ aPl))
 (with_reducible refine H.out.mono ?_);rintro e w6 ⟨rfl,R',f⟩
 clear R
 have R:=R'
 clear R'
 replace r2:=f.keeps hb2.out r2
 replace r5:=f.keeps hne.out r5
 replace F:=F.trans f λi hi e=>by have h1:=hbw.out;omega
 clear f H
 rw[List.drop_drop]at R
 simp only[Nat.reduceAdd]at R
 obtain⟨u,eu⟩:∃x,x=ofLE ((bs.drop 72).take 4):=⟨_,rfl⟩
 rw[←eu]
 replace eu:=Lib.hid eu
 go_wp2_with fail
 refine aaw r5 λW1 r5' f=>?_
 rw[Hd.set66 L4]at r5'
 clear r5
 obtain⟨h5,hh5⟩:∃h:Hd,h = { h4 with bits:=u }:=⟨_,rfl⟩
 rw[←hh5]at r5'
 have L5:h5.L:=by rw[hh5];exact L4
 clear s5
 have s5:=Hd.awl L5
 have r5:=r5'
 clear r5'
 replace hh5:=Lib.hid hh5
 replace R:=R.fr f λk e=>Nat.le_of_eq e.symm
 replace r2:=f.keeps ne5.out r2
 replace F:=F.trans f λi hi e=>by have h1:=hgw.out;omega
 clear f
 have H:=Lib.hid (ai5 R (hld.out _) (hge.out _ _ aPl))
 (with_reducible refine H.out.mono ?_);rintro e w6 ⟨rfl,R',f⟩
 clear R
 have R:=R'
 clear R'
 replace r2:=f.keeps hb2.out r2
 replace r5:=f.keeps hne.out r5
 replace F:=F.trans f λi hi e=>by have h1:=hbw.out;omega
 clear f H
 rw[List.drop_drop]at R
 simp only[Nat.reduceAdd]at R
 obtain⟨v,ev⟩:∃x,x=ofLE ((bs.drop 76).take 4):=⟨_,rfl⟩
 rw[←ev]
 replace ev:=Lib.hid ev
 have hfin:({ h5 with zq:=v }:Hd)=Hd.read bs:=by
  rw[hh5.out,hh4.out,hh3.out,hh2.out,hh1.out,hh0.out,←eA.out,←eR0.out,ex.out,et.out,eu.out,ev.out]
  rfl
 have hset:=Hd.set67 L5 v
 rw[hfin]at hset
 have sF:=Hd.qw (Hd.aAi H80.out)
 have oF:jh (Hd.read bs).cells:=Hd.one
 have n1:=ne5.out
 have n2:g5≠g2:=λe=>n1 e.symm
 have s2:aai.cells.size=68:=rfl
 have r3:(w6.setCell ⟨g5,67,none⟩ (.int .u32 (v:Int))).heap[g2]? = some (.cells aai.cells 47 (0,0)):=by rw[dn _ _ _ _ _ n1];exact r2
 clear hfin
 go_wp2
 refine bodyPost_ret (cu rfl _ _ g2 _ _ _ _ rfl (by rw[jc,r3];rfl) Tryz.underlying47 rfl (by rw[Tryz.szHeader,sF])) rfl ⟨rfl,?_⟩
 exact(F.setCell (p:=⟨g5,67,none⟩) (λh=>by have h1:=hgw.out;exact absurd h (by simp only;omega)) _).setRow (λh=>by have:=hg2.out;omega) _
theorem aMt:aNy:=λbs a c w hb hl=>⟨λh=>(ax7 bs a c w hb h).mono λe w' ⟨he,f⟩=>⟨Hd.read bs,Hd.aAi h,Hd.axg h,he,f⟩,λh=>aC2 bs a bs.length c w h⟩
end Go.Proofs.YtjlelckefiannaaGreatDoor
