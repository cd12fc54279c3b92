import Derived.Test.YtjlelckefiannaaGreatDoorZ3
import Derived.Test.YtjlelckefiannaaGreatDoorZ5
import Derived.Lib.AppendZeros
set_option maxRecDepth 100000
set_option maxHeartbeats 64000000
namespace Go.Proofs.YtjlelckefiannaaGreatDoor
set_option linter.unusedVariables false
set_option linter.unusedSimpArgs false
open Go.RowKit
theorem ae9(z:Value)(n:Nat)(h:z.cells.size=1):(Builtin.zeroCells z.cells n).size=n:=by rw[size_zeroCells,h,Nat.mul_one]
theorem axa(n:Nat)(w:World)(hn:n≤1000000):
  Calls Tryz.prog 148 #[.slice none 0 0,.int .i64 (n:Int)] w λe w'=>∃a c,e = .returned (.slice a 0 c)∧OwnB w' (.slice a 0 c) []∧Fr F0 w w'∧∀k,ql a=some k→w.heap.size≤k:=by
 by_cases h0:n=0
 ·subst h0
  go_enter Tryz.func148,Tryz.ntmps148
  go_wp2
  go_ret
  exact⟨none,0,rfl,OwnB.nil _,Fr.refl _ _,λk h=>by cases h⟩
 ·obtain⟨i0,hi,hz0,hz1,hz2⟩:=info_parts Tryz.infoU8
  have hrz:∀ty,(Builtin.append_ #[22,3] ty #[.slice none 0 0,.int .i64 (n:Int)]).run Tryz.prog w =
    .ok (.slice (some ⟨w.heap.size,0,none⟩) n (grownCap w n 0 5)) (w.drew.alloc (.cells (Builtin.zeroCells (Value.int .u8 0).cells n++Builtin.zeroCells (Value.int .u8 0).cells (grownCap w n 0 5-n)) 5)):=λty =>
   Lib.run_append_nil_zeros w 22 3 ty 5 i0 (.int .u8 0) .i64 .i64 Tryz.underlying22 Tryz.underlying3 hi hz0 n aPl aPl aPl (by rw[hz2];omega)
  have hG:n≤grownCap w n 0 5:=grownCap_ge w _ _ _
  have hM:grownCap w n 0 5≤maxLen:=grownCap_le_maxLen w _ _ _ aPn
  generalize grownCap w n 0 5=G at *
  have hsz:(Builtin.zeroCells (Value.int .u8 0).cells n++Builtin.zeroCells (Value.int .u8 0).cells (G-n)).size=G:=by
   rw[Array.size_append,ae9 _ _ rfl,ae9 _ _ rfl];omega
  have hown:=World.ownsRow_made (e:=5) (size:=1) (base:=0) w.drew (Builtin.zeroCells (Value.int .u8 0).cells n++Builtin.zeroCells (Value.int .u8 0).cells (G-n)) G (Nat.zero_le _) hM (by rw[hsz,Nat.mul_one])
  have hf:=(Fr.refl F0 w).drew.alloc (.cells (Builtin.zeroCells (Value.int .u8 0).cells n++Builtin.zeroCells (Value.int .u8 0).cells (G-n)) 5)
  generalize Builtin.zeroCells (Value.int .u8 0).cells n++Builtin.zeroCells (Value.int .u8 0).cells (G-n)=Z at *
  have l1:¬((n:Int)<0):=by omega
  have l2:((n:Int)>0):=by omega
  have l3:IntKind.i64.wrap ((n:Int)-(IntKind.i64.wrap 0))=(n:Int):=by rw[IntKind.wrap_i64,IntKind.wrap_i64];omega
  have l4:IntKind.i64.wrap (n:Int)=(n:Int):=by rw[IntKind.wrap_i64];omega
  clear hi hz0 hz1 hz2 hsz
  replace hown:=Lib.hid hown
  replace hf:=Lib.hid hf
  go_enter Tryz.func148,Tryz.ntmps148
  go_wp2_with (at_builtin;refine Lib.wpList_append_run _ rfl _ _ _ _ rfl _ _ rfl rfl _ _ (hrz _) ?_)
  go_ret
  exact⟨_,_,rfl,hown.out,hf.out,λk h=>by cases h;exact Nat.le_refl _⟩
abbrev Pt:=Option Addr×Nat×List UInt8
def pt(ps:List Pt)(k:Nat):Pt:=ps.getD k (none,0,[])
def cat(ps:List Pt):List UInt8:=(ps.map (·.2.2)).flatten
theorem avz{ps:List Pt}{k:Nat}(h:k<ps.length):cat (ps.take (k+1))=cat (ps.take k)++(pt ps k).2.2:=by
 rw[cat,cat,List.take_add_one,List.getElem?_eq_getElem h,List.map_append,List.flatten_append]
 simp only[pt,List.getD,List.getElem?_eq_getElem h,Option.toList_some,List.map_cons,List.map_nil,List.flatten_cons,List.flatten_nil,List.append_nil,Option.getD_some]
theorem ak1(ps:List Pt)(k:Nat):(cat (ps.take k)).length≤(cat ps).length:=by
 conv=>rhs;rw[←List.take_append_drop k ps]
 rw[cat,cat,List.map_append,List.flatten_append,List.length_append]
 omega
structure Pts (w:World) (a:Option Addr) (ps:List Pt):Prop where
 cell:∀k,k<ps.length→∃b off,a=some ⟨b,off,none⟩∧w.cell? ⟨b,off+k,none⟩=some (.slice (pt ps k).1 (pt ps k).2.2.length (pt ps k).2.1)
 each:∀k,k<ps.length→Bs w (pt ps k).1 (pt ps k).2.1 (pt ps k).2.2
theorem Pts.fr{w w':World}{a:Option Addr}{ps:List Pt}(h:Pts w a ps)(f:Fr F0 w w'):Pts w' a ps:=by
 refine⟨λk hk=>?_,λk hk=>Bs.fr7 (h.each k hk) f⟩
 obtain⟨b,off,e,hc⟩:=h.cell k hk
 exact⟨b,off,e,f.cell (λf=>f) hc⟩
theorem acr(ps:List Pt)(a:Option Addr)(n c:Nat)(hn:n=ps.length)(hl:n≤1000000)(w:World)(h:Pts w a ps)(hs:(cat ps).length≤1000000):
  Calls Tryz.prog 94 #[.slice a n c] w (ou (cat ps) w):=by
 have HN:=Lib.hid hn
 have HP:=Lib.hid h
 have HS:=Lib.hid hs
 clear hn h hs
 go_enter Tryz.func94,Tryz.ntmps94
 go_wp2_with fail
 go_loopw [3,11] (λsv iv wr=>wr=w∧∃k:Nat,k≤n∧iv = .int .i64 (k:Int)∧sv = .int .i64 ((cat (ps.take k)).length:Int)) (λ_ iv _=>n-(intOf iv).toNat)
 case atStart=>exact⟨rfl,0,by omega,rfl,rfl⟩
 case round =>
  obtain⟨hw,k,hk,rfl,rfl⟩:=hrel
  replace hw:=hw.symm
  subst hw
  by_cases h1:k<n
  ·have l1:(k:Int)<(n:Int):=by omega
   have hkl:k<ps.length:=by rw[←HN.out];exact h1
   obtain⟨b,off,ea,hc⟩:=HP.out.cell k hkl
   subst ea
   have e:=Lib.hid (avz hkl)
   have hle:=ak1 ps (k+1)
   rw[e.out,List.length_append]at hle
   have hle2:=Nat.le_trans hle HS.out
   generalize hp:pt ps k=p at *
   obtain⟨pa,pc,pb⟩:=p
   dsimp only at hc hle hle2 e
   generalize hX:(cat (ps.take k)).length=X at *
   generalize hY:pb.length=Y at *
   have l2:IntKind.i64.wrap ((X:Int)+(Y:Int))=((X+Y:Nat):Int):=by rw[IntKind.wrap_i64];omega
   have l3:¬(((X+Y:Nat):Int)<0):=by omega
   have HXY:=Lib.hid (show(cat (ps.take (k+1))).length=X+Y by rw[e.out,List.length_append,hX,hY])
   clear hkl hle hle2 hp e hX hY
   go_wp2_with fail
   go_roundw
   case rel=>exact⟨trivial,k+1,h1,by go_num,by rw[HXY.out,Int.natCast_add]⟩
   case measure=>simp[intOf];omega
  ·have l1:¬(k:Int)<(n:Int):=by omega
   obtain rfl:k=n:=by omega
   have e:ps.take k=ps:=by rw[HN.out,List.take_length]
   rw[e]
   have HG:=Lib.hid (λw=>axa (cat ps).length w HS.out)
   generalize hX:(cat ps).length=X at *
   clear e
   go_wp2_with fail
   (with_reducible refine(HG.out _).mono ?_);rintro e w1 ⟨a1,c1,rfl,ho,hf,hb⟩
   replace hb:=Lib.hid hb
   clear HG
   go_wp2_with fail
   go_loopw [6,27] (λsv iv wr=>∃(j:Nat) (a':Option Addr) (m' c':Nat),j≤k∧iv = .int .i64 (j:Int)∧sv = .slice a' m' c'∧OwnB wr (.slice a' m' c') (cat (ps.take j))∧Fr F0 w wr∧Hid (∀i,ql a'=some i→w.heap.size≤i)) (λ_ iv _=>k-(intOf iv).toNat)
   case atStart=>exact⟨0,a1,0,c1,by omega,rfl,rfl,ho,hf,hb⟩
   case round =>
    clear ho hf hb
    obtain⟨j,a2,m2,c2,hj,rfl,rfl,ho,hf,hb⟩:=hrel
    by_cases h2:j<k
    ·have l2:(j:Int)<(k:Int):=by omega
     have hkl:j<ps.length:=by rw[←HN.out];exact h2
     have HPr:=HP.out.fr hf
     obtain⟨b,off,ea,hc⟩:=HPr.cell j hkl
     subst ea
     have hB:=HPr.each j hkl
     have e:=Lib.hid (avz hkl)
     have hle:=ak1 ps (j+1)
     rw[e.out,List.length_append,hX]at hle
     replace hle:=Lib.hid (Nat.le_trans hle HS.out)
     clear HPr
     generalize hp:pt ps j=p at *
     obtain⟨pa,pc,pb⟩:=p
     dsimp only at hc hle e hB
     obtain rfl:=ho.bs.1
     clear hkl hp
     generalize hL:cat (ps.take j)=L at *
     go_wp2_with (at_builtin;refine xk rfl _ _ rfl _ L rfl ho _ _ _ pb rfl hB rfl (by have:=hle.out;omega) ?_;intro a3 c3 w3 ho3 hg3 hb3)
     have hf3:=aGq hf hb.out hg3
     have hbb:=aAr hf hb.out hb3
     rw[←e.out]at ho3
     go_roundw
     case rel=>exact⟨j+1,_,_,_,h2,by go_num,rfl,ho3,hf3,hbb⟩
     case measure=>simp[intOf];omega
    ·have l2:¬(j:Int)<(k:Int):=by omega
     obtain rfl:j=k:=by omega
     have e:ps.take j=ps:=by rw[HN.out,List.take_length]
     rw[e]at ho
     have hm:=ho.bs.1
     subst hm
     have hb':=Lib.hid hb
     go_wp2_with fail
     go_ret
     exact⟨a2,c2,by rw[hX];rfl,ho.bs.2,hf,λi hi=>⟨hb.out i hi,ho.lt i aPo⟩⟩
theorem aBw(l m:List UInt8):((strOf l).toList==(strOf m).toList)=decide (l=m):=by rw[←beq_toListBytes,aBx]
theorem ah9(l k:List UInt8)(a b:Option Addr)(n m c d:Nat)(w:World)(h1:Bs w a c l)(h2:Bs w b d k)(hn:n=l.length)(hm:m=k.length):
  Calls Tryz.prog 133 #[.slice a n c,.slice b m d] w λe w'=>e = .returned (.bool (decide (l=k)))∧w'=w:=by
 have s1:=ahw h1 hn
 have s2:=ahw h2 hm
 have e:=aBw l k
 generalize decide (l=k)=z at *
 clear h1 h2 hn hm
 go_enter Tryz.func133,Tryz.ntmps133
 go_wp2
 go_ret
 first|exact⟨rfl,rfl⟩|exact⟨by simp[e],rfl⟩
theorem alm(l k:List UInt8)(a b:Option Addr)(n m c d:Nat)(w:World)(h1:Bs w a c l)(h2:Bs w b d k)(hn:n=l.length)(hm:m=k.length):
  Calls Tryz.prog 200 #[.slice a n c,.slice b m d] w λe w'=>e = .returned (.bool (decide (m≤n∧l.take m=k)))∧w'=w:=by
 have hr:=h1.room
 rw[←hn]at hr
 by_cases hl:m≤n
 ·have H:=Lib.hid (ah9 (l.take m) k a b m m c d w (h1.take m) h2 (by rw[List.length_take];omega) hm)
  have e:decide (m≤n∧l.take m=k)=decide (l.take m=k):=by simp[hl]
  rw[e]
  have l1:¬((n:Int)<(m:Int)):=by omega
  have l2:(m:Int)≤(n:Int):=by omega
  generalize decide (l.take m=k)=z at *
  have l3:(m:Int)≤(c:Int):=by omega
  clear h1 h2 hn hm hr e hl
  go_enter Tryz.func200,Tryz.ntmps200
  go_wp2_with fail
  (with_reducible refine H.out.mono ?_);rintro e w1 ⟨rfl,rfl⟩
  go_wp2_with fail
  go_ret
  exact⟨rfl,rfl⟩
 ·have e:decide (m≤n∧l.take m=k)=false:=decide_eq_false λh=>hl h.1
  rw[e]
  have l2:¬(m:Int)≤(n:Int):=by omega
  clear h1 h2 hn hm hr e hl
  go_enter Tryz.func200,Tryz.ntmps200
  go_wp2
  go_ret
  exact⟨rfl,rfl⟩
theorem alk(l k:List UInt8)(a b:Option Addr)(n m c d:Nat)(w:World)(h1:Bs w a c l)(h2:Bs w b d k)(hn:n=l.length)(hm:m=k.length):
  Calls Tryz.prog 201 #[.slice a n c,.slice b m d] w λe w'=>e = .returned (.bool (decide (m≤n∧l.drop (n-m)=k)))∧w'=w:=by
 have hr:=h1.room
 have hx:=h1.most
 unfold maxLen at hx
 rw[←hn]at hr
 by_cases hl:m≤n
 ·have H:=Lib.hid (ah9 (l.drop (n-m)) k (agv a c (n-m) 1) b (n-(n-m)) m (c-(n-m)) d w (h1.drop (n-m) aPl) h2 (by rw[List.length_drop];omega) hm)
  have e:decide (m≤n∧l.drop (n-m)=k)=decide (l.drop (n-m)=k):=by simp[hl]
  rw[e]
  have l2:(m:Int)≤(n:Int):=by omega
  have l4:IntKind.i64.wrap ((n:Int)-(m:Int))=((n-m:Nat):Int):=by rw[IntKind.wrap_i64];omega
  have l5:(0:Int)≤((n-m:Nat):Int):=by omega
  have l6:((n-m:Nat):Int)≤(n:Int):=by omega
  have l7:(((n-m:Nat):Int)).toNat=n-m:=by omega
  generalize decide (l.drop (n-m)=k)=z at *
  generalize n-m=q at *
  clear h1 h2 hn hm hr e hl hx
  go_enter Tryz.func201,Tryz.ntmps201
  go_wp2_with fail
  (with_reducible refine H.out.mono ?_);rintro e w1 ⟨rfl,rfl⟩
  go_wp2_with fail
  go_ret
  exact⟨rfl,rfl⟩
 ·have e:decide (m≤n∧l.drop (n-m)=k)=false:=decide_eq_false λh=>hl h.1
  rw[e]
  have l2:¬(m:Int)≤(n:Int):=by omega
  clear h1 h2 hn hm hr e hl hx
  go_enter Tryz.func201,Tryz.ntmps201
  go_wp2
  go_ret
  exact⟨rfl,rfl⟩
theorem alo(l k:List UInt8)(a b:Option Addr)(n m c d:Nat)(w:World)(h1:Bs w a c l)(h2:Bs w b d k)(hn:n=l.length)(hm:m=k.length):
  Calls Tryz.prog 187 #[.slice a n c,.slice b m d] w λe w'=>w'=w∧(m≤n∧l.take m=k→e = .returned (.tuple #[.slice (agv a c m 1) (n-m) (c-m),.bool true]))∧(¬(m≤n∧l.take m=k)→e = .returned (.tuple #[.slice a n c,.bool false])):=by
 have H:=Lib.hid (alm l k a b n m c d w h1 h2 hn hm)
 have hr:=h1.room
 rw[←hn]at hr
 by_cases hq:m≤n∧l.take m=k
 ·rw[decide_eq_true hq]at H
  have hl:=hq.1
  have l2:(m:Int)≤(n:Int):=by omega
  replace hq:=Lib.hid hq
  clear h1 h2 hn hm hr hl
  go_enter Tryz.func187,Tryz.ntmps187
  go_wp2_with fail
  (with_reducible refine H.out.mono ?_);rintro e w1 ⟨rfl,rfl⟩
  go_wp2_with fail
  go_ret2
  exact⟨rfl,λ_=>rfl,λh=>absurd hq.out h⟩
 ·rw[decide_eq_false hq]at H
  replace hq:=Lib.hid hq
  clear h1 h2 hn hm hr
  go_enter Tryz.func187,Tryz.ntmps187
  go_wp2_with fail
  (with_reducible refine H.out.mono ?_);rintro e w1 ⟨rfl,rfl⟩
  go_wp2_with fail
  go_ret2
  exact⟨rfl,λh=>absurd h hq.out,λ_=>rfl⟩
theorem aln(l k:List UInt8)(a b:Option Addr)(n m c d:Nat)(w:World)(h1:Bs w a c l)(h2:Bs w b d k)(hn:n=l.length)(hm:m=k.length):
  Calls Tryz.prog 188 #[.slice a n c,.slice b m d] w λe w'=>w'=w∧(m≤n∧l.drop (n-m)=k→e = .returned (.tuple #[.slice a (n-m) c,.bool true]))∧(¬(m≤n∧l.drop (n-m)=k)→e = .returned (.tuple #[.slice a n c,.bool false])):=by
 have H:=Lib.hid (alk l k a b n m c d w h1 h2 hn hm)
 have hr:=h1.room
 have hx:=h1.most
 unfold maxLen at hx
 rw[←hn]at hr
 by_cases hq:m≤n∧l.drop (n-m)=k
 ·rw[decide_eq_true hq]at H
  have hl:=hq.1
  have l4:IntKind.i64.wrap ((n:Int)-(m:Int))=((n-m:Nat):Int):=by rw[IntKind.wrap_i64];omega
  have l5:(0:Int)≤((n-m:Nat):Int):=by omega
  have l6:((n-m:Nat):Int)≤(c:Int):=by omega
  have l7:(((n-m:Nat):Int)).toNat=n-m:=by omega
  generalize n-m=q at *
  replace hq:=Lib.hid hq
  clear h1 h2 hn hm hr hl hx
  go_enter Tryz.func188,Tryz.ntmps188
  go_wp2_with fail
  (with_reducible refine H.out.mono ?_);rintro e w1 ⟨rfl,rfl⟩
  go_wp2_with fail
  go_ret2
  exact⟨rfl,λ_=>rfl,λh=>absurd hq.out h⟩
 ·rw[decide_eq_false hq]at H
  replace hq:=Lib.hid hq
  clear h1 h2 hn hm hr hx
  go_enter Tryz.func188,Tryz.ntmps188
  go_wp2_with fail
  (with_reducible refine H.out.mono ?_);rintro e w1 ⟨rfl,rfl⟩
  go_wp2_with fail
  go_ret2
  exact⟨rfl,λh=>absurd h hq.out,λ_=>rfl⟩
end Go.Proofs.YtjlelckefiannaaGreatDoor
