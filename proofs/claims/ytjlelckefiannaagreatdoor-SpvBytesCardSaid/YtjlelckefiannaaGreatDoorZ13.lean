import Derived.Test.YtjlelckefiannaaGreatDoorZ6
import Derived.Test.YtjlelckefiannaaGreatDoorZ10
import Derived.Test.YtjlelckefiannaaGreatDoorZ2
import Derived.Test.YtjlelckefiannaaGreatDoorZ12
import Derived.Great.BuildSlice
import Derived.Laws.IdiomCopy
import Derived.Sort.CutIn
set_option maxRecDepth 100000
set_option maxHeartbeats 64000000
namespace Go.Proofs.YtjlelckefiannaaGreatDoor
set_option linter.unusedVariables false
set_option linter.unusedSimpArgs false
open Go.RowKit
theorem Tryz.szTOut:(Tryz.prog.info? 126).map (·.size)=some 2:=by kernel_rfl
@[go_sem ↓ high] theorem aSq (p:Value):Instr.loadAt 126 p=iq 126 p:=rfl
@[go_sem ↓ high] theorem aO4 (p v:Value):Instr.storeAt 126 p v=ji 126 p v:=rfl
@[go_sem] theorem aIi (w:World) (g:Nat):(iq 126 (.pointer (some ⟨g,0,none⟩))).run Tryz.prog w=aa8 Tryz.prog 126 (.pointer (some ⟨g,0,none⟩)) w 2 w.heap[g]? :=
 qc w _ g 2 _ Tryz.underlying126 rfl Tryz.szTOut
@[go_sem] theorem aEa (w:World) (g:Nat) (cells:Array Value):(ji 126 (.pointer (some ⟨g,0,none⟩)) (.agg cells)).run Tryz.prog w=aeg Tryz.prog 126 (.pointer (some ⟨g,0,none⟩)) cells g w 2 w.heap[g]? :=
 oq w _ g 2 cells Tryz.szTOut
theorem an8{w:World}{b o:Nat}{t:TO}(hc:∀i u,t.row[i]? = some u→w.cell? ⟨b,o+i,none⟩=some u):(iq 126 (.pointer (some ⟨b,o,none⟩))).run Tryz.prog w = .ok (.agg t.row.toArray) w :=
 run_loadAt_mid (P:=Tryz.prog) w b o 126 t.row _ hc Tryz.underlying126 rfl (by rw[Tryz.szTOut,TO.yh])
theorem au0(t:TT)(w:World)(h:t.Ok w):Calls Tryz.prog 61 #[.agg t.cells] w λe w'=>e = .returned (.bool t.m.few)∧Fr F0 w w':=by
 have e:t.m.few=decide (t.ins.length=0∨t.outs.length=0):=by simp[MT.few,TT.m]
 rw[e]
 clear e
 have h1:=h.ins.most
 have h2:=h.outs.most
 clear h
 obtain⟨vr,ia,ic,ins,oa,oc,outs,lt⟩:=t
 simp only[TT.cells]at *
 by_cases q1:ins.length=0
 ·have l1:((ins.length:Int)==0)=true:=by simp[q1]
  go_enter Tryz.func61,Tryz.ntmps61
  go_wp2
  go_ret
  exact⟨by simp[q1],(Fr.refl _ _).alloc _⟩
 ·have l1:((ins.length:Int)==0)=false:=beq_false_of_ne aPl
  go_enter Tryz.func61,Tryz.ntmps61
  go_wp2
  go_ret
  refine⟨?_,(Fr.refl _ _).alloc _⟩
  refine congrArg (λb=>Ending.returned (.bool b)) (?_:((outs.length:Int)==0)=_)
  by_cases q2:outs.length=0
  ·simp[q2]
  ·rw[beq_false_of_ne (by omega:(outs.length:Int)≠0),decide_eq_false aPl]
theorem akh(n:Nat)(w:World):Calls Tryz.prog 64 #[.int .i64 (n:Int)] w λe w'=>e = .returned (.bool (szT n))∧w=w':=by
 by_cases q1:n≤4096
 ·have l1:(n:Int)≤4096:=by omega
  go_enter Tryz.func64,Tryz.ntmps64
  go_wp2
  go_ret
  refine⟨?_,rfl⟩
  by_cases q2:n=64
  ·subst q2;rfl
  ·have:((n:Int) != 64)=true:=bne_iff_ne.2 aPl
   simp[szT,q1,q2,this]
 ·have l1:¬(n:Int)≤4096:=by omega
  go_enter Tryz.func64,Tryz.ntmps64
  go_wp2
  go_ret
  refine⟨?_,rfl⟩
  simp[szT,q1]
theorem aw6(t:TO)(w:World)(h:t.m.Ok):Calls Tryz.prog 117 #[.agg t.row.toArray] w λe w'=>e = .returned (.bool (decide (4611686018427387904<t.m.py)))∧Fr F0 w w':=by
 obtain⟨⟨py,lk⟩,a,c⟩:=t
 have h1:=h.py
 simp only[TO.row]at *
 have HR:=Lib.hid (abl py _ rfl)
 have l1:(!decide (py≤4611686018427387904))=decide (4611686018427387904<py):=by by_cases q:py≤4611686018427387904<;>simp[q]<;>omega
 generalize decide (py≤4611686018427387904)=b at *
 clear h h1
 go_enter Tryz.func117,Tryz.ntmps117
 go_wp2_with fail
 (with_reducible refine(HR.out _).mono ?_);rintro e w1 ⟨rfl,rfl⟩
 go_wp2_with fail
 go_ret
 exact⟨by rw[←l1];rfl,(Fr.refl _ _).alloc _⟩
theorem aw7(t:TO)(w:World):Calls Tryz.prog 114 #[.agg t.row.toArray] w λe w'=>e = .returned (.bool (decide (520<t.m.lk.length)))∧Fr F0 w w':=by
 obtain⟨⟨py,lk⟩,a,c⟩:=t
 simp only[TO.row]at *
 generalize lk.length=n at *
 go_enter Tryz.func114,Tryz.ntmps114
 go_wp2
 go_ret
 refine⟨?_,(Fr.refl _ _).alloc _⟩
 exact congrArg (λb=>Ending.returned (.bool b)) (decide_eq_decide.2 (by omega:(520:Int)<(n:Int)↔520<n))
theorem aw8(t:TIx)(w:World)(h:t.m.Ok):Calls Tryz.prog 112 #[.agg t.row.toArray] w λe w'=>e = .returned (.bool (decide (520<t.m.ky.length)))∧Fr F0 w w':=by
 have K:=TIx.cellsOf h
 obtain⟨s0,c32,c33,c34,x0,o1⟩:=K
 generalize t.row.toArray=C at *
 generalize t.m.ky.length=n at *
 have d33:=jd c33 aPl
 go_enter Tryz.func112,Tryz.ntmps112
 go_wp2
 go_ret
 refine⟨?_,(Fr.refl _ _).alloc _⟩
 exact congrArg (λb=>Ending.returned (.bool b)) (decide_eq_decide.2 (by omega:(520:Int)<(n:Int)↔520<n))
theorem ax3(cf:Nat)(caps:Array Value)(p:TO→Bool)(l:List TO)(a:Option Addr)(n c:Nat)(w:World)(h:TOs w a c l)(hn:n=l.length)
  (eg:∀args w,(callFunc cf args).run Tryz.prog w = .ok (.enter cf args) w)
  (hp:∀t∈l,∀w',Fr F0 w w'→Calls Tryz.prog cf (#[.agg t.row.toArray]++caps) w' λe w2=>e = .returned (.bool (p t))∧Fr F0 w' w2) :
  Calls Tryz.prog 160 #[.slice a n c,.func (.func cf) #[] caps] w λe w'=>∃i:Int,e = .returned (.int .i64 i)∧decide (0≤i)=l.any p∧Fr F0 w w':=by
 subst hn
 have hm:=h.most
 have HP:=Lib.hid hp
 clear hp
 go_enter Tryz.func160,Tryz.ntmps160
 go_wp2_with fail
 go_loopw [8] (λiv wr=>∃k:Nat,k≤l.length∧iv = .int .i64 k∧Hid ((l.take k).any p=false)∧Fr F0 w wr) (λiv _=>l.length-(intOf iv).toNat)
 case atStart=>exact⟨0,Nat.zero_le _,rfl,by simp[Hid],Fr.refl _ _⟩
 case round =>
  obtain⟨k,hk,rfl,HK,hf⟩:=hrel
  by_cases hkn:k<l.length
  ·obtain⟨hok,b,off,rfl,hc⟩:=(h.fr hf).get k hkn
   have hl:=an8 (w:=wr) (b:=b) (o:=off+k*2) hc
   have HC:=Lib.hid (HP.out _ (List.getElem_mem hkn))
   have l1:(k:Int)<(l.length:Int):=by omega
   have hroom:=h.sl.room
   clear hc hok h
   obtain⟨t,ht⟩:∃t,t=l[k]:=⟨_,rfl⟩
   rw[←ht]at hl HC
   replace ht:=Lib.hid ht
   generalize hX:t.row.toArray=X at *
   go_wp2_with fail
   (with_reducible refine(HC.out _ hf).mono ?_);rintro e w2 ⟨rfl,f2⟩
   replace hf:=hf.trans' f2
   clear hl
   by_cases hq:p t=true
   ·rw[hq]
    go_wp2_with fail
    go_ret
    refine⟨_,rfl,?_,hf⟩
    rw[decide_eq_true aPl]
    exact(List.any_eq_true.2 ⟨t,by rw[ht.out];exact List.getElem_mem hkn,hq⟩).symm
   ·rw[Bool.not_eq_true]at hq
    rw[hq]
    go_wp2_with fail
    go_roundw
    case rel =>
     refine⟨k+1,by omega,by go_num,?_,hf⟩
     rw[Hid,List.take_succ_eq_append_getElem hkn,List.any_append,HK.out,←ht.out]
     simp[hq]
    case measure=>simp[intOf];omega
  ·obtain rfl:k=l.length:=by omega
   go_wp2_with fail
   go_ret
   refine⟨-1,rfl,?_,hf⟩
   have:=HK.out
   rw[List.take_length]at this
   rw[this]
   rfl
theorem ams(cf:Nat)(caps:Array Value)(p:TO→Bool)(l:List TO)(a:Option Addr)(n c:Nat)(w:World)(h:TOs w a c l)(hn:n=l.length)
  (eg:∀args w,(callFunc cf args).run Tryz.prog w = .ok (.enter cf args) w)
  (hp:∀t∈l,∀w',Fr F0 w w'→Calls Tryz.prog cf (#[.agg t.row.toArray]++caps) w' λe w2=>e = .returned (.bool (p t))∧Fr F0 w' w2) :
  Calls Tryz.prog 113 #[.slice a n c,.func (.func cf) #[] caps] w λe w'=>e = .returned (.bool (l.any p))∧Fr F0 w w':=by
 have HI:=Lib.hid (ax3 cf caps p l a n c w h hn eg hp)
 clear h hp hn
 go_enter Tryz.func113,Tryz.ntmps113
 go_wp2_with fail
 (with_reducible refine HI.out.mono ?_);rintro e w2 ⟨i,rfl,hi,f2⟩
 go_wp2_with fail
 go_ret
 refine⟨?_,f2⟩
 rw[←hi]
 rfl
theorem aCx(cf:Nat)(caps:Array Value)(p:TIx→Bool)(l:List TIx)(a:Option Addr)(n c:Nat)(w:World)(h:TIs w a c l)(hn:n=l.length)
  (eg:∀args w,(callFunc cf args).run Tryz.prog w = .ok (.enter cf args) w)
  (hp:∀t∈l,∀w',Fr F0 w w'→Calls Tryz.prog cf (#[.agg t.row.toArray]++caps) w' λe w2=>e = .returned (.bool (p t))∧Fr F0 w' w2) :
  Calls Tryz.prog 159 #[.slice a n c,.func (.func cf) #[] caps] w λe w'=>∃i:Int,e = .returned (.int .i64 i)∧decide (0≤i)=l.any p∧Fr F0 w w':=by
 subst hn
 have hm:=h.most
 have HP:=Lib.hid hp
 clear hp
 go_enter Tryz.func159,Tryz.ntmps159
 go_wp2_with fail
 go_loopw [8] (λiv wr=>∃k:Nat,k≤l.length∧iv = .int .i64 k∧Hid ((l.take k).any p=false)∧Fr F0 w wr) (λiv _=>l.length-(intOf iv).toNat)
 case atStart=>exact⟨0,Nat.zero_le _,rfl,by simp[Hid],Fr.refl _ _⟩
 case round =>
  obtain⟨k,hk,rfl,HK,hf⟩:=hrel
  by_cases hkn:k<l.length
  ·obtain⟨hok,b,off,rfl,hc⟩:=(h.fr hf).get k hkn
   have hl:=aAv (w:=wr) (b:=b) (o:=off+k*35) hok.m hc
   have HC:=Lib.hid (HP.out _ (List.getElem_mem hkn))
   have l1:(k:Int)<(l.length:Int):=by omega
   have hroom:=h.sl.room
   clear hc hok h
   obtain⟨t,ht⟩:∃t,t=l[k]:=⟨_,rfl⟩
   rw[←ht]at hl HC
   replace ht:=Lib.hid ht
   generalize hX:t.row.toArray=X at *
   go_wp2_with fail
   (with_reducible refine(HC.out _ hf).mono ?_);rintro e w2 ⟨rfl,f2⟩
   replace hf:=hf.trans' f2
   clear hl
   by_cases hq:p t=true
   ·rw[hq]
    go_wp2_with fail
    go_ret
    refine⟨_,rfl,?_,hf⟩
    rw[decide_eq_true aPl]
    exact(List.any_eq_true.2 ⟨t,by rw[ht.out];exact List.getElem_mem hkn,hq⟩).symm
   ·rw[Bool.not_eq_true]at hq
    rw[hq]
    go_wp2_with fail
    go_roundw
    case rel =>
     refine⟨k+1,by omega,by go_num,?_,hf⟩
     rw[Hid,List.take_succ_eq_append_getElem hkn,List.any_append,HK.out,←ht.out]
     simp[hq]
    case measure=>simp[intOf];omega
  ·obtain rfl:k=l.length:=by omega
   go_wp2_with fail
   go_ret
   refine⟨-1,rfl,?_,hf⟩
   have:=HK.out
   rw[List.take_length]at this
   rw[this]
   rfl
theorem aC1(cf:Nat)(caps:Array Value)(p:TIx→Bool)(l:List TIx)(a:Option Addr)(n c:Nat)(w:World)(h:TIs w a c l)(hn:n=l.length)
  (eg:∀args w,(callFunc cf args).run Tryz.prog w = .ok (.enter cf args) w)
  (hp:∀t∈l,∀w',Fr F0 w w'→Calls Tryz.prog cf (#[.agg t.row.toArray]++caps) w' λe w2=>e = .returned (.bool (p t))∧Fr F0 w' w2) :
  Calls Tryz.prog 111 #[.slice a n c,.func (.func cf) #[] caps] w λe w'=>e = .returned (.bool (l.any p))∧Fr F0 w w':=by
 have HI:=Lib.hid (aCx cf caps p l a n c w h hn eg hp)
 clear h hp hn
 go_enter Tryz.func111,Tryz.ntmps111
 go_wp2_with fail
 (with_reducible refine HI.out.mono ?_);rintro e w2 ⟨i,rfl,hi,f2⟩
 go_wp2_with fail
 go_ret
 refine⟨?_,f2⟩
 rw[←hi]
 rfl
theorem azt{α β:Type}(f:α→β)(p:β→Prop)(l:List α):(∃x,x∈l.map f∧p x)↔∃a,a∈l∧p (f a):=by
 constructor
 ·rintro⟨x,hx,hp⟩
  obtain⟨a,ha,rfl⟩:=List.mem_map.1 hx
  exact⟨a,ha,hp⟩
 ·rintro⟨a,ha,hp⟩
  exact⟨f a,List.mem_map.2 ⟨a,ha,rfl⟩,hp⟩
theorem MT.aGr(t:TT):t.m.over=t.outs.any (λt=>decide (4611686018427387904<t.m.py)):=by
 rw[Bool.eq_iff_iff,MT.over,decide_eq_true_iff]
 refine(azt TO.m (λx=>4611686018427387904<x.py) t.outs).trans ?_
 simp
theorem MT.aG4(t:TT):t.m.long=(decide (64<t.ins.length)||(decide (64<t.outs.length)||(t.ins.any (λt=>decide (520<t.m.ky.length))||t.outs.any (λt=>decide (520<t.m.lk.length))))):=by
 rw[Bool.eq_iff_iff,MT.long,decide_eq_true_iff]
 have h1:=azt TIx.m (λx=>520<x.ky.length) t.ins
 have h2:=azt TO.m (λx=>520<x.lk.length) t.outs
 simp only[TT.m,h1,h2,List.length_map]
 simp
theorem apg(t:TT)(w:World)(h:t.Ok w):Calls Tryz.prog 65 #[.agg t.cells] w λe w'=>e = .returned (.bool t.m.over)∧Fr F0 w w':=by
 have F:=(Fr.refl F0 w).alloc (.cells t.cells 59)
 have HI:=Lib.hid (ams 117 #[] (λt=>decide (4611686018427387904<t.m.py)) t.outs t.oa t.outs.length t.oc _ (h.outs.fr F) rfl (enters_of Tryz.func117 (by kernel_rfl) rfl) λx hx w' f=>aw6 x w' (h.outs.ok x hx).m)
 rw[MT.aGr]
 clear h
 obtain⟨vr,ia,ic,ins,oa,oc,outs,lt⟩:=t
 simp only[TT.cells]at *
 generalize (outs.any λt=>decide (4611686018427387904<t.m.py))=B at *
 go_enter Tryz.func65,Tryz.ntmps65
 go_wp2_with fail
 (with_reducible refine HI.out.mono ?_);rintro e w2 ⟨rfl,f2⟩
 go_wp2_with fail
 go_ret
 exact⟨rfl,F.trans' f2⟩
theorem aBu(t:TT)(w:World)(h:t.Ok w):Calls Tryz.prog 62 #[.agg t.cells] w λe w'=>e = .returned (.bool t.m.long)∧Fr F0 w w':=by
 have F:=(Fr.refl F0 w).alloc (.cells t.cells 59)
 have HI:=Lib.hid (aC1 112 #[] (λt=>decide (520<t.m.ky.length)) t.ins t.ia t.ins.length t.ic _ (h.ins.fr F) rfl (enters_of Tryz.func112 (by kernel_rfl) rfl) λx hx w' f=>aw8 x w' (h.ins.ok x hx).m)
 have HO:=Lib.hid (λw' (f:Fr F0 w w')=>ams 114 #[] (λt=>decide (520<t.m.lk.length)) t.outs t.oa t.outs.length t.oc _ (h.outs.fr f) rfl (enters_of Tryz.func114 (by kernel_rfl) rfl) λx hx w' f=>aw7 x w')
 rw[MT.aG4]
 have h1:=h.ins.most
 have h2:=h.outs.most
 clear h
 obtain⟨vr,ia,ic,ins,oa,oc,outs,lt⟩:=t
 simp only[TT.cells]at *
 generalize (ins.any λt=>decide (520<t.m.ky.length))=B at *
 generalize (outs.any λt=>decide (520<t.m.lk.length))=D at *
 generalize ins.length=n at *
 generalize outs.length=m at *
 have r0:=heap_alloc_new w (.cells #[.int .u32 (vr:Int),.slice ia n ic,.slice oa m oc,.int .u32 (lt:Int)] 59)
 by_cases q1:64<n
 ·have l1:(64:Int)<(n:Int):=by omega
  go_enter Tryz.func62,Tryz.ntmps62
  go_wp2_with fail
  go_ret
  exact⟨by simp[q1],F⟩
 have l1:¬(64:Int)<(n:Int):=by omega
 by_cases q2:64<m
 ·have l2:(64:Int)<(m:Int):=by omega
  go_enter Tryz.func62,Tryz.ntmps62
  go_wp2_with fail
  go_ret
  exact⟨by simp[q2],F⟩
 have l2:¬(64:Int)<(m:Int):=by omega
 go_enter Tryz.func62,Tryz.ntmps62
 go_wp2_with fail
 (with_reducible refine HI.out.mono ?_);rintro e w2 ⟨rfl,f2⟩
 replace r0:=au f2 r0
 replace F:=F.trans' f2
 clear HI
 cases B with
 |true =>
  go_wp2_with fail
  go_ret
  exact⟨by simp,F⟩
 |false =>
  go_wp2_with fail
  (with_reducible refine(HO.out _ F).mono ?_);rintro e w3 ⟨rfl,f3⟩
  go_wp2_with fail
  go_ret
  exact⟨by simp[q1,q2],F.trans' f3⟩
theorem WI.fr0{W w w':World}{g:Nat}{bs:List UInt8}(h:WI W g bs w)(f:Fr F0 w w'):WI W g bs w':=by
 obtain⟨v,hw,f0,ho⟩:=h
 exact⟨v,hw.fr f λ_ _ f=>f,f0.trans f λ_ _ e=>e.elim,ho⟩
theorem WI.frB{W w w0:World}{g:Nat}{bs:List UInt8}(h:WI W g bs w)(f0:Fr F0 w0 W)(hg:w0.heap.size≤g):Fr F0 w0 w:=by
 obtain⟨v,hw,f,ho⟩:=h
 exact f0.trans f λi hi e=>by omega
theorem Bs.low{w:World}{a:Option Addr}{c:Nat}{l:List UInt8}(h:Bs w a c l)(hl:l ≠ []):∀k,ql a=some k→k<w.heap.size:=by
 intro k hk
 obtain⟨b,off,rfl,hc⟩:=h.at 0 (List.length_pos_iff.2 hl)
 cases hk
 exact World.block_lt_of_cell? w _ hc
theorem xu.next{w0 w w':World}{g:Nat}{v v1:Value}{bs bs':List UInt8}(h1:IsW w g v1 bs)(hf:Fr (WS g v) w0 w)(ho:∀k,v1.ownBlock=some k→v.ownBlock=some k∨w0.heap.size≤k)(p:xu w g v1 bs' w'):xu w0 g v bs' w':=xu.trans h1 hf ho p
theorem xu.puts{w0 w:World}{g:Nat}{v:Value}{bs:List UInt8}(h:xu w0 g v bs w)(x n:Nat)(hx:x<18446744073709551616)(hn:szB n=true)(hl:bs.length≤1000000):
  Calls Tryz.prog 37 #[.pointer (some ⟨g,0,none⟩),.int .u64 (x:Int),.int .i64 (n:Int)] w λe w'=>e = .returned (.tuple #[])∧xu w0 g v (bs++le n x) w':=by
 obtain⟨v1,hw,f,ho⟩:=h
 exact(anm g v1 bs x n w hw aPl hn aPl).mono λe w' ⟨he,p⟩=>⟨he,xu.next hw f ho p⟩
theorem xu.aKw{w0 w:World}{g:Nat}{v:Value}{bs:List UInt8}(h:xu w0 g v bs w)(x:Nat)(hx:x<18446744073709551616)(hl:bs.length≤1000000):
  Calls Tryz.prog 37 #[.pointer (some ⟨g,0,none⟩),.int .u64 (x:Int),.int .i64 4] w λe w'=>e = .returned (.tuple #[])∧xu w0 g v (bs++le 4 x) w':=h.puts x 4 hx rfl hl
theorem xu.put8{w0 w:World}{g:Nat}{v:Value}{bs:List UInt8}(h:xu w0 g v bs w)(x:Nat)(hx:x<18446744073709551616)(hl:bs.length≤1000000):
  Calls Tryz.prog 37 #[.pointer (some ⟨g,0,none⟩),.int .u64 (x:Int),.int .i64 8] w λe w'=>e = .returned (.tuple #[])∧xu w0 g v (bs++le 8 x) w':=h.puts x 8 hx rfl hl
theorem xu.raw{w0 w:World}{g:Nat}{v:Value}{bs:List UInt8}(h:xu w0 g v bs w)(a:Option Addr)(n c:Nat)(xs:List UInt8)(hb:Bs w a c xs)(hn:n=xs.length)(hl:bs.length+xs.length≤1000000):
  Calls Tryz.prog 36 #[.pointer (some ⟨g,0,none⟩),.slice a n c] w λe w'=>e = .returned (.tuple #[])∧xu w0 g v (bs++xs) w':=by
 obtain⟨v1,hw,f,ho⟩:=h
 exact(aog g v1 bs a n c xs w hw hb hn aPl).mono λe w' ⟨he,p⟩=>⟨he,xu.next hw f ho p⟩
theorem xu.counted{w0 w:World}{g:Nat}{v:Value}{bs:List UInt8}(h:xu w0 g v bs w)(a:Option Addr)(n c:Nat)(xs:List UInt8)(hb:Bs w a c xs)(hn:n=xs.length)(hl:bs.length+xs.length≤1000000)
  (ha:xs ≠ []→∀k,ql a=some k→k≠g∧v.ownBlock≠some k∧k<w0.heap.size) :
  Calls Tryz.prog 35 #[.pointer (some ⟨g,0,none⟩),.slice a n c] w λe w'=>e = .returned (.tuple #[])∧xu w0 g v (bs++ctd xs) w':=by
 obtain⟨v1,hw,f,ho⟩:=h
 refine(aiv g v1 bs a n c xs w hw hb hn aPl λhx k hk hs=>?_).mono λe w' ⟨he,p⟩=>⟨he,xu.next hw f ho p⟩
 have h1:=ha hx k hk
 rcases hs with e|e
 ·exact h1.1 e
 ·rcases ho k e with h|h
  ·exact h1.2.1 h
  ·omega
theorem xu.keep{w0 w:World}{g k:Nat}{v:Value}{bs:List UInt8}{o:Obj}(h:xu w0 g v bs w)(h1:k≠g)(h2:v.ownBlock≠some k)(hx:w0.heap[k]? = some o):w.heap[k]? = some o:=by
 obtain⟨v1,hw,f,ho⟩:=h
 exact f.keeps (λe=>by rcases e with e|e<;>contradiction) hx
theorem xu.bs{w0 w:World}{g c:Nat}{v:Value}{bs xs:List UInt8}{a:Option Addr}(h:xu w0 g v bs w)(hb:Bs w0 a c xs)(ha:xs ≠ []→∀k,ql a=some k→k≠g∧v.ownBlock≠some k∧k<w0.heap.size):Bs w a c xs:=by
 obtain⟨v1,hw,f,ho⟩:=h
 refine Sl.frn hb f λhx k hk e=>?_
 have:=ha (λe=>hx (by rw[e];rfl)) k hk
 rcases e with e|e
 ·exact this.1 e
 ·exact this.2.1 e
theorem aJ1{w0 W w wa:World}{g c:Nat}{v:Value}{a:Option Addr}{l:List UInt8}(h:Bs w0 a c l)(f0:Fr F0 w0 W)(hg:w0.heap.size≤g)(ho:∀k,v.ownBlock=some k→W.heap.size≤k)(hs:w0.heap.size≤wa.heap.size):
  l ≠ []→∀k,ql a=some k→k≠g∧v.ownBlock≠some k∧k<wa.heap.size:=by
 intro hl k hk
 have h1:=h.low hl k hk
 have h2:=f0.size
 refine⟨by omega,λe=>?_,by omega⟩
 have:=ho k e
 omega
theorem aoi(t:TO)(w0 W w:World)(g:Nat)(bs:List UInt8)(h:t.Ok w0)(f0:Fr F0 w0 W)(hg:w0.heap.size≤g)(hW:WI W g bs w)(hl:bs.length+t.m.lk.length≤200000):
  Calls Tryz.prog 116 #[.agg t.row.toArray,.pointer (some ⟨g,0,none⟩)] w λe w'=>e = .returned (.tuple #[])∧WI W g (bs++t.m.bytes) w':=by
 have F:=hW.frB f0 hg
 obtain⟨⟨py,lk⟩,a,c⟩:=t
 obtain⟨⟨h1⟩,hb⟩:=h
 obtain⟨v,hw,f,ho⟩:=hW
 simp only[TO.row,MO.bytes]at *
 have r0:=heap_alloc_new w (.cells #[.int .u64 (py:Int),.slice a lk.length c] 126)
 have F1:=F.alloc (.cells #[.int .u64 (py:Int),.slice a lk.length c] 126)
 have P:=xu.refl (hw.fr (((Fr.refl F0 w).alloc (.cells #[.int .u64 (py:Int),.slice a lk.length c] 126))) λ_ _ f=>f)
 have hne:=aJ1 (w:=w) hb f0 hg ho F1.size
 have gne:w.heap.size≠g:=by have:=hw.lt;omega
 have vne:v.ownBlock≠some w.heap.size:=λe=>by have:=hw.own.lt _ e;omega
 have hb':=Bs.fr7 hb F1
 have f':=f.alloc (.cells #[.int .u64 (py:Int),.slice a lk.length c] 126)
 have HP:=Lib.hid (P.put8 py h1 aPl)
 obtain⟨n,hn⟩:∃n,n=lk.length:=⟨_,rfl⟩
 rw[←hn]at hl
 have HN:=Lib.hid (And.intro hn hl)
 have HW:=Lib.hid (And.intro f' ho)
 rw[←hn]at r0 HP hb' P F1 hne HW ⊢
 clear hb f0 hg hw hl hn h1 F f f' ho F1
 go_enter Tryz.func116,Tryz.ntmps116
 go_wp2_with fail
 (with_reducible refine HP.out.mono ?_);rintro e w2 ⟨rfl,P2⟩
 have r2:=P2.keep gne vne r0
 have HC:=Lib.hid (P2.counted a n c lk (P2.bs hb' hne) HN.out.1 (by have:=HN.out.2;have:=HN.out.1;simp[jy];omega) hne)
 clear HP P r0 P2
 go_wp2_with fail
 (with_reducible refine HC.out.mono ?_);rintro e w3 ⟨rfl,P3⟩
 go_wp2_with fail
 go_end0
 exact⟨rfl,by rw[←List.append_assoc];exact WI.step HW.out.1 HW.out.2 P3⟩
theorem F32{t:TIx}{C:Array Value}(K:InC t C)(h:t.m.Ok){w:World}{g:Nat}{ty:TypeId}(hg:w.heap[g]? = some (.cells C ty (0,0))):Bs w (some ⟨g,0,none⟩) 32 t.m.fr :=
 Bs.of_cells (o:=0) hg h.fr aPl (by rw[Nat.zero_add];exact K.x0)
theorem aqo(t:TIx)(w0 W w:World)(g:Nat)(bs:List UInt8)(h:t.Ok w0)(f0:Fr F0 w0 W)(hg:w0.heap.size≤g)(hW:WI W g bs w)(hl:bs.length+t.m.ky.length≤200000):
  Calls Tryz.prog 115 #[.agg t.row.toArray,.pointer (some ⟨g,0,none⟩)] w λe w'=>e = .returned (.tuple #[])∧WI W g (bs++t.m.bytes) w':=by
 have F:=hW.frB f0 hg
 obtain⟨hm,hb⟩:=h
 obtain⟨v,hw,f,ho⟩:=hW
 have K:=TIx.cellsOf hm
 have hx:=hm.ix
 have hs:=hm.sq
 obtain⟨C,hC⟩:∃C,C=t.row.toArray:=⟨_,rfl⟩
 rw[←hC]at K ⊢
 clear hC
 have HK:=Lib.hid K
 obtain⟨s0,c32,c33,c34,x0,o1⟩:=K
 have d32:=jd c32 aPl
 have d33:=jd c33 aPl
 have d34:=jd c34 aPl
 have r0:=heap_alloc_new w (.cells C 124)
 have F1:=F.alloc (.cells C 124)
 have P:=xu.refl (hw.fr (((Fr.refl F0 w).alloc (.cells C 124))) λ_ _ f=>f)
 have hne:=aJ1 (w:=w) hb f0 hg ho F1.size
 have gne:w.heap.size≠g:=by have:=hw.lt;omega
 have vne:v.ownBlock≠some w.heap.size:=λe=>by have:=hw.own.lt _ e;omega
 have hb':=Bs.fr7 hb F1
 have f':=f.alloc (.cells C 124)
 have HW:=Lib.hid (And.intro f' ho)
 have HH:=Lib.hid (And.intro hm (And.intro hb' hne))
 have HL:=Lib.hid hl
 have HP:=Lib.hid (P.raw (some ⟨w.heap.size,0,none⟩) 32 32 t.m.fr (F32 HK.out hm r0) hm.fr.symm (by have:=hm.fr;omega))
 have hfr:=Lib.hid hm.fr
 clear hb f0 hg hw hl F f f' ho F1 P hb' hne x0 hm
 rw[MI.bytes]
 obtain⟨⟨fr,ix,ky,sq⟩,a,c⟩:=t
 simp only at *
 obtain⟨n,hn⟩:∃n,n=ky.length:=⟨_,rfl⟩
 rw[←hn]at c33 d33 HL
 have HN:=Lib.hid hn
 clear hn
 go_enter Tryz.func115,Tryz.ntmps115
 go_wp2_with fail
 (with_reducible refine HP.out.mono ?_);rintro e w2 ⟨rfl,P2⟩
 have r2:=P2.keep gne vne r0
 have H4:=Lib.hid (P2.aKw ix aPl (by have:=HL.out;have:=hfr.out;simp;omega))
 clear HP r0 P2
 go_wp2_with fail
 (with_reducible refine H4.out.mono ?_);rintro e w3 ⟨rfl,P3⟩
 have r3:=P3.keep gne vne (heap_alloc_new w (.cells C 124))
 have HC:=Lib.hid (P3.counted a n c ky (P3.bs HH.out.2.1 HH.out.2.2) HN.out (by have:=HL.out;have:=hfr.out;have:=HN.out;simp[jy];omega) HH.out.2.2)
 clear H4 r2 P3
 go_wp2_with fail
 (with_reducible refine HC.out.mono ?_);rintro e w4 ⟨rfl,P4⟩
 have r4:=P4.keep gne vne (heap_alloc_new w (.cells C 124))
 have H5:=Lib.hid (P4.aKw sq aPl (by have:=HL.out;have:=hfr.out;have:=HN.out;have:=aa0 ky.length;simp[jy,ctd,qh];omega))
 clear HC r3 P4
 go_wp2_with fail
 (with_reducible refine H5.out.mono ?_);rintro e w5 ⟨rfl,P5⟩
 go_wp2_with fail
 go_end0
 exact⟨rfl,by simp only[←List.append_assoc];exact WI.step HW.out.1 HW.out.2 P5⟩
theorem WI.aKw{W w:World}{g:Nat}{bs:List UInt8}(h:WI W g bs w)(x:Nat)(hx:x<18446744073709551616)(hl:bs.length≤1000000):
  Calls Tryz.prog 37 #[.pointer (some ⟨g,0,none⟩),.int .u64 (x:Int),.int .i64 4] w λe w'=>e = .returned (.tuple #[])∧WI W g (bs++le 4 x) w':=h.puts x 4 hx rfl hl
theorem TO.one(t:TO):jh t.row.toArray:=by
 unfold jh
 rw[Array.all_eq_true_iff_forall_mem]
 intro v hv
 simp only[TO.row,List.mem_toArray,List.mem_cons,List.not_mem_nil,or_false]at hv
 rcases hv with rfl|rfl<;>rfl
theorem ae0{α:Type}(f:α→List UInt8)(n:Nat):∀(l:List α),(∀x∈l,(f x).length≤n)→(l.flatMap f).length≤l.length*n
 |[],_=>by simp
 |x::l,h=>by
  have h1:=h x (by simp)
  have h2:=ae0 f n l λy hy=>h y (by simp[hy])
  rw[List.flatMap_cons,List.length_append,List.length_cons,Nat.succ_mul]
  omega
theorem MI.len{x:MI}(h:x.Ok)(hl:x.ky.length≤600):x.bytes.length≤700:=by
 have:=aa0 x.ky.length
 simp[MI.bytes,ctd,qh,jy,h.fr]
 omega
theorem MO.len{x:MO}(hl:x.lk.length≤600):x.bytes.length≤700:=by
 have:=aa0 x.lk.length
 simp[MO.bytes,ctd,qh,jy]
 omega
theorem ap4{α β:Type}(f:α→List β)(l:List α)(k:Nat)(h:k<l.length):(l.take (k+1)).flatMap f=(l.take k).flatMap f++f l[k]:=by rw[List.take_succ_eq_append_getElem h,List.flatMap_append];simp
theorem aqm(t:TT)(w:World)(h:t.Ok w)(hs:t.m.small=true):Calls Tryz.prog 63 #[.agg t.cells] w (ou t.m.bytes w):=by
 have hs':t.ins.length≤70∧t.outs.length≤70∧(∀x∈t.ins,x.m.ky.length≤600)∧(∀x∈t.outs,x.m.lk.length≤600):=by
  rw[MT.small,decide_eq_true_iff]at hs
  obtain⟨h1,h2,h3,h4⟩:=hs
  exact⟨by simpa [TT.m]using h1,by simpa [TT.m]using h2,λx hx=>h3 x.m (by simp[TT.m];exact⟨x,hx,rfl⟩),λx hx=>h4 x.m (by simp[TT.m];exact⟨x,hx,rfl⟩)⟩
 obtain⟨s1,s2,s3,s4⟩:=hs'
 have S3:=Lib.hid s3
 have S4:=Lib.hid s4
 clear s3 s4 hs
 obtain⟨hv,ht,hi,ho⟩:=h
 have HI:=Lib.hid hi
 have HO:=Lib.hid ho
 have eB:t.m.bytes=le 4 t.vr++cnt t.ins.length++t.ins.flatMap (λx=>x.m.bytes)++cnt t.outs.length++t.outs.flatMap (λx=>x.m.bytes)++le 4 t.lt:=by
  simp[MT.bytes,TT.m,List.flatMap_map]
 obtain⟨TB,hTB⟩:∃TB,TB=t.m.bytes:=⟨_,rfl⟩
 rw[←hTB]at eB ⊢
 clear hTB
 have HTB:=Lib.hid eB
 clear eB hi ho
 obtain⟨vr,ia,ic,ins,oa,oc,outs,lt⟩:=t
 simp only[TT.cells]at *
 have rI:=HI.out.sl.room
 have rO:=HO.out.sl.room
 have mI:=HI.out.sl.most
 have mO:=HO.out.sl.most
 obtain⟨n,hn⟩:∃n,n=ins.length:=⟨_,rfl⟩
 obtain⟨m,hm⟩:∃n,n=outs.length:=⟨_,rfl⟩
 rw[←hn]at s1 rI ⊢
 rw[←hm]at s2 rO ⊢
 replace hn:=Lib.hid hn
 replace hm:=Lib.hid hm
 go_enter Tryz.func63,Tryz.ntmps63
 go_upto_region 2 with fail
 obtain⟨W,hW⟩:∃W,W=(w.alloc (.cells #[.int .u32 (vr:Int),.slice ia n ic,.slice oa m oc,.int .u32 (lt:Int)] 59)).alloc (.cells #[.slice none 0 0] 100):=⟨_,rfl⟩
 refine jo W hW ?_
 obtain⟨rb,rg⟩:=heap2 w (.cells #[.int .u32 (vr:Int),.slice ia n ic,.slice oa m oc,.int .u32 (lt:Int)] 59) (.cells #[.slice none 0 0] 100)
 have f0:Fr F0 w W:=by rw[hW];exact((Fr.refl F0 w).alloc _).alloc _
 rw[←hW]at rb rg
 clear hW
 have f1:=Lib.hid f0
 obtain⟨b,hb⟩:∃b,b=w.heap.size:=⟨_,rfl⟩
 obtain⟨g,hg⟩:∃g,g=b+1:=⟨_,rfl⟩
 rw[←hb]at rb rg ⊢
 rw[←hg]at rg ⊢
 have hgb:b≠g:=by omega
 replace hg:=Lib.hid (show w.heap.size≤g by omega)
 clear f0 hb
 have W0:=WI.of rg
 have HP:=Lib.hid (W0.aKw vr aPl (by simp))
 clear W0 rg
 go_wp2_with fail
 (with_reducible refine HP.out.mono ?_);rintro e w2 ⟨rfl,W2⟩
 have rb2:=W2.keep hgb rb
 have HC:=Lib.hid (W2.count n aPl zz83)
 clear HP
 go_wp2_with fail
 (with_reducible refine HC.out.mono ?_);rintro e w3 ⟨rfl,W3⟩
 have rb3:=W3.keep hgb rb
 clear HC W2 rb2
 go_wp2_with fail
 go_loopw [20] (λiv wr=>∃k:Nat,k≤n∧iv = .int .i64 k∧WI W g (le 4 vr++cnt n++(ins.take k).flatMap (λx=>x.m.bytes)) wr) (λiv _=>n-(intOf iv).toNat)
 case atStart=>exact⟨0,Nat.zero_le _,rfl,by simpa using W3⟩
 case round =>
  obtain⟨k,hk,rfl,hw⟩:=hrel
  clear W3 rb3
  have rb4:=hw.keep hgb rb
  have F:=hw.frB f1.out hg.out
  by_cases hkn:k<n
  ·have hkl:k<ins.length:=by have:=hn.out;omega
   obtain⟨hok,bb,off,rfl,hc⟩:=(HI.out.fr F).get k hkl
   have hl:=aAv (w:=wr) (b:=bb) (o:=off+k*35) hok.m hc
   have hlen:((ins.take k).flatMap (λx=>x.m.bytes)).length≤k*700:=by
    have:=ae0 (λx:TIx=>x.m.bytes) 700 (ins.take k) λx hx=>MI.len (HI.out.ok x (List.mem_of_mem_take hx)).m (S3.out x (List.mem_of_mem_take hx))
    rw[List.length_take,Nat.min_eq_left aPl]at this
    exact this
   obtain⟨pl,hpl⟩:∃pl,pl=(ins.take k).flatMap (λx:TIx=>x.m.bytes):=⟨_,rfl⟩
   rw[←hpl]at hlen hw
   have HX:=Lib.hid (λw2 (h2:WI W g (le 4 vr++cnt n++pl) w2)=>aqo ins[k] w W w2 g _ (HI.out.ok _ (List.getElem_mem hkl)) f1.out hg.out h2 (by have:=S3.out _ (List.getElem_mem hkl);have:=aa0 n;rw[List.length_append,List.length_append,jy,qh];omega))
   have K:=TIx.cellsOf hok.m
   have HE:=Lib.hid (ap4 (λx:TIx=>x.m.bytes) ins k hkl)
   rw[←hpl]at HE
   have sz:=K.size
   have o1:=K.one
   clear hc hok K hlen
   replace hpl:=Lib.hid hpl
   generalize ins[k].row.toArray=X at *
   generalize ins[k].m.bytes=xb at *
   have l1:(k:Int)<(n:Int):=by omega
   replace hw:=Lib.hid hw
   go_upto_region 7 with fail
   refine uy λW4 N4=>?_
   have r5:=N4.new
   have W4:=hw.out.fr0 N4.fr
   clear N4 hl rb4 rb
   go_wp2_with fail
   (with_reducible refine(HX.out _ W4).mono ?_);rintro e w5 ⟨rfl,W5⟩
   clear HX W4 r5
   go_wp2_with fail
   go_roundw
   case rel=>exact⟨k+1,by omega,by go_num,by rw[HE.out,←List.append_assoc];exact W5⟩
   case measure=>simp[intOf];omega
  ·obtain rfl:k=n:=by omega
   rw[hn.out,List.take_length]at hw
   rw[←hn.out]at hw
   have hlen:(ins.flatMap (λx=>x.m.bytes)).length≤70*700:=by
    have:=ae0 (λx:TIx=>x.m.bytes) 700 ins λx hx=>MI.len (HI.out.ok x hx).m (S3.out x hx)
    have h2:=hn.out
    rw[←h2]at this
    have h3:k*700≤70*700:=Nat.mul_le_mul_right _ s1
    omega
   obtain⟨pi,hpi⟩:∃pi,pi=ins.flatMap (λx:TIx=>x.m.bytes):=⟨_,rfl⟩
   rw[←hpi]at hw hlen HTB
   clear hpi
   have HC:=Lib.hid (hw.count m aPl (by have:=aa0 k;rw[List.length_append,List.length_append,jy,qh];omega))
   replace hlen:=Lib.hid hlen
   clear hw F
   go_wp2_with fail
   (with_reducible refine HC.out.mono ?_);rintro e w5 ⟨rfl,W5⟩
   have rb5:=W5.keep hgb rb
   clear HC rb4
   go_wp2_with fail
   go_loopw [35] (λiv wr=>∃j:Nat,j≤m∧iv = .int .i64 j∧WI W g (le 4 vr++cnt k++pi++cnt m++(outs.take j).flatMap (λx=>x.m.bytes)) wr) (λiv _=>m-(intOf iv).toNat)
   case atStart=>exact⟨0,Nat.zero_le _,rfl,by simpa using W5⟩
   case round =>
    obtain⟨j,hj,rfl,hw⟩:=hrel
    clear W5 rb5
    have rb4:=hw.keep hgb rb
    have F:=hw.frB f1.out hg.out
    by_cases hjm:j<m
    ·have hjl:j<outs.length:=by have:=hm.out;omega
     obtain⟨hok,bb,off,rfl,hc⟩:=(HO.out.fr F).get j hjl
     have hl:=an8 (w:=wr) (b:=bb) (o:=off+j*2) hc
     have hlen2:((outs.take j).flatMap (λx=>x.m.bytes)).length≤j*700:=by
      have:=ae0 (λx:TO=>x.m.bytes) 700 (outs.take j) λx hx=>MO.len (S4.out x (List.mem_of_mem_take hx))
      rw[List.length_take,Nat.min_eq_left aPl]at this
      exact this
     obtain⟨pl,hpl⟩:∃pl,pl=(outs.take j).flatMap (λx:TO=>x.m.bytes):=⟨_,rfl⟩
     rw[←hpl]at hlen2 hw
     have HX:=Lib.hid (λw2 (h2:WI W g (le 4 vr++cnt k++pi++cnt m++pl) w2)=>aoi outs[j] w W w2 g _ (HO.out.ok _ (List.getElem_mem hjl)) f1.out hg.out h2 (by have:=S4.out _ (List.getElem_mem hjl);have:=aa0 k;have:=aa0 m;have:=hlen.out;simp only[List.length_append,jy,qh];omega))
     have HE:=Lib.hid (ap4 (λx:TO=>x.m.bytes) outs j hjl)
     rw[←hpl]at HE
     have sz:outs[j].row.toArray.size=2:=rfl
     have o1:jh outs[j].row.toArray:=TO.one _
     clear hc hok hlen2
     replace hpl:=Lib.hid hpl
     generalize outs[j].row.toArray=X at *
     generalize outs[j].m.bytes=xb at *
     have l1:(j:Int)<(m:Int):=by omega
     replace hw:=Lib.hid hw
     go_upto_region 13 with fail
     refine uy λW4 N4=>?_
     have r5:=N4.new
     have W4:=hw.out.fr0 N4.fr
     clear N4 hl rb4 rb
     go_wp2_with fail
     (with_reducible refine(HX.out _ W4).mono ?_);rintro e w5 ⟨rfl,W5⟩
     clear HX W4 r5
     go_wp2_with fail
     go_roundw
     case rel=>exact⟨j+1,by omega,by go_num,by rw[HE.out,←List.append_assoc];exact W5⟩
     case measure=>simp[intOf];omega
    ·obtain rfl:j=m:=by omega
     rw[hm.out,List.take_length]at hw
     rw[←hm.out]at hw
     have hlen2:(outs.flatMap (λx=>x.m.bytes)).length≤70*700:=by
      have:=ae0 (λx:TO=>x.m.bytes) 700 outs λx hx=>MO.len (S4.out x hx)
      have h2:=hm.out
      rw[←h2]at this
      have h3:j*700≤70*700:=Nat.mul_le_mul_right _ s2
      omega
     obtain⟨po,hpo⟩:∃po,po=outs.flatMap (λx:TO=>x.m.bytes):=⟨_,rfl⟩
     rw[←hpo]at hw hlen2 HTB
     clear hpo
     have HP:=Lib.hid (hw.aKw lt aPl (by have:=aa0 k;have:=aa0 j;have:=hlen.out;simp only[List.length_append,jy,qh];omega))
     replace hlen2:=Lib.hid hlen2
     clear hw F
     go_wp2_with fail
     (with_reducible refine HP.out.mono ?_);rintro e w6 ⟨rfl,W6⟩
     have HB:=Lib.hid (W6.bytes f1.out hg.out (by have:=aa0 k;have:=aa0 j;have:=hlen.out;have:=hlen2.out;simp only[List.length_append,jy,qh];omega))
     clear HP W6 rb4 rb
     go_wp2_with fail
     (with_reducible refine HB.out.mono ?_);rintro e w7 R
     have E0:=HTB.out
     rw[←hn.out,←hm.out]at E0
     rw[←E0]at R
     clear E0
     replace R:=Lib.hid R
     obtain⟨a7,c7,rfl,hb7⟩:=R.out
     obtain⟨N,hN⟩:∃N,N=TB.length:=⟨_,rfl⟩
     rw[←hN]at R ⊢
     clear hN hb7
     go_wp2_with fail
     go_ret
     exact R.out
def MT.out(t:MT):List UInt8:=if t.err=0 then t.bytes else []
theorem MT.au3{t:MT}(h:t.long=false):t.small=true:=by
 rw[MT.long,decide_eq_false_iff_not]at h
 rw[MT.small,decide_eq_true_iff]
 refine⟨Nat.le_of_not_lt λe=>h aPl,Nat.le_of_not_lt λe=>h aPl,λx hx=>Nat.le_of_not_lt λe=>h (.inr (.inr (.inl ⟨x,hx,by omega⟩))),λx hx=>Nat.le_of_not_lt λe=>h (.inr (.inr (.inr ⟨x,hx,by omega⟩)))⟩
def agz(t:MT)(w:World)(e:Ending)(w':World):Prop :=
 ∃a n c,e = .returned (.tuple #[.slice a n c,.int .i64 t.err])∧n=t.out.length∧Bs w' a c t.out∧Fr F0 w w'∧∀k,ql a=some k→w.heap.size≤k
theorem agz.no{t:MT}{w w':World}{E:Int}(h:t.err=E)(h0:E≠0)(f:Fr F0 w w'):agz t w (.returned (.tuple #[.slice none 0 0,.int .i64 E])) w':=by
 have e:t.out = []:=by rw[MT.out,if_neg aPl]
 exact⟨none,0,0,by rw[h],by rw[e];rfl,by rw[e];exact Bs.nothing _,f,λk hk=>by cases hk⟩
theorem al9(t:TT)(w:World)(h:t.Ok w):Calls Tryz.prog 21 #[.agg t.cells] w (agz t.m w):=by
 have H:=Lib.hid h
 have HF:=Lib.hid (λw' (f:Fr F0 w w')=>au0 t w' (h.fr f))
 have HL:=Lib.hid (λw' (f:Fr F0 w w')=>aBu t w' (h.fr f))
 have HO:=Lib.hid (λw' (f:Fr F0 w w')=>apg t w' (h.fr f))
 have HW:=Lib.hid (λw' (f:Fr F0 w w') (hs:t.m.small=true)=>aqm t w' (h.fr f) hs)
 have HZ:=Lib.hid (λn w'=>akh n w')
 obtain⟨v0,v1,v2,v3,hc⟩:∃v0 v1 v2 v3,t.cells=#[v0,v1,v2,v3]:=⟨_,_,_,_,rfl⟩
 rw[hc]at HF HL HO HW ⊢
 have r0:=heap_alloc_new w (.cells #[v0,v1,v2,v3] 59)
 have F:=(Fr.refl F0 w).alloc (.cells #[v0,v1,v2,v3] 59)
 clear h hc
 generalize hm:t.m=M at *
 cases q1:M.few with
 |true =>
  rw[q1]at HF
  have hE:M.err=16:=by simp[MT.err,q1]
  clear HL HO HW HZ
  go_enter Tryz.func21,Tryz.ntmps21
  go_wp2_with fail
  (with_reducible refine(HF.out _ F).mono ?_);rintro e w2 ⟨rfl,f2⟩
  replace F:=F.trans' f2
  go_wp2_with fail
  go_ret2
  exact agz.no hE aPl F
 |false =>
 rw[q1]at HF
 cases q2:M.long with
 |true =>
  rw[q2]at HL
  have hE:M.err=3:=by simp[MT.err,q1,q2]
  clear HO HW HZ
  go_enter Tryz.func21,Tryz.ntmps21
  go_wp2_with fail
  (with_reducible refine(HF.out _ F).mono ?_);rintro e w2 ⟨rfl,f2⟩
  replace F:=F.trans' f2
  replace r0:=au f2 r0
  go_wp2_with fail
  (with_reducible refine(HL.out _ F).mono ?_);rintro e w3 ⟨rfl,f3⟩
  replace F:=F.trans' f3
  go_wp2_with fail
  go_ret2
  exact agz.no hE aPl F
 |false =>
 rw[q2]at HL
 have HW2:=Lib.hid (λw' f=>HW.out w' f (MT.au3 q2))
 clear HW
 obtain⟨N,hN⟩:∃N,N=M.bytes.length:=⟨_,rfl⟩
 replace HZ:=Lib.hid (HZ.out N)
 cases q3:szT M.bytes.length with
 |false =>
  have hE:M.err=3:=by simp[MT.err,q1,q2,q3]
  rw[←hN]at q3
  rw[q3]at HZ
  replace hN:=Lib.hid hN
  clear HO
  go_enter Tryz.func21,Tryz.ntmps21
  go_wp2_with fail
  (with_reducible refine(HF.out _ F).mono ?_);rintro e w2 ⟨rfl,f2⟩
  replace F:=F.trans' f2
  replace r0:=au f2 r0
  clear HF
  go_wp2_with fail
  (with_reducible refine(HL.out _ F).mono ?_);rintro e w3 ⟨rfl,f3⟩
  replace F:=F.trans' f3
  replace r0:=au f3 r0
  clear HL
  go_wp2_with fail
  (with_reducible refine(HW2.out _ F).mono ?_);rintro e w4 ⟨a4,c4,rfl,hb4,f4,n4⟩
  replace F:=F.trans' f4
  clear hb4 n4 HW2
  rw[←hN.out]
  go_wp2_with fail
  (with_reducible refine(HZ.out _).mono ?_);rintro e w5 ⟨rfl,rfl⟩
  go_wp2_with fail
  go_ret2
  exact agz.no hE aPl F
 |true =>
 have q3':=q3
 rw[←hN]at q3'
 rw[q3']at HZ
 cases q4:M.over with
 |true =>
  rw[q4]at HO
  have hE:M.err=4:=by simp[MT.err,q1,q2,q3,q4]
  replace hN:=Lib.hid hN
  go_enter Tryz.func21,Tryz.ntmps21
  go_wp2_with fail
  (with_reducible refine(HF.out _ F).mono ?_);rintro e w2 ⟨rfl,f2⟩
  replace F:=F.trans' f2
  replace r0:=au f2 r0
  clear HF
  go_wp2_with fail
  (with_reducible refine(HL.out _ F).mono ?_);rintro e w3 ⟨rfl,f3⟩
  replace F:=F.trans' f3
  replace r0:=au f3 r0
  clear HL
  go_wp2_with fail
  (with_reducible refine(HW2.out _ F).mono ?_);rintro e w4 ⟨a4,c4,rfl,hb4,f4,n4⟩
  replace F:=F.trans' f4
  replace r0:=au f4 r0
  clear hb4 n4 HW2
  rw[←hN.out]
  go_wp2_with fail
  (with_reducible refine(HZ.out _).mono ?_);rintro e w5 ⟨rfl,rfl⟩
  go_wp2_with fail
  (with_reducible refine(HO.out _ F).mono ?_);rintro e w6 ⟨rfl,f6⟩
  replace F:=F.trans' f6
  go_wp2_with fail
  go_ret2
  exact agz.no hE aPl F
 |false =>
  rw[q4]at HO
  have hE:M.err=0:=by simp[MT.err,q1,q2,q3,q4]
  replace hN:=Lib.hid hN
  go_enter Tryz.func21,Tryz.ntmps21
  go_wp2_with fail
  (with_reducible refine(HF.out _ F).mono ?_);rintro e w2 ⟨rfl,f2⟩
  replace F:=F.trans' f2
  replace r0:=au f2 r0
  clear HF
  go_wp2_with fail
  (with_reducible refine(HL.out _ F).mono ?_);rintro e w3 ⟨rfl,f3⟩
  replace F:=F.trans' f3
  replace r0:=au f3 r0
  clear HL
  go_wp2_with fail
  have hs3:=Lib.hid F.size
  (with_reducible refine(HW2.out _ F).mono ?_);rintro e w4 ⟨a4,c4,rfl,hb4,f4,n4⟩
  replace F:=F.trans' f4
  replace r0:=au f4 r0
  have HB:=Lib.hid (And.intro hb4 n4)
  clear hb4 n4 HW2
  rw[←hN.out]
  go_wp2_with fail
  (with_reducible refine(HZ.out _).mono ?_);rintro e w5 ⟨rfl,rfl⟩
  go_wp2_with fail
  (with_reducible refine(HO.out _ F).mono ?_);rintro e w6 ⟨rfl,f6⟩
  replace F:=F.trans' f6
  go_wp2_with fail
  go_ret2
  refine⟨a4,N,c4,by rw[hE];rfl,?_,?_,F,λk hk=>Nat.le_trans hs3.out (HB.out.2 k hk).1⟩
  ·rw[MT.out,if_pos hE,hN.out]
  ·rw[MT.out,if_pos hE];exact Bs.fr7 HB.out.1 f6
def rW(st:Option (List UInt8)):Nat×Option (List UInt8):=(ofLE (tk 4 st).1,(tk 4 st).2)
def wu:List UInt8:=List.replicate 32 0
def ak8(l:List UInt8):List UInt8:=if l.length=32 then l else wu
theorem agq(l:List UInt8):(ak8 l).length=32:=by unfold ak8;split;assumption;rfl
def rIn(st:Option (List UInt8)):MI×Option (List UInt8) :=
 (⟨ak8 (tk 32 st).1,(rW (tk 32 st).2).1,(aa7 520 (rW (tk 32 st).2).2).1,(rW (aa7 520 (rW (tk 32 st).2).2).2).1⟩,(rW (aa7 520 (rW (tk 32 st).2).2).2).2)
def afc(st:Option (List UInt8)):MO×Option (List UInt8):=(⟨ofLE (tk 8 st).1,(aa7 520 (tk 8 st).2).1⟩,(aa7 520 (tk 8 st).2).2)
def uh{α:Type}(f:Option (List UInt8)→α×Option (List UInt8)):Nat→Option (List UInt8)→List α×Option (List UInt8)
 |0,st=>([],st)
 |n+1,st=>((uh f n st).1 ++ [(f (uh f n st).2).1],(f (uh f n st).2).2)
def rTx(st:Option (List UInt8)):MT×Option (List UInt8) :=
 let v:=rW st
 let n:=rc 64 v.2
 let i:=uh rIn n.1 n.2
 let m:=rc 64 i.2
 let o:=uh afc m.1 m.2
 let l:=rW o.2
 (⟨v.1,i.1,o.1,l.1⟩,l.2)
theorem ag0(m:Int)(st:Option (List UInt8)):lft (aa7 m st).2≤lft st:=by
 unfold aa7
 split
 ·simp[lft]
 ·have h1:=(agy ((rc m.toNat st).1:Int) (rc m.toNat st).2).2
  have h2:=aib m.toNat st
  omega
theorem af2(st:Option (List UInt8)):lft (rW st).2≤lft st:=(agy 4 st).2
theorem aAl(st:Option (List UInt8)):lft (rIn st).2≤lft st:=by
 have h1:=(agy 32 st).2
 have h2:=af2 (tk 32 st).2
 have h3:=ag0 520 (rW (tk 32 st).2).2
 have h4:=af2 (aa7 520 (rW (tk 32 st).2).2).2
 show lft (rW (aa7 520 (rW (tk 32 st).2).2).2).2≤_
 omega
theorem avb(st:Option (List UInt8)):lft (afc st).2≤lft st:=by
 have h1:=(agy 8 st).2
 have h3:=ag0 520 (tk 8 st).2
 show lft (aa7 520 (tk 8 st).2).2≤_
 omega
theorem ab6{α:Type}(f:Option (List UInt8)→α×Option (List UInt8))(hf:∀st,lft (f st).2≤lft st):∀(n:Nat) (st:Option (List UInt8)),lft (uh f n st).2≤lft st
 |0,st=>Nat.le_refl _
 |n+1,st=>Nat.le_trans (hf _) (ab6 f hf n st)
theorem aar{α:Type}(f:Option (List UInt8)→α×Option (List UInt8)):∀(n:Nat) (st:Option (List UInt8)),(uh f n st).1.length=n
 |0,st=>rfl
 |n+1,st=>by simp[uh,aar f n st]
theorem acg(st:Option (List UInt8)):ofLE (tk 4 st).1<4294967296:=by
 have h1:=aK6 4 st aPl
 have h2:=adv (tk 4 st).1
 have h3:256 ^ (tk 4 st).1.length≤256 ^ 4:=Nat.pow_le_pow_right aPl aPl
 omega
theorem aJo(st:Option (List UInt8)):ofLE (tk 8 st).1<18446744073709551616:=by
 have h1:=aK6 8 st aPl
 have h2:=adv (tk 8 st).1
 have h3:256 ^ (tk 8 st).1.length≤256 ^ 8:=Nat.pow_le_pow_right aPl aPl
 omega
theorem ag5(B b:Nat)(st:Option (List UInt8))(w:World)(h:RdI B b st w)(hl:lft st≤1000000):
  Calls Tryz.prog 119 #[.pointer (some ⟨b,0,none⟩)] w λe w'=>e = .returned (.int .u32 ((rW st).1:Int))∧RdI B b (rW st).2 w'∧Fr (λk=>k=b) w w':=by
 have HG:=Lib.hid (h.get 4 rfl hl)
 have hx:=acg st
 have h1:(rW st).1=ofLE (tk 4 st).1:=rfl
 have h2:(rW st).2=(tk 4 st).2:=rfl
 rw[h1,h2]
 generalize ofLE (tk 4 st).1=x at *
 generalize (tk 4 st).2=st' at *
 have hw:IntKind.u32.wrap (x:Int)=(x:Int):=by rw[IntWalk.u32_in _ aPl]
 clear h h1 h2 hl
 go_enter Tryz.func119,Tryz.ntmps119
 go_wp2_with fail
 (with_reducible refine HG.out.mono ?_);rintro e w2 ⟨rfl,R2,f2⟩
 go_wp2_with fail
 go_ret
 exact⟨rfl,R2,f2⟩
theorem au7(x:Int)(a:Option Addr)(n c:Nat):jh #[.int .u64 x,.slice a n c]:=by
 unfold jh
 rw[Array.all_eq_true_iff_forall_mem]
 intro v hv
 simp only[List.mem_toArray,List.mem_cons,List.not_mem_nil,or_false]at hv
 rcases hv with rfl|rfl<;>rfl
theorem Bs.frx{w w':World}{S:Nat→Prop}{a:Option Addr}{c:Nat}{l:List UInt8}(h:Bs w a c l)(f:Fr S w w')(hs:l ≠ []→∀k,ql a=some k→¬S k):Bs w' a c l :=
 Sl.frn h f λhx=>hs λe=>hx (by rw[e];rfl)
theorem RdI.lt{B b:Nat}{st:Option (List UInt8)}{w:World}(h:RdI B b st w):b<B:=h.choose_spec.2.1
theorem aqn(B b:Nat)(st:Option (List UInt8))(w:World)(h:RdI B b st w)(hB:B≤w.heap.size)(hl:lft st≤1000000):
  Calls Tryz.prog 121 #[.pointer (some ⟨b,0,none⟩)] w λe w'=>∃t:TO,e = .returned (.agg t.row.toArray)∧t.Ok w'∧t.m=(afc st).1∧RdI B b (afc st).2 w'∧Fr (λk=>k=b) w w'∧∀k,ql t.a=some k→w.heap.size≤k:=by
 have hx:=aJo st
 have hl2:=(agy 8 st).2
 have e1:(afc st).1=⟨ofLE (tk 8 st).1,(aa7 520 (tk 8 st).2).1⟩:=rfl
 have e2:(afc st).2=(aa7 520 (tk 8 st).2).2:=rfl
 rw[e1,e2]
 clear e1 e2
 have hbB:=h.lt
 have HG:=Lib.hid (λW (f:Fr F0 w W)=>(h.fr0 f).get 8 rfl hl)
 have HC:=Lib.hid (λW (r:RdI B b (tk 8 st).2 W)=>r.counted 520 aPl aPl)
 generalize ofLE (tk 8 st).1=x at *
 generalize (tk 8 st).2=s1 at *
 generalize (aa7 520 s1).1=ky at *
 generalize (aa7 520 s1).2=s2 at *
 clear h hl hl2
 go_enter Tryz.func121,Tryz.ntmps121
 go_upto_region 1 with fail
 refine lu λW1 N1=>?_
 have r2:=N1.new
 have F:=N1.fr
 obtain⟨g2,hg2⟩:∃g,g=w.heap.size:=⟨_,rfl⟩
 rw[←hg2]at r2 ⊢
 clear N1
 go_upto_region 2 with fail
 refine lu λW2 N2=>?_
 have r3:=N2.new
 have ne:=N2.ne r2
 replace r2:=N2.old r2
 obtain⟨g3,hg3⟩:∃g,g=W1.heap.size:=⟨_,rfl⟩
 rw[←hg3]at r3 ne ⊢
 have hs3:w.heap.size≤g3:=by rw[hg3];exact F.size
 replace F:=F.trans' N2.fr
 have nb2:g2≠b:=by omega
 have nb3:g3≠b:=by omega
 have hs:=Lib.hid (show w.heap.size≤g3∧w.heap.size≤g2 by omega)
 clear N2 hg2 hg3 hs3
 go_wp2_with fail
 (with_reducible refine(HG.out _ F).mono ?_);rintro e w3 ⟨rfl,R3,f3⟩
 replace r2:=f3.keeps (λe=>nb2 e) r2
 replace r3:=f3.keeps (λe=>nb3 e) r3
 replace F:=F.of0.trans' f3
 clear HG f3
 go_wp2_with fail
 refine aaw r3 λW4 r4 f4=>?_
 have R4:=R3.fr f4 (λk e=>by have:=hs.out;omega)
 replace r2:=f4.keeps (λe=>ne e) r2
 replace F:=F.trans f4 (λi hi e=>by have:=hs.out;omega)
 clear f4 r3 R3
 have hL:=Lib.hid (show g2<W4.heap.size∧g3<W4.heap.size from⟨(Array.getElem?_eq_some_iff.1 r2).1,(Array.getElem?_eq_some_iff.1 r4).1⟩)
 (with_reducible refine(HC.out _ R4).mono ?_);rintro e w5 ⟨a5,c5,rfl,hb5,R5,f5,n5⟩
 replace r2:=f5.keeps (λe=>nb2 e) r2
 replace r4:=f5.keeps (λe=>nb3 e) r4
 have sW:=Lib.hid (show w.heap.size≤W4.heap.size from F.size)
 replace F:=F.trans' f5
 have HH:=Lib.hid (And.intro hb5 (And.intro R5 n5))
 clear HC f5 R4 hb5 R5 n5
 obtain⟨n,hn⟩:∃n,n=ky.length:=⟨_,rfl⟩
 rw[←hn]
 replace hn:=Lib.hid hn
 replace r4:w5.heap[g3]? = some (.cells #[.int .u64 (x:Int),.slice none 0 0] 126 (0,0)):=r4
 have o2:=au7 (x:Int) a5 n c5
 go_wp2_with fail
 refine bodyPost_ret (results_cell_row rfl _ _ g2 _ _ _ _ rfl (by rw[jc,dn _ _ _ _ _ ne,r2];rfl) Tryz.underlying126 rfl (by rw[Tryz.szTOut];rfl)) rfl ?_
 have fE:Fr (λk=>k=g3∨k=g2) w5 ((w5.setCell ⟨g3,1,none⟩ (.slice a5 n c5)).setRow g2 #[.int .u64 (x:Int),.slice a5 n c5]) :=
  ((Fr.refl _ w5).setCell (p:=⟨g3,1,none⟩) (λ_ => .inl rfl) _).setRow (λ_ => .inr rfl) _
 refine⟨⟨⟨x,ky⟩,a5,c5⟩,by rw[hn.out];rfl,⟨⟨hx⟩,HH.out.1.frx fE λ_ k hk e=>?_⟩,rfl,HH.out.2.1.fr fE (λk e=>by have:=hs.out;omega),F.trans fE (λi hi e=>by have:=hs.out;omega),λk hk=>Nat.le_trans sW.out (HH.out.2.2 k hk)⟩
 have h1:=HH.out.2.2 k hk
 have h2:=hs.out
 have h3:=hL.out
 omega
def adp(fr:List UInt8)(v32 v33 v34:Value):Array Value:=(fr.map B8 ++ [v32,v33,v34]).toArray
theorem TIx.adp(t:TIx):t.row.toArray=adp t.m.fr (.int .u32 (t.m.ix:Int)) (.slice t.a t.m.ky.length t.c) (.int .u32 (t.m.sq:Int)):=rfl
theorem ab5{fr:List UInt8}(h:fr.length=32)(a b c:Value):(adp fr a b c).size=35:=by simp[adp,h]
theorem aLz{fr:List UInt8}(h:fr.length=32)(a b c:Value):(adp fr a b c)[32]? = some a:=by simp[adp,h]
theorem aLy{fr:List UInt8}(h:fr.length=32)(a b c:Value):(adp fr a b c)[33]? = some b:=by simp[adp,h]
theorem aLx{fr:List UInt8}(h:fr.length=32)(a b c:Value):(adp fr a b c)[34]? = some c:=by simp[adp,h]
theorem aGf{fr:List UInt8}(h:fr.length=32)(a b c v:Value):(adp fr a b c).setIfInBounds 32 v=adp fr v b c:=by
 simp only[adp,List.setIfInBounds_toArray];rw[List.set_append_right _ _ (by simp[h])];simp[h]
theorem aGe{fr:List UInt8}(h:fr.length=32)(a b c v:Value):(adp fr a b c).setIfInBounds 33 v=adp fr a v c:=by
 simp only[adp,List.setIfInBounds_toArray];rw[List.set_append_right _ _ (by simp[h])];simp[h]
theorem aGd{fr:List UInt8}(h:fr.length=32)(a b c v:Value):(adp fr a b c).setIfInBounds 34 v=adp fr a b v:=by
 simp only[adp,List.setIfInBounds_toArray];rw[List.set_append_right _ _ (by simp[h])];simp[h]
theorem aGg(fr:List UInt8)(i:Int)(a:Option Addr)(n c:Nat)(q:Int):jh (adp fr (.int .u32 i) (.slice a n c) (.int .u32 q)):=by
 unfold jh
 rw[Array.all_eq_true_iff_forall_mem]
 intro v hv
 simp only[adp,List.mem_toArray,List.mem_append,List.mem_map,List.mem_cons,List.not_mem_nil,or_false]at hv
 rcases hv with⟨_,_,rfl⟩|rfl|rfl|rfl<;>rfl
theorem zeroI:adp wu (.int .u32 0) (.slice none 0 0) (.int .u32 0)=#[.int .u8 0,.int .u8 0,.int .u8 0,.int .u8 0,.int .u8 0,.int .u8 0,.int .u8 0,.int .u8 0,.int .u8 0,.int .u8 0,.int .u8 0,.int .u8 0,.int .u8 0,.int .u8 0,.int .u8 0,.int .u8 0,
 .int .u8 0,.int .u8 0,.int .u8 0,.int .u8 0,.int .u8 0,.int .u8 0,.int .u8 0,.int .u8 0,.int .u8 0,.int .u8 0,.int .u8 0,.int .u8 0,.int .u8 0,.int .u8 0,.int .u8 0,.int .u8 0,.int .u32 0,.slice none 0 0,.int .u32 0]:=rfl
theorem as3{w:World}{g c:Nat}{a:Option Addr}{l m:List UInt8}{v32 v33 v34:Value}{ty:TypeId}(hg:w.heap[g]? = some (.cells (adp m v32 v33 v34) 124 (0,0)))(hm:m.length=32)(hl:l.length=32)(hb:Bs w a c l):
  (Builtin.copy_ #[22,22] ty #[.slice (some ⟨g,0,none⟩) 32 32,.slice a 32 c]).run Tryz.prog w = .ok (.int .i64 32) (w.setRow g (adp l v32 v33 v34)):=by
 obtain⟨b,off,rfl,_⟩:=hb.at 0 aPl
 have key:=run_copy_row (P:=Tryz.prog) w 22 22 ty 5 g 0 32 32 ⟨b,off,none⟩ 32 c (adp m v32 v33 v34) 124 (l.map B8) Tryz.underlying22 (by kernel_rfl) hg (by simp[hl]) (λj v hj=>by
   obtain⟨b',o',e,hc⟩:=hb.cell j v hj
   cases e
   rw[Addr.add_lit]
   exact hc) (by simp[hl,ab5 hm]) zz38
 rw[key]
 have e:((adp m v32 v33 v34).toList.take 0++l.map B8++(adp m v32 v33 v34).toList.drop (0+(l.map B8).length)).toArray=adp l v32 v33 v34:=by
  rw[List.take_zero,List.nil_append,List.length_map,hl]
  simp[adp,hm,List.drop_append]
 rw[e]
 simp[goInt,hl]
theorem auf{P:Program}{c:Code}{Q:Exit→Act→World→Prop}{a:Act}{w:World}{g:Nat}{c0 cs:Array Value}{t:TypeId}{fr:Nat×Nat}(h:w.heap[g]? = some (.cells cs t fr))
  (k:∀W,W.heap[g]? = some (.cells c0 t fr)→Fr (λk=>k=g) w W→Code.wp P c Q a W):Code.wp P c Q a (w.setRow g c0) :=
 k _ (qp h) (Fr.setRow (S:=λk=>k=g) (Fr.refl _ _) (λ_=>rfl) _)
theorem aej{P:Program}{c:Code}{Q:Exit→Act→World→Prop}{a:Act}{w:World}{g i:Nat}{v:Value}{cs:Array Value}{t:TypeId}{fr:Nat×Nat}(h:w.heap[g]? = some (.cells cs t fr))
  (k:∀W,W.heap[g]? = some (.cells (cs.setIfInBounds i v) t fr)→Fr (λk=>k=g) w W→Code.wp P c Q a W):Code.wp P c Q a (w.setCell ⟨g,i,none⟩ v) :=
 k _ (by rw[gq,h];rfl) (Fr.setCell (S:=λk=>k=g) (Fr.refl _ _) (p:=⟨g,i,none⟩) (λ_=>rfl) _)
theorem akk{w:World}{g:Nat}{cs:Array Value}{t:TypeId}{fr:Nat×Nat}(h:w.heap[g]? = some (.cells cs t fr)):w.setRow g cs=w:=by
 cases w with
 |mk heap a b c d =>
 unfold World.setRow
 congr 1
 apply Array.ext_getElem?
 intro i
 rw[Array.getElem?_modify]
 split
 ·rename_i e
  subst e
  simp only at h
  rw[h]
  rfl
 ·rfl
theorem as4{w:World}{g c n:Nat}{a:Option Addr}{l:List UInt8}{v32 v33 v34:Value}{ty:TypeId}(hg:w.heap[g]? = some (.cells (adp wu v32 v33 v34) 124 (0,0)))(hl:l = []∨l.length=32)(hn:n=l.length)(hb:Bs w a c l):
  (Builtin.copy_ #[22,22] ty #[.slice (some ⟨g,0,none⟩) 32 32,.slice a n c]).run Tryz.prog w = .ok (.int .i64 (n:Int)) (w.setRow g (adp (ak8 l) v32 v33 v34)):=by
 subst hn
 rcases hl with rfl|hl
 ·rw[show ak8 []=wu from rfl,akk hg]
  exact run_copy_none (P:=Tryz.prog) w 22 22 ty 5 (some ⟨g,0,none⟩) a 32 32 0 c Tryz.underlying22 (by kernel_rfl) rfl
 ·rw[show ak8 l=l from if_pos hl,hl]
  exact as3 hg rfl hl hb
theorem tk32(st:Option (List UInt8)):(tk 32 st).1 = []∨(tk 32 st).1.length=32:=by
 unfold tk
 cases st with
 |none=>exact .inl rfl
 |some bs =>
  dsimp only
  split
  ·right
   simp
   omega
  ·exact .inl rfl
theorem asx(B b:Nat)(st:Option (List UInt8))(w:World)(h:RdI B b st w)(hB:B≤w.heap.size)(hl:lft st≤1000000):
  Calls Tryz.prog 120 #[.pointer (some ⟨b,0,none⟩)] w λe w'=>∃t:TIx,e = .returned (.agg t.row.toArray)∧t.Ok w'∧t.m=(rIn st).1∧RdI B b (rIn st).2 w'∧Fr (λk=>k=b) w w'∧∀k,ql t.a=some k→w.heap.size≤k:=by
 have hl1:=(agy 32 st).2
 have hl2:=af2 (tk 32 st).2
 have hl3:=ag0 520 (rW (tk 32 st).2).2
 have e1:(rIn st).1=⟨ak8 (tk 32 st).1,(rW (tk 32 st).2).1,(aa7 520 (rW (tk 32 st).2).2).1,(rW (aa7 520 (rW (tk 32 st).2).2).2).1⟩:=rfl
 have e2:(rIn st).2=(rW (aa7 520 (rW (tk 32 st).2).2).2).2:=rfl
 rw[e1,e2]
 clear e1 e2
 have hbB:=h.lt
 have HR:=Lib.hid (λW (f:Fr F0 w W)=>(h.fr0 f).raw 32 hl)
 have HW1:=Lib.hid (λW (r:RdI B b (tk 32 st).2 W)=>ag5 B b _ W r aPl)
 have HC:=Lib.hid (λW (r:RdI B b (rW (tk 32 st).2).2 W)=>r.counted 520 aPl aPl)
 have HW2:=Lib.hid (λW (r:RdI B b (aa7 520 (rW (tk 32 st).2).2).2 W)=>ag5 B b _ W r aPl)
 have x1:=acg (tk 32 st).2
 have x2:=acg (aa7 520 (rW (tk 32 st).2).2).2
 replace x1:(rW (tk 32 st).2).1<4294967296:=x1
 replace x2:(rW (aa7 520 (rW (tk 32 st).2).2).2).1<4294967296:=x2
 have ht:=tk32 st
 generalize (rW (aa7 520 (rW (tk 32 st).2).2).2).1=sq at *
 generalize (rW (aa7 520 (rW (tk 32 st).2).2).2).2=s4 at *
 generalize (aa7 520 (rW (tk 32 st).2).2).1=ky at *
 generalize (aa7 520 (rW (tk 32 st).2).2).2=s3 at *
 generalize (rW (tk 32 st).2).1=ix at *
 generalize (rW (tk 32 st).2).2=s2 at *
 generalize (tk 32 st).1=rw at *
 generalize (tk 32 st).2=s1 at *
 clear h hl hl2 hl1 hl3
 have z35:=ab5 (fr:=wu) rfl (.int .u32 0) (.slice none 0 0) (.int .u32 0)
 obtain⟨Z,hZ⟩:∃Z,Z=adp wu (.int .u32 0) (.slice none 0 0) (.int .u32 0):=⟨_,rfl⟩
 rw[←hZ]at z35
 have HZ:=Lib.hid hZ
 rw[zeroI]at hZ
 replace hZ:=Lib.hid hZ
 go_enter Tryz.func120,Tryz.ntmps120
 go_upto_region 1 with fail
 refine lu λW1 N1=>?_
 have r2:=N1.new
 rw[←hZ.out]at r2
 have F:=N1.fr
 obtain⟨g2,hg2⟩:∃g,g=w.heap.size:=⟨_,rfl⟩
 rw[←hg2]at r2 ⊢
 clear N1
 go_upto_region 2 with fail
 refine lu λW2 N2=>?_
 have r3:=N2.new
 rw[←hZ.out]at r3
 have ne:=N2.ne r2
 replace r2:=N2.old r2
 obtain⟨g3,hg3⟩:∃g,g=W1.heap.size:=⟨_,rfl⟩
 rw[←hg3]at r3 ne ⊢
 have hs3:w.heap.size≤g3:=by rw[hg3];exact F.size
 replace F:=F.trans' N2.fr
 have nb2:g2≠b:=by omega
 have nb3:g3≠b:=by omega
 have hs:=Lib.hid (show w.heap.size≤g3∧w.heap.size≤g2 by omega)
 clear N2 hg2 hg3 hs3
 obtain⟨rn,hrn⟩:∃n,n=rw.length:=⟨_,rfl⟩
 rw[←hrn]at HR
 replace hrn:=Lib.hid hrn
 refine jm (S:=(λw'=>True)) ?_ λak=>?_
 ·exact ark
 refine aj 0 ?_
 refine aj 1 ?_
 refine aj 2 ?_
 refine jf 3 λK hK=>?_
 go_simp
 ((with_reducible refine(HR.out _ F.drew).mono ?_);rintro e w3 ⟨a3,c3,rfl,hb3,R3,f3,n3⟩;have r3':=f3.keeps (λe=>nb3 e) (ku r3);rw[HZ.out]at r3';have hcp:=λty=>as4 (ty:=ty) (c:=c3) r3' ht hrn.out hb3)
 refine rpu hK ark λak=>?_
 clear hK K
 refine jf 4 λK hK=>?_
 go_simp
 refine rpu hK ark λak=>?_
 clear hK K
 refine jg ?_
 have hfr:=agq rw
 obtain⟨fr,hfr0⟩:∃fr,fr=ak8 rw:=⟨_,rfl⟩
 rw[←hfr0]at hcp hfr ⊢
 replace hfr0:=Lib.hid hfr0
 have r2':=f3.keeps (λe=>nb2 e) (ku r2)
 have F3:Fr (λk=>k=b) w w3:=F.drew.of0.trans' f3
 have sw:=Lib.hid (show W2.heap.size≤w3.heap.size from f3.size)
 clear HR f3 n3 hb3 hcp
 go_upto_region 3 with fail
 refine auf r3' λW5 r5 f5=>?_
 have R5:=R3.fr f5 (λk e=>by have:=hs.out;omega)
 replace r2:=f5.keeps (λe=>ne e) r2'
 have F5:Fr (λk=>k=b) w W5:=F3.trans f5 (λi hi e=>by have:=hs.out;omega)
 clear r2' r3' r3 F F3 f5 R3
 have c32:=aLz hfr (.int .u32 0) (.slice none 0 0) (.int .u32 0)
 have z5:=ab5 hfr (.int .u32 0) (.slice none 0 0) (.int .u32 0)
 go_wp2_with fail
 (with_reducible refine(HW1.out _ R5).mono ?_);rintro e w6 ⟨rfl,R6,f6⟩
 replace r2:=f6.keeps (λe=>nb2 e) r2
 replace r5:=f6.keeps (λe=>nb3 e) r5
 replace F5:=F5.trans' f6
 clear f6 R5 HW1
 go_wp2_with fail
 refine aaw r5 λW7 r7 f7=>?_
 rw[aGf hfr]at r7
 have R7:=R6.fr f7 (λk e=>by have:=hs.out;omega)
 replace r2:=f7.keeps (λe=>ne e) r2
 have F7:Fr (λk=>k=b) w W7:=F5.trans f7 (λi hi e=>by have:=hs.out;omega)
 have s7:=Lib.hid (show w.heap.size≤W7.heap.size∧g2<W7.heap.size∧g3<W7.heap.size from⟨F7.size,(Array.getElem?_eq_some_iff.1 r2).1,(Array.getElem?_eq_some_iff.1 r7).1⟩)
 clear f7 r5 F5 c32 z5 R6
 have c33:=aLy hfr (.int .u32 (ix:Int)) (.slice none 0 0) (.int .u32 0)
 have z7:=ab5 hfr (.int .u32 (ix:Int)) (.slice none 0 0) (.int .u32 0)
 (with_reducible refine(HC.out _ R7).mono ?_);rintro e w8 ⟨a8,c8,rfl,hb8,R8,f8,n8⟩
 replace r2:=f8.keeps (λe=>nb2 e) r2
 replace r7:=f8.keeps (λe=>nb3 e) r7
 replace F7:=F7.trans' f8
 clear f8 R7 HC
 replace n8:=Lib.hid n8
 obtain⟨kn,hkn⟩:∃n,n=ky.length:=⟨_,rfl⟩
 rw[←hkn]
 replace hkn:=Lib.hid hkn
 go_wp2_with fail
 refine aaw r7 λW9 r9 f9=>?_
 rw[aGe hfr]at r9
 have R9:=R8.fr f9 (λk e=>by have:=hs.out;omega)
 replace r2:=f9.keeps (λe=>ne e) r2
 have F9:Fr (λk=>k=b) w W9:=F7.trans f9 (λi hi e=>by have:=hs.out;omega)
 have hb9:=hb8.frx f9 (λ_ k hk e=>by have h1:=n8.out k hk;have h2:=s7.out;omega)
 clear f9 r7 F7 c33 z7 R8 hb8
 have c34:=aLx hfr (.int .u32 (ix:Int)) (.slice a8 kn c8) (.int .u32 0)
 have z9:=ab5 hfr (.int .u32 (ix:Int)) (.slice a8 kn c8) (.int .u32 0)
 (with_reducible refine(HW2.out _ R9).mono ?_);rintro e w10 ⟨rfl,R10,f10⟩
 replace r2:=f10.keeps (λe=>nb2 e) r2
 replace r9:=f10.keeps (λe=>nb3 e) r9
 replace F9:=F9.trans' f10
 have ay7:=hb9.frx f10 (λ_ k hk e=>by have h1:=n8.out k hk;have h2:=s7.out;omega)
 clear f10 R9 HW2 hb9
 go_upto_region 6 with fail
 refine aej r9 λW11 r11 f11=>?_
 rw[aGd hfr]at r11
 have R11:=R10.fr f11 (λk e=>by have:=hs.out;omega)
 replace r2:=f11.keeps (λe=>ne e) r2
 have F11:Fr (λk=>k=b) w W11:=F9.trans f11 (λi hi e=>by have:=hs.out;omega)
 have hb11:=ay7.frx f11 (λ_ k hk e=>by have h1:=n8.out k hk;have h2:=s7.out;omega)
 clear f11 r9 F9 c34 z9 R10 ay7
 have z11:=ab5 hfr (.int .u32 (ix:Int)) (.slice a8 kn c8) (.int .u32 (sq:Int))
 have o11:=aGg fr (ix:Int) a8 kn c8 (sq:Int)
 go_wp2_with fail
 refine bodyPost_ret (results_cell_row rfl _ _ g2 _ _ _ _ rfl zz64 Tryz.underlying124 rfl (by rw[Tryz.szTIn,z11])) rfl ?_
 have fE:Fr (λk=>k=g2) W11 (W11.setRow g2 (adp fr (.int .u32 (ix:Int)) (.slice a8 kn c8) (.int .u32 (sq:Int)))):=Fr.setRow (S:=λk=>k=g2) (Fr.refl _ W11) (λ_=>rfl) _
 refine⟨⟨⟨fr,ix,ky,sq⟩,a8,c8⟩,by rw[hkn.out];rfl,⟨⟨hfr,x1,x2⟩,hb11.frx fE λ_ k hk e=>?_⟩,by rw[←hfr0.out],R11.fr fE (λk e=>by have:=hs.out;omega),F11.trans fE (λi hi e=>by have:=hs.out;omega),λk hk=>Nat.le_trans s7.out.1 (n8.out k hk)⟩
 have h1:=n8.out k hk
 have h2:=s7.out
 omega
end Go.Proofs.YtjlelckefiannaaGreatDoor
namespace Go.Proofs.YtjlelckefiannaaGreatDoor
set_option linter.unusedVariables false
set_option linter.unusedSimpArgs false
open Go.RowKit Go.Shelf
attribute [local go_sem] Oper.semAt_some
structure Ch where
 x:TO
 a:Option Addr
 c:Nat
def Ch.lk(h:Ch):Array Value:=lkC (lkP h.x.m.lk).1 (lkP h.x.m.lk).2.1 (.slice h.a (lkP h.x.m.lk).2.2.length h.c)
abbrev aLa (h:Ch):Array Value:=#[.agg h.lk,.int .u64 (h.x.m.py:Int)]
def aje(p:Int×List UInt8×List UInt8→Bool)(l:List TO):List TO:=l.filter λt=>p (lkP t.m.lk)
structure aQp (t:TT) (Bt Bc:Nat) (f:Value) (ty:TypeId) (W:World):Prop where
 bt:W.heap[Bt]? = some (.cells t.cells 59 (0,0))
 bc:W.heap[Bc]? = some (.cells #[f] ty (0,0))
 outs:TOs W t.oa t.oc t.outs
structure aLd (p:Int×List UInt8×List UInt8→Bool) (l:List TO) (pre:List Ch) (h:Ch) (W0 W:World):Prop where
 k:∃k,∃(hk:k<l.length),h.x=l[k]∧p (lkP h.x.m.lk)=true∧pre.map Ch.x=aje p (l.take k)
 bs:Bs W h.a h.c (lkP h.x.m.lk).2.2
 new:∀k,ql h.a=some k→W0.heap.size≤k
theorem aus{F:Fence}{n:Nat}{P:Program}{c:Code}{Q:Exit→Act→World→Prop}{a:Act}{w:World}{z cs:Array Value}{t:TypeId}(k:∀W,adh w W w.heap.size cs t→Code.wpIn F n P c Q a W):Code.wpIn F n P c Q a ((w.alloc (.cells z t)).setRow w.heap.size cs):=k _ (aa9 w z cs t)
theorem aut{F:Fence}{n:Nat}{P:Program}{c:Code}{Q:Exit→Act→World→Prop}{a:Act}{w:World}{z:Array Value}{t:TypeId}(k:∀W,adh w W w.heap.size z t→Code.wpIn F n P c Q a W):Code.wpIn F n P c Q a (w.alloc (.cells z t)):=k _ ⟨heap_alloc_new _ _,λh=>bg h,(Fr.refl F0 w).alloc _,λh=>by have:=(Array.getElem?_eq_some_iff.1 h).1;omega⟩
theorem ahv(b:List UInt8):(lkP b).2.1.length=20:=by
 unfold lkP
 split
 ·rename_i h
  simp
  omega
 ·split<;>rfl
theorem akz(t:TT)(Bt Bc cf:Nat)(caps:Array Value)(ty:TypeId)(p:Int×List UInt8×List UInt8→Bool)(Cc:World→Prop)(hs:∀x∈t.outs,x.m.lk.length≤1000)
  (eg:∀args w,(callFunc cf args).run Tryz.prog w = .ok (.enter cf args) w)
  (hch:∀(b:List UInt8) (a:Option Addr) (n c:Nat) (W:World),Cc W→Calls Tryz.prog cf (#[.agg (lkC (lkP b).1 (lkP b).2.1 (.slice a n c))]++caps) W λe w'=>e = .returned (.bool (p (lkP b)))∧Fr F0 W w')
  (hcc:∀W W',Cc W→Fr F0 W W'→Cc W') :
  aOy Tryz.prog 131 #[.pointer (some ⟨Bt,0,none⟩),.pointer (some ⟨Bc,0,none⟩)] aLa (λ_ _ _=>True) (λ_ W=>aQp t Bt Bc (.func (.func cf) #[] caps) ty W∧Cc W) (aLd p t.outs) (λxs=>xs.map Ch.x=aje p t.outs):=by
 intro lp J Jx W oJ oX hC hY h0
 refine(callsIn_wide (n:=6)).1 ?_
 refine callsIn_of_wp Tryz.func131 rfl trivial ?_ rfl
 simp only[Tryz.ntmps131,List.size_toArray,List.length_cons,List.length_nil,Nat.reduceAdd,Nat.reduceSub,Array.replicate_succ,Array.replicate_zero,List.push_toArray,List.append_toArray,List.nil_append,List.cons_append]
 have hbt:=(hC _ _ h0).1.bt
 have hm:=(hC _ _ h0).1.outs.most
 have HH:=Lib.hid (And.intro oJ (And.intro oX (And.intro hC hY)))
 have HS:=Lib.hid (And.intro hs (And.intro hch hcc))
 clear oJ oX hC hY hs hch hcc
 obtain⟨vr,ia,ic,ins,oa,oc,outs,lt⟩:=t
 simp only[TT.cells]at *
 obtain⟨n,hn⟩:∃n,n=outs.length:=⟨_,rfl⟩
 rw[←hn]at hbt hm
 replace hn:=Lib.hid hn
 gi_wp2
 gi_loopw [10] (λi wr=>∃(k:Nat) (pre:List Ch),k≤n∧i = .int .i64 (k:Int)∧Hid (pre.map Ch.x=aje p (outs.take k))∧J pre wr) (λi _=>n-(intOf i).toNat)
 case atStart=>exact⟨0,[],Nat.zero_le _,rfl,rfl,h0⟩
 case round =>
  clear hbt
  obtain⟨k,pre,hk,rfl,hpre,hJ⟩:=hrel
  by_cases hlt:k<n
  ·have hkl:k<outs.length:=by have:=hn.out;omega
   have hS:=HH.out.2.2.1 _ _ hJ
   obtain⟨hok,bb,off,rfl,hc⟩:=hS.1.outs.get k hkl
   have hl:=an8 (w:=wr) (b:=bb) (o:=off+k*2) hc
   have hroom:=hS.1.outs.sl.room
   simp only at hroom
   rw[←hn.out]at hroom
   have HP:=Lib.hid (λW (f:Fr F0 wr W)=>aMq outs[k].m.lk outs[k].a outs[k].m.lk.length outs[k].c W (Bs.fr7 hok.b f) rfl (HS.out.1 _ (List.getElem_mem hkl)))
   have l1:(k:Int)<(n:Int):=by omega
   have hbc:=hS.1.bc
   have HSs:=Lib.hid hS
   clear hc hok hS
   obtain⟨x,hx⟩:∃x,x=outs[k]:=⟨_,rfl⟩
   rw[←hx]at hl HP
   have hxl:p (lkP x.m.lk)=true→aje p (outs.take (k+1))=aje p (outs.take k) ++ [x]:=λh=>by
    rw[aje,List.take_succ_eq_append_getElem hkl,List.filter_append,←hx]
    simp[aje,h]
   have hxn:p (lkP x.m.lk)=false→aje p (outs.take (k+1))=aje p (outs.take k):=λh=>by
    rw[aje,List.take_succ_eq_append_getElem hkl,List.filter_append,←hx]
    simp[aje,h]
   have HX:=Lib.hid (And.intro hxl (And.intro hxn hx))
   clear hxl hxn hx
   obtain⟨⟨py,lk⟩,xa,xc⟩:=x
   simp only[TO.row]at hl
   simp only at HP
   obtain⟨ln,hln⟩:∃n,n=lk.length:=⟨_,rfl⟩
   rw[←hln]at hl HP
   replace hln:=Lib.hid hln
   have o2:=au7 (py:Int) xa ln xc
   gi_upto_region 3 with fail
   refine aus λW1 N1=>?_
   have r5:=N1.new
   have f1:=N1.fr
   replace hbc:=N1.old hbc
   clear N1 hl
   obtain⟨g5,hg5⟩:∃g,g=wr.heap.size:=⟨_,rfl⟩
   rw[←hg5]at r5 ⊢
   clear hg5
   gi_wp2
   refine⟨trivial,?_⟩
   (with_reducible refine(callsIn_wide.2 (HP.out _ f1)).mono ?_);rintro e w2 ⟨a2,n2,c2,rfl,hn2,hb2,f2,k2⟩
   replace k2:=Lib.hid (show ∀k,ql a2=some k→wr.heap.size≤k from λk hk=>Nat.le_trans f1.size (k2 k hk))
   replace r5:=au f2 r5
   replace hbc:=au f2 hbc
   replace f1:=f1.trans' f2
   clear f2 HP
   have K:=LkC.of (k:=(lkP lk).1) (ahv lk) (.slice a2 n2 c2)
   have oC:=ajs (k:=(lkP lk).1) (A:=(lkP lk).2.1) (a:=a2) (n:=n2) (c:=c2)
   have HQ:=Lib.hid (λW hW=>HS.out.2.1 lk a2 n2 c2 W hW)
   obtain⟨LC,hLC⟩:∃LC,LC=lkC (lkP lk).1 (lkP lk).2.1 (.slice a2 n2 c2):=⟨_,rfl⟩
   rw[←hLC]at K oC HQ ⊢
   have sC:=K.size
   replace hLC:=Lib.hid (And.intro hLC hn2)
   clear K hn2
   gi_upto_region 4 with fail
   refine aus λW3 N3=>?_
   have r6:=N3.new
   replace r5:=N3.old r5
   replace hbc:=N3.old hbc
   replace f1:=f1.trans' N3.fr
   replace hb2:=Bs.fr7 hb2 N3.fr
   clear N3
   obtain⟨g6,hg6⟩:∃g,g=w2.heap.size:=⟨_,rfl⟩
   rw[←hg6]at r6 ⊢
   clear hg6
   gi_wp2
   refine⟨trivial,?_⟩
   (with_reducible refine(callsIn_wide.2 (HQ.out _ (HS.out.2.2 _ _ HSs.out.2 f1))).mono ?_);rintro e w4 ⟨rfl,f4⟩
   replace r5:=au f4 r5
   replace r6:=au f4 r6
   replace f1:=f1.trans' f4
   replace hb2:=Bs.fr7 hb2 f4
   clear f4 HQ hbc
   cases hq:p (lkP lk)with
   |true =>
    have hnx:aLd p outs pre ⟨⟨⟨py,lk⟩,xa,xc⟩,a2,c2⟩ wr w4:=⟨⟨k,hkl,HX.out.2.2,hq,hpre.out⟩,hb2,k2.out⟩
    obtain⟨fn,tmps,assign,body,hy,hR⟩:=(HH.out.2.2.2 pre ⟨⟨⟨py,lk⟩,xa,xc⟩,a2,c2⟩ wr w4 hJ f1 hnx).plain (m:=5)
    have eA:aLa ⟨⟨⟨py,lk⟩,xa,xc⟩,a2,c2⟩=#[.agg LC,.int .u64 (py:Int)]:=by rw[aLa,Ch.lk,hLC.out.1,hLC.out.2]
    rw[eA]at hy
    have HT:=Lib.hid (HX.out.1 hq)
    clear hnx eA hb2
    gi_wp2
    refine hR.mono ?_
    rintro e W5 (⟨rfl,hJ5,_⟩|⟨rfl,hJx,_⟩)
    ·gi_wp2
     go_roundw
     case rel=>exact⟨k+1,pre ++ [⟨⟨⟨py,lk⟩,xa,xc⟩,a2,c2⟩],by omega,by go_num,by rw[HT.out,List.map_append,hpre.out];rfl,hJ5⟩
     case measure=>simp[intOf];omega
    ·gi_wp2
     refine bodyPost_ret (results_none rfl _ _ _) rfl ?_
     exact⟨⟨_,rfl⟩,.inr ⟨_,hJx⟩⟩
   |false =>
    have HT:=Lib.hid (HX.out.2.1 hq)
    have hJ4:=aap HH.out.1 hJ f1
    clear hb2
    gi_wp2
    refine⟨λ_ h=>(by cases h),?_⟩
    gi_wp2
    go_roundw
    case rel=>exact⟨k+1,pre,by omega,by go_num,by rw[HT.out];exact hpre.out,hJ4⟩
    case measure=>simp[intOf];omega
  ·obtain rfl:k=n:=by omega
   have hpre':=hpre.out
   rw[hn.out,List.take_length]at hpre'
   gi_wp2
   go_end0
   exact⟨⟨_,rfl⟩,.inl ⟨_,hpre',hJ⟩⟩
end Go.Proofs.YtjlelckefiannaaGreatDoor
namespace Go.Proofs.YtjlelckefiannaaGreatDoor
set_option linter.unusedVariables false
set_option linter.unusedSimpArgs false
open Go.RowKit Go.Shelf
attribute [local go_sem] Oper.semAt_some
def Ch.pay(h:Ch):Nat:=h.x.m.py
def pays(p:Int×List UInt8×List UInt8→Bool)(l:List TO):List Nat:=(aje p l).map λt=>t.m.py
theorem aAq{p:Int×List UInt8×List UInt8→Bool}{l:List TO}{xs:List Ch}(h:xs.map Ch.x=aje p l):xs.map Ch.pay=pays p l:=by
 rw[pays,←h,List.map_map]
 rfl
theorem aMh{p:Int×List UInt8×List UInt8→Bool}{l:List TO}{pre:List Ch}{h:Ch}{W0 W:World}(n:aLd p l pre h W0 W):azc (pays p l) (pre.map Ch.pay) h.pay:=by
 obtain⟨⟨k,hk,e,hp,hpre⟩,_⟩:=n
 have h1:pre.map Ch.pay=pays p (l.take k):=aAq hpre
 have h2:pays p l=pays p (l.take k)++h.pay::pays p (l.drop (k+1)):=by
  have e1:l=l.take k++(l[k]::l.drop (k+1)):=by rw[←List.drop_eq_getElem_cons hk,List.take_append_drop]
  have hp':p (lkP l[k].m.lk)=true:=by rw[←e];exact hp
  have e2:aje p l=aje p (l.take k)++(l[k]::aje p (l.drop (k+1))):=by
   conv=>lhs;rw[e1]
   rw[aje,List.filter_append,List.filter_cons]
   simp only[hp',if_true]
   rfl
  rw[pays,e2,List.map_append,List.map_cons,←e]
  rfl
 rw[h2,h1]
 refine⟨by simp,?_,?_⟩
 ·simp[List.getD]
 ·simp
theorem aki(t:TT)(cf:Nat)(caps:Array Value)(w:World):Calls Tryz.prog 73 #[.agg t.cells,.func (.func cf) #[] caps] w λe w' =>
  ∃g2 g3,e = .returned (.func (.func 131) #[] #[.pointer (some ⟨g2,0,none⟩),.pointer (some ⟨g3,0,none⟩)])∧w'.heap[g2]? = some (.cells t.cells 59 (0,0))∧w'.heap[g3]? = some (.cells #[.func (.func cf) #[] caps] 148 (0,0))∧Fr F0 w w'∧w.heap.size≤g2∧w.heap.size≤g3:=by
 have hmf:∀(fn:Fn) (first cap:Array Value) (w:World),(Instr.makeFunc fn first cap).run Tryz.prog w = .ok (.func fn first cap) w:=λ_ _ _ _=>rfl
 obtain⟨vr,ia,ic,ins,oa,oc,outs,lt⟩:=t
 simp only[TT.cells]at *
 go_enter Tryz.func73,Tryz.ntmps73
 go_wp2
 go_ret
 obtain⟨r2,r3⟩:=heap2 w (.cells #[.int .u32 (vr:Int),.slice ia ins.length ic,.slice oa outs.length oc,.int .u32 (lt:Int)] 59) (.cells #[.func (.func cf) #[] caps] 148)
 exact⟨w.heap.size,w.heap.size+1,rfl,r2,r3,((Fr.refl F0 w).alloc _).alloc _,Nat.le_refl _,by omega⟩
theorem aFx(t:TT)(Bt Bc cf:Nat)(caps:Array Value)(p:Int×List UInt8×List UInt8→Bool)(Cc:World→Prop)(hs:∀x∈t.outs,x.m.lk.length≤1000)
  (eg:∀args w,(callFunc cf args).run Tryz.prog w = .ok (.enter cf args) w)
  (hch:∀(b:List UInt8) (a:Option Addr) (n c:Nat) (W:World),Cc W→Calls Tryz.prog cf (#[.agg (lkC (lkP b).1 (lkP b).2.1 (.slice a n c))]++caps) W λe w'=>e = .returned (.bool (p (lkP b)))∧Fr F0 W w')
  (hcc:∀W W',Cc W→Fr F0 W W'→Cc W') :
  aOy Tryz.prog 130 #[.pointer (some ⟨Bt,0,none⟩),.pointer (some ⟨Bc,0,none⟩)] encA Ku (λ_ W=>aQp t Bt Bc (.func (.func cf) #[] caps) 148 W∧Cc W) (λpre x _ _=>azc (pays p t.outs) pre x) (λxs=>xs=pays p t.outs):=by
 intro lp J Jx W oJ oX hC hY h0
 refine(callsIn_wide (n:=6)).1 ?_
 refine callsIn_of_wp_marks Tryz.func130 rfl trivial ?_ rfl
 simp only[Tryz.ntmps130,List.size_toArray,List.length_cons,List.length_nil,Nat.reduceAdd,Nat.reduceSub,Array.replicate_succ,Array.replicate_zero,List.push_toArray,List.append_toArray,List.nil_append,List.cons_append]
 have hbt:=(hC _ _ h0).1.bt
 have hbc:=(hC _ _ h0).1.bc
 have hT:=Lib.hid (λw=>aki t cf caps w)
 have HQ:=Lib.hid (λg2 g3=>akz t g2 g3 cf caps 148 p Cc hs eg hch hcc)
 have HH:=Lib.hid (And.intro oJ (And.intro oX (And.intro hC hY)))
 clear oJ oX hC hY hs hch hcc
 obtain⟨v0,a1,n1,c1,a2,n2,c2,v3,hc⟩:∃(v0:Int) (a1:Option Addr) (n1 c1:Nat) (a2:Option Addr) (n2 c2:Nat) (v3:Int),t.cells=#[.int .u32 v0,.slice a1 n1 c1,.slice a2 n2 c2,.int .u32 v3]:=⟨_,_,_,_,_,_,_,_,rfl⟩
 rw[hc]at hbt hT
 gi_upto_region 1 with fail
 refine aut λW1 N1=>?_
 have ry:=N1.new
 have f1:=N1.fr
 replace hbt:=N1.old hbt
 replace hbc:=N1.old hbc
 obtain⟨gy,hgy⟩:∃g,g=W.heap.size:=⟨_,rfl⟩
 rw[←hgy]at ry ⊢
 replace hgy:=Lib.hid (Nat.le_of_eq hgy.symm)
 clear N1
 gi_wp2
 refine⟨trivial,?_⟩
 (with_reducible refine(callsIn_wide.2 (hT.out _)).mono ?_);rintro e w2 ⟨g2,g3,rfl,r2,r3,f2,k2,k3⟩
 replace ry:=au f2 ry
 have F:=f1.trans' f2
 have hg:=Lib.hid (show W.heap.size≤gy∧W.heap.size≤g2∧W.heap.size≤g3 from⟨hgy.out,Nat.le_trans f1.size k2,Nat.le_trans f1.size k3⟩)
 rw[←hc]at r2
 have hwz:=Lib.hid (show W.heap.size≤w2.heap.size from F.size)
 clear hbt hbc f1 f2 k2 k3 hT
 gi_wp2
 have hOI:=OwnFrom.and (OwnFrom.and (fun(s:List Ch) A D row (hs:J (s.map Ch.pay) A) hgr hr=>aic HH.out.1 hwz.out (s.map Ch.pay) A D row hs hgr hr) (og (β:=List Ch) w2.heap.size gy (λ_=>#[.func (.yield lp) #[] #[]]) 206 (0,0))) (OwnFrom.and (og (β:=List Ch) w2.heap.size g2 (λ_=>t.cells) 59 (0,0)) (og (β:=List Ch) w2.heap.size g3 (λ_=>#[.func (.func cf) #[] caps]) 148 (0,0)))
 refine adi (gf:=131) (lb:=#[.pointer (some ⟨g2,0,none⟩),.pointer (some ⟨g3,0,none⟩)]) rfl (enters_of Tryz.func131 (by kernel_rfl) rfl) (HQ.out g2 g3) (λ_=>rfl) (λ_ _=>trivial) (λ_ _=>trivial)
  (λpre W'=>(J (pre.map Ch.pay) W'∧W'.heap[gy]? = some (.cells #[.func (.yield lp) #[] #[]] 206 (0,0)))∧(W'.heap[g2]? = some (.cells t.cells 59 (0,0))∧W'.heap[g3]? = some (.cells #[.func (.func cf) #[] caps] 148 (0,0))))
  (λcc pre W'=>cc = .ret∧Jx (pre.map Ch.pay) W')
  hOI (λcc=>OwnFrom.and (yx _ _) (λs A D row hs hgr hr=>aic HH.out.2.1 hwz.out (s.map Ch.pay) A D row hs hgr hr))
  (λpre W' h=>⟨⟨h.2.1,h.2.2,(HH.out.2.2.1 _ _ h.1.1).1.outs⟩,(HH.out.2.2.1 _ _ h.1.1).2⟩)
  ⟨⟨aap HH.out.1 h0 F,ry⟩,r2,r3⟩
  (λpre x a' _=>a' = { tmps:=#[.func (.yield lp) #[] #[],.pointer (some ⟨Bt,0,none⟩),.pointer (some ⟨Bc,0,none⟩),.pointer (some ⟨gy,0,none⟩),undef,.int .u64 (x.pay:Int),.agg #[.int .u32 v0,.slice a1 n1 c1,.slice a2 n2 c2,.int .u32 v3],.func (.func cf) #[] caps,.func (.func 131) #[] #[.pointer (some ⟨g2,0,none⟩),.pointer (some ⟨g3,0,none⟩)],.agg x.lk,.int .u64 (x.pay:Int),undef,undef,undef,undef],defers := [] }∧azc (pays p t.outs) (pre.map Ch.pay) x.pay)
  (λ_ _ _=>yx _ _) ?assign ?body ?done ?stop
 case assign =>
  intro l2 pre x W0 W' K hi0 f0 hn hK
  have hn':=aMh hn
  gi_wp2
  exact hK _ _ (KeepsFrom.refl _ _) trivial (aap hOI hi0 f0) ⟨rfl,hn'⟩
 case body =>
  rintro l2 pre x a' W' ⟨⟨hJ,qy⟩,q2,q3⟩ ⟨rfl,hn⟩
  obtain⟨fn,tmps,assign,body,hy,hR⟩:=(HH.out.2.2.2 _ _ W' W' hJ (Fr.refl _ _) hn).at (l2:=l2) (m:=3)
  dsimp only[encA]at hy
  have eJ:pre.map Ch.pay ++ [x.pay]=(pre ++ [x]).map Ch.pay:=by rw[List.map_append];rfl
  rw[eJ]at hR
  clear eJ hn
  generalize x.pay=px at *
  generalize x.lk=LK at *
  gi_wp2
  refine hR.mono ?_
  rintro e W5 (⟨rfl,hJ5,hk5⟩|⟨rfl,hJx,hk5⟩)
  ·have hgo:=hg.out
   have qy5:=hk5.2 _ _ hgo.1 qy
   have q25:=hk5.2 _ _ hgo.2.1 q2
   have q35:=hk5.2 _ _ hgo.2.2 q3
   clear hgo
   gi_wp2
   exact⟨hk5.from hwz.out,trivial,⟨hJ5,qy5⟩,q25,q35⟩
  ·gi_wp2
   exact⟨hk5.from hwz.out,⟨rfl,hJx⟩,trivial⟩
 case done =>
  rintro D ys W' hD hy ⟨⟨hJ,qy⟩,q2,q3⟩ hK
  have hy':=aAq hy
  have hJ9:=aap HH.out.1 hJ (Fr.refl _ _)
  have hJ10:J (ys.map Ch.pay) (W'.putObj D (.deferred none)):=HH.out.1.putObj _ hJ (Nat.le_trans hwz.out hD) hK rfl
  gi_wp2
  refine⟨by simp,.inl ⟨_,_,rfl,run_takeDeferred hK,?_⟩⟩
  exact⟨_,results_none rfl _ _ _,⟨_,rfl⟩,.inl ⟨_,hy',hJ10⟩⟩
 case stop =>
  rintro D cc pre W' hD ⟨rfl,hJx⟩ hK
  have hJ10:Jx (pre.map Ch.pay) (W'.putObj D (.deferred none)):=HH.out.2.1.putObj _ hJx (Nat.le_trans hwz.out hD) hK rfl
  gi_wp2
  refine⟨by simp,.inl ⟨_,_,rfl,run_takeDeferred hK,?_⟩⟩
  exact⟨_,results_none rfl _ _ _,⟨_,rfl⟩,.inr ⟨_,hJ10⟩⟩
end Go.Proofs.YtjlelckefiannaaGreatDoor
namespace Go.Proofs.YtjlelckefiannaaGreatDoor
set_option linter.unusedVariables false
set_option linter.unusedSimpArgs false
open Go.RowKit Go.Shelf
def pTo(A:List UInt8):Int×List UInt8×List UInt8→Bool:=λk=>decide (k.1=1∧k.2.1=A)
def aOm:Int×List UInt8×List UInt8→Bool:=λk=>decide (k.1=2)
theorem aw3(b:List UInt8)(a:Option Addr)(n c:Nat)(w:World):Calls Tryz.prog 74 #[.agg (lkC (lkP b).1 (lkP b).2.1 (.slice a n c))] w λe w'=>e = .returned (.bool (aOm (lkP b)))∧Fr F0 w w':=by
 have K:=LkC.of (k:=(lkP b).1) (ahv b) (.slice a n c)
 obtain⟨s0,c0,c21,x1⟩:=K
 have eB:aOm (lkP b)=((lkP b).1==2):=by rw[aOm,Bool.eq_iff_iff];simp
 rw[eB]
 generalize lkC (lkP b).1 (lkP b).2.1 (.slice a n c)=C at *
 generalize (lkP b).1=k at *
 have d0:=jd c0 aPl
 go_enter Tryz.func74,Tryz.ntmps74
 go_wp2
 go_ret
 exact⟨rfl,(Fr.refl F0 w).alloc _⟩
theorem aw5(A b:List UInt8)(a:Option Addr)(n c ga:Nat)(w:World)(hA:A.length=20)(hg:w.heap[ga]? = some (.cells (A.map B8).toArray 62 (0,0))):
  Calls Tryz.prog 72 #[.agg (lkC (lkP b).1 (lkP b).2.1 (.slice a n c)),.pointer (some ⟨ga,0,none⟩)] w λe w'=>e = .returned (.bool (pTo A (lkP b)))∧Fr F0 w w':=by
 have K:=LkC.of (k:=(lkP b).1) (ahv b) (.slice a n c)
 obtain⟨s0,c0,c21,x1⟩:=K
 have heq:=λw=>agt w (lkP b).2.1 A (ahv b) hA
 have hsz:(A.map B8).toArray.size=20:=by simp[hA]
 have eB:pTo A (lkP b)=(decide ((lkP b).1=1)&&decide ((lkP b).2.1=A)):=by rw[pTo,Bool.eq_iff_iff];simp
 rw[eB]
 have hm:∀W,aec Tryz.prog 62 (.pointer (some ⟨w.heap.size,1,none⟩)) W 20 1 22 (some (.cells (lkC (lkP b).1 (lkP b).2.1 (.slice a n c)) 121 (0,0))) = .ok (.agg ((lkP b).2.1.map B8).toArray) W:=λW=>by
  rw[acu s0,x1]
 generalize lkC (lkP b).1 (lkP b).2.1 (.slice a n c)=C at *
 generalize (lkP b).1=k at *
 generalize ((lkP b).2.1.map B8).toArray=X at *
 generalize (A.map B8).toArray=Y at *
 generalize decide ((lkP b).2.1=A)=D at *
 have d0:=jd c0 aPl
 have hga:=bg (o := .cells C 121) hg
 by_cases h1:k=1
 ·subst h1
  have l1:((1:Int)==1)=true:=rfl
  go_enter Tryz.func72,Tryz.ntmps72
  go_wp2
  go_ret
  exact⟨by simp,(Fr.refl F0 w).alloc _⟩
 ·have l1:(k==1)=false:=beq_false_of_ne h1
  go_enter Tryz.func72,Tryz.ntmps72
  go_wp2
  go_ret
  exact⟨by rw[decide_eq_false h1];rfl,(Fr.refl F0 w).alloc _⟩
theorem aFv(t:TT)(cf:Nat)(caps:Array Value)(p:Int×List UInt8×List UInt8→Bool)(Cc:World→Prop)(w:World)(ht:t.Ok w)(hs:∀x∈t.outs,x.m.lk.length≤1000)
  (eg:∀args w,(callFunc cf args).run Tryz.prog w = .ok (.enter cf args) w)
  (hch:∀(b:List UInt8) (a:Option Addr) (n c:Nat) (W:World),Cc W→Calls Tryz.prog cf (#[.agg (lkC (lkP b).1 (lkP b).2.1 (.slice a n c))]++caps) W λe w'=>e = .returned (.bool (p (lkP b)))∧Fr F0 W w')
  (hcc:∀W W',Cc W→Fr F0 W W'→Cc W') (hc0:Cc w) :
  Calls Tryz.prog 71 #[.agg t.cells,.func (.func cf) #[] caps] w λe w'=>e = .returned (.tuple #[.int .u64 (toV 0 (pays p t.outs):Nat),.int .i64 (toE 0 (pays p t.outs))])∧Fr F0 w w':=by
 have hmf:∀(fn:Fn) (first cap:Array Value) (w:World),(Instr.makeFunc fn first cap).run Tryz.prog w = .ok (.func fn first cap) w:=λ_ _ _ _=>rfl
 have hl:∀x∈pays p t.outs,x<18446744073709551616:=by
  intro x hx
  simp only[pays,aje,List.mem_map,List.mem_filter]at hx
  obtain⟨y,⟨hy,_⟩,rfl⟩:=hx
  exact(ht.outs.ok y hy).m.py
 have HT:=Lib.hid (λBt Bc W (hb:W.heap[Bt]? = some (.cells t.cells 59 (0,0))) (hbc:W.heap[Bc]? = some (.cells #[.func (.func cf) #[] caps] 148 (0,0))) (f:Fr F0 w W) =>
  axr 130 #[.pointer (some ⟨Bt,0,none⟩),.pointer (some ⟨Bc,0,none⟩)] (pays p t.outs) hl _ W (enters_of Tryz.func130 (by kernel_rfl) rfl) (aFx t Bt Bc cf caps p Cc hs eg hch hcc)
   (λ_ W' f'=>⟨⟨au f' hb,au f' hbc,ht.outs.fr (f.trans' f')⟩,hcc _ _ hc0 (f.trans' f')⟩))
 generalize toV 0 (pays p t.outs)=V at *
 generalize toE 0 (pays p t.outs)=E at *
 obtain⟨v0,a1,n1,c1,a2,n2,c2,v3,hc⟩:∃(v0:Int) (a1:Option Addr) (n1 c1:Nat) (a2:Option Addr) (n2 c2:Nat) (v3:Int),t.cells=#[.int .u32 v0,.slice a1 n1 c1,.slice a2 n2 c2,.int .u32 v3]:=⟨_,_,_,_,_,_,_,_,rfl⟩
 rw[hc]at HT ⊢
 clear ht hs hch hcc hc0 hl hc
 obtain⟨r2,r3⟩:=heap2 w (.cells #[.int .u32 v0,.slice a1 n1 c1,.slice a2 n2 c2,.int .u32 v3] 59) (.cells #[.func (.func cf) #[] caps] 148)
 have F:Fr F0 w ((w.alloc (.cells #[.int .u32 v0,.slice a1 n1 c1,.slice a2 n2 c2,.int .u32 v3] 59)).alloc (.cells #[.func (.func cf) #[] caps] 148)):=((Fr.refl F0 w).alloc _).alloc _
 go_enter Tryz.func71,Tryz.ntmps71
 go_wp2_with fail
 (with_reducible refine(HT.out _ _ _ r2 r3 F).mono ?_);rintro e w2 ⟨rfl,f2⟩
 go_wp2_with fail
 go_ret2
 exact⟨rfl,F.trans' f2⟩
theorem aBt(t:TT)(A:List UInt8)(hA:A.length=20)(w:World)(ht:t.Ok w)(hs:∀x∈t.outs,x.m.lk.length≤1000):
  Calls Tryz.prog 30 #[.agg t.cells,.agg (A.map B8).toArray] w λe w'=>e = .returned (.tuple #[.int .u64 (toV 0 (pays (pTo A) t.outs):Nat),.int .i64 (toE 0 (pays (pTo A) t.outs))])∧Fr F0 w w':=by
 have hmf:∀(fn:Fn) (first cap:Array Value) (w:World),(Instr.makeFunc fn first cap).run Tryz.prog w = .ok (.func fn first cap) w:=λ_ _ _ _=>rfl
 have HT:=Lib.hid (λga W (f:Fr F0 w W) (hg:W.heap[ga]? = some (.cells (A.map B8).toArray 62 (0,0)))=>aFv t 72 #[.pointer (some ⟨ga,0,none⟩)] (pTo A) (λW=>W.heap[ga]? = some (.cells (A.map B8).toArray 62 (0,0))) W (ht.fr f) hs (enters_of Tryz.func72 (by kernel_rfl) rfl) (λb a n c W hW=>aw5 A b a n c ga W hA hW) (λ_ _ h f=>au f h) hg)
 generalize toV 0 (pays (pTo A) t.outs)=V at *
 generalize toE 0 (pays (pTo A) t.outs)=E at *
 obtain⟨v0,a1,n1,c1,a2,n2,c2,v3,hc⟩:∃(v0:Int) (a1:Option Addr) (n1 c1:Nat) (a2:Option Addr) (n2 c2:Nat) (v3:Int),t.cells=#[.int .u32 v0,.slice a1 n1 c1,.slice a2 n2 c2,.int .u32 v3]:=⟨_,_,_,_,_,_,_,_,rfl⟩
 have hsz:(A.map B8).toArray.size=20:=by simp[hA]
 rw[hc]at HT ⊢
 generalize (A.map B8).toArray=X at *
 clear ht hs hc
 obtain⟨r2,r3⟩:=heap2 w (.cells #[.int .u32 v0,.slice a1 n1 c1,.slice a2 n2 c2,.int .u32 v3] 59) (.cells X 62)
 have F:Fr F0 w ((w.alloc (.cells #[.int .u32 v0,.slice a1 n1 c1,.slice a2 n2 c2,.int .u32 v3] 59)).alloc (.cells X 62)):=((Fr.refl F0 w).alloc _).alloc _
 go_enter Tryz.func30,Tryz.ntmps30
 go_wp2_with fail
 (with_reducible refine(HT.out _ _ F r3).mono ?_);rintro e w2 ⟨rfl,f2⟩
 go_wp2_with fail
 go_ret2
 exact⟨rfl,F.trans' f2⟩
end Go.Proofs.YtjlelckefiannaaGreatDoor
