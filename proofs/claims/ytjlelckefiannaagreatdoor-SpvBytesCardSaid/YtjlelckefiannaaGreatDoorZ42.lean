import Derived.Test.YtjlelckefiannaaGreatDoorZ2
import Derived.Test.YtjlelckefiannaaGreatDoorZ40
import Derived.Test.YtjlelckefiannaaGreatDoorZ41
import Derived.Test.YtjlelckefiannaaGreatDoorZ26
import Derived.Test.YtjlelckefiannaaGreatDoorZ17
set_option maxRecDepth 100000
set_option maxHeartbeats 64000000
namespace Go.Proofs.YtjlelckefiannaaGreatDoor
set_option linter.unusedVariables false
set_option linter.unusedSimpArgs false
open Go.RowKit
def tdC(hs:List UInt8)(ht:Nat)(b:Bool)(tn:Nat):Array Value:=(hs.map B8 ++ [Value.int .i64 (ht:Int),Value.bool b,Value.int .i64 (tn:Int)]).toArray
theorem ant{hs:List UInt8}(l:hs.length=32)(ht:Nat)(b:Bool)(tn:Nat):(tdC hs ht b tn).size=35:=by simp[tdC,l]
theorem ar6(hs:List UInt8)(ht:Nat)(b:Bool)(tn:Nat):jh (tdC hs ht b tn):=by
 unfold jh
 rw[Array.all_eq_true_iff_forall_mem]
 intro u hu
 rw[tdC,List.mem_toArray,List.mem_append]at hu
 rcases hu with hu|hu
 ·exact asi hs u hu
 ·simp at hu
  rcases hu with rfl|rfl|rfl<;>rfl
theorem Tryz.szTold:(Tryz.prog.info? 66).map (·.size)=some 35:=by kernel_rfl
@[go_sem ↓ high] theorem aSr (p:Value):Instr.loadAt 66 p=iq 66 p:=rfl
@[go_sem ↓ high] theorem aO5 (p v:Value):Instr.storeAt 66 p v=ji 66 p v:=rfl
@[go_sem] theorem aEb (w:World) (g:Nat) (cells:Array Value):(ji 66 (.pointer (some ⟨g,0,none⟩)) (.agg cells)).run Tryz.prog w=aeg Tryz.prog 66 (.pointer (some ⟨g,0,none⟩)) cells g w 35 w.heap[g]? :=
 oq w _ g 35 cells Tryz.szTold
def aA7(parts:Array (Nat×Value)):Sem Value:=Instr.build 66 parts
@[go_sem ↓ high] theorem aPh (p:Array (Nat×Value)):Instr.build 66 p=aA7 p:=rfl
theorem akl(w:World)(parts:Array (Nat×Value))(cells:Array Value)(h:Tryz.prog.built 66 parts.toList=some cells):(aA7 parts).run Tryz.prog w = .ok (.agg cells) w:=run_build w _ parts cells h
theorem atv:Tryz.prog.built 66 []=some (tdC z32 0 false 0):=by kernel_rfl
theorem ayf(hs:List UInt8)(l:hs.length=32)(ht tn:Nat)(b:Bool):Tryz.prog.built 66 [(0,.agg (hc hs)),(1,.int .i64 (ht:Int)),(2,.bool b),(3,.int .i64 (tn:Int))]=some (tdC hs ht b tn):=by
 obtain⟨z0,z1,z2,z3,z4,z5,z6,z7,z8,z9,z10,z11,z12,z13,z14,z15,z16,z17,z18,z19,z20,z21,z22,z23,z24,z25,z26,z27,z28,z29,z30,z31,rfl⟩:=af5 hs l
 kernel_rfl
def aA8(parts:Array (Nat×Value)):Sem Value:=Instr.build 118 parts
@[go_sem ↓ high] theorem aOc (p:Array (Nat×Value)):Instr.build 118 p=aA8 p:=rfl
theorem atw(p k:Nat):Tryz.prog.built 118 [(0,.pointer (some ⟨p,0,none⟩)),(1,.int .i64 (k:Int))]=some (ryC p k 0):=by kernel_rfl
theorem as6(w:World)(p k:Nat):(aA8 #[(0,.pointer (some ⟨p,0,none⟩)),(1,.int .i64 (k:Int))]).run Tryz.prog w = .ok (.agg (ryC p k 0)) w:=run_build w _ _ _ (atw p k)
theorem TM.lt{w:World}{p:Nat}{R:Array Value}{bm:Nat}{H:List Hd}{L:List Bk}{ps:List Nat}{v:Value}{ch:List (List UInt8)}(T:TM w p R bm H L ps v ch)(hp:ps.length=L.length):∀k,TS p bm ps v k→k<w.heap.size:=by
 rintro k (rfl|rfl|hk|hk)
 ·exact(Array.getElem?_eq_some_iff.1 T.top).1
 ·exact T.map.lt
 ·obtain⟨j,hj,rfl⟩:=List.getElem_of_mem hk
  have:=T.blk j aPl
  rw[List.getD_eq_getElem?_getD,List.getElem?_eq_getElem hj]at this
  exact(Array.getElem?_eq_some_iff.1 this).1
 ·exact T.own.lt k hk
theorem aRr{w W W':World}{p:Nat}{R:Array Value}{bm:Nat}{H:List Hd}{L:List Bk}{ps:List Nat}{v:Value}{ch:List (List UInt8)}(T:TM w p R bm H L ps v ch)(hp:ps.length=L.length)(F:Fr F0 w W){EE:Int}(hne:EE≠0→Fr F0 W W')(hz:EE=0→Fr (TS p bm ps v) W W')
  {k:Nat} {A:Array Value} {t:TypeId} {f:Nat×Nat} (h:W.heap[k]? = some (.cells A t f)) (hk:w.heap.size≤k∨(t≠171∧t≠145∧t≠24)):W'.heap[k]? = some (.cells A t f):=by
 by_cases hE:EE=0
 ·refine(hz hE).keeps (λhs=>?_) h
  rcases hk with hk|⟨h1,h2,h3⟩
  ·have:=T.lt hp k hs;omega
  ·exact(T.fr F).apart hp h h1 h2 h3 hs
 ·exact au (hne hE) h
theorem aG8(e s k:Nat)(h1:2≤e)(h2:e≤2016)(h3:1≤s)(h4:s≤2147483648)(h5:1≤k)(h6:k≤100)(w:World)(zn:Cub w):
  Calls Tryz.prog 13 #[.agg (ruC e s k)] w λed w'=>(∃q p bm qf sl,ed = .returned (.tuple #[.pointer (some ⟨q,0,none⟩),.int .i64 0])∧TM w' p (ruC e s k) bm [Fh] [b0 (.bool false)] [qf] (.slice (some ⟨sl,0,none⟩) 1 1) (chn [b0 (.bool false)])∧w'.heap[q]? = some (.cells (ryC p k 0) 118 (0,0)) ∧
   w.heap.size≤p∧w.heap.size≤bm∧w.heap.size≤qf∧w.heap.size≤sl∧w.heap.size≤q)∧Fr F0 w w':=by
 have HN:=Lib.hid (λW (f:Fr F0 w W)=>aHa aJe aMu aji aP2 e s k h1 h2 h3 h4 h5 h6 (.bool false) rfl W (zn.fr f λf=>f))
 have hru:=ajg e s k aPl
 have sR:=hru.size
 have oR:=hru.one
 have c3:=hru.c3
 have hbr:=λW p=>as6 W p k
 generalize ruC e s k=R at *
 have z3:3<R.size:=by omega
 have d3:=jd c3 z3
 have hry:∀p d,(ryC p k d).size=3:=λ_ _=>rfl
 clear hru zn
 have r1:=heap_alloc_new w (.cells R 49)
 have F:=(Fr.refl F0 w).alloc (.cells R 49)
 go_enter Tryz.func13,Tryz.ntmps13
 go_wp2_with fail
 generalize hW:w.alloc (.cells R 49)=W at *
 generalize hg1:w.heap.size=g1 at *
 clear hW
 (with_reducible refine(HN.out _ F).mono ?_);rintro e1 w2 ⟨⟨p,bm,qf,sl,rfl,T,lo⟩,f⟩
 have HT:=Lib.hid (And.intro T lo)
 clear T lo
 have hsz:=F.size
 replace r1:=au f r1
 replace F:=F.trans' f
 have HZ:=Lib.hid (And.intro hsz (Nat.le_trans hsz f.size))
 clear f hsz
 go_wp2_with fail
 go_ret2
 obtain⟨T,lo⟩:=HT.out
 have hz:=HZ.out
 refine⟨⟨w2.heap.size,p,bm,qf,sl,rfl,T.fr ((Fr.refl F0 w2).alloc _),heap_alloc_new _ _,?_⟩,F.alloc _⟩
 omega
theorem atg{w:World}{q p k d:Nat}{R:Array Value}{bm:Nat}{H:List Hd}{L:List Bk}{ps:List Nat}{v:Value}{e span limit:Nat}(ri:RI R e span limit)(I:TI H L ps)(tb:TB L e span limit)(T:TM w p R bm H L ps v (chn L))(rq:w.heap[q]? = some (.cells (ryC p k d) 118 (0,0)))
  (h:Hd) (oh:h.Ok) (a:Option Addr) (c:Nat) (hb:Bs w a c h.bytes) (zn:Cub w) (hnc:¬(TS p bm ps v 0∨0=q)) :
  Calls Tryz.prog 16 #[.pointer (some ⟨q,0,none⟩),.slice a h.bytes.length c] w λed w' =>
   (aE2 L e span limit (adg h (.bool false)) h.ahead (mtH h)≠0→ed = .returned (.tuple #[.agg (tdC z32 0 false 0),.int .i64 (aE2 L e span limit (adg h (.bool false)) h.ahead (mtH h))])∧Fr F0 w w') ∧
   (aE2 L e span limit (adg h (.bool false)) h.ahead (mtH h)=0→∃i:Nat,yj L h.ahead=(i:Int)∧∃qn v',NB H L ps i h (nbB h (.bool false) i) qn ∧
    ed = .returned (.tuple #[.agg (tdC (uj h.bytes) (ig (L ++ [nbB h (.bool false) i]) L.length) (decide ((bkT (L ++ [nbB h (.bool false) i]) (ug (L ++ [nbB h (.bool false) i]))).hash=uj h.bytes)) (tnM L (L ++ [nbB h (.bool false) i]))),.int .i64 0]) ∧
    TM w' p R bm (H ++ [h]) (L ++ [nbB h (.bool false) i]) (ps ++ [qn]) v' (chn (L ++ [nbB h (.bool false) i]))∧w'.heap[q]? = some (.cells (ryC p k (max d (tnM L (L ++ [nbB h (.bool false) i])))) 118 (0,0))∧w.heap.size≤qn∧(∀k,v'.ownBlock=some k→v.ownBlock=some k∨w.heap.size≤k)∧Fr (λj=>TS p bm ps v j∨j=q) w w'):=by
 have hR:R.size=72:=by obtain⟨c,hr⟩:=ri.of;exact hr.size
 have hcl:=I.aen
 have h80:h.bytes.length=80:=Hd.aa6 oh
 have l32:(uj h.bytes).length=32:=by simp[uj,tu]
 have HP:=Lib.hid (λW (f:Fr F0 w W)=>show Calls Tryz.prog 55 #[.slice a 80 c] W λe w'=>e = .returned (.tuple #[.agg h.cells,.int .i64 0])∧Fr F0 W w' from by
  refine((aMt h.bytes a c W (hb.fr7 f) aPl).1 h80).mono ?_
  rintro e w' ⟨h2,o2,hb2,rfl,f2⟩
  obtain rfl:=Hd.inj o2 oh hb2
  exact⟨rfl,f2⟩)
 have HB:=Lib.hid (λW (f:Fr F0 w W)=>aey hR (T.fr f) (by rw[hcl.1];omega) aPl)
 rw[I.aju]at HB
 have HA:=Lib.hid (λW (f:Fr F0 w W)=>aHb ri I tb (T.fr f) h oh (.bool false) (.bool false) rfl (zn.fr f λf=>f))
 have HH:=Lib.hid (λW (hcu:Cub W)=>show Calls Tryz.prog 19 #[.agg h.cells] W λe w'=>e = .returned (.agg (hc (uj h.bytes)))∧Fr F0 W w' from aji h oh W hcu)
 have HX:=Lib.hid (And.intro hR (And.intro I (And.intro oh (And.intro l32 (And.intro T (And.intro zn hnc))))))
 have sX:=jl (I.at32 I.best)
 have oX:=qg (bkT L (ug L)).hash
 obtain⟨X,hX⟩:∃X,hc (bkT L (ug L)).hash=X:=⟨_,rfl⟩
 rw[hX]at HB sX oX
 have HXe:=Lib.hid hX
 have sH:=Hd.qw oh
 have oH:jh h.cells:=Hd.one
 obtain⟨HC,hHC⟩:∃HC,h.cells=HC:=⟨_,rfl⟩
 rw[hHC]at HP HA HH sH oH
 obtain⟨EE,hEE⟩:∃EE,aE2 L e span limit (adg h (.bool false)) h.ahead (mtH h)=EE:=⟨_,rfl⟩
 rw[hEE]at HA ⊢
 rw[h80]
 have hz0:=λW=>akl W #[] _ atv
 have sZ:=ant yg 0 false 0
 have oZ:=ar6 z32 0 false 0
 obtain⟨ZZ,hZZ⟩:∃Z,tdC z32 0 false 0=Z:=⟨_,rfl⟩
 rw[hZZ]at hz0 sZ oZ ⊢
 have HQ:=Lib.hid rq
 unfold ryC at rq
 clear hb h80 l32 hX hHC hEE hZZ hcl hR I oh T zn tb ri hnc
 go_enter Tryz.func16,Tryz.ntmps16
 go_upto_region 1 with fail
 refine lu λW1 N1=>?_
 obtain⟨Z,sz4,r4⟩:∃Z:Array Value,Z.size=35∧W1.heap[w.heap.size]? = some (.cells Z 66 (0,0)):=⟨_,rfl,N1.new⟩
 replace rq:=N1.old rq
 have F:=N1.fr
 clear N1
 obtain⟨g4,hg4⟩:∃g,g=w.heap.size:=⟨_,rfl⟩
 rw[←hg4]at r4 ⊢
 have g4l:Hid (¬g4<w.heap.size):=by rw[Hid];omega
 clear hg4
 go_wp2_with fail
 (with_reducible refine(HP.out _ F).mono ?_);rintro e1 w2 ⟨rfl,f⟩
 replace rq:=au f rq
 replace r4:=au f r4
 replace F:=F.trans' f
 clear f
 go_upto_region 4 with fail
 refine uy λW3 N3=>?_
 have r6:=N3.new
 replace rq:=N3.old rq
 replace r4:=N3.old r4
 replace F:=F.trans' N3.fr
 clear N3
 generalize w2.heap.size=g6 at *
 go_wp2_with fail
 (with_reducible refine(HB.out _ F).mono ?_);rintro e1 w4 ⟨rfl,f⟩
 replace rq:=au f rq
 replace r4:=au f r4
 replace r6:=au f r6
 replace F:=F.trans' f
 clear f
 go_upto_region 7 with fail
 refine uy λW5 N5=>?_
 have r8:=N5.new
 replace rq:=N5.old rq
 replace r4:=N5.old r4
 replace r6:=N5.old r6
 have HG3:=Lib.hid F.size
 replace F:=F.trans' N5.fr
 clear N5 HP HB
 generalize w4.heap.size=g8 at *
 refine jm (S:=(λw'=>w'.heap[q]? = some (.cells #[.pointer (some ⟨p,0,none⟩),.int .i64 (k:Int),.int .i64 (d:Int)] 118 (0,0))∧w'.heap[g4]? = some (.cells Z 66 (0,0))∧w'.heap[g6]? = some (.cells HC 47 (0,0))∧w'.heap[g8]? = some (.cells X 24 (0,0)))) ?_ λak=>?_
 ·exact(by((try dsimp only)<;>(exact⟨rq,r4,r6,r8⟩)))
 refine aj 0 ?_
 refine aj 1 ?_
 refine aj 2 ?_
 refine aj 3 ?_
 refine aj 4 ?_
 refine jf 5 λK hK=>?_
 go_simp
 ((with_reducible refine(HA.out _ F.drew).mono ?_);rintro e1 w6 ⟨rfl,hne,hz⟩;have HKP:=Lib.hid (λk A t h hk=>aRr (W':=w6) (f:=(0,0)) HX.out.2.2.2.2.1 HX.out.2.1.arp F.drew hne (λe=>by obtain⟨_,_,_,_,_,_,_,_,f⟩:=hz e;exact f) (k:=k) (A:=A) (t:=t) h hk))
 refine rpu hK (by((try dsimp only)<;>(first|exact ak|exact⟨HKP.out _ _ _ ak.1 (.inr ⟨by decide,by decide,by decide⟩),HKP.out _ _ _ ak.2.1 (.inr ⟨by decide,by decide,by decide⟩),HKP.out _ _ _ ak.2.2.1 (.inr ⟨by decide,by decide,by decide⟩),HKP.out _ _ _ ak.2.2.2 (.inl HG3.out)⟩))) λak=>?_
 clear hK K
 refine aj 6 ?_
 refine jg ?_
 all_goals
  clear rq r4 r6 r8 HA HKP
  obtain⟨rq,r4,r6,r8⟩:=ak
  replace F:=F.drew
  generalize W5.drew=W6 at *
  by_cases hE:EE=0
  ·subst hE
   obtain⟨i,hi,qn,v',nb,T6,hqn,hv',f6⟩:=hz rfl
   obtain⟨hR,I,oh,l32,T,zn,hnc⟩:=HX.out
   have I6:=I.snoc nb
   have FT:Fr (TS p bm ps v) w w6:=(F.of0).trans' f6
   have hlen:=aat L (nbB h (.bool false) i)
   have hold:(bkT (L ++ [nbB h (.bool false) i]) (ug L)).hash=(bkT L (ug L)).hash:=by rw[abj I.best]
   have hnew:(bkT (L ++ [nbB h (.bool false) i]) L.length).hash=uj h.bytes:=by rw[ac9];rfl
   have hbl:=I.best
   have HTn:=Lib.hid (λW (f:Fr F0 w6 W)=>atf hR I6 (T6.fr f) (au f (show w6.heap[q]? = some (.cells (ryC p k d) 118 (0,0))from rq)) (ug L) aPl)
   rw[hold,HXe.out]at HTn
   have aOs:=I6.aen
   obtain⟨tn,htn⟩:∃tn,tnM L (L ++ [nbB h (.bool false) i])=tn:=⟨_,rfl⟩
   have HTn':Hid (∀W,Fr F0 w6 W→Calls Tryz.prog 58 #[.pointer (some ⟨q,0,none⟩),.agg X] W λe w'=>e = .returned (.int .i64 (tn:Int))∧Fr F0 W w'):=by
    rw[←htn];exact HTn
   obtain⟨m,hm⟩:∃m,max d tn=m:=⟨_,rfl⟩
   have hmx:=λts t w=>anv ts t (d:Int) (tn:Int) (m:Int) aPl w
   obtain⟨L2,hL2⟩:∃L2,L ++ [nbB h (.bool false) i]=L2:=⟨_,rfl⟩
   obtain⟨H2,hH2⟩:∃H2,H ++ [h]=H2:=⟨_,rfl⟩
   obtain⟨ps2,hps2⟩:∃ps2,ps ++ [qn]=ps2:=⟨_,rfl⟩
   rw[hL2,hH2,hps2]at I6 T6
   rw[hL2]at hlen hnew aOs
   have HL2:=Lib.hid (And.intro hL2 (And.intro hH2 (And.intro hps2 (And.intro hi (And.intro nb (And.intro htn hm))))))
   have hwW:=F.size
   have HV:=Lib.hid (And.intro (Nat.le_trans hwW hqn) (λk hk=>(hv' k hk).imp id λe=>Nat.le_trans hwW e))
   have HFT:=Lib.hid (And.intro FT (And.intro hnc zn))
   have HI6:=Lib.hid (And.intro I6 (And.intro hR (And.intro l32 (And.intro hlen (And.intro hnew aOs)))))
   have F6:=Fr.refl F0 w6
   have HT6:=Lib.hid T6
   have n4:=qo r4 rq (by decide)
   have n6:=qo r6 rq (by decide)
   have HEt:=Lib.hid (show ∀A:List Bk,L ++ [nbB h (.bool false) i]=A→tnM L A=tn∧max d (tnM L A)=m from λA e=>by rw[←e,htn];exact⟨rfl,hm⟩)
   clear HTn hne hz I6 FT hold hnew hbl aOs htn hm hL2 hH2 hps2 hi nb hqn hv' f6 hR I oh l32 T zn hnc T6 hlen F hz0 hwW
   go_wp2_with fail
   (with_reducible refine(HTn'.out _ F6).mono ?_);rintro e1 w7 ⟨rfl,f7⟩
   replace rq:=au f7 rq
   replace r4:=au f7 r4
   replace r6:=au f7 r6
   clear F6
   go_upto_region 12 with fail
   obtain⟨W8,hW8⟩:∃W,W=w7.setCell ⟨q,2,none⟩ (.int .i64 (m:Int)):=⟨_,rfl⟩
   refine jo W8 hW8 ?_
   have fs:Fr (λj=>j=q) w7 W8:=by rw[hW8];exact Fr.setCell (S:=λj=>j=q) (Fr.refl _ _) (p:=⟨q,2,none⟩) (λ_=>rfl) _
   obtain⟨I6,hR,l32,hlen,hnew,aOs⟩:=HI6.out
   have nq:=(HT6.out.fr f7).apart I6.arp rq (by decide) (by decide) (by decide)
   have T8:=(HT6.out.fr f7).aQd I6.arp fs λj hj e=>nq (by rw[←e];exact hj)
   replace r4:=fs.keeps n4 r4
   replace r6:=fs.keeps n6 r6
   replace rq:W8.heap[q]? = some (.cells #[.pointer (some ⟨p,0,none⟩),.int .i64 (k:Int),.int .i64 (m:Int)] 118 (0,0)):=by rw[hW8,gq,rq,jr];rfl
   have F8:Fr (λj=>TS p bm ps v j∨j=q) w W8:=((((Fr.refl (λj=>TS p bm ps v j∨j=q) w).trans HFT.out.1 λ_ _ h => .inl h).trans f7 λ_ _ e=>e.elim).trans fs λ_ _ e => .inr e)
   have aQh:Cub W8:=HFT.out.2.2.fr F8 λe=>HFT.out.2.1 e
   have nt4:=T8.apart I6.arp r4 (by decide) (by decide) (by decide)
   have HK8:=Lib.hid (λW (f:Fr (λj=>j=g4) W8 W)=>T8.aQd I6.arp f λj hj e=>nt4 (by rw[←e];exact hj))
   have HKH:=Lib.hid (λW (f:Fr (λj=>j=g4) W8 W)=>ad5 hR I6 (HK8.out W f) L.length aPl)
   have HKB:=Lib.hid (λW (f:Fr (λj=>j=g4) W8 W)=>aey hR (HK8.out W f) (by rw[aOs.1];omega) aPl)
   rw[hnew]at HKH
   rw[I6.aju]at HKB
   have heq:=λW=>uf W (bkT L2 (ug L2)).hash (uj h.bytes) (I6.at32 I6.best) l32
   have hbt:=λW=>akl W _ _ (ayf (uj h.bytes) l32 (ig L2 L.length) tn (decide ((bkT L2 (ug L2)).hash=uj h.bytes)))
   have sTD:=ant l32 (ig L2 L.length) (decide ((bkT L2 (ug L2)).hash=uj h.bytes)) tn
   have oTD:=ar6 (uj h.bytes) (ig L2 L.length) (decide ((bkT L2 (ug L2)).hash=uj h.bytes)) tn
   obtain⟨TD,hTD⟩:∃TD,tdC (uj h.bytes) (ig L2 L.length) (decide ((bkT L2 (ug L2)).hash=uj h.bytes)) tn=TD:=⟨_,rfl⟩
   rw[hTD]at hbt sTD oTD
   have HTD:=Lib.hid hTD
   have HHs:=Lib.hid (λW (f:Fr F0 W8 W)=>HH.out W (aQh.fr f λf=>f))
   have sY:=jl l32
   have oY:=qg (uj h.bytes)
   have sV:=jl (I6.at32 I6.best)
   have oV:=qg (bkT L2 (ug L2)).hash
   generalize hc (uj h.bytes)=Y at *
   generalize hc (bkT L2 (ug L2)).hash=V at *
   obtain⟨bb,hbb⟩:∃bb,decide ((bkT L2 (ug L2)).hash=uj h.bytes)=bb:=⟨_,rfl⟩
   obtain⟨ht,hht⟩:∃ht,ig L2 L.length=ht:=⟨_,rfl⟩
   rw[hbb]at heq
   have hbt':=hbt
   rw[hbb,hht]at hbt'
   rw[hht]at HKH
   clear hbb hht hbt
   have HF8:=Lib.hid F8
   have G:=Fr.refl F0 W8
   clear hW8 fs nq T8 F8 aQh nt4 hnew aOs hlen I6 hR l32 hTD n4 n6 HH
   go_wp2_with fail
   (with_reducible refine(HHs.out _ G).mono ?_);rintro e1 w9 ⟨rfl,f⟩
   replace rq:=au f rq
   replace r4:=au f r4
   replace G:=G.trans' f
   clear f r6 r8
   go_upto_region 13 with fail
   refine uy λW10 N=>?_
   have r11:=N.new
   replace rq:=N.old rq
   replace r4:=N.old r4
   replace G:=G.trans' N.fr
   have HG11:=Lib.hid (Array.getElem?_eq_some_iff.1 r4).1
   clear N HHs
   generalize w9.heap.size=g11 at *
   have n11:=qo r11 r4 (by decide)
   have nq4:=qo rq r4 (by decide)
   have G4:=(G.of0 (T:=λj=>j=g4))
   refine jm (S:=(λw'=>(w'.heap[q]? = some (.cells #[.pointer (some ⟨p,0,none⟩),.int .i64 (k:Int),.int .i64 (m:Int)] 118 (0,0))∧w'.heap[g4]? = some (.cells Z 66 (0,0))∧w'.heap[g11]? = some (.cells Y 24 (0,0)))∧Fr (λj=>j=g4) W8 w')) ?_ λak=>?_
   ·exact(by((try dsimp only)<;>(exact⟨⟨rq,r4,r11⟩,G4.drew⟩)))
   refine aj 0 ?_
   refine aj 1 ?_
   refine aj 2 ?_
   refine aj 3 ?_
   refine aj 4 ?_
   refine jf 5 λK hK=>?_
   go_simp
   ((with_reducible refine(HKH.out _ ak.2).mono ?_);rintro e w5 ⟨rfl,f5⟩)
   refine rpu hK (by((try dsimp only)<;>(first|exact ak|exact⟨⟨au f5 ak.1.1,au f5 ak.1.2.1,au f5 ak.1.2.2⟩,ak.2.trans f5 λ_ _ e=>e.elim⟩))) λak=>?_
   clear hK K
   refine aj 6 ?_
   refine aj 7 ?_
   refine aj 8 ?_
   refine aj 9 ?_
   refine aj 10 ?_
   refine jg ?_
   all_goals
    clear rq r4 r11 G4 G
    obtain⟨⟨rq,r4,r11⟩,G4⟩:=ak
    go_upto_region 14 with fail
    refine jm (S:=(λw'=>(w'.heap[q]? = some (.cells #[.pointer (some ⟨p,0,none⟩),.int .i64 (k:Int),.int .i64 (m:Int)] 118 (0,0))∧w'.heap[g11]? = some (.cells Y 24 (0,0))∧∃Z2:Array Value,Z2.size=35∧w'.heap[g4]? = some (.cells Z2 66 (0,0)))∧Fr (λj=>j=g4) W8 w')) ?_ λak=>?_
    ·exact(by((try dsimp only)<;>(exact⟨⟨rq,r11,Z,sz4,r4⟩,G4.drew⟩)))
    refine aj 0 ?_
    refine aj 1 ?_
    refine aj 2 ?_
    refine aj 3 ?_
    refine aj 4 ?_
    refine aj 5 ?_
    refine aj 7 ?_
    refine aj 9 ?_
    refine jf 6 λK hK=>?_
    go_simp
    ((with_reducible refine(HKB.out _ ak.2).mono ?_);rintro e w5 ⟨rfl,f5⟩)
    refine rpu hK (by((try dsimp only)<;>(first|exact ak|exact⟨⟨au f5 ak.1.1,au f5 ak.1.2.1,let ⟨Z2,a,b⟩:=ak.1.2.2;⟨Z2,a,au f5 b⟩⟩,ak.2.trans f5 λ_ _ e=>e.elim⟩))) λak=>?_
    clear hK K
    refine aj 8 ?_
    refine aj 10 ?_
    refine jf 11 λK hK=>?_
    go_simp
    ((obtain⟨Z2,sz2,r4'⟩:=ak.1.2.2);(rw[je (old:=Z2) (t':=66) r4' sz2 sTD oTD];go_simp))
    refine rpu hK (by((try dsimp only)<;>(first|exact ak|exact⟨⟨jk nq4 ak.1.1,jk n11 ak.1.2.1,TD,sTD,qp r4'⟩,ak.2.setRow (λ_=>rfl) _⟩))) λak=>?_
    clear hK K
    refine aj 12 ?_
    refine jg ?_
    all_goals
     have q2:=Lib.hid (qp (c:=TD) r4')
     have HE:=Lib.hid ak
     clear ak rq r4 r11 G4
     go_wp2
     refine bodyPost_ret (cu rfl _ _ g4 _ _ _ _ rfl q2.out Tryz.underlying66 rfl (by rw[Tryz.szTold,sTD])) rfl ?_
     obtain⟨⟨rq,_,_⟩,G4⟩:=HE.out
     obtain⟨e1,e2,e3,hi,nb,e6,e7⟩:=HL2.out
     have F9:=HF8.out
     have T9:=HK8.out _ G4
     refine⟨i,hi,qn,nb,?_,v',?_,?_,HV.out.1,HV.out.2,?_⟩
     ·rw[e6,e1,HTD.out];rfl
     ·rw[e1,e2,e3];exact T9
     ·rw[e6,e7];exact rq
     ·exact F9.trans G4 λj hj e=>absurd hj (by have:=g4l.out;omega)
  ·have f:=hne hE
   replace F:=F.trans' f
   have hEn:¬EE=0:=hE
   have HEN:=Lib.hid hE
   have q2:=Lib.hid (setRow_heap _ _ _ ZZ _ _ r4)
   have F9:=Lib.hid (F.setRow (λh=>absurd h g4l.out) ZZ)
   clear hE hne hz f
   replace g4l:=Lib.hid g4l
   go_wp2
   refine bodyPost_ret (cu rfl _ _ g4 _ _ _ _ rfl q2.out Tryz.underlying66 rfl (by rw[Tryz.szTold,sZ])) rfl ⟨λ_=>⟨rfl,F9.out⟩,λh=>absurd h HEN.out⟩
def L13:List Bk := [⟨aFb,-1,1000,545259519,.bool false⟩]
theorem auq : [b0 (.bool false)]=L13:=by unfold b0;rw[Fh.sum];rfl
end Go.Proofs.YtjlelckefiannaaGreatDoor
