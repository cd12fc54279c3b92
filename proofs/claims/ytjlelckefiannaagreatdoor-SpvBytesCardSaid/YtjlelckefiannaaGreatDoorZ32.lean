import Derived.Test.YtjlelckefiannaaGreatDoorZ2
import Derived.Test.YtjlelckefiannaaGreatDoorZ31
import Derived.Test.YtjlelckefiannaaGreatDoorZ26
import Derived.Test.YtjlelckefiannaaGreatDoorZ25
set_option maxRecDepth 100000
set_option maxHeartbeats 64000000
namespace Go.Proofs.YtjlelckefiannaaGreatDoor
set_option linter.unusedVariables false
set_option linter.unusedSimpArgs false
open Go.RowKit
theorem atl{w:World}{p:Nat}{R:Array Value}{bm:Nat}{H:List Hd}{L:List Bk}{ps:List Nat}{v:Value}{ch:List (List UInt8)}(hR:R.size=72)(I:TI H L ps)(T:TM w p R bm H L ps v ch)(i:Nat)(hi:i<L.length):
  Calls Tryz.prog 25 #[.pointer (some ⟨p,0,none⟩),.agg (hc (bkT L i).hash)] w λe w'=>e = .returned (.tuple #[.agg (hdT H i).cells,.bool true])∧Fr F0 w w':=by
 have HB:=Lib.hid (λW (f:Fr F0 w W)=>abx hR I (T.fr f) (bkT L i).hash (I.at32 hi))
 rw[afh I.nh hi,vw]at HB
 have r1:=T.blk i hi
 have sC:=I.aau hi
 have clo:∀j,j<68→(yt H L ps i)[j]? = (hdT H i).cells[j]? := λj hj=>aso (I.hd i hi).1 j hj
 have sA:=jl (I.at32 hi)
 have oA:=qg (bkT L i).hash
 have sX:=Hd.qw (I.hd i hi).1
 have oX:jh (hdT H i).cells:=Hd.one
 generalize hc (bkT L i).hash=A at *
 generalize yt H L ps i=C at *
 generalize (hdT H i).cells=X at *
 generalize ps.getD i 0=q at *
 have HLD:=Lib.hid (λW (h:W.heap[q]? = some (.cells C 145 (0,0)))=>show(iq 47 (.pointer (some ⟨q,0,none⟩))).run Tryz.prog W = .ok (.agg X) W from by
  have:=run_loadAt_mid (P:=Tryz.prog) W q 0 47 X.toList _ (λj u hj=>by
   have hl:j<68:=by have:=(List.getElem?_eq_some_iff.1 hj).1;rw[Array.length_toList]at this;omega
   rw[cell_of_row W q (0+j) _ _ _ h,Nat.zero_add,clo j hl]
   simpa using hj) Tryz.underlying47 rfl (by rw[Array.length_toList,sX];kernel_rfl)
  rw[Array.toArray_toList]at this
  exact this)
 clear T I hR hi clo
 go_enter Tryz.func25,Tryz.ntmps25
 go_wp2_with fail
 refine ru λW1 N1=>?_
 have r2:=N1.new
 have F:=((Fr.refl F0 w).alloc (.cells A 24)).trans' N1.fr
 replace r1:=N1.old (bg r1)
 rw[World.size_alloc]at r2
 clear N1
 have hg:¬w.heap.size+1<w.heap.size:=by omega
 generalize w.heap.size+1=g2 at *
 replace hg:=Lib.hid hg
 (with_reducible refine(HB.out _ F).mono ?_);rintro e w2 ⟨rfl,f⟩
 replace r1:=au f r1
 replace r2:=au f r2
 replace F:=F.trans' f
 clear f
 have ld:=HLD.out _ r1
 have F9:=Lib.hid (F.setRow (λh=>absurd h hg.out) X)
 have q2:=Lib.hid (setRow_heap _ _ _ X _ _ r2)
 go_wp2
 refine bodyPost_ret (cu rfl _ _ g2 _ _ _ _ rfl q2.out Tryz.underlying47 rfl (by rw[Tryz.szHeader,sX])) rfl ⟨rfl,F9.out⟩
theorem ahm(HD:aJi)(h:Hd)(o:h.Ok)(hb:btP h.bits)(w:World):
  Calls Tryz.prog 90 #[.agg h.cells] w λe w'=>e = .returned (.agg (gu .u64 64 4 (btT h.bits)))∧Fr F0 w w':=by
 have H1:=Lib.hid ((HD h.bits o.bits).1 hb)
 obtain⟨sC,_,_,c66,_,_,_,oC⟩:=Hd.of o
 generalize h.cells=C at *
 generalize btT h.bits=T at *
 generalize h.bits=b at *
 have s66:66<C.size:=by omega
 have d66:=jd c66 s66
 clear o hb HD
 go_enter Tryz.func90,Tryz.ntmps90
 go_wp2_with fail
 refine ru λW1 N1=>?_
 have r2:=N1.new
 have F:=((Fr.refl F0 w).alloc (.cells C 47)).trans' N1.fr
 rw[World.size_alloc]at r2
 clear N1
 have hg:¬w.heap.size+1<w.heap.size:=by omega
 generalize w.heap.size+1=g2 at *
 replace hg:=Lib.hid hg
 (with_reducible refine(H1.out _).mono ?_);rintro e w2 ⟨rfl,f⟩
 replace r2:=au f r2
 replace F:=F.trans' f
 clear f
 go_upto_region 2 with fail
 refine uy λW4 N4=>?_
 have r3:=N4.new
 replace r2:=N4.old r2
 replace F:=F.trans' N4.fr
 clear N4
 generalize w2.heap.size=g3 at *
 have F9:=Lib.hid (F.setRow (λh=>absurd h hg.out) (gu .u64 64 4 T))
 have q2:=Lib.hid (setRow_heap _ _ _ (gu .u64 64 4 T) _ _ r2)
 go_wp2
 refine bodyPost_ret (results_cell_row rfl _ _ g2 _ _ _ _ rfl q2.out Tryz.underlying143 rfl (by kernel_rfl)) rfl ⟨rfl,F9.out⟩
def inM(ch:List (List UInt8))(hs:List UInt8)(ht:Nat):Bool:=decide (ht<ch.length∧ch.getD ht []=hs)
theorem aCp{w:World}{p:Nat}{R:Array Value}{bm:Nat}{H:List Hd}{L:List Bk}{ps:List Nat}{v:Value}{ch:List (List UInt8)}(hR:R.size=72)(T:TM w p R bm H L ps v ch)
  (q:Nat) (h:Hd) (oh:h.Ok) (hs:List UInt8) (l32:hs.length=32) (up:Value) (ht wk:Nat) (tip:Bool) (r1:w.heap[q]? = some (.cells (acz h hs up ht wk tip) 145 (0,0))) :
  Calls Tryz.prog 183 #[.pointer (some ⟨p,0,none⟩),.pointer (some ⟨q,0,none⟩)] w λe w'=>e = .returned (.bool (inM ch hs ht))∧Fr F0 w w':=by
 have HAT:=Lib.hid (λW (f:Fr F0 w W)=>asg hR (T.fr f) (ht:Int))
 have sC:=ahi (up:=up) (ht:=ht) (wk:=wk) (tip:=tip) oh l32
 have ayt:=aeo (up:=up) (ht:=ht) (wk:=wk) (tip:=tip) oh l32
 have cm:∀j,j<32→(acz h hs up ht wk tip)[68+j]? = (hs.map B8)[j]? := λj hj=>ai7 oh l32 j hj
 generalize acz h hs up ht wk tip=C at *
 have ajd:101<C.size:=by omega
 have aOv:=jd ayt ajd
 have HLD:=Lib.hid (λW (h:W.heap[q]? = some (.cells C 145 (0,0)))=>show(iq 24 (.pointer (some ⟨q,68,none⟩))).run Tryz.prog W = .ok (.agg (hc hs)) W from
  abf l32 λj u hj=>by
   have hl:j<32:=by have:=(List.getElem?_eq_some_iff.1 hj).1;rw[List.length_map,l32]at this;exact this
   rw[cell_of_row W q (68+j) _ _ _ h,cm j hl]
   exact hj)
 have h32:(atM ch (ht:Int)).length=32:=by
  unfold atM
  split
  ·rename_i hh
   exact T.own.ok.get (by rw[Int.toNat_natCast];omega)
  ·exact yg
 have hE:=λw=>uf w (atM ch (ht:Int)) hs h32 l32
 have hIN:inM ch hs ht=(decide (0≤(ht:Int)∧(ht:Int)<(ch.length:Int))&&decide (atM ch (ht:Int)=hs)):=by
  unfold inM atM
  by_cases h1:ht<ch.length
  ·rw[if_pos aPl,Int.toNat_natCast,decide_eq_true (by omega:0≤(ht:Int)∧(ht:Int)<(ch.length:Int)),Bool.true_and]
   exact decide_eq_decide.2 ⟨λh=>h.2,λh=>⟨h1,h⟩⟩
  ·rw[decide_eq_false (by omega:¬(0≤(ht:Int)∧(ht:Int)<(ch.length:Int))),Bool.false_and]
   exact decide_eq_false λh=>h1 h.1
 rw[hIN]
 have sX:=jl h32
 have oX:=qg (atM ch (ht:Int))
 generalize hc (atM ch (ht:Int))=X at *
 generalize decide (atM ch (ht:Int)=hs)=e1 at *
 generalize hc hs=Y at *
 generalize decide (0≤(ht:Int)∧(ht:Int)<(ch.length:Int))=e0 at *
 clear T hR cm h32 hIN oh l32
 go_enter Tryz.func183,Tryz.ntmps183
 go_wp2_with fail
 (with_reducible refine(HAT.out _ (Fr.refl _ _)).mono ?_);rintro e w2 ⟨rfl,F⟩
 replace r1:=au F r1
 go_upto_region 2 with fail
 refine uy λW4 N4=>?_
 have r3:=N4.new
 replace r1:=N4.old r1
 replace F:=F.trans' N4.fr
 clear N4
 generalize w2.heap.size=g3 at *
 have ld:=HLD.out _ r1
 cases e0
 ·skip
  refine jm (S:=(λw'=>(w'.heap[q]? = some (.cells C 145 (0,0))∧w'.heap[g3]? = some (.cells X 24 (0,0)))∧Fr F0 w w')) ?_ λak=>?_
  ·exact(by((try dsimp only)<;>(exact⟨⟨r1,r3⟩,F.drew⟩)))
  refine aj 0 ?_
  refine aj 1 ?_
  refine uo 2 ?_
  refine uo 3 ?_
  refine uo 4 ?_
  refine uo 5 ?_
  refine uo 6 ?_
  refine uo 7 ?_
  refine aj 8 ?_
  refine aj 9 ?_
  refine jg ?_
  all_goals
   have f:=ak.2
   go_wp2_with fail
   go_ret
   exact⟨rfl,f⟩
 ·skip
  refine jm (S:=(λw'=>(w'.heap[q]? = some (.cells C 145 (0,0))∧w'.heap[g3]? = some (.cells X 24 (0,0))∧(iq 24 (.pointer (some ⟨q,68,none⟩))).run Tryz.prog w' = .ok (.agg Y) w')∧Fr F0 w w')) ?_ λak=>?_
  ·exact(by((try dsimp only)<;>(exact⟨⟨r1,r3,HLD.out _ r1⟩,F.drew⟩)))
  refine aj 0 ?_
  refine aj 1 ?_
  refine aj 2 ?_
  refine aj 3 ?_
  refine aj 4 ?_
  refine aj 5 ?_
  refine aj 6 ?_
  refine aj 7 ?_
  refine aj 8 ?_
  refine aj 9 ?_
  refine jg ?_
  all_goals
   have f:=ak.2
   go_wp2_with fail
   go_ret
   exact⟨rfl,f⟩
theorem aq8{w:World}{p:Nat}{R:Array Value}{bm:Nat}{H:List Hd}{L:List Bk}{ps:List Nat}{v:Value}{ch:List (List UInt8)}(hR:R.size=72)(I:TI H L ps)(T:TM w p R bm H L ps v ch)(i:Nat)(hi:i<L.length):
  Calls Tryz.prog 104 #[.pointer (some ⟨p,0,none⟩),.pointer (some ⟨ps.getD i 0,0,none⟩)] w λe w'=>e = .returned (.bool (decide (L.length<4096)&&(abg L i||decide (uq L<16))))∧Fr F0 w w':=by
 have r1:=T.top
 have hm:=T.map.len
 have sC:=aa1 (bm:=bm) (v:=v) (afu:=uq L) hR
 have c72:=ajn (bm:=bm) (v:=v) (afu:=uq L) hR
 have c74:=az7 (bm:=bm) (v:=v) (afu:=uq L) hR
 generalize ado R bm v (uq L)=C at *
 have r2:=T.blk i hi
 have sB:=I.aau hi
 have aOx:(yt H L ps i)[106]? = some (.bool (abg L i)):=aoe (I.hd i hi).1 (I.at32 hi)
 generalize yt H L ps i=B at *
 generalize ps.getD i 0=q at *
 generalize abg L i=tp at *
 generalize uq L=tn at *
 generalize L.length=n at *
 have s72:72<C.size:=by omega
 have d72:=jd c72 s72
 have s74:74<C.size:=by omega
 have d74:=jd c74 s74
 have auc:106<B.size:=by omega
 have d106:=jd aOx auc
 have F:=Fr.refl F0 w
 clear T I hR hi
 obtain⟨e1,he1⟩:∃e1,decide (n<4096)=e1:=⟨_,rfl⟩
 obtain⟨e2,he2⟩:∃e2,decide (tn<16)=e2:=⟨_,rfl⟩
 rw[he1,he2]
 have l1:decide ((n:Int)<4096)=e1:=by rw[←he1];exact decide_eq_decide.2 aPl
 have l2:decide ((tn:Int)<16)=e2:=by rw[←he2];exact decide_eq_decide.2 aPl
 go_enter Tryz.func104,Tryz.ntmps104
 cases e1
 ·have l3:¬(n:Int)<4096:=of_decide_eq_false l1
  go_wp2_with fail
  go_ret
  exact⟨rfl,F⟩
 ·have l3:(n:Int)<4096:=of_decide_eq_true l1
  cases tp
  ·cases e2
   ·have l4:¬(tn:Int)<16:=of_decide_eq_false l2
    go_wp2_with fail
    go_ret
    exact⟨rfl,F⟩
   ·have l4:(tn:Int)<16:=of_decide_eq_true l2
    go_wp2_with fail
    go_ret
    exact⟨rfl,F⟩
  ·go_wp2_with fail
   go_ret
   exact⟨rfl,F⟩
end Go.Proofs.YtjlelckefiannaaGreatDoor
