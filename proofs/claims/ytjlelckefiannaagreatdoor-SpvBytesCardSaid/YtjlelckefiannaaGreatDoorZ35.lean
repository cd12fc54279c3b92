import Derived.Test.YtjlelckefiannaaGreatDoorZ31
import Derived.Test.YtjlelckefiannaaGreatDoorZ2
import Derived.Test.YtjlelckefiannaaGreatDoorZ34
import Derived.Test.YtjlelckefiannaaGreatDoorZ25
set_option maxRecDepth 100000
set_option maxHeartbeats 64000000
namespace Go.Proofs.YtjlelckefiannaaGreatDoor
set_option linter.unusedVariables false
set_option linter.unusedSimpArgs false
open Go.RowKit
theorem amh:∀(vs:List Value) (cs:Array Value) (o i:Nat),o+vs.length≤cs.size→(aaz cs o vs)[i]? = if o≤i∧i<o+vs.length then vs[i-o]? else cs[i]?
 |[],cs,o,i,_=>by rw[aaz,if_neg (by simp)]
 |v::r,cs,o,i,h=>by
  rw[List.length_cons]at h
  rw[aaz,amh r _ (o+1) i (by simp;omega),Array.getElem?_setIfInBounds]
  by_cases h1:i=o
  ·subst h1
   rw[if_neg aPl,if_pos rfl,if_pos aPl,if_pos aPq,Nat.sub_self]
   rfl
  ·by_cases h2:o+1≤i∧i<o+1+r.length
   ·rw[if_pos h2,if_pos aPq,show i-o=(i-(o+1))+1 by omega,List.getElem?_cons_succ]
   ·rw[if_neg h2,if_neg (λe=>h1 e.symm),if_neg aPq]
structure HA (cs:Array Value) (l:List (List UInt8)):Prop where
 room:l.length*32≤cs.size
 ok:afx l
 at':∀m,m<l.length→∀j,j<32→cs[m*32+j]? = ((l.getD m []).map B8)[j]?
theorem HA.af4{w:World}{g c n m:Nat}{cs:Array Value}{t:TypeId}{fr:Nat×Nat}{l:List (List UInt8)}(ok:afx l)(hs:Hs w (some ⟨g,0,none⟩) c l)(hg:w.heap[g]? = some (.cells cs t fr))(hc:l.length*32≤cs.size):HA cs l:=by
 refine⟨hc,ok,λm hm j hj=>?_⟩
 have h0:=ok.get hm
 obtain⟨b,off,e,h⟩:=hs.get m hm
 cases e
 have hu:((l.getD m []).map B8)[j]? = some ((l.getD m []).map B8)[j]! := by
  rw[List.getElem?_eq_getElem (by rw[List.length_map,h0];exact hj),getElem!_pos ((l.getD m []).map B8) j (by rw[List.length_map,h0];exact hj)]
 have:=h j _ hu
 rw[cell_of_row w g _ _ _ _ hg]at this
 rw[hu,←this]
 congr 1;omega
theorem HA.put{cs:Array Value}{l:List (List UInt8)}(h:HA cs l){k:Nat}(hk:k<l.length){x:List UInt8}(hx:x.length=32):HA (aaz cs (k*32) (x.map B8)) (l.set k x):=by
 have hr:=h.room
 have hkk:k*32+32≤l.length*32:=by omega
 refine⟨by rw[List.length_set,agm];exact h.room,λy hy=>?_,λm hm j hj=>?_⟩
 ·rcases List.mem_or_eq_of_mem_set hy with hy|rfl
  ·exact h.ok y hy
  ·exact hx
 ·rw[List.length_set]at hm
  rw[amh _ _ _ _ (by rw[List.length_map,hx];omega),List.length_map,hx]
  by_cases hmk:m=k
  ·subst hmk
   rw[if_pos aPl,show m*32+j-m*32=j by omega,List.getD_eq_getElem?_getD,List.getElem?_set_self hm]
   rfl
  ·rw[if_neg aPl,h.at' m hm j hj,List.getD_eq_getElem?_getD,List.getD_eq_getElem?_getD,List.getElem?_set_ne (λe=>hmk e.symm)]
theorem HA.load{w:World}{g m:Nat}{cs:Array Value}{t:TypeId}{fr:Nat×Nat}{l:List (List UInt8)}(h:HA cs l)(hg:w.heap[g]? = some (.cells cs t fr))(hm:m<l.length):(iq 24 (.pointer (some ⟨g,m*32,none⟩))).run Tryz.prog w = .ok (.agg (hc (l.getD m []))) w :=
 abf (h.ok.get hm) λj u hj=>by
  have hj':j<32:=by have:=(List.getElem?_eq_some_iff.1 hj).1;rw[List.length_map,h.ok.get hm]at this;exact this
  rw[cell_of_row w g _ _ _ _ hg,h.at' m hm j hj']
  exact hj
theorem HA.store{w:World}{g m:Nat}{cs:Array Value}{t:TypeId}{l:List (List UInt8)}(h:HA cs l)(hg:w.heap[g]? = some (.cells cs t (0,0)))(hm:m<l.length)(x:List UInt8)(hx:x.length=32):
  ∃W,(ji 24 (.pointer (some ⟨g,m*32,none⟩)) (.agg (hc x))).run Tryz.prog w = .ok () W∧W.heap[g]? = some (.cells (aaz cs (m*32) (x.map B8)) t (0,0))∧Fr (λk=>k=g) w W:=by
 have hr:=h.room
 refine⟨w.setRow g (aaz cs (m*32) (x.map B8)),?_,qp hg,Fr.setRow (S:=λk=>k=g) (Fr.refl _ _) (λ_=>rfl) _⟩
 have:=acs (P:=Tryz.prog) w 24 g (m*32) 32 cs.size (hc x) aPl aPl Tryz.szHash
 rw[this,hg,agn rfl (jl hx) (qg x)]
 rfl
def ajm(l l':List (List UInt8))(k:Nat):Prop:=l'.length=l.length∧∀m,m<l.length→l'.getD m []=if m<k∨l.length-1-k<m then l.getD (l.length-1-m) []else l.getD m []
theorem aBl(l:List (List UInt8)):ajm l l 0:=⟨rfl,λm hm=>by rw[if_neg aPl]⟩
theorem asw{l l':List (List UInt8)}{k:Nat}(h:ajm l l' k)(hk:¬k<l.length-1-k):l'=l.reverse:=by
 refine List.ext_getElem (by rw[h.1,List.length_reverse]) λm h1 h2=>?_
 have hm:m<l.length:=by rw[←h.1];exact h1
 have:=h.2 m hm
 rw[List.getD_eq_getElem?_getD,List.getElem?_eq_getElem h1]at this
 rw[List.getElem_reverse]
 have e:l'[m]=l.getD (l.length-1-m) []:=by
  refine this.trans ?_
  split
  ·rfl
  ·rw[show l.length-1-m=m by omega]
 rw[e,List.getD_eq_getElem?_getD,List.getElem?_eq_getElem aPl]
 rfl
theorem aql{l l':List (List UInt8)}{k q:Nat}(h:ajm l l' k)(hk:k<l.length-1-k)(hq:q=l.length-1-k):ajm l ((l'.set k (l'.getD q [])).set q (l'.getD k [])) (k+1):=by
 refine⟨by rw[List.length_set,List.length_set,h.1],λm hm=>?_⟩
 have e1:=h.2 q aPl
 have e2:=h.2 k aPl
 rw[if_neg aPl]at e1
 rw[if_neg aPl]at e2
 rw[List.getD_eq_getElem?_getD]
 by_cases m1:m=q
 ·subst m1
  rw[List.getElem?_set_self (by rw[List.length_set,h.1];omega),if_pos aPl,show l.length-1-m=k by omega,←e2]
  rfl
 ·rw[List.getElem?_set_ne (λe=>m1 e.symm)]
  by_cases m2:m=k
  ·subst m2
   rw[List.getElem?_set_self (by rw[h.1];omega),if_pos aPl,←hq,←e1]
   rfl
  ·rw[List.getElem?_set_ne (λe=>m2 e.symm),←List.getD_eq_getElem?_getD,h.2 m hm]
   by_cases m3:m<k∨l.length-1-k<m
   ·rw[if_pos m3,if_pos aPl]
   ·rw[if_neg m3,if_neg aPl]
theorem aDt(g n c:Nat)(cs:Array Value)(l:List (List UInt8))(w:World)(hn:n=l.length)(hpos:0<n)(hl:n≤100000)(ha:HA cs l)(hg:w.heap[g]? = some (.cells cs 24 (0,0))):
  Calls Tryz.prog 184 #[.slice (some ⟨g,0,none⟩) n c] w λe w'=>e = .returned (.tuple #[])∧∃cs',w'.heap[g]? = some (.cells cs' 24 (0,0))∧cs'.size=cs.size∧HA cs' l.reverse∧Fr (λk=>k=g) w w':=by
 have HN:=Lib.hid hn
 have m0:IntKind.i64.wrap ((n:Int)-1)=(n:Int)-1:=by rw[IntWalk.i64_in _ aPl]
 have HA0:=Lib.hid ha
 clear hn ha
 go_enter Tryz.func184,Tryz.ntmps184
 go_wp2_with fail
 go_loopw [2,3] (λiv jv wr=>∃(k:Nat) (z:Int) (cs':Array Value) (l':List (List UInt8)),iv = .int .i64 (k:Int)∧jv = .int .i64 z∧z=(n:Int)-1-(k:Int)∧2*k≤n∧ajm l l' k∧HA cs' l'∧cs'.size=cs.size∧wr.heap[g]? = some (.cells cs' 24 (0,0))∧Fr (λk=>k=g) w wr) (λiv _ _=>n-(intOf iv).toNat)
 case atStart=>exact⟨0,_,cs,l,rfl,rfl,by omega,by omega,aBl l,HA0.out,rfl,hg,Fr.refl _ _⟩
 case round =>
  clear hg m0
  obtain⟨k,z,cs1,l1,rfl,rfl,hz,hk2,htk,ha,hsz,hg,F⟩:=hrel
  by_cases h1:(k:Int)<z
  ·obtain⟨q,rfl⟩:=Int.eq_ofNat_of_zero_le (show 0≤z by omega)
   have hl1:l1.length=n:=by rw[htk.1,HN.out]
   have hgd:wr.drew.heap[g]? = some (.cells cs1 24 (0,0)):=hg
   have ld1:=ha.load (m:=q) hgd aPl
   have ld2:=ha.load (m:=k) hgd aPl
   obtain⟨W1,st1,hg1,f1⟩:=ha.store hgd (m:=k) aPl (l1.getD q []) (ha.ok.get aPl)
   have ha1:=ha.put (k:=k) aPl (x:=l1.getD q []) (ha.ok.get aPl)
   obtain⟨W2,st2,hg2,f2⟩:=ha1.store hg1 (m:=q) (by rw[List.length_set];omega) (l1.getD k []) (ha.ok.get aPl)
   have ha2:=ha1.put (k:=q) (by rw[List.length_set];omega) (x:=l1.getD k []) (ha.ok.get aPl)
   have ht2:=aql (q:=q) htk aOi aOi
   have F1:=F.drew.trans' f1
   have F2:=F1.trans' f2
   have HW:=Lib.hid (And.intro hg2 (And.intro ha2 (And.intro ht2 (show(aaz (aaz cs1 (k*32) ((l1.getD q []).map B8)) (q*32) ((l1.getD k []).map B8)).size=cs.size by rw[agm,agm,hsz]))))
   generalize hc (l1.getD q [])=X at *
   generalize hc (l1.getD k [])=Y at *
   have lk:(k:Int)<(n:Int):=by omega
   have lq:(q:Int)<(n:Int):=by omega
   have m1:IntKind.i64.wrap ((k:Int)+1)=((k+1:Nat):Int):=by rw[IntWalk.i64_in _ aPl];rfl
   obtain⟨z2,hz2⟩:∃z2,(q:Int)-1=z2:=⟨_,rfl⟩
   have m2:IntKind.i64.wrap ((q:Int)-1)=z2:=by rw[IntWalk.i64_in _ aPl];exact hz2
   have HK:=Lib.hid (And.intro hz (And.intro hz2 (And.intro h1 hl)))
   have h1':k<q:=by omega
   clear hz hz2 hk2 htk ha hsz hg ha1 ha2 ht2 hg1 hg2 f1 f2 hl1
   go_wp2_with fail
   refine jm (S:=(λw'=>Fr (λk=>k=g) w w')) ?_ λak=>?_
   ·exact(by((try dsimp only)<;>(exact F.drew)))
   refine aj 0 ?_
   refine aj 1 ?_
   refine aj 2 ?_
   refine aj 3 ?_
   refine aj 4 ?_
   refine aj 5 ?_
   refine aj 6 ?_
   refine aj 8 ?_
   refine aj 9 ?_
   refine aj 10 ?_
   refine rdy [7,11] ?_
   refine rco (λK hK=>?_) (rco (λK hK=>?_) AllReadyH.nil)
   go_simp
   refine rpu hK aIo λak=>?_
   clear hK K
   refine jf 11 λK hK=>?_
   go_simp
   refine rpu hK aIo λak=>?_
   clear hK K
   refine aj 12 ?_
   refine jf 13 λK hK=>?_
   go_simp
   refine rpu hK aIo λak=>?_
   clear hK K
   refine aj 14 ?_
   refine jf 15 λK hK=>?_
   go_simp
   refine rpu hK aIo λak=>?_
   clear hK K
   refine jg ?_
   rotate_left
   go_simp
   refine rpu hK aIo λak=>?_
   clear hK K
   refine jf 7 λK hK=>?_
   go_simp
   refine rpu hK aIo λak=>?_
   clear hK K
   refine aj 12 ?_
   refine jf 13 λK hK=>?_
   go_simp
   refine rpu hK aIo λak=>?_
   clear hK K
   refine aj 14 ?_
   refine jf 15 λK hK=>?_
   go_simp
   refine rpu hK aIo λak=>?_
   clear hK K
   refine jg ?_
   rotate_left
   all_goals
    clear ak
    go_wp2_with fail
    go_roundw
    case rel =>
     obtain⟨h3,h4,h5,h6⟩:=HW.out
     obtain⟨k1,k2,k3,k4⟩:=HK.out
     exact⟨k+1,_,_,_,by go_num,rfl,by omega,by omega,h5,h4,h6,h3,F2⟩
    case measure=>have:=HK.out;simp[intOf];omega
  ·have HE:=asw htk aOi
   subst HE
   have HX:=Lib.hid (And.intro hg (And.intro hsz (And.intro ha F)))
   clear hz hk2 htk ha hsz hg F
   go_wp2_with fail
   go_end0
   exact⟨rfl,_,HX.out.1,HX.out.2.1,HX.out.2.2.1,HX.out.2.2.2⟩
theorem aym(a:Option Addr)(n c:Nat)(w:World)(hn:n≤100000)(hc:n≤c):
  Calls Tryz.prog 185 #[.slice a n c] w λe w'=>e = .returned (.slice a n n)∧w'=w:=by
 have l1:(n:Int)≤(c:Int):=by omega
 go_enter Tryz.func185,Tryz.ntmps185
 go_wp2_with fail
 go_ret
 exact⟨rfl,rfl⟩
theorem Hs.grow{w:World}{b:Nat}{l l2:List (List UInt8)}{n:Nat}(h:Hs w (some ⟨b,0,none⟩) n l)(hn:n=l.length){a2:Addr}{c2 n2:Nat}(h2:Hs w (some a2) c2 l2)(hn2:n2=l2.length)(h0:0<n2)(hl:l.length≤100000)(hl2:l2.length≤100000)(ty:TypeId):
  ∃a' c' w',(aK4 26 ty #[.slice (some ⟨b,0,none⟩) n n,.slice (some a2) n2 c2]).run Tryz.prog w = .ok (.slice a' (n+n2) c') w'∧abh 24 w.heap.size w' (.slice a' (n+n2) c') (l++l2)∧Fr F0 w w':=by
 subst hn hn2
 obtain⟨i0,hi,hz,hs,hb⟩:=info_parts Tryz.infoHashJ
 have hr:=run_append_grow (P:=Tryz.prog) (w:=w) 26 ty 24 i0 _ Tryz.underlying26 hi hz ⟨b,0,none⟩ l.length l.length (l.flatMap λh=>h.map B8) (by rw[hs];exact h.sl.len) h.sl.addr a2 l2.length c2 (l2.flatMap λh=>h.map B8) (by rw[hs];exact h2.sl.len) h2.sl.addr
  aPl aPl (growslice_fits aPl (by rw[hb];omega))
 have hlen:((l.flatMap λh=>h.map B8)++(l2.flatMap λh=>h.map B8)).length=(l.length+l2.length)*32:=by rw[List.length_append,acp l h.ok,acp l2 h2.ok,Nat.add_mul]
 have hge:=grownCap_ge w (l.length+l2.length) l.length 24
 have hcm:=grownCap_le_maxLen w (l.length+l2.length) l.length 24 aPn
 refine⟨_,_,_,hr,⟨⟨by rw[List.length_append,List.flatMap_append];exact hlen,.inr ⟨w.heap.size,_,_,by rw[List.length_append],Nat.zero_le _,heap_alloc_new w.drew _,by rw[List.length_append];exact hge,hcm,?_,?_⟩⟩,λk hk=>by cases hk;exact Nat.le_refl _,λx hx=>?_⟩,⟨rfl,rfl,rfl,by simp,λk hk _=>heap_alloc_old w.drew _ hk⟩⟩
 ·simp only[Array.size_append,List.size_toArray,size_zeroCells,acp l h.ok,acp l2 h2.ok]
  rw[show(Value.agg (hc z32)).cells.size=32 from rfl]
  have:grownCap w (l.length+l2.length) l.length 24=l.length+l2.length+(grownCap w (l.length+l2.length) l.length 24-(l.length+l2.length)):=by omega
  omega
 ·simp only[Array.toList_append,List.append_assoc]
  rw[←List.append_assoc,List.length_append,List.flatMap_append,←hlen]
  exact List.take_left
 ·rw[List.mem_append]at hx
  exact hx.elim (h.ok x) (h2.ok x)
end Go.Proofs.YtjlelckefiannaaGreatDoor
