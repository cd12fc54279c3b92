import Derived.Test.YtjlelckefiannaaGreatDoorRows
import Derived.WalkKit
import Derived.Lib.Hide
import Derived.Deep.RegionHeld
import Derived.Deep.RegionHeld3
import Derived.Deep.Draws
import Derived.WalkSpells
import Derived.WalkLawsBesides
import Derived.Laws.Rows
import Derived.Laws.Tables
import Derived.Laws.StructEq
import Derived.ChangeKeysEq
import Derived.Below
import Derived.Test.YtjlelckefiannaaGreatDoorZ1
import Derived.RangeFuncNested
import Derived.RangeFuncBound
import Derived.RangeFuncCalls
import Derived.RangeFuncLeaves
import Derived.Shelf.Abstract
import Derived.Shelf.RegionOpen
import Derived.OwnWalkIn
import Derived.TacticsInMore
import Derived.LoopNIn
import Derived.LoopIn
import Derived.RangeFuncBox
import Derived.RangeFuncWrites
import Derived.Laws.ResultCell
import Derived.OrdersIn
import Derived.BigRegionIn
import Derived.Deep.MidRow
import Derived.ProofKit
import Derived.Deep.Slices
import Derived.Deep.Fields
import Derived.OpenShut
set_option maxRecDepth 100000
set_option maxHeartbeats 64000000
namespace Go.Proofs.YtjlelckefiannaaGreatDoor
set_option linter.unusedVariables false
section
variable {P:Program} {md:Region.Mode} {ops:Array Oper} {Q:Exit→Act→World→Prop} {S:World→Prop} {fuel:Nat} {listed:Array Bool} {a:Act} {w:World}
theorem aj(i:Nat){d:Option Tmp}{op:Op}{ty:TypeId}{pos:String}{af:Array Edge}{gd:Option (Nat×Bool)}{v:Value}{a':Act}(h:wpAnyH P md ops Q S fuel (listed.setIfInBounds i true) a' w)
  (hi:ops[i]? = some ⟨d,op,ty,pos,af,gd⟩:=by rfl) (hs:Region.noSelect ops=true:=by kernel_rfl) (hf:Region.free md ops listed i=true:=by kernel_rfl)
  (hr:(Region.ready md ops listed).contains i=true:=by kernel_rfl) (hQ:∀c a w,Q (.panic c) (a.put (d) v) w→Q (.panic c) a w:=by exact λ_ _ _ h=>h)
  (hw:Region.wanted ⟨d,op,ty,pos,af,gd⟩ (yielded ops a.tmps)=true:=by rfl)
  (hy:∀w,S w→(execOp a.eval ⟨d,op,ty,pos,af,gd⟩).run P w = .ok (.value v) w:=by(intro w hSw;(try dsimp only at hSw);go_simp;(try(with_reducible rfl));done))
  (ha:a.put (d) v=a':=by(conv=>lhs;(simp only[Act.put,List.setIfInBounds_toArray];dsimp only[List.set_cons_zero,List.set_cons_succ])))
  (hS:S w:=by assumption):wpAnyH P md ops Q S (fuel+1) listed a w :=
 wpAnyH_take hi hs hf hr hQ (Or.inl ⟨hw,hy⟩) hS (ha▸h)
theorem uo(i:Nat){d:Option Tmp}{op:Op}{ty:TypeId}{pos:String}{af:Array Edge}{gd:Option (Nat×Bool)}{a':Act}(h:wpAnyH P md ops Q S fuel (listed.setIfInBounds i true) a' w)
  (hi:ops[i]? = some ⟨d,op,ty,pos,af,gd⟩:=by rfl) (hs:Region.noSelect ops=true:=by kernel_rfl) (hf:Region.free md ops listed i=true:=by kernel_rfl)
  (hr:(Region.ready md ops listed).contains i=true:=by kernel_rfl) (hQ:∀c a w,Q (.panic c) (a.put (d) undef) w→Q (.panic c) a w:=by exact λ_ _ _ h=>h)
  (hw:Region.wanted ⟨d,op,ty,pos,af,gd⟩ (yielded ops a.tmps)=false:=by rfl)
  (ha:a.put (d) undef=a':=by(conv=>lhs;(simp only[Act.put,List.setIfInBounds_toArray];dsimp only[List.set_cons_zero,List.set_cons_succ])))
  (hS:S w:=by assumption):wpAnyH P md ops Q S (fuel+1) listed a w :=
 wpAnyH_take hi hs hf hr hQ (Or.inr ⟨hw,rfl⟩) hS (ha▸h)
theorem jf(i:Nat){d:Option Tmp}{op:Op}{ty:TypeId}{pos:String}{af:Array Edge}{gd:Option (Nat×Bool)}
  (h:∀K':Act→World→Prop,Shut (∀a w,S w→(S w→wpAnyH P md ops Q S fuel (listed.setIfInBounds i true) a w)→K' a w)→if Region.wanted ⟨d,op,ty,pos,af,gd⟩ (yielded ops a.tmps)=true then Oper.wp P ⟨d,op,ty,pos,af,gd⟩ a w K' Q else K' (a.put d undef) w)
  (hr:Region.ready md ops listed = [i]:=by kernel_rfl) (ho:ops[i]? = some ⟨d,op,ty,pos,af,gd⟩:=by rfl):wpAnyH P md ops Q S (fuel+1) listed a w :=
 wpAnyH_ready hr (by simp) (AllReadyH.cons ho h AllReadyH.nil)
theorem jg(h:Q .normal a w)(hr:Region.ready md ops listed = []:=by kernel_rfl):wpAnyH P md ops (NoPanic Q) S fuel listed a w:=wpAnyH_done hr (NoPanic.normal h) _
theorem jm{id:Nat}(hS:S w.drew)(h:S w.drew→wpAnyH P .any ops (NoPanic Q) S ops.size (Array.replicate ops.size false) a w.drew)(hm:P.follows .mixedOrders=true:=by kernel_rfl):(Code.region id ops true).wp P Q a w :=
 wp_region_noPanic (wp_region_held_drew hm hS h)
end
theorem aST{α:Type}(l:List α)(i:Nat)(x:α):l.toArray.setIfInBounds i x=(l.set i x).toArray:=by simp
theorem aS0{α:Type}(y:α)(l:List α)(x:α):(y::l).set 0 x=x::l:=rfl
theorem aS1{α:Type}(y:α)(l:List α)(i:Nat)(x:α):(y::l).set (i+1) x=y::l.set i x:=rfl
theorem rpu{P:Program}{md:Region.Mode}{ops:Array Oper}{Q:Exit→Act→World→Prop}{S:World→Prop}{fuel:Nat}{listed:Array Bool}{a a':Act}{w:World}{K:Act→World→Prop}(hK:Shut (∀a w,S w→(S w→wpAnyH P md ops Q S fuel listed a w)→K a w))(hS:S w)(h:S w→wpAnyH P md ops Q S fuel listed a' w)(ha:a=a':=by(conv=>lhs;(try(simp only[Act.put,aST];dsimp only[aS0,aS1])))):K a w :=
 hK.out a w hS (ha▸h)
section
variable {P:Program} {md:Region.Mode} {ops:Array Oper} {Q:Exit→Act→World→Prop} {S:World→Prop} {fuel:Nat} {listed:Array Bool} {a:Act} {w:World}
theorem rdy(rs:List Nat)(h:AllReadyH P md ops Q S fuel listed a w rs)(hr:Region.ready md ops listed=rs:=by kernel_rfl)(hne:rs ≠ []:=by simp):wpAnyH P md ops Q S (fuel+1) listed a w:=wpAnyH_ready hr hne h
theorem rco{i:Nat}{d:Option Tmp}{op:Op}{ty:TypeId}{pos:String}{af:Array Edge}{gd:Option (Nat×Bool)}{rs:List Nat}
  (h:∀K':Act→World→Prop,Shut (∀a w,S w→(S w→wpAnyH P md ops Q S fuel (listed.setIfInBounds i true) a w)→K' a w)→if Region.wanted ⟨d,op,ty,pos,af,gd⟩ (yielded ops a.tmps)=true then Oper.wp P ⟨d,op,ty,pos,af,gd⟩ a w K' Q else K' (a.put d undef) w)
  (hs:AllReadyH P md ops Q S fuel listed a w rs) (ho:ops[i]? = some ⟨d,op,ty,pos,af,gd⟩:=by rfl):AllReadyH P md ops Q S fuel listed a w (i::rs):=AllReadyH.cons ho h hs
end
theorem zz1{p:Prop}(h:p:=by((try dsimp only)<;>(first|exact ak|exact⟨⟨bg ak.1.1,bg ak.1.2.1,HLH.out _ _ (bg ak.1.2.1)⟩,ak.2.alloc _⟩|exact⟨⟨ag6 _ (by first|exact heap_alloc_new _ _|exact bg (heap_alloc_new _ _)|exact aag _ _ (by simp)) ak.1.1 (by have:=HQ.out;omega),ag6 _ (by first|exact heap_alloc_new _ _|exact bg (heap_alloc_new _ _)|exact aag _ _ (by simp)) ak.1.2.1 (by have:=HQ.out;omega),HLH.out _ _ (ag6 _ (by first|exact heap_alloc_new _ _|exact bg (heap_alloc_new _ _)|exact aag _ _ (by simp)) ak.1.2.1 (by have:=HQ.out;omega))⟩,ak.2.trans (asz (by first|exact heap_alloc_new _ _|exact bg (heap_alloc_new _ _)|exact aag _ _ (by simp)) _) (λi hi e=>by have:=HQ.out;omega)⟩))):p:=h
theorem zz2{p:Prop}(h:p:=by((try dsimp only)<;>(first|exact ak|exact⟨⟨bg ak.1.1,bg ak.1.2.1,H2.out _ (bg ak.1.2.1),H3.out _ (ak.2.alloc _)⟩,ak.2.alloc _⟩|exact⟨⟨jk (by have:=HG.out;omega) ak.1.1,jk (by have:=HG.out;omega) ak.1.2.1,H2.out _ (jk (by have:=HG.out;omega) ak.1.2.1),H3.out _ (ak.2.setRow (λh=>by have:=HG.out;omega) _)⟩,ak.2.setRow (λh=>by have:=HG.out;omega) _⟩))):p:=h
theorem zz3{p:Prop}(h:p:=by((try dsimp only)<;>(first|exact ak|exact⟨⟨bg ak.1.1,bg ak.1.2⟩,ak.2.alloc _⟩|exact⟨⟨jk (by have:=z4.out;(try simp only[World.size_alloc,dh]at z5);omega) ak.1.1,jk (by have:=z4.out;(try simp only[World.size_alloc,dh]at z5);omega) ak.1.2⟩,ak.2.setRow (λh=>by(try simp only[World.size_alloc,dh]at h z5);omega) _⟩))):p:=h
theorem zz4{p:Prop}(h:p:=by((try dsimp only)<;>(first|exact⟨⟨bg ak.1.1,bg ak.1.2.1,bg ak.1.2.2.1,bg ak.1.2.2.2⟩,ak.2.alloc _⟩|exact⟨⟨jk (by have:=HG0.out;omega) ak.1.1,jk (by have:=HG0.out;omega) ak.1.2.1,jk (by have:=HG0.out;omega) ak.1.2.2.1,jk (by have:=HG0.out;omega) ak.1.2.2.2⟩,ak.2.setRow (λh=>by have:=HG0.out;omega) _⟩))):p:=h
theorem zz5{p:Prop}(h:p:=by((try dsimp only)<;>(first|exact ak|exact⟨⟨bg ak.1.1,bg ak.1.2.1,H4.out _ (bg ak.1.1)⟩,ak.2.alloc _⟩|exact⟨⟨jk (by have:=HG.out;omega) ak.1.1,jk (by have:=HG.out;omega) ak.1.2.1,H4.out _ (jk (by have:=HG.out;omega) ak.1.1)⟩,ak.2.setRow (λh=>by have:=HG.out;omega) _⟩))):p:=h
theorem zz6{p:Prop}(h:p:=by((try dsimp only)<;>(first|exact ak|exact⟨HS.out _ (ak.2.trans' f5),ak.2.trans' f5⟩|exact⟨HS.out _ (ak.2.alloc _),ak.2.alloc _⟩|exact⟨HS.out _ (ak.2.setRow (λh=>by(try simp only[World.size_alloc,dh]at h z5);omega) _),ak.2.setRow (λh=>by(try simp only[World.size_alloc,dh]at h z5);omega) _⟩))):p:=h
theorem zz7{p:Prop}(h:p:=by((try dsimp only)<;>(first|exact ak|exact⟨⟨bg ak.1.1,bg ak.1.2.1,bg ak.1.2.2⟩,ak.2.alloc _⟩|exact⟨⟨f5.keeps HK3.out.1 ak.1.1,f5.keeps HK3.out.2.1 ak.1.2.1,f5.keeps HK3.out.2.2 ak.1.2.2⟩,ak.2.trans f5 (λk hk e=>e.elim (λe=>absurd hk (by have:=HTS.out.2.1;omega)) id)⟩))):p:=h
theorem zz8{p:Prop}(h:p:=by((try dsimp only)<;>(first|exact⟨⟨bg ak.1.1,bg ak.1.2.1,bg ak.1.2.2⟩,ak.2.alloc _⟩|exact⟨⟨jk (by have:=HG0.out;omega) ak.1.1,jk (by have:=HG0.out;omega) ak.1.2.1,jk (by have:=HG0.out;omega) ak.1.2.2⟩,ak.2.setRow (λh=>by have:=HG0.out;omega) _⟩))):p:=h
theorem zz9{p:Prop}(h:p:=by((try dsimp only)<;>(first|exact ak|exact⟨HK.out _ (bg ak.1.1),ak.2.alloc _⟩|exact⟨HK.out _ (jk (by have:=z3.out;(try simp only[World.size_alloc,dh]at z5);omega) ak.1.1),ak.2.setRow (λh=>by(try simp only[World.size_alloc,dh]at h z5);omega) _⟩))):p:=h
theorem aub{p:Prop}(h:p:=by((try dsimp only)<;>(first|exact ak|exact⟨⟨HL1.out _ (ak.2.trans' f5),HL2.out _ (ak.2.trans' f5)⟩,ak.2.trans' f5⟩|exact⟨⟨HL1.out _ (ak.2.alloc _),HL2.out _ (ak.2.alloc _)⟩,ak.2.alloc _⟩|exact⟨⟨HL1.out _ f7,HL2.out _ f7⟩,f7⟩|exact⟨⟨HL1.out _ f8.out,HL2.out _ f8.out⟩,f8.out⟩))):p:=h
theorem zz11{p:Prop}(h:p:=by((try dsimp only)<;>(first|exact ak|exact⟨bg ak.1,ak.2.alloc _⟩|exact⟨jk (by have:=z4.out;(try simp only[World.size_alloc,dh]at z5);omega) ak.1,ak.2.setRow (λh=>by(try simp only[World.size_alloc,dh]at h z5);omega) _⟩))):p:=h
theorem ade{p:Prop}(h:p:=by((try dsimp only)<;>(first|exact⟨⟨bg ak.1.1,bg ak.1.2⟩,ak.2.alloc _⟩|exact⟨⟨jk (by have:=HG0.out;omega) ak.1.1,jk (by have:=HG0.out;omega) ak.1.2⟩,ak.2.setRow (λh=>by have:=HG0.out;omega) _⟩))):p:=h
theorem zz13{p:Prop}(h:p:=by((try dsimp only)<;>(first|exact ak|exact⟨au f5 ak.1,au f5 ak.2.1,HLq.out _ g4⟩|exact⟨bg ak.1,bg ak.2.1,HLq.out _ (g4.alloc _)⟩|exact⟨p8,p9,HLw.out _ aKy.out⟩|exact⟨p86,p96,HLw.out _ aOo.out⟩))):p:=h
theorem zz14{p:Prop}(h:p:=by((try dsimp only)<;>(first|exact ak|exact F'.trans' N3.fr|exact ak.trans' f5|exact ak.setRow (λh=>absurd h g4l.out) _|exact(ak.setRow (λh=>absurd h g4l.out) _).drew))):p:=h
theorem aEo{p:Prop}(h:p:=by((try dsimp only)<;>(first|exact ak|exact⟨bg ak.1,bg ak.2.1,HLq.out _ (g4.alloc _)⟩|exact⟨p8,p9,HLw.out _ aKy.out⟩|exact⟨p86,p96,HLw.out _ aOo.out⟩))):p:=h
theorem zz16{p:Prop}(h:p:=by((try dsimp only)<;>(first|exact ak|exact⟨⟨au f5 ak.1.1,au f5 ak.1.2.1,H2.out _ (au f5 ak.1.2.1),H3.out _ (ak.2.trans' f5)⟩,ak.2.trans' f5⟩))):p:=h
theorem zz17{p:Prop}(h:p:=by((try dsimp only)<;>(first|exact ak|exact⟨au f5 ak.1,au f5 ak.2.1,HLq.out _ g4⟩|exact⟨p8,p9,HLw.out _ aKy.out⟩|exact⟨p86,p96,HLw.out _ aOo.out⟩))):p:=h
theorem aEn{p:Prop}(h:p:=by((try dsimp only)<;>(first|exact ak|exact⟨HS.out _ (ak.2.trans' f5),ak.2.trans' f5⟩|exact⟨HS.out _ (ak.2.alloc _),ak.2.alloc _⟩))):p:=h
theorem aEm{p:Prop}(h:p:=by((try dsimp only)<;>(first|exact ak|exact⟨⟨au f5 ak.1.1,au f5 ak.1.2.1,H4.out _ (au f5 ak.1.1)⟩,ak.2.trans' f5⟩))):p:=h
theorem arn{p:Prop}(h:p:=by((try dsimp only)<;>(exact⟨⟨au f5 ak.1.1,au f5 ak.1.2.1,au f5 ak.1.2.2.1,au f5 ak.1.2.2.2⟩,ak.2.trans' f5⟩))):p:=h
theorem aKs{p:Prop}(h:p:=by((try dsimp only)<;>(first|exact ak|exact⟨⟨au f5 ak.1.1,au f5 ak.1.2.1,au f5 ak.1.2.2⟩,ak.2.trans' f5⟩))):p:=h
theorem zz22{p:Prop}(h:p:=by((try dsimp only)<;>(first|exact ak|exact⟨(setRow_other _ _ _ _ n48).trans ak.1,(setRow_other _ _ _ _ n108).trans ak.2⟩))):p:=h
theorem zz23{p:Prop}(h:p:=by((try dsimp only)<;>(first|exact ak|exact⟨⟨au f5 ak.1.1,HLD.out _ _ (au f5 ak.1.1)⟩,ak.2.trans' f5⟩))):p:=h
theorem zz24{p:Prop}(h:p:=by((try dsimp only)<;>(first|exact ak|exact⟨⟨au f5 ak.1.1,HS.out _ (ak.2.trans' f5)⟩,ak.2.trans' f5⟩))):p:=h
theorem aPt{p:Prop}(h:p:=by((try dsimp only)<;>(exact⟨⟨au f5 ak.1.1,au f5 ak.1.2.1,au f5 ak.1.2.2⟩,ak.2.trans' f5⟩))):p:=h
theorem zz26{p:Prop}(h:p:=by((try dsimp only)<;>(first|exact ak|(simp only[dh];rw[dn _ _ _ _ _ n1];assumption)))):p:=h
theorem zz27{p:Prop}(h:p:=by((try dsimp only)<;>(first|exact ak|exact⟨HLW.out _ (au (ak.2.trans' f5) hq3),ak.2.trans' f5⟩))):p:=h
theorem ak5{p:Prop}(h:p:=by((try dsimp only)<;>(first|exact ak|exact⟨⟨au f5 ak.1.1,au f5 ak.1.2⟩,ak.2.trans' f5⟩))):p:=h
theorem zz29{p:Prop}(h:p:=by first|exact heap_alloc_new _ _|exact bg (heap_alloc_new _ _)|exact aag _ _ (by simp)):p:=h
theorem aPs{p:Prop}(h:p:=by((try dsimp only)<;>(first|exact ak|exact⟨HK.out _ (au f5 ak.1.1),ak.2.trans' f5⟩))):p:=h
theorem zz31{p:Prop}(h:p:=by have:=HLc.out;have:=HLb.out;simp only[List.length_append,List.length_nil,jy];omega):p:=h
theorem arl{p:Prop}(h:p:=by((try dsimp only)<;>(exact⟨⟨au f5 ak.1.1,au f5 ak.1.2⟩,ak.2.trans' f5⟩))):p:=h
theorem zz33{p:Prop}(h:p:=by((try dsimp only)<;>(first|exact ak|exact F'.trans' N3.fr|exact ak.trans' f5))):p:=h
theorem aPr{p:Prop}(h:p:=by((try dsimp only)<;>(first|exact ak|exact⟨au f5 ak.1,ak.2.trans' f5⟩))):p:=h
theorem zz35{p:Prop}(h:p:=by have:=HLc.out;have:=HLb.out;simp only[List.length_append,List.length_nil];omega):p:=h
theorem zz36{p:Prop}(h:p:=by have:=hi.2.size;have:=f.size;have:=hwz.out;have:=am1.out;omega):p:=h
theorem zz37{p:Prop}(h:p:=by have:=L1.out;simp only[List.length_append,qh,jy];omega):p:=h
theorem zz38{p:Prop}(h:p:=by intro v hv;simp only[List.mem_map]at hv;obtain⟨i,_,rfl⟩:=hv;rfl):p:=h
theorem aIo{p:Prop}(h:p:=by((try dsimp only)<;>(first|exact ak|exact F1|exact F2))):p:=h
theorem zz40{p:Prop}(h:p:=by((try dsimp only)<;>(exact⟨⟨r1,r0,HL.out _ F.drew⟩,F.drew⟩))):p:=h
theorem aKr{p:Prop}(h:p:=by simp only[List.length_append,le4,List.length_nil];omega):p:=h
theorem zz42{p:Prop}(h:p:=by((try dsimp only)<;>(exact⟨⟨r1,r3,r5,h2⟩,F.drew⟩))):p:=h
theorem zz43{p:Prop}(h:p:=by((try dsimp only)<;>(exact⟨⟨r1,r2,r3⟩,F.drew⟩))):p:=h
theorem zz44{p:Prop}(h:p:=by((try dsimp only)<;>(exact⟨⟨r1,r3,r5⟩,F.drew⟩))):p:=h
theorem zz45{p:Prop}(h:p:=by((try dsimp only)<;>(exact⟨⟨r1,r0⟩,F.drew⟩))):p:=h
theorem zz46{p:Prop}(h:p:=by((try dsimp only)<;>(exact⟨⟨r1,r2⟩,F.drew⟩))):p:=h
theorem zz47{p:Prop}(h:p:=by((try dsimp only)<;>(exact⟨hg,hf.drew⟩))):p:=h
theorem zz48{p:Prop}(h:p:=by(try simp only[World.size_alloc]);omega):p:=h
theorem zz49{p:Prop}(h:p:=by have:=aud.out;have:=f6.size;omega):p:=h
theorem ahq{p:Prop}(h:p:=by rw[Tryz.sz8];simp[zy,hz]):p:=h
theorem aIn{p:Prop}(h:p:=by((try dsimp only)<;>(exact trivial))):p:=h
theorem zz52{p:Prop}(h:p:=by have:=HB.out;have:=HN.out;omega):p:=h
theorem abz{p:Prop}(h:p:=by((try dsimp only)<;>(exact ak))):p:=h
theorem aKq{p:Prop}(h:p:=by first|(simp;done)|(simp;omega)):p:=h
theorem ark{p:Prop}(h:p:=by((try dsimp only)<;>(trivial))):p:=h
theorem zz56{p:Prop}(h:p:=by have:=HG.out;simp only;omega):p:=h
theorem zu{p:Prop}(h:p:=by rw[Array.length_toList];omega):p:=h
theorem aPq{p:Prop}(h:p:=by rw[List.length_cons];omega):p:=h
theorem aOk{p:Prop}(h:p:=by rw[jc,hr1];rfl):p:=h
theorem zz60{p:Prop}(h:p:=by have:=HZ.out;simp;omega):p:=h
theorem zz61{p:Prop}(h:p:=by rw[List.length_map];omega):p:=h
theorem zz62{p:Prop}(h:p:=by rw[jc,q2];rfl):p:=h
theorem aPp{p:Prop}(h:p:=by rw[jc,r1];rfl):p:=h
theorem zz64{p:Prop}(h:p:=by rw[jc,r2];rfl):p:=h
theorem aPo{p:Prop}(h:p:=by rw[qm];exact hi):p:=h
theorem ak9{p:Prop}(h:p:=by rw[qm];exact hk):p:=h
theorem aOj{p:Prop}(h:p:=by have:=hwz.out;omega):p:=h
theorem aor{p:Prop}(h:p:=by rw[zf];omega):p:=h
theorem aEl{p:Prop}(h:p:=by simp[uj,tu]):p:=h
theorem zz70{p:Prop}(h:p:=by have:=HA.out;omega):p:=h
theorem aOi{p:Prop}(h:p:=by have:=HN.out;omega):p:=h
theorem arj{p:Prop}(h:p:=by have:=hm.out;omega):p:=h
theorem aOh{p:Prop}(h:p:=by rw[Tryz.szAddress,Z]):p:=h
theorem zz74{p:Prop}(h:p:=by rw[Tryz.szRProof,sZ]):p:=h
theorem zz75{p:Prop}(h:p:=by rw[Tryz.szWide];rfl):p:=h
theorem aOg{p:Prop}(h:p:=by rw[Tryz.szHashJ,sz]):p:=h
theorem afa{p:Prop}(h:p:=by rw[aat];omega):p:=h
theorem aPn{p:Prop}(h:p:=by unfold maxLen;omega):p:=h
theorem zz79{p:Prop}(h:p:=by rw[Tryz.szTx];rfl):p:=h
theorem aua{p:Prop}(h:p:=by rw[HC.out];omega):p:=h
theorem aru{p:Prop}(h:p:=by rw[←e];exact hk):p:=h
theorem aPm{p:Prop}(h:p:=by rw[Tryz.sz8,hsz]):p:=h
theorem zz83{p:Prop}(h:p:=by simp[jy]):p:=h
theorem aPl{p:Prop}(h:p:=by omega):p:=h
end Go.Proofs.YtjlelckefiannaaGreatDoor
namespace Go.Proofs.YtjlelckefiannaaGreatDoor
set_option linter.unusedVariables false
set_option linter.unusedSimpArgs false
open Go.RowKit
structure Fr (S:Nat→Prop) (w w':World):Prop where
 os:w'.os=w.os
 tape:w'.tape=w.tape
 output:w'.output=w.output
 size:w.heap.size≤w'.heap.size
 block:∀k,k<w.heap.size→¬S k→w'.heap[k]? = w.heap[k]?
def F0:Nat→Prop:=λ_=>False
theorem Fr.refl(S:Nat→Prop)(w:World):Fr S w w:=⟨rfl,rfl,rfl,Nat.le_refl _,λ_ _ _=>rfl⟩
theorem Fr.mono{S T:Nat→Prop}{w w':World}(h:Fr S w w')(hs:∀k,k<w.heap.size→S k→T k):Fr T w w' :=
 ⟨h.os,h.tape,h.output,h.size,λk hk ht=>h.block k hk λs=>ht (hs k hk s)⟩
theorem Fr.of0{T:Nat→Prop}{w w':World}(h:Fr F0 w w'):Fr T w w':=h.mono λ_ _ f=>f.elim
theorem Fr.trans{S T:Nat→Prop}{a b c:World}(h:Fr S a b)(k:Fr T b c)(hst:∀i,i<a.heap.size→T i→S i):Fr S a c :=
 ⟨k.os.trans h.os,k.tape.trans h.tape,k.output.trans h.output,Nat.le_trans h.size k.size,
  λi hi hs=>(k.block i (Nat.lt_of_lt_of_le hi h.size) λt=>hs (hst i hi t)).trans (h.block i hi hs)⟩
theorem Fr.trans'{S:Nat→Prop}{a b c:World}(h:Fr S a b)(k:Fr S b c):Fr S a c:=h.trans k λ_ _ s=>s
theorem Fr.alloc{S:Nat→Prop}{a w:World}(h:Fr S a w)(o:Obj):Fr S a (w.alloc o) :=
 h.trans (T:=F0) ⟨rfl,rfl,rfl,by simp,λk hk _=>heap_alloc_old w o hk⟩ λ_ _ f=>f.elim
theorem Fr.drew{S:Nat→Prop}{a w:World}(h:Fr S a w):Fr S a w.drew:=⟨h.os,h.tape,h.output,h.size,h.block⟩
theorem Fr.setCell{S:Nat→Prop}{a w:World}(h:Fr S a w){p:Addr}(hp:p.block<a.heap.size→S p.block)(u:Value):Fr S a (w.setCell p u) :=
 h.trans (T:=λk=>k=p.block) ⟨rfl,rfl,rfl,by simp[World.setCell],λk _ hk=>Below.heap_setCell _ _ _ _ hk⟩ λi hi e=>by subst e;exact hp hi
theorem Fr.grown{S:Nat→Prop}{a w w':World}{row:Option Nat}(h:Fr S a w)(hg:w.grownBy w' row)(hr:∀k,row=some k→k<a.heap.size→S k):Fr S a w' :=
 h.trans (T:=λk=>row=some k) ⟨hg.os,hg.tape,hg.output,hg.size,λk hk hn=>hg.block k hk λe=>hn e.symm⟩ λi hi e=>hr i e hi
theorem Fr.lt{S:Nat→Prop}{w w':World}(h:Fr S w w'){k:Nat}(hk:k<w.heap.size):k<w'.heap.size:=Nat.lt_of_lt_of_le hk h.size
theorem Fr.cell{S:Nat→Prop}{w w':World}(h:Fr S w w'){p:Addr}{v:Value}(hp:¬S p.block)(hc:w.cell? p=some v):w'.cell? p=some v :=
 (World.cell?_of_block (h.block p.block (World.block_lt_of_cell? w p hc) hp)).trans hc
theorem Fr.keeps{S:Nat→Prop}{w w':World}(h:Fr S w w'){k:Nat}{o:Obj}(hp:¬S k)(hc:w.heap[k]? = some o):w'.heap[k]? = some o :=
 (h.block k (Array.getElem?_eq_some_iff.1 hc).1 hp).trans hc
theorem Fr.below{S:Nat→Prop}{w w':World}{B:Nat}(h:Fr S w w')(hB:B≤w.heap.size)(hs:∀k,k<B→¬S k):Below B w w' :=
 ⟨h.os,h.tape,h.output,h.size,λk hk=>h.block k (by omega) (hs k hk)⟩
theorem Fr.of_below{w w':World}(h:Below w.heap.size w w'):Fr F0 w w':=⟨h.os,h.tape,h.output,h.size,λk hk _=>h.block k hk⟩
theorem Fr.uz{w w':World}{n:Nat}(h:Below n w w'):Fr (λk=>n≤k) w w':=⟨h.os,h.tape,h.output,h.size,λk _ hn=>h.block k (by omega)⟩
structure Sl (w:World) (size:Nat) (a:Option Addr) (c:Nat) (n:Nat) (xs:List Value):Prop where
 len:xs.length=n*size
 room:n≤c
 most:c≤maxLen
 nil:a=none→c=0
 cell:∀j u,xs[j]? = some u→∃b off,a=some ⟨b,off,none⟩∧w.cell? ⟨b,off+j,none⟩=some u
def ql:Option Addr→Option Nat|some a=>some a.block|none=>none
theorem Sl.kept{w w':World}{size:Nat}{a:Option Addr}{c n:Nat}{xs:List Value}(h:Sl w size a c n xs)
  (hb:∀b,ql a=some b→b<w.heap.size→w'.heap[b]? = w.heap[b]?):Sl w' size a c n xs:=by
 refine⟨h.len,h.room,h.most,h.nil,λj u hj=>?_⟩
 obtain⟨b,off,rfl,hc⟩:=h.cell j u hj
 have hl:b<w.heap.size:=World.block_lt_of_cell? w ⟨b,off+j,none⟩ hc
 exact⟨b,off,rfl,(World.cell?_of_block (a:=⟨b,off+j,none⟩) (hb b rfl hl)).trans hc⟩
theorem Sl.fr{S:Nat→Prop}{w w':World}{size:Nat}{a:Option Addr}{c n:Nat}{xs:List Value}(h:Sl w size a c n xs)(hf:Fr S w w')
  (hb:∀b,ql a=some b→¬S b):Sl w' size a c n xs:=h.kept λb e hl=>hf.block b hl (hb b e)
theorem Sl.frn{S:Nat→Prop}{w w':World}{size:Nat}{a:Option Addr}{c n:Nat}{xs:List Value}(h:Sl w size a c n xs)(hf:Fr S w w')
  (hb:xs ≠ []→∀b,ql a=some b→¬S b):Sl w' size a c n xs:=by
 refine⟨h.len,h.room,h.most,h.nil,λj u hj=>?_⟩
 have hne:xs ≠ []:=by rintro rfl;simp at hj
 exact(h.fr hf (hb hne)).cell j u hj
theorem Sl.nothing(w:World)(size:Nat):Sl w size none 0 0 []:=⟨by simp,Nat.le_refl _,Nat.zero_le _,λ_=>rfl,λj u h=>by simp at h⟩
theorem qm(a:Option Addr)(n c:Nat):(Value.slice a n c).ownBlock=ql a:=by cases a<;>rfl
theorem Sl.af4{w:World}{base e size:Nat}{a:Option Addr}{c n m:Nat}{xs:List Value}(h:w.ownsRow base e size (.slice a n c) m xs):m=n∧Sl w size a c n xs:=by
 obtain⟨hl,h⟩:=h
 rcases h with⟨h,rfl⟩|⟨g,cap,cur,h,_,hg,hn,hm,hs,ht⟩
 ·simp only[Value.slice.injEq]at h
  obtain⟨rfl,rfl,rfl⟩:=h
  exact⟨rfl,by simpa using hl,Nat.le_refl _,Nat.zero_le _,λ_=>rfl,λj u hj=>by
   have:xs = []:=List.eq_nil_of_length_eq_zero (by simpa using hl)
   subst this;simp at hj⟩
 ·simp only[Value.slice.injEq]at h
  obtain⟨rfl,rfl,rfl⟩:=h
  refine⟨rfl,hl,hn,hm,λh=>by simp at h,λj u hj=>⟨g,0,rfl,?_⟩⟩
  rw[Nat.zero_add,cell_of_row w g j cur e (0,0) hg]
  rw[←ht,List.getElem?_take]at hj
  split at hj
  ·simpa using hj
  ·cases hj
theorem yw{w:World}{base e size:Nat}{v:Value}{n:Nat}{xs:List Value}(h:w.ownsRow base e size v n xs):∃a c,v = .slice a n c:=by
 rcases h.2 with⟨rfl,rfl⟩|⟨g,cap,cur,rfl,_⟩
 ·exact⟨none,0,rfl⟩
 ·exact⟨_,_,rfl⟩
theorem Sl.addr{w:World}{size:Nat}{a:Addr}{c n:Nat}{xs:List Value}(h:Sl w size (some a) c n xs):∀j u,xs[j]? = some u→w.cell? (a.add j)=some u:=by
 intro j u hj
 obtain⟨b,off,e,hc⟩:=h.cell j u hj
 simp only[Option.some.injEq]at e
 subst e
 rw[Addr.add_lit]
 exact hc
theorem aek{P:Program}{w:World}(t ty e:TypeId)(i:TypeInfo)(z:Value)(size bytes:Nat)(ht:P.underlying t=some (.slice e))(hi:P.info? e=some i)(hz:i.zero=some z)
  (hsize:i.size=size) (hby:i.bytes=bytes) (hzs:z.cells.size=size) (hsz:0<size)
  (v:Value) (n:Nat) (xs:List Value) (hown:w.ownsRow 0 e size v n xs) (a:Option Addr) (c m:Nat) (news:List Value) (hs:Sl w size a c m news) (h1:∀u∈news,u.oneCell'=true)
  (h63:n+m≤maxLen) (hbytes:(n+m)*bytes≤140737488355328) :
  ∃v' w',(Builtin.append_ #[t,t] ty #[v,.slice a m c]).run P w = .ok v' w'∧w'.ownsRow 0 e size v' (n+m) (xs++news)∧w.grownBy w' v.ownBlock ∧
   ∀k,v'.ownBlock=some k→v.ownBlock=some k∨w.heap.size≤k:=by
 cases a with
 |none =>
  have hc:=hs.nil rfl
  have hm:m=0:=by have:=hs.room;omega
  subst hc hm
  have hn:news = []:=List.eq_nil_of_length_eq_zero (by simpa using hs.len)
  subst hn
  refine⟨v,w,run_append_owned_none w 0 t ty e i size ht hi v n xs hown,by simpa using hown,⟨rfl,rfl,rfl,Nat.le_refl _,λ_ _ _=>rfl⟩,λk hk => .inl hk⟩
 |some a =>
  obtain⟨v',w',h,h',h'',_⟩:=run_append_own (P:=P) w 0 t ty e i z size bytes ht hi hz hsize hby hzs hsz v n xs hown a m c news hs.len hs.addr h1 h63 hbytes (Nat.zero_le _)
  refine⟨v',w',h,h',h'',λk hk=>?_⟩
  subst hsize
  subst hby
  have hsmall:n+m≤9223372036854775807:=by simp only[maxLen]at h63;omega
  by_cases hm:m=0
  ·subst hm
   have hn:news = []:=List.eq_nil_of_length_eq_zero (by simpa using hs.len)
   subst hn
   rcases hown.2 with⟨rfl,rfl⟩|⟨g,cap,cur,rfl,hbg,hg,hnc,hcm,hcs,htake⟩
   ·have hr:(Builtin.append_ #[t,t] ty #[.slice none 0 0,.slice (some a) 0 c]).run P w = .ok (.slice none 0 0) w:=by
     simp[Builtin.append_,run_underlying ht,sizeOf,typeInfo,hi,Builtin.lenOf,Builtin.firstCells,loadCells,loadCellsFrom]
    rw[hr]at h
    cases h
    simp[Value.ownBlock]at hk
   ·have hr:=run_append_room (P:=P) w t ty e i ht hi g n cap cur hg a 0 c [] hs.len hs.addr h1 (by omega) (by rw[hcs];simp;exact Nat.mul_le_mul_right _ hnc)
    rw[hr]at h
    cases h
    exact .inl hk
  ·rcases hown.2 with⟨rfl,rfl⟩|⟨g,cap,cur,rfl,hbg,hg,hnc,hcm,hcs,htake⟩
   ·have hr:=run_append_nil (P:=P) w t ty e i z ht hi hz a m c news hs.len hs.addr (by omega) (by omega) (by simp at hbytes;omega)
    rw[hr]at h
    cases h
    simp[Value.ownBlock]at hk
    exact .inr (by omega)
   ·by_cases hroom:n+m≤cap
    ·have hr:=run_append_room (P:=P) w t ty e i ht hi g n cap cur hg a m c news hs.len hs.addr h1 hroom (by rw[hs.len,hcs,←Nat.add_mul];exact Nat.mul_le_mul_right _ hroom)
     rw[hr]at h
     cases h
     exact .inl hk
    ·have hr:=run_append_grow (P:=P) w t ty e i z ht hi hz ⟨g,0,none⟩ n cap xs hown.1 (hown.cells (g:=g) rfl) a m c news hs.len hs.addr (by omega) (by omega) (growslice_fits (by omega) hbytes)
     rw[hr]at h
     cases h
     simp[Value.ownBlock]at hk
     exact .inr (by omega)
theorem al5{P:Program}{w:World}{ops:Array Oper}{rest:List Oper}{o:Oper}{a:Act}{Q:Exit→Act→World→Prop}(hgd:o.guard=none)(s x:Operand)(t:TypeId)
  (ho:o.op = .call { callee := .builtin .append,args:=#[s,x],argTypes:=#[t,t] })
  (e:TypeId) (i:TypeInfo) (z:Value) (size bytes:Nat) (ht:P.underlying t=some (.slice e)) (hi:P.info? e=some i) (hz:i.zero=some z)
  (hsize:i.size=size) (hby:i.bytes=bytes) (hzs:z.cells.size=size) (hsz:0<size)
  (v:Value) (n:Nat) (xs:List Value) (hs:a.eval s=v) (hown:w.ownsRow 0 e size v n xs)
  (ad:Option Addr) (c m:Nat) (news:List Value) (hx:a.eval x = .slice ad m c) (hsl:Sl w size ad c m news) (h1:∀u∈news,u.oneCell'=true)
  (h63:n+m≤maxLen) (hbytes:(n+m)*bytes≤140737488355328)
  (h:∀a' c' w',w'.ownsRow 0 e size (.slice a' (n+m) c') (n+m) (xs++news)→w.grownBy w' v.ownBlock→(∀k,ql a'=some k→v.ownBlock=some k∨w.heap.size≤k)→wpList P ops Q rest (a.put o.dst (.slice a' (n+m) c')) w'):wpList P ops Q (o::rest) a w:=by
 refine wpList_plain hgd λK hK=>?_
 obtain⟨v',w',hr,h2,h3,h4⟩:=aek (P:=P) t o.type e i z size bytes ht hi hz hsize hby hzs hsz v n xs hown ad c m news hsl h1 h63 hbytes
 obtain⟨a',c',rfl⟩:=yw h2
 unfold Oper.wp execOp
 simp only[ho,resolve,invoke,builtin,Sem.run_bind,Sem.run_pure,Result.andThen_ok,List.map_toArray,List.map_cons,List.map_nil,hs,hx,hr]
 exact hK _ _ (h a' c' w' h2 h3 (by simpa [qm]using h4))
@[go_sem] theorem at7 {P:Program} (w:World) (t:TypeId) (a:Option Addr) (n c:Nat) (h:P.underlying t=some (.slice (P.elem t))) :
  (binOp .eql t (.slice a n c) (.slice none 0 0)).run P w = .ok (.bool a.isNone) w:=Lib.run_eql_slice_nil w t _ a n c 0 0 h
def B8(x:UInt8):Value := .int .u8 x.toNat
def Bs(w:World)(a:Option Addr)(c:Nat)(bs:List UInt8):Prop:=Sl w 1 a c bs.length (bs.map B8)
theorem Bs.at{w:World}{a:Option Addr}{c:Nat}{bs:List UInt8}(h:Bs w a c bs)(j:Nat)(hj:j<bs.length):∃b off,a=some ⟨b,off,none⟩∧w.cell? ⟨b,off+j,none⟩=some (.int .u8 bs[j].toNat) :=
 h.cell j (B8 bs[j]) (by simp[List.getElem?_map,List.getElem?_eq_getElem hj])
theorem Bs.cells{w:World}{a:Option Addr}{c:Nat}{bs:List UInt8}(h:Bs w a c bs)(hne:bs ≠ []):∃b off,a=some ⟨b,off,none⟩∧∀j (hj:j<bs.length),w.cell? ⟨b,off+j,none⟩=some (.int .u8 bs[j].toNat):=by
 obtain⟨b,off,e,_⟩:=h.at 0 (List.length_pos_iff.2 hne)
 refine⟨b,off,e,λj hj=>?_⟩
 obtain⟨b',off',e',hc⟩:=h.at j hj
 rw[e]at e'
 simp only[Option.some.injEq,Addr.mk.injEq,and_true]at e'
 obtain⟨rfl,rfl⟩:=e'
 exact hc
theorem Bs.nothing(w:World):Bs w none 0 []:=Sl.nothing w 1
theorem Bs.af4{w:World}{base e:Nat}{a:Option Addr}{c n m:Nat}{bs:List UInt8}(h:w.ownsRow base e 1 (.slice a n c) m (bs.map B8)):m=n∧n=bs.length∧Bs w a c bs:=by
 obtain⟨rfl,hs⟩:=Sl.af4 h
 have hl:=hs.len
 simp at hl
 subst hl
 exact⟨rfl,rfl,hs⟩
theorem Bs.one{bs:List UInt8}:∀u∈bs.map B8,u.oneCell'=true:=by
 intro u hu
 simp only[List.mem_map]at hu
 obtain⟨x,_,rfl⟩:=hu
 rfl
def strOf(bs:List UInt8):ByteArray:=⟨bs.toArray⟩
theorem aii(bs:List UInt8):(strOf bs).toList=bs:=by
 rw[ByteArray.toList_eq];simp[strOf]
theorem zf(bs:List UInt8):(strOf bs).size=bs.length:=by simp[strOf,ByteArray.size]
theorem aqt(a b:List UInt8):strOf a++strOf b=strOf (a++b):=by
 apply ByteArray.ext
 simp[strOf]
theorem aLu{P:Program}{w:World}(src dst e:TypeId)(hs:P.underlying src=some (.slice e))(he:P.underlying e=some (.int .u8))(hd:P.underlying dst=some .string)
  {a:Option Addr} {c:Nat} {bs:List UInt8} (h:Bs w a c bs) (n:Nat) (hn:n=bs.length):(convert src dst (.slice a n c)).run P w = .ok (.string (strOf bs)) w:=by
 subst hn
 cases a with
 |none =>
  have:=h.nil rfl
  have:bs = []:=List.eq_nil_of_length_eq_zero (by have:=h.room;omega)
  subst this
  exact run_convert_bytes_nil w src e hs he _ c dst hd
 |some a=>exact run_convert_bytes_back w src dst e a c bs hs he hd λj hj=>h.addr j (B8 bs[j]) (by simp[List.getElem?_map,List.getElem?_eq_getElem hj])
def iq(t:TypeId)(p:Value):Sem Value:=Instr.loadAt t p
def ji(t:TypeId)(p v:Value):Sem Unit:=Instr.storeAt t p v
def aa8(P:Program)(t:TypeId)(p:Value)(w:World)(n:Nat):Option Obj→Result Value
 |some (.cells cs _ _)=>if cs.size=n then .ok (.agg cs) w else(Instr.loadAt t p).run P w
 |_=>(Instr.loadAt t p).run P w
theorem ae4{P:Program}{t:TypeId}{p:Value}{w:World}{n:Nat}{cs:Array Value}{t':TypeId}{fr:Nat×Nat}(h:cs.size=n):
  aa8 P t p w n (some (.cells cs t' fr)) = .ok (.agg cs) w:=if_pos h
theorem qc{P:Program}(w:World)(t:TypeId)(g n:Nat)(d:TypeDesc)(hu:P.underlying t=some d)(hd:(match d with|.struct _|.array _ _=>true|_=>false)=true)(hi:(P.info? t).map (·.size)=some n):
  (iq t (.pointer (some ⟨g,0,none⟩))).run P w=aa8 P t (.pointer (some ⟨g,0,none⟩)) w n w.heap[g]? := by
 cases hg:w.heap[g]? with
 |none=>rfl
 |some o =>
  cases o with
  |cells cs t' fr =>
   by_cases h:cs.size=n
   ·rw[ae4 h]
    show(Instr.loadAt t (.pointer (some ⟨g,0,none⟩))).run P w=_
    simp only[Instr.loadAt,Instr.sureAddr,Sem.run_bind,Sem.run_pure,Result.andThen_ok]
    exact run_loadVar_row w g t' t cs fr d hg hu hd (by rw[hi,h])
   ·simp[aa8,h,iq]
  |_=>rfl
def jh(cells:Array Value):Prop:=cells.all (·.oneCell')=true
def aeg(P:Program)(t:TypeId)(p:Value)(cells:Array Value)(g:Nat)(w:World)(n:Nat):Option Obj→Result Unit
 |some (.cells old _ fr)=>if fr=(0,0)∧old.size=n∧cells.size=n∧cells.all (·.oneCell')=true then .ok () (w.setRow g cells)else(Instr.storeAt t p (.agg cells)).run P w
 |_=>(Instr.storeAt t p (.agg cells)).run P w
theorem ad3{P:Program}{t:TypeId}{p:Value}{cells:Array Value}{g:Nat}{w:World}{n:Nat}{old:Array Value}{t':TypeId}(h:old.size=n)(h1:cells.size=n)(h2:jh cells):
  aeg P t p cells g w n (some (.cells old t' (0,0))) = .ok () (w.setRow g cells):=if_pos ⟨rfl,h,h1,h2⟩
theorem oq{P:Program}(w:World)(t:TypeId)(g n:Nat)(cells:Array Value)(hi:(P.info? t).map (·.size)=some n):
  (ji t (.pointer (some ⟨g,0,none⟩)) (.agg cells)).run P w=aeg P t (.pointer (some ⟨g,0,none⟩)) cells g w n w.heap[g]? := by
 cases hg:w.heap[g]? with
 |none=>rfl
 |some o =>
  cases o with
  |cells old t' fr =>
   by_cases h:fr=(0,0)∧old.size=n∧cells.size=n∧cells.all (·.oneCell')=true
   ·obtain⟨rfl,h1,h2,h3⟩:=h
    rw[ad3 h1 h2 h3]
    show(Instr.storeAt t (.pointer (some ⟨g,0,none⟩)) (.agg cells)).run P w=_
    simp only[Instr.storeAt,Instr.sureAddr,Sem.run_bind,Sem.run_pure,Result.andThen_ok]
    exact run_storeVar_row w g t' t old cells hg (by rw[hi,h2]) (by rw[h1,h2]) h3
   ·simp only[aeg,h,if_false]
    rfl
  |_=>rfl
def Obj.az3(cs:Array Value):Obj→Obj
 |.cells _ t fr => .cells cs t fr
 |o=>o
def Obj.auu(i:Nat)(v:Value):Obj→Obj
 |.cells cs t fr => .cells (cs.setIfInBounds i v) t fr
 |o=>o
theorem jc(w:World)(g:Nat)(cs:Array Value):(w.setRow g cs).heap[g]? = (w.heap[g]?).map (Obj.az3 cs):=by
 simp only[World.setRow,Array.getElem?_modify,if_true]
 try congr 1
 try(funext o;cases o<;>rfl)
theorem iy(w:World)(g k:Nat)(cs:Array Value)(h:k≠g):(w.setRow g cs).heap[k]? = w.heap[k]? := setRow_other w g k cs h
theorem gq(w:World)(g i:Nat)(v:Value):(w.setCell ⟨g,i,none⟩ v).heap[g]? = (w.heap[g]?).map (Obj.auu i v):=by
 simp only[World.setCell,Array.getElem?_modify,if_true]
 try congr 1
 try(funext o;cases o<;>rfl)
theorem dn(w:World)(g i k:Nat)(v:Value)(h:k≠g):(w.setCell ⟨g,i,none⟩ v).heap[k]? = w.heap[k]? := Below.heap_setCell _ _ _ _ h
theorem ad7(cs c:Array Value)(t:TypeId)(fr:Nat×Nat):Option.map (Obj.az3 cs) (some (.cells c t fr))=some (.cells cs t fr):=rfl
theorem jr(i:Nat)(v:Value)(c:Array Value)(t:TypeId)(fr:Nat×Nat):Option.map (Obj.auu i v) (some (.cells c t fr))=some (.cells (c.setIfInBounds i v) t fr):=rfl
def Obj.cellAt(i:Nat):Option Obj→Option Value
 |some (.cells cs _ _)=>cs[i]?
 |_=>none
theorem mg(i:Nat)(cs:Array Value)(t:TypeId)(fr:Nat×Nat):Obj.cellAt i (some (.cells cs t fr))=cs[i]? := rfl
theorem jq(w:World)(g i:Nat):w.cell? ⟨g,i,none⟩=Obj.cellAt i w.heap[g]? := by
 simp only[World.cell?]
 cases w.heap[g]? with
 |none=>rfl
 |some o=>cases o<;>rfl
def Obj.frozenAt(i:Nat):Option Obj→Bool
 |some (.cells _ _ (lo,hi))=>lo≤i&&i<hi
 |_=>false
theorem adb(i:Nat)(cs:Array Value)(t:TypeId):Obj.frozenAt i (some (.cells cs t (0,0)))=false:=by simp[Obj.frozenAt]
theorem ahh(w:World)(g i:Nat):w.frozen? ⟨g,i,none⟩=Obj.frozenAt i w.heap[g]? := by
 simp only[World.frozen?]
 cases w.heap[g]? with
 |none=>rfl
 |some o=>cases o<;>rfl
theorem dh(w:World):w.drew.heap=w.heap:=rfl
theorem Fr.setRow{S:Nat→Prop}{a w:World}(h:Fr S a w){g:Nat}(hp:g<a.heap.size→S g)(cs:Array Value):Fr S a (w.setRow g cs) :=
 h.trans (T:=λk=>k=g) ⟨rfl,rfl,rfl,by simp,λk _ hk=>setRow_other w g k cs hk⟩ λi hi e=>by subst e;exact hp hi
theorem ayh(L:List Obj):∀(w:World) (k:Nat),k<w.heap.size→(L.foldl World.alloc w).heap[k]? = w.heap[k]? := by
 induction L with
 |nil=>intro w k _;rfl
 |cons A L ih =>
  intro w k hk
  rw[List.foldl_cons,ih _ _ (by simp;omega)]
  exact heap_alloc_old _ _ hk
theorem ato(L:List Obj):∀(w:World) (j:Nat),j<L.length→(L.foldl World.alloc w).heap[w.heap.size+j]? = L[j]? := by
 induction L with
 |nil=>intro w j h;simp at h
 |cons A L ih =>
  intro w j h
  rw[List.foldl_cons]
  cases j with
  |zero =>
   rw[Nat.add_zero,ayh L _ _ (by simp)]
   exact heap_alloc_new w A
  |succ j =>
   have:=ih (w.alloc A) j (by simpa using h)
   rw[World.size_alloc]at this
   rw[show w.heap.size+(j+1)=w.heap.size+1+j by omega,this]
   rfl
theorem Fr.allocs{S:Nat→Prop}{a:World}(L:List Obj):∀{w:World},Fr S a w→Fr S a (L.foldl World.alloc w):=by
 induction L with
 |nil=>intro w h;exact h
 |cons A L ih=>intro w h;exact ih (h.alloc A)
theorem asy(L:List Obj):∀(w:World),(L.foldl World.alloc w).heap.size=w.heap.size+L.length:=by
 induction L with
 |nil=>intro w;rfl
 |cons A L ih=>intro w;rw[List.foldl_cons,ih,World.size_alloc,List.length_cons];omega
theorem bg{w:World}{o:Obj}{k:Nat}{x:Obj}(h:w.heap[k]? = some x):(w.alloc o).heap[k]? = some x:=by
 rw[heap_alloc_old _ _ (Array.getElem?_eq_some_iff.1 h).1];exact h
theorem au{w w':World}{k:Nat}{x:Obj}(f:Fr F0 w w')(h:w.heap[k]? = some x):w'.heap[k]? = some x:=f.keeps (λf=>f) h
theorem jk{w:World}{g:Nat}{c:Array Value}{k:Nat}{x:Obj}(hk:k≠g)(h:w.heap[k]? = some x):(w.setRow g c).heap[k]? = some x:=by rw[iy _ _ _ _ hk];exact h
theorem ku{w:World}{k:Nat}{x:Obj}(h:w.heap[k]? = some x):w.drew.heap[k]? = some x:=h
theorem qp{w:World}{g:Nat}{c:Array Value}{z:Array Value}{t:TypeId}{f:Nat×Nat}(h:w.heap[g]? = some (.cells z t f)):(w.setRow g c).heap[g]? = some (.cells c t f):=by
 rw[jc,h];rfl
theorem je{P:Program}{t:TypeId}{p:Value}{cells:Array Value}{g:Nat}{w:World}{n:Nat}{old:Array Value}{t':TypeId}{o:Option Obj}(ho:o=some (.cells old t' (0,0)))(h:old.size=n)(h1:cells.size=n)(h2:jh cells):
  aeg P t p cells g w n o = .ok () (w.setRow g cells):=by subst ho;exact ad3 h h1 h2
structure adh (w W:World) (g:Nat) (c:Array Value) (t:TypeId):Prop where
 new:W.heap[g]? = some (.cells c t (0,0))
 old:∀{k:Nat} {o:Obj},w.heap[k]? = some o→W.heap[k]? = some o
 fr:Fr F0 w W
 ne:∀{k:Nat} {o:Obj},w.heap[k]? = some o→k≠g
theorem aa9(w:World)(z c:Array Value)(t:TypeId):adh w ((w.alloc (.cells z t)).setRow w.heap.size c) w.heap.size c t :=
 ⟨qp (heap_alloc_new _ _),λh=>jk (by have:=(Array.getElem?_eq_some_iff.1 h).1;omega) (bg h),((Fr.refl F0 w).alloc _).setRow (λh=>by omega) _,λh=>by have:=(Array.getElem?_eq_some_iff.1 h).1;omega⟩
def dgt(b x i:Nat):Nat:=x/2 ^ (b*i) % 2 ^ b
theorem abq(b x i:Nat):dgt b x i<2 ^ b:=Nat.mod_lt _ (Nat.two_pow_pos b)
def gu(k:IntKind)(b n x:Nat):Array Value:=((List.range n).map λi=>Value.int k (dgt b x i:Nat)).toArray
theorem dw(k:IntKind)(b n x:Nat):(gu k b n x).size=n:=by simp[gu]
theorem aGc(k:IntKind)(b n x:Nat):(gu k b n x).all (·.oneCell')=true:=by
 rw[Array.all_eq_true_iff_forall_mem]
 intro v hv
 simp only[gu,List.mem_toArray,List.mem_map]at hv
 obtain⟨i,_,rfl⟩:=hv
 rfl
theorem aaj(k:IntKind)(b n x i:Nat)(h:i<n):(gu k b n x)[i]? = some (.int k (dgt b x i:Nat)):=by
 simp[gu,h]
theorem iw(k:IntKind)(b n x:Nat):jh (gu k b n x):=aGc k b n x
theorem aq3(k:IntKind)(b n x i:Nat)(h:i<(gu k b n x).size):(gu k b n x)[i] = .int k (dgt b x i:Nat):=by
 simp[gu]
theorem abu{P:Program}(w:World)(t e:TypeId)(n:Nat)(cs:Array Value)(k:IntKind)(i:Nat)(d:TypeDesc)(hu:P.underlying t=some (.array n e))(he:P.underlying e=some d)(hd:(match d with|.struct _|.array _ _=>true|_=>false)=false)
  (hi:(P.info? e).map (·.size)=some 1) (v:Value) (h1:i<n) (hv:cs[i]? = some v) :
  (Instr.index t (.agg cs) (.int k (i:Int))).run P w = .ok v w:=by
 cases hq:P.info? e with
 |none=>simp[hq]at hi
 |some io =>
  have hs:io.size=1:=by simpa [hq]using hi
  have hagg:(isAgg e).run P w = .ok false w:=by
   unfold isAgg
   rw[Sem.run_bind,run_underlying he w]
   cases d<;>simp_all
  have h0:(0:Int)≤i∧(i:Int)<n:=⟨by omega,by omega⟩
  simp[Instr.index,asIntOf,Sem.run_bind,run_underlying hu w,h0,sizeOf,typeInfo,hq,hs,part,hagg,hv]
  try omega
def ala(b z i v:Nat):Nat:=z % 2 ^ (b*i)+2 ^ (b*i)*(v+2 ^ b*(z/2 ^ (b*(i+1))))
theorem ab8(b x y i j:Nat)(h:j<i)(e:x % 2 ^ (b*i)=y % 2 ^ (b*i)):dgt b x j=dgt b y j:=by
 have key:∀z,dgt b z j=dgt b (z % 2 ^ (b*i)) j:=by
  intro z
  obtain⟨d,rfl⟩:∃d,i=j+1+d:=⟨i-(j+1),by omega⟩
  have e1:2 ^ (b*(j+1+d))=2 ^ (b*j)*(2 ^ b*2 ^ (b*d)):=by
   rw[←Nat.pow_add,←Nat.pow_add];congr 1;simp[Nat.mul_add];omega
  simp only[dgt]
  rw[e1,Nat.mod_mul_right_div_self,Nat.mod_mul_right_mod]
 rw[key x,key y,e]
theorem aGk(b z i v:Nat):ala b z i v % 2 ^ (b*i)=z % 2 ^ (b*i):=by
 simp[ala,Nat.add_mul_mod_self_left]
theorem avc(b z i v:Nat):ala b z i v/2 ^ (b*i)=v+2 ^ b*(z/2 ^ (b*(i+1))):=by
 rw[ala,Nat.add_mul_div_left _ _ (Nat.two_pow_pos _),Nat.div_eq_of_lt (Nat.mod_lt _ (Nat.two_pow_pos _)),Nat.zero_add]
theorem ai2(b z i v j:Nat)(hv:v<2 ^ b):dgt b (ala b z i v) j=if j=i then v else dgt b z j:=by
 by_cases h:j=i
 ·subst h
  rw[if_pos rfl,dgt,avc,Nat.add_mul_mod_self_left,Nat.mod_eq_of_lt hv]
 ·rw[if_neg h]
  by_cases h2:j<i
  ·exact ab8 b _ _ i j h2 (aGk b z i v)
  ·obtain⟨d,rfl⟩:∃d,j=i+1+d:=⟨j-(i+1),by omega⟩
   have e1:2 ^ (b*(i+1+d))=2 ^ (b*i)*(2 ^ b*2 ^ (b*d)):=by
    rw[←Nat.pow_add,←Nat.pow_add];congr 1;simp[Nat.mul_add];omega
   have e2:2 ^ (b*(i+1))=2 ^ (b*i)*2 ^ b:=by rw[←Nat.pow_add];congr 1
   simp only[dgt]
   congr 1
   rw[e1,←Nat.div_div_eq_div_mul,avc,←Nat.div_div_eq_div_mul,Nat.add_mul_div_left _ _ (Nat.two_pow_pos _),Nat.div_eq_of_lt hv,Nat.zero_add,e2,←Nat.div_div_eq_div_mul,←Nat.div_div_eq_div_mul,←Nat.div_div_eq_div_mul,Nat.div_div_eq_div_mul z,←e2]
theorem aGb(k:IntKind)(b n z i v:Nat)(hv:v<2 ^ b):(gu k b n z).setIfInBounds i (.int k (v:Nat))=gu k b n (ala b z i v):=by
 apply Array.ext_getElem?
 intro j
 by_cases hj:j<n
 ·rw[aaj _ _ _ _ _ hj,ai2 _ _ _ _ _ hv]
  by_cases h:j=i
  ·subst h
   rw[Array.getElem?_setIfInBounds_self_of_lt (by rw[dw];exact hj),if_pos rfl]
  ·rw[Array.getElem?_setIfInBounds_ne (by omega),aaj _ _ _ _ _ hj,if_neg h]
 ·rw[Array.getElem?_eq_none (by simp[dw];omega),Array.getElem?_eq_none (by rw[dw];omega)]
theorem ah0(k:IntKind)(b n x y:Nat)(h:x % 2 ^ (b*n)=y % 2 ^ (b*n)):gu k b n x=gu k b n y:=by
 unfold gu
 congr 1
 apply List.map_congr_left
 intro i hi
 rw[ab8 b x y n i (List.mem_range.1 hi) h]
theorem mod_succ(b x n:Nat):x % 2 ^ (b*(n+1))=x % 2 ^ (b*n)+2 ^ (b*n)*dgt b x n:=by
 rw[dgt,show b*(n+1)=b*n+b by simp[Nat.mul_add],Nat.pow_add,Nat.mod_mul]
theorem adk(b x y:Nat):∀n,(∀i,i<n→dgt b x i=dgt b y i)→x % 2 ^ (b*n)=y % 2 ^ (b*n)
 |0,_=>by simp[Nat.mod_one]
 |n+1,h=>by rw[mod_succ,mod_succ,adk b x y n λi hi=>h i (by omega),h n (by omega)]
theorem an3(b z i v:Nat)(hz:z<2 ^ (b*i)):ala b z i v=z+2 ^ (b*i)*v:=by
 have e2:2 ^ (b*(i+1))=2 ^ (b*i)*2 ^ b:=by rw[←Nat.pow_add];congr 1
 rw[ala,Nat.mod_eq_of_lt hz,Nat.div_eq_of_lt,Nat.mul_zero,Nat.add_zero]
 rw[e2]
 exact Nat.lt_of_lt_of_le hz (Nat.le_mul_of_pos_right _ (Nat.two_pow_pos b))
theorem ahb{P:Program}{fn:Func}{p:Tmp}{ty:TypeId}{k:IntKind}(h:fn.results=#[.cell p ty])(tmps:Array Value)(w:World)(g:Nat)(v:Value)
  (hp:tmps.getD p undef = .pointer (some ⟨g,0,none⟩)) (hc:w.cell? ⟨g,0,none⟩=some v) (hu:P.underlying ty=some (.int k)):(results fn tmps).run P w = .ok v w:=by
 have hp':tmps[p]?.getD undef = .pointer (some ⟨g,0,none⟩):=by simpa using hp
 have hagg:(isAgg ty).run P w = .ok false w:=by
  unfold isAgg
  rw[Sem.run_bind,run_underlying hu w]
  rfl
 simp[results,h,hp',asAddr,loadVar,Sem.run_bind,hagg,hc]
def adq(m x y:Nat):Bool:=decide (x % 2 ^ m=y % 2 ^ m)
theorem aed{P:Program}(w:World)(e:TypeId)(k:IntKind)(d:Nat)(hp:P.plainKey e=true)(he:P.underlying e=some (.int k))(b n x y:Nat):
  ∀is:List Nat,(∀i∈is,i<n)→(Op.eqItems (d+1) e 1 (gu k b n x) (gu k b n y) is).run P w = .ok (is.all λi=>decide (dgt b x i=dgt b y i)) w
 |[],_=>by simp[Op.eqItems]
 |i::is,h=>by
  have hi:=h i (by simp)
  have h1:=run_part_plain w hp (show(gu k b n x)[i*1]? = some (.int k (dgt b x i:Nat)) by rw[Nat.mul_one];exact aaj _ _ _ _ _ hi)
  have h2:=run_part_plain w hp (show(gu k b n y)[i*1]? = some (.int k (dgt b y i:Nat)) by rw[Nat.mul_one];exact aaj _ _ _ _ _ hi)
  have h4:=aed w e k d hp he b n x y is λj hj=>h j (by simp[hj])
  have hall:(List.all (i::is) λi=>decide (dgt b x i=dgt b y i))=(decide (dgt b x i=dgt b y i)&&List.all is λi=>decide (dgt b x i=dgt b y i)):=rfl
  rw[hall]
  generalize (List.all is λi=>decide (dgt b x i=dgt b y i))=r at *
  generalize dgt b x i=u at *
  generalize dgt b y i=v at *
  have h3:(Op.equalIn (d+1) e (.int k (u:Int)) (.int k (v:Int))).run P w = .ok (decide (u=v)) w:=by
   have e1:((u:Int)==(v:Int))=decide (u=v):=by
    by_cases hq:u=v
    ·subst hq;simp
    ·have h5:¬(u:Int)=(v:Int):=by omega
     rw[decide_eq_false hq]
     exact beq_false_of_ne h5
   rw[←e1]
   simp[Op.equalIn,Sem.run_bind,run_underlying he]
  simp only[Op.eqItems,Sem.run_bind,h1,h2,h3,Result.andThen_ok]
  by_cases hq:u=v
  ·simp[hq,h4]
  ·simp[hq]
theorem ail{P:Program}(w:World)(t e:TypeId)(k:IntKind)(b n:Nat)(i:TypeInfo)(hu:P.underlying t=some (.array n e))(hi:P.info? e=some i)(hc:P.cellsOf e=1)(hp:P.plainKey e=true)(he:P.underlying e=some (.int k))(x y:Nat):
  (binOp .eql t (.agg (gu k b n x)) (.agg (gu k b n y))).run P w = .ok (.bool (adq (b*n) x y)) w:=by
 rw[run_eql_struct,run_equalIn_array w 9999 _ _ hu hi,hc,aed w e k 9998 hp he b n x y _ (λj hj=>List.mem_range.1 hj)]
 simp only[Result.andThen_ok]
 congr 2
 unfold adq
 rw[Bool.eq_iff_iff]
 simp only[List.all_eq_true,List.mem_range,decide_eq_true_eq]
 constructor
 ·intro h
  exact adk b x y n h
 ·intro h j hj
  exact ab8 b x y n j hj h
theorem aqy{P:Program}(w:World)(t e:TypeId)(k:IntKind)(b n:Nat)(i:TypeInfo)(hu:P.underlying t=some (.array n e))(hi:P.info? e=some i)(hc:P.cellsOf e=1)(hp:P.plainKey e=true)(he:P.underlying e=some (.int k))(x y:Nat):
  (binOp .neq t (.agg (gu k b n x)) (.agg (gu k b n y))).run P w = .ok (.bool (!adq (b*n) x y)) w:=by
 have:=ail w t e k b n i hu hi hc hp he x y
 simp only[binOp]at this ⊢
 cases hq:(Op.equal t (.agg (gu k b n x)) (.agg (gu k b n y))).run P w with
 |ok v w'=>simp_all
 |halt x w'=>simp_all
theorem Tryz.infoU8:(Tryz.prog.info? 5).map (λi=>(i.zero,i.size,i.bytes))=some (some (.int .u8 0),1,1):=by kernel_rfl
def OwnB(w:World)(v:Value)(bs:List UInt8):Prop:=w.ownsRow 0 5 1 v bs.length (bs.map B8)
theorem OwnB.nil(w:World):OwnB w (.slice none 0 0) []:=World.ownsRow_nil _ _ _ _
theorem OwnB.bs{w:World}{a:Option Addr}{n c:Nat}{bs:List UInt8}(h:OwnB w (.slice a n c) bs):n=bs.length∧Bs w a c bs:=(Bs.af4 h).2
theorem OwnB.slice{w:World}{v:Value}{bs:List UInt8}(h:OwnB w v bs):∃a c,v = .slice a bs.length c:=yw h
theorem OwnB.lt{w:World}{v:Value}{bs:List UInt8}(h:OwnB w v bs):∀k,v.ownBlock=some k→k<w.heap.size:=λk hk=>(World.ownsRow.lt h k hk).2
theorem OwnB.fr{S:Nat→Prop}{w w':World}{v:Value}{bs:List UInt8}(h:OwnB w v bs)(hf:Fr S w w')(hs:∀k,v.ownBlock=some k→¬S k):OwnB w' v bs:=by
 refine⟨h.1,?_⟩
 rcases h.2 with hn|⟨g,cap,cur,rfl,hb,hg,r⟩
 ·exact .inl hn
 ·exact .inr ⟨g,cap,cur,rfl,hb,hf.keeps (hs g rfl) hg,r⟩
theorem xk{w:World}{ops:Array Oper}{rest:List Oper}{o:Oper}{a:Act}{Q:Exit→Act→World→Prop}(hgd:o.guard=none)(s x:Operand)
  (ho:o.op = .call { callee := .builtin .append,args:=#[s,x],argTypes:=#[22,22] })
  (v:Value) (b0:List UInt8) (hs:a.eval s=v) (hown:OwnB w v b0) (ad:Option Addr) (m c:Nat) (bs:List UInt8) (hx:a.eval x = .slice ad m c) (hsl:Bs w ad c bs) (hm:m=bs.length)
  (hb:b0.length+bs.length≤140737488355328)
  (h:∀a' c' w',OwnB w' (.slice a' (b0.length+bs.length) c') (b0++bs)→w.grownBy w' v.ownBlock→(∀k,ql a'=some k→v.ownBlock=some k∨w.heap.size≤k) →
   wpList Tryz.prog ops Q rest (a.put o.dst (.slice a' (b0.length+bs.length) c')) w'):wpList Tryz.prog ops Q (o::rest) a w:=by
 subst hm
 obtain⟨i0,hi,hz0,hz1,hz2⟩:=info_parts Tryz.infoU8
 refine al5 hgd s x 22 ho 5 i0 (.int .u8 0) 1 1 Tryz.underlying22 hi hz0 hz1 hz2 rfl (by decide) v _ _ hs hown ad c _ _ hx hsl Bs.one (by unfold maxLen;omega) (by omega) ?_
 intro a' c' w' h1 h2 h3
 exact h a' c' w' (by simpa [OwnB]using h1) h2 h3
def ou(bs:List UInt8)(w:World)(e:Ending)(w':World):Prop :=
 ∃a c,e = .returned (.slice a bs.length c)∧Bs w' a c bs∧Fr F0 w w'∧∀b,ql a=some b→w.heap.size≤b∧b<w'.heap.size
theorem abn{P:Program}(w:World)(e:TypeId)(d:Nat)(hp:P.plainKey e=true)(he:P.underlying e=some (.int .u8))(l m:List UInt8)(n:Nat)(hl:l.length=n)(hm:m.length=n):
  ∀is:List Nat,(∀i∈is,i<n)→(Op.eqItems (d+1) e 1 (l.map B8).toArray (m.map B8).toArray is).run P w = .ok (is.all λi=>decide (l.getD i 0=m.getD i 0)) w
 |[],_=>by simp[Op.eqItems]
 |i::is,h=>by
  have hi:=h i (by simp)
  have h1:=run_part_plain w hp (show(l.map B8).toArray[i*1]? = some (B8 (l.getD i 0)) by simp[List.getD,List.getElem?_eq_getElem (show i<l.length by omega)])
  have h2:=run_part_plain w hp (show(m.map B8).toArray[i*1]? = some (B8 (m.getD i 0)) by simp[List.getD,List.getElem?_eq_getElem (show i<m.length by omega)])
  have h4:=abn w e d hp he l m n hl hm is λj hj=>h j (by simp[hj])
  have hall:(List.all (i::is) λi=>decide (l.getD i 0=m.getD i 0))=(decide (l.getD i 0=m.getD i 0)&&List.all is λi=>decide (l.getD i 0=m.getD i 0)):=rfl
  rw[hall]
  generalize (List.all is λi=>decide (l.getD i 0=m.getD i 0))=r at *
  generalize l.getD i 0=x at *
  generalize m.getD i 0=y at *
  have h3:(Op.equalIn (d+1) e (B8 x) (B8 y)).run P w = .ok (decide (x=y)) w:=by
   have e1:((x.toNat:Int)==(y.toNat:Int))=decide (x=y):=by
    by_cases hq:x=y
    ·subst hq;simp
    ·have:x.toNat≠y.toNat:=λe=>hq (UInt8.toNat_inj.1 e)
     have h5:¬(x.toNat:Int)=(y.toNat:Int):=by omega
     rw[decide_eq_false hq]
     exact beq_false_of_ne h5
   rw[←e1]
   simp[Op.equalIn,B8,Sem.run_bind,run_underlying he]
  simp only[Op.eqItems,Sem.run_bind,h1,h2,h3,Result.andThen_ok]
  by_cases hq:x=y
  ·simp[hq,h4]
  ·simp[hq]
theorem ae2(a:Option Addr)(n c:Nat)(bs:List UInt8)(w:World)(h:Bs w a c bs)(hn:n=bs.length)(hl:bs.length≤140737488355328):
  Calls Tryz.prog 76 #[.slice a n c] w (ou bs w):=by
 subst hn
 cases a with
 |none =>
  have h0:=h.nil rfl
  have h1:bs = []:=List.eq_nil_of_length_eq_zero (by have:=h.room;omega)
  subst h0 h1
  go_enter Tryz.func76,Tryz.ntmps76
  go_wp2
  go_ret
  exact⟨none,0,rfl,h,Fr.refl _ _,λb e=>by cases e⟩
 |some ad =>
  have H1:Bs (w.alloc (.cells #[] 5)) (some ad) c bs:=Sl.fr h ((Fr.refl F0 w).alloc _) λ_ _=>id
  have H2:OwnB (w.alloc (.cells #[] 5)) (.slice (some ⟨w.heap.size,0,none⟩) 0 0) []:=World.ownsRow_made w #[] 0 (Nat.zero_le _) (Nat.zero_le _) rfl
  go_enter Tryz.func76,Tryz.ntmps76
  go_wp2_with (at_builtin;refine xk rfl _ _ rfl _ [] rfl H2 _ _ _ _ rfl H1 rfl (by simpa using hl) ?_;intro a' c' w' ho hg hb)
  simp only[List.length_nil,Nat.zero_add,List.nil_append]at ho ⊢
  go_wp2
  go_ret
  refine⟨a',c',rfl,ho.bs.2,((Fr.refl F0 w).alloc (.cells #[] 5)).grown hg λk hk hl=>?_,λb e=>⟨?_,ho.lt b (by rw[qm];exact e)⟩⟩
  ·cases hk
   exact absurd hl (Nat.lt_irrefl _)
  ·rcases hb b e with h|h
   ·cases h
    exact Nat.le_refl _
   ·simp at h
    omega
def le:Nat→Nat→List UInt8
 |0,_ => []
 |n+1,x=>UInt8.ofNat (x % 256)::le n (x/256)
theorem jy(n x:Nat):(le n x).length=n:=by induction n generalizing x with|zero=>rfl|succ n ih=>simp[le,ih]
theorem aAw(n x:Nat):le (n+1) x=le n x ++ [UInt8.ofNat (x/256 ^ n % 256)]:=by
 induction n generalizing x with
 |zero=>simp[le]
 |succ n ih=>rw[le,ih (x/256),le];simp[Nat.div_div_eq_div_mul,Nat.pow_succ,Nat.mul_comm]
structure IsW (w:World) (b:Nat) (v:Value) (bs:List UInt8):Prop where
 at_:w.heap[b]? = some (.cells #[v] 100 (0,0))
 own:OwnB w v bs
theorem IsW.lt{w:World}{b:Nat}{v:Value}{bs:List UInt8}(h:IsW w b v bs):b<w.heap.size:=(Array.getElem?_eq_some_iff.1 h.at_).1
def WS(b:Nat)(v:Value):Nat→Prop:=λk=>k=b∨v.ownBlock=some k
theorem IsW.ne{w:World}{b:Nat}{v:Value}{bs:List UInt8}(h:IsW w b v bs):v.ownBlock≠some b:=by
 intro e
 rcases h.own.2 with⟨rfl,_⟩|⟨g,cap,cur,rfl,_,hg,_⟩
 ·cases e
 ·have:g=b:=by cases e;rfl
  subst this
  rw[h.at_]at hg
  simp at hg
theorem IsW.fr{S:Nat→Prop}{w w':World}{b:Nat}{v:Value}{bs:List UInt8}(h:IsW w b v bs)(hf:Fr S w w')(hs:∀k,WS b v k→¬S k):IsW w' b v bs :=
 ⟨hf.keeps (hs b (.inl rfl)) h.at_,h.own.fr hf λk hk=>hs k (.inr hk)⟩
def xu(w:World)(b:Nat)(v:Value)(bs:List UInt8)(w':World):Prop :=
 ∃v',IsW w' b v' bs∧Fr (WS b v) w w'∧∀k,v'.ownBlock=some k→v.ownBlock=some k∨w.heap.size≤k
theorem xu.refl{w:World}{b:Nat}{v:Value}{bs:List UInt8}(h:IsW w b v bs):xu w b v bs w:=⟨v,h,Fr.refl _ _,λ_ => .inl⟩
theorem xu.trans{w w1 w2:World}{b:Nat}{v v1:Value}{bs1 bs2:List UInt8}(_h1:IsW w1 b v1 bs1)(hf:Fr (WS b v) w w1)(ho:∀k,v1.ownBlock=some k→v.ownBlock=some k∨w.heap.size≤k)
  (h2:xu w1 b v1 bs2 w2):xu w b v bs2 w2:=by
 obtain⟨v2,h,hf2,ho2⟩:=h2
 refine⟨v2,h,hf.trans hf2 λi hi hs=>?_,λk hk=>?_⟩
 ·rcases hs with rfl|hs
  ·exact .inl rfl
  ·rcases ho i hs with h|h
   ·exact .inr h
   ·omega
 ·rcases ho2 k hk with h|h
  ·exact ho k h
  ·exact .inr (Nat.le_trans hf.size h)
theorem xu.put{w w1:World}{b:Nat}{v:Value}{bs bs1:List UInt8}{a:Option Addr}{n c:Nat}(h:IsW w b v bs){wa:World}(ha:Fr F0 w wa)(hg:wa.grownBy w1 v.ownBlock)
  (ho:OwnB w1 (.slice a n c) bs1) (hb:∀k,ql a=some k→v.ownBlock=some k∨wa.heap.size≤k):xu w b v bs1 (w1.setCell ⟨b,0,none⟩ (.slice a n c)):=by
 have hf:Fr (WS b v) w w1:=(ha.of0).grown hg λk hk _ => .inr hk
 have hat:w1.heap[b]? = some (.cells #[v] 100 (0,0)):=by
  rw[hg.block b (ha.lt h.lt) (λe=>h.ne e.symm)]
  exact ha.keeps (λf=>f) h.at_
 have hb':∀k,(Value.slice a n c).ownBlock=some k→v.ownBlock=some k∨w.heap.size≤k:=by
  intro k hk
  rw[qm]at hk
  rcases hb k hk with h|h
  ·exact .inl h
  ·exact .inr (Nat.le_trans ha.size h)
 refine⟨.slice a n c,⟨one_setCell hat,?_⟩,hf.setCell (λ_ => .inl rfl) _,hb'⟩
 refine ho.fr (S:=λk=>k=b) (Fr.setCell (S:=λk=>k=b) (Fr.refl _ _) (p:=⟨b,0,none⟩) (λ_=>rfl) _) λk hk e=>?_
 subst e
 rcases hb' k hk with h'|h'
 ·exact h.ne h'
 ·have:=h.lt
  omega
theorem aoc(X:Nat):B8 (UInt8.ofNat (X % 256)) = .int .u8 ((X:Int) % 256):=by
 simp[B8]
theorem one_byte(w:World)(X:Nat):Bs (w.alloc (.cells #[.int .u8 ((X:Int) % 256)] 5)) (some ⟨w.heap.size,0,none⟩) 1 [UInt8.ofNat (X % 256)]:=by
 refine⟨rfl,Nat.le_refl _,by simp[maxLen],λh=>by simp at h,λj u hj=>⟨_,_,rfl,?_⟩⟩
 match j,hj with
 |0,hj =>
  simp only[List.map_cons,List.map_nil,List.getElem?_cons_zero,Option.some.injEq,aoc]at hj
  subst hj
  simp
theorem anm(b:Nat)(v:Value)(bs:List UInt8)(x n:Nat)(w:World)(h:IsW w b v bs)(hx:x<2 ^ 64)(hn:szB n=true)(hl:bs.length+8≤140737488355328):
  Calls Tryz.prog 37 #[.pointer (some ⟨b,0,none⟩),.int .u64 x,.int .i64 n] w λe w'=>e = .returned (.tuple #[])∧xu w b v (bs++le n x) w':=by
 have hn8:n≤8:=by
  simp only[szB,Bool.or_eq_true,beq_iff_eq]at hn
  omega
 go_enter Tryz.func37,Tryz.ntmps37
 go_wp2_with (go_at_call 78;refine(ah4 _ _).mono ?_;rintro e w' ⟨rfl,rfl⟩)
 go_loopw [1,14] (λxv iv wr=>∃k X:Nat,k≤n∧iv = .int .i64 k∧xv = .int .u64 X∧X<2 ^ 64∧Hid (X=x/256 ^ k)∧xu w b v (bs++le k x) wr) (λ_ iv _=>n-(intOf iv).toNat)
 case atStart=>exact⟨0,x,Nat.zero_le _,rfl,rfl,hx,by simp[Hid],by simpa [le]using xu.refl h⟩
 case round =>
  obtain⟨k,X,hk,rfl,rfl,hX,HX,v1,h1,hf1,ho1⟩:=hrel
  by_cases hkn:k<n
  ·have c1:=cell_of_one h1.at_
   have A1:Fr F0 wr (wr.alloc (.cells #[.int .u8 ((X:Int) % 256)] 5)):=(Fr.refl _ _).alloc _
   have O1:=h1.own.fr A1 λ_ _=>id
   have hll:=jy k x
   have E1:=Lib.hid hll
   clear hll
   go_wp2_with (at_builtin;refine xk rfl _ _ rfl _ _ rfl O1 _ _ _ _ rfl (one_byte wr X) rfl (by have:=E1.out;simp;omega) ?_;intro a' c' w1 ho hg hb;have p1:=xu.put h1 A1 hg ho hb;have c2:w1.cell? ⟨b,0,none⟩=some v1:=hg.cell (A1.cell (λf=>f) c1) (λe=>h1.ne e.symm);have z2:w1.frozen? ⟨b,0,none⟩=false:=free_of_one (v:=v1) (t:=100) ((hg.block b (A1.lt h1.lt) (λe=>h1.ne e.symm)).trans (A1.keeps (λf=>f) h1.at_)))
   have p2:=xu.trans h1 hf1 ho1 p1
   simp only[List.length_append,List.length_cons,List.length_nil,Nat.zero_add]at p2
   go_roundw
   case rel =>
    refine⟨k+1,X/256,by omega,by go_num,by go_num,by omega,?_,?_⟩
    ·rw[HX.out];simp[Hid,Nat.div_div_eq_div_mul,Nat.pow_succ]
    ·rw[aAw,←HX.out,←List.append_assoc]
     exact p2
   case measure=>simp[intOf];omega
  ·go_wp2
   go_end0
   have:k=n:=by omega
   subst this
   exact⟨rfl,v1,h1,hf1,ho1⟩
theorem ao7(b:Nat)(v:Value)(bs:List UInt8)(x n:Int)(w:World)(h:IsW w b v bs)(h0:0≤x)(hx:x<18446744073709551616)(hn:szB n=true)(hl:bs.length+8≤140737488355328):
  Calls Tryz.prog 37 #[.pointer (some ⟨b,0,none⟩),.int .u64 x,.int .i64 n] w λe w'=>e = .returned (.tuple #[])∧xu w b v (bs++le n.toNat x.toNat) w':=by
 obtain⟨x,rfl⟩:=Int.eq_ofNat_of_zero_le h0
 obtain⟨n,rfl⟩:=Int.eq_ofNat_of_zero_le (show 0≤n by simp only[szB,Bool.or_eq_true,beq_iff_eq]at hn;omega)
 exact anm b v bs x n w h (by omega) hn hl
def csz(x:Nat):Nat:=if x<253 then 1 else if x<65536 then 3 else if x<4294967296 then 5 else 9
def cnt(x:Nat):List UInt8 :=
 if x<253 then le 1 x else if x<65536 then le 1 253++le 2 x else if x<4294967296 then le 1 254++le 4 x else le 1 255++le 8 x
theorem aho(x:Nat)(w:World):Calls Tryz.prog 79 #[.int .u64 x] w λe w'=>e = .returned (.int .i64 (csz x))∧w=w':=by
 have go:∀s:Nat,csz x=s→((x:Int)<253∧s=1∨¬(x:Int)<253∧(x:Int)<65536∧s=3∨¬(x:Int)<253∧¬(x:Int)<65536∧(x:Int)<4294967296∧s=5 ∨
   ¬(x:Int)<253∧¬(x:Int)<65536∧¬(x:Int)<4294967296∧s=9)→Calls Tryz.prog 79 #[.int .u64 x] w λe w'=>e = .returned (.int .i64 s)∧w=w':=by
  intro s _ h
  rcases h with⟨h1,rfl⟩|⟨h1,h2,rfl⟩|⟨h1,h2,h3,rfl⟩|⟨h1,h2,h3,rfl⟩
  all_goals
   go_enter Tryz.func79,Tryz.ntmps79
   go_wp2
   go_ret
   exact⟨rfl,rfl⟩
 refine go _ rfl ?_
 by_cases h1:x<253
 ·exact .inl ⟨by omega,by simp[csz,h1]⟩
 by_cases h2:x<65536
 ·exact .inr (.inl ⟨by omega,by omega,by simp[csz,h1,h2]⟩)
 by_cases h3:x<4294967296
 ·exact .inr (.inr (.inl ⟨by omega,by omega,by omega,by simp[csz,h1,h2,h3]⟩))
 ·exact .inr (.inr (.inr ⟨by omega,by omega,by omega,by simp[csz,h1,h2,h3]⟩))
theorem acw(x:Int)(s:Nat)(w:World)(h0:0≤x)(h:csz x.toNat=s):Calls Tryz.prog 79 #[.int .u64 x] w λe w'=>e = .returned (.int .i64 s)∧w=w':=by
 obtain⟨x,rfl⟩:=Int.eq_ofNat_of_zero_le h0
 subst h
 exact aho x w
theorem qh(x:Nat):(cnt x).length=csz x:=by
 unfold cnt csz
 repeat' split
 all_goals simp[jy]
theorem aa0(x:Nat):1≤csz x∧csz x≤9:=by
 unfold csz
 repeat' split
 all_goals omega
theorem amy(b:Nat)(v:Value)(bs:List UInt8)(x:Int)(w:World)(h:IsW w b v bs)(h0:0≤x)(hx:x<18446744073709551616)(hl:bs.length+16≤140737488355328):
  Calls Tryz.prog 38 #[.pointer (some ⟨b,0,none⟩),.int .u64 x] w λe w'=>e = .returned (.tuple #[])∧xu w b v (bs++cnt x.toNat) w':=by
 by_cases c1:x.toNat<253
 ·have e1:csz x.toNat=1:=by simp[csz,c1]
  have e2:cnt x.toNat=le 1 x.toNat:=by simp[cnt,c1]
  rw[e2]
  clear e2 c1
  have E1:=Lib.hid e1
  clear e1
  go_enter Tryz.func38,Tryz.ntmps38
  go_wp2_with (first|(go_at_call 79;refine(acw _ _ _ h0 E1.out).mono ?_;rintro e w' ⟨rfl,rfl⟩)|(go_at_call 37;refine(ao7 b v bs _ _ _ h h0 hx rfl (by omega)).mono ?_;rintro e w' ⟨rfl,h'⟩))
  go_end0
  exact⟨rfl,h'⟩
 have big:∀(f k:Int),cnt x.toNat=le 1 f.toNat++le k.toNat x.toNat→szB k=true →
   ∀w1,xu w b v (bs++le 1 f.toNat) w1→Calls Tryz.prog 37 #[.pointer (some ⟨b,0,none⟩),.int .u64 x,.int .i64 k] w1 λe w'=>e = .returned (.tuple #[])∧xu w b v (bs++cnt x.toNat) w':=by
  intro f k e2 hk w1 ⟨v1,h1,hf1,ho1⟩
  refine(ao7 b v1 _ x k w1 h1 h0 hx hk (by simp[jy];omega)).mono ?_
  rintro e w' ⟨rfl,h2⟩
  refine⟨rfl,?_⟩
  rw[e2,←List.append_assoc]
  exact xu.trans h1 hf1 ho1 h2
 by_cases c2:x.toNat<65536
 ·have e1:csz x.toNat=3:=by simp[csz,c1,c2]
  have B:=Lib.hid (big 253 2 (by simp[cnt,c1,c2]) rfl)
  clear big c1 c2
  have E1:=Lib.hid e1
  clear e1
  go_enter Tryz.func38,Tryz.ntmps38
  go_wp2_with (go_at_call 79;refine(acw _ _ _ h0 E1.out).mono ?_;rintro e w' ⟨rfl,rfl⟩)
  refine(ao7 b v bs _ _ _ h (by omega) (by omega) rfl (by omega)).mono ?_
  rintro e w1 ⟨rfl,h1⟩
  go_wp2_with (go_at_call 37;refine(B.out _ h1).mono ?_;rintro e w2 ⟨rfl,h2⟩)
  go_end0
  exact⟨rfl,h2⟩
 by_cases c3:x.toNat<4294967296
 ·have e1:csz x.toNat=5:=by simp[csz,c1,c2,c3]
  have B:=Lib.hid (big 254 4 (by simp[cnt,c1,c2,c3]) rfl)
  clear big c1 c2 c3
  have E1:=Lib.hid e1
  clear e1
  go_enter Tryz.func38,Tryz.ntmps38
  go_wp2_with (go_at_call 79;refine(acw _ _ _ h0 E1.out).mono ?_;rintro e w' ⟨rfl,rfl⟩)
  refine(ao7 b v bs _ _ _ h (by omega) (by omega) rfl (by omega)).mono ?_
  rintro e w1 ⟨rfl,h1⟩
  go_wp2_with (go_at_call 37;refine(B.out _ h1).mono ?_;rintro e w2 ⟨rfl,h2⟩)
  go_end0
  exact⟨rfl,h2⟩
 ·have e1:csz x.toNat=9:=by simp[csz,c1,c2,c3]
  have B:=Lib.hid (big 255 8 (by simp[cnt,c1,c2,c3]) rfl)
  clear big c1 c2 c3
  have E1:=Lib.hid e1
  clear e1
  go_enter Tryz.func38,Tryz.ntmps38
  go_wp2_with (go_at_call 79;refine(acw _ _ _ h0 E1.out).mono ?_;rintro e w' ⟨rfl,rfl⟩)
  refine(ao7 b v bs _ _ _ h (by omega) (by omega) rfl (by omega)).mono ?_
  rintro e w1 ⟨rfl,h1⟩
  go_wp2_with (go_at_call 37;refine(B.out _ h1).mono ?_;rintro e w2 ⟨rfl,h2⟩)
  go_end0
  exact⟨rfl,h2⟩
theorem aog(b:Nat)(v:Value)(bs:List UInt8)(a:Option Addr)(n c:Nat)(xs:List UInt8)(w:World)(h:IsW w b v bs)(hx:Bs w a c xs)(hn:n=xs.length)(hl:bs.length+xs.length≤140737488355328):
  Calls Tryz.prog 36 #[.pointer (some ⟨b,0,none⟩),.slice a n c] w λe w'=>e = .returned (.tuple #[])∧xu w b v (bs++xs) w':=by
 have c1:=cell_of_one h.at_
 have HN:=Lib.hid hn
 clear hn
 go_enter Tryz.func36,Tryz.ntmps36
 go_wp2_with (at_builtin;refine xk rfl _ _ rfl _ _ rfl h.own _ _ _ _ rfl hx HN.out hl ?_;intro a' c' w1 ho hg hb;have p1:=xu.put h (Fr.refl _ _) hg ho hb;have c2:w1.cell? ⟨b,0,none⟩=some v:=hg.cell c1 (λe=>h.ne e.symm);have z2:w1.frozen? ⟨b,0,none⟩=false:=free_of_one (v:=v) (t:=100) ((hg.block b h.lt (λe=>h.ne e.symm)).trans h.at_))
 go_end0
 exact⟨rfl,p1⟩
def ctd(xs:List UInt8):List UInt8:=cnt xs.length++xs
theorem aiv(b:Nat)(v:Value)(bs:List UInt8)(a:Option Addr)(n c:Nat)(xs:List UInt8)(w:World)(h:IsW w b v bs)(hx:Bs w a c xs)(hn:n=xs.length)(hl:bs.length+xs.length+16≤140737488355328)
  (ha:xs ≠ []→∀k,ql a=some k→¬WS b v k) :
  Calls Tryz.prog 35 #[.pointer (some ⟨b,0,none⟩),.slice a n c] w λe w'=>e = .returned (.tuple #[])∧xu w b v (bs++ctd xs) w':=by
 have hm:(n:Int)<18446744073709551616:=by omega
 have hm2:(n:Int)≤140737488355328:=by omega
 have HN:=Lib.hid hn
 clear hn
 go_enter Tryz.func35,Tryz.ntmps35
 go_wp2_with (go_at_call 38;refine(amy b v bs _ _ h (by omega) (by omega) (by omega)).mono ?_;rintro e w1 ⟨rfl,p1⟩)
 obtain⟨v1,h1,hf1,ho1⟩:=p1
 have hn:=HN.out
 have hcs:=aa0 xs.length
 have e1:(n:Int).toNat=xs.length:=by omega
 rw[e1]at h1
 refine(aog b v1 _ a n c xs w1 h1 (Sl.frn hx hf1 λhne=>ha λe=>hne (by rw[e];rfl)) hn (by rw[List.length_append,qh];omega)).mono ?_
 rintro e w2 ⟨rfl,p2⟩
 have p3:=xu.trans h1 hf1 ho1 p2
 clear h1 hf1 ho1 p2 hn e1
 go_wp2
 go_end0
 exact⟨rfl,by rw[ctd,←List.append_assoc];exact p3⟩
theorem ayi(b:Nat)(v:Value)(bs:List UInt8)(w:World)(h:IsW w b v bs)(hl:bs.length≤140737488355328):
  Calls Tryz.prog 39 #[.pointer (some ⟨b,0,none⟩)] w (ou bs w):=by
 obtain⟨a,c,rfl⟩:=h.own.slice
 have c1:=cell_of_one h.at_
 have hb:=h.own.bs.2
 go_enter Tryz.func39,Tryz.ntmps39
 go_wp2_with (go_at_call 76;refine(ae2 _ _ _ _ _ hb rfl hl).mono ?_;rintro e w1 ⟨a',c',rfl,h1,h2,h3⟩)
 go_ret
 exact⟨a',c',rfl,h1,h2,h3⟩
end Go.Proofs.YtjlelckefiannaaGreatDoor
namespace Go.Proofs.YtjlelckefiannaaGreatDoor
set_option linter.unusedVariables false
set_option linter.unusedSimpArgs false
open Go.RowKit Go.Shelf
def Kc(x:Nat)(W W':World):Prop:=W.heap.size≤W'.heap.size∧∀k c e f,k≠x→W.heap[k]? = some (.cells c e f)→W'.heap[k]? = some (.cells c e f)
theorem Kc.refl(x:Nat)(W:World):Kc x W W:=⟨Nat.le_refl _,λ_ _ _ _ _ h=>h⟩
theorem Kc.trans{x:Nat}{A B C:World}(h:Kc x A B)(k:Kc x B C):Kc x A C:=⟨Nat.le_trans h.1 k.1,λi c e f hi ha=>k.2 i c e f hi (h.2 i c e f hi ha)⟩
theorem Kc.setCell(x:Nat)(W:World)(v:Value):Kc x W (W.setCell ⟨x,0,none⟩ v):=⟨by simp[World.setCell],λk c e f hk h=>by rw[Below.heap_setCell _ _ _ _ hk];exact h⟩
theorem Kc.below{x:Nat}{W W':World}(h:Below W.heap.size W W'):Kc x W W':=⟨h.size,λk c e f _ hk=>(h.block k (Array.getElem?_eq_some_iff.1 hk).1).trans hk⟩
theorem Kc.fr{x:Nat}{W W':World}(h:Fr (λk=>k=x) W W'):Kc x W W':=⟨h.size,λk c e f hx hk=>(h.block k (Array.getElem?_eq_some_iff.1 hk).1 hx).trans hk⟩
theorem Kc.putObj{x:Nat}(W:World)(l:Nat)(o o':Obj)(h:W.heap[l]? = some o)(hc:o.isCells=false):Kc x W (W.putObj l o'):=by
 refine⟨by simp[World.putObj],λk c e f _ hk=>?_⟩
 by_cases hl:k=l
 ·subst hl
  rw[h]at hk
  cases hk
  cases hc
 ·simp only[World.putObj]
  rw[Array.getElem?_setIfInBounds_ne (by omega)]
  exact hk
theorem Kc.cell{x:Nat}{W W':World}(h:Kc x W W'){p:Addr}{v:Value}(hp:p.block≠x)(hc:W.cell? p=some v):W'.cell? p=some v:=by
 unfold World.cell? at hc ⊢
 cases hb:W.heap[p.block]? with
 |none=>rw[hb]at hc;cases hc
 |some o =>
  rw[hb]at hc
  cases o with
  |cells c e f=>rw[h.2 _ c e f hp hb];exact hc
  |_=>cases hc
end Go.Proofs.YtjlelckefiannaaGreatDoor
namespace Go.Proofs.YtjlelckefiannaaGreatDoor
set_option linter.unusedVariables false
set_option linter.unusedSimpArgs false
open Go.RowKit Go.Shelf
attribute [local go_sem] Oper.semAt_some
def upto{α:Type}(f:Nat→α)(k:Nat):List α:=(List.range k).map f
theorem upto_succ{α:Type}(f:Nat→α)(k:Nat):upto f (k+1)=upto f k ++ [f k]:=by simp[upto,List.range_succ]
theorem upto_length{α:Type}(f:Nat→α)(k:Nat):(upto f k).length=k:=by simp[upto]
def bk(bs:List UInt8)(k:Nat):Nat×UInt8:=(bs.length-1-k,bs.getD (bs.length-1-k) 0)
theorem aSd(bs:List UInt8):(upto (bk bs) bs.length).map (·.2)=bs.reverse:=by
 apply List.ext_getElem
 ·simp[upto]
 ·intro i h1 h2
  have h3:i<bs.length:=by simpa using h2
  simp[upto,bk,List.getElem_reverse]
  rw[List.getElem?_eq_getElem (by omega)]
  rfl
abbrev encB (x:Nat×UInt8):Array Value:=#[.int .i64 (x.1:Int),.int .u8 (x.2.toNat:Int)]
theorem ari(F:Fence)(n:Nat)(hF:F.fn 190)(hro:F.round=none)(hn:1≤n)(l Bx X b off cap:Nat)(bs:List UInt8)(hreach:bs.length≤140737488355328)(hbX:b≠X)(hBX:Bx≠X)(J Jx:List (Nat×UInt8)→World→Prop)
  (hY:∀pre x W,J pre W→pre.length<bs.length→YieldAt F (n-1) Tryz.prog l (encB x) W λe W' =>
   (e = .returned (.bool true)∧J (pre ++ [x]) W'∧Kc X W W')∨(e = .returned (.bool false)∧Jx (pre ++ [x]) W'))
  (W:World) (hBs:W.cell? ⟨Bx,0,none⟩=some (.slice (some ⟨b,off,none⟩) bs.length cap)) (hc:∀j,(hj:j<bs.length)→W.cell? ⟨b,off+j,none⟩=some (.int .u8 (bs[j].toNat:Int))) (h0:J [] W) :
  CallsIn F n Tryz.prog 190 #[.func (.yield l) #[] #[],.pointer (some ⟨Bx,0,none⟩)] W λe W'=>(∃v,e = .returned v) ∧
   ((∃ys,ys=upto (bk bs) bs.length∧J ys W')∨(∃pre,True∧Jx pre W')):=by
 refine callsIn_of_wp Tryz.func190 rfl hF ?_ hro
 simp only[Tryz.ntmps190,List.size_toArray,List.length_cons,List.length_nil,Nat.reduceAdd,Nat.reduceSub,Array.replicate_succ,Array.replicate_zero,List.push_toArray,List.append_toArray,List.nil_append,List.cons_append]
 gi_wp2
 gi_loopw [3] (λi wr=>∃k:Nat,k≤bs.length∧i = .int .i64 ((bs.length:Int)-1-k)∧J (upto (bk bs) k) wr∧Kc X W wr)
  (λi _=>(intOf i+1).toNat)
 case atStart=>exact⟨0,Nat.zero_le _,by simp,h0,Kc.refl _ _⟩
 case round =>
  obtain⟨k,hk,rfl,hJs,hnx⟩:=hrel
  have hbox:=hnx.cell (p:=⟨Bx,0,none⟩) hBX hBs
  by_cases hlt:k<bs.length
  ·obtain⟨fn,tmps,assign,body,hy,hR⟩:=hY _ (bk bs k) wr hJs (by rw[upto_length];exact hlt)
   dsimp only[encB,bk]at hy
   have hcx:=hnx.cell (p:=⟨b,off+(bs.length-1-k),none⟩) hbX (hc (bs.length-1-k) (by omega))
   have e2:bs.getD (bs.length-1-k) 0=bs[bs.length-1-k]:=by simp[List.getD,List.getElem?_eq_getElem (show bs.length-1-k<bs.length by omega)]
   have e1:((bs.length-1-k:Nat):Int)=(bs.length:Int)-1-k:=by omega
   rw[e1,e2]at hy
   clear e1 e2
   gi_wp2
   refine hR.mono ?_
   rintro e W3 (⟨rfl,hJ3,hk3⟩|⟨rfl,hJx3⟩)
   ·gi_wp2
    go_roundw
    case rel=>exact⟨k+1,by omega,by go_num,by rw[upto_succ];exact hJ3,hnx.trans hk3⟩
    case measure=>simp[intOf];omega
   ·gi_wp2
    refine bodyPost_ret (results_none rfl _ _ _) rfl ?_
    exact⟨⟨_,rfl⟩,.inr ⟨_,trivial,hJx3⟩⟩
  ·obtain rfl:k=bs.length:=by omega
   gi_wp2
   go_end0
   exact⟨⟨_,rfl⟩,.inl ⟨_,rfl,hJs⟩⟩
theorem aix(F:Fence)(n:Nat)(hF:F.fn 190)(hro:F.round=none)(l Bx:Nat)(a:Option Addr)(cap:Nat)(J:List (Nat×UInt8)→World→Prop)(W:World)(hBs:W.cell? ⟨Bx,0,none⟩=some (.slice a 0 cap))(h0:J [] W):
  CallsIn F n Tryz.prog 190 #[.func (.yield l) #[] #[],.pointer (some ⟨Bx,0,none⟩)] W λe W'=>(∃v,e = .returned v)∧J [] W':=by
 refine callsIn_of_wp Tryz.func190 rfl hF ?_ hro
 simp only[Tryz.ntmps190,List.size_toArray,List.length_cons,List.length_nil,Nat.reduceAdd,Nat.reduceSub,Array.replicate_succ,Array.replicate_zero,List.push_toArray,List.append_toArray,List.nil_append,List.cons_append]
 gi_wp2
 gi_loopw [3] (λi wr=>i = .int .i64 (-1)∧J [] wr) (λ_ _=>0)
 case atStart=>exact⟨rfl,h0⟩
 case round =>
  obtain⟨rfl,hJs⟩:=hrel
  gi_wp2
  go_end0
  exact⟨⟨_,rfl⟩,hJs⟩
theorem at6(F:Fence)(n:Nat)(hF:F.fn 169)(hro:F.round=none)(a:Option Addr)(len cap:Nat)(w:World):
  CallsIn F n Tryz.prog 169 #[.slice a len cap] w λe w'=>e = .returned (.func (.func 190) #[] #[.pointer (some ⟨w.heap.size,0,none⟩)])∧w'=w.alloc (.cells #[.slice a len cap] 22):=by
 refine callsIn_of_wp Tryz.func169 rfl hF ?_ hro
 simp only[Tryz.ntmps169,List.size_toArray,List.length_cons,List.length_nil,Nat.reduceAdd,Nat.reduceSub,Array.replicate_succ,Array.replicate_zero,List.push_toArray,List.append_toArray,List.nil_append,List.cons_append]
 gi_wp2
 go_ret
 exact⟨rfl,rfl⟩
theorem alp(F:Fence)(n:Nat)(hF:F.fn 190)(hro:F.round=none)(hn:1≤n)(Bx X:Nat)(a:Option Addr)(cap:Nat)(bs:List UInt8)(hreach:bs.length≤140737488355328)(w:World)
  (hBX:Bx≠X) (hc:w.cell? ⟨Bx,0,none⟩=some (.slice a bs.length cap)) (hI:Bs w a cap bs) (hX:∀k,bs ≠ []→ql a=some k→k≠X) :
  SeqStopsK F n Tryz.prog 190 #[.pointer (some ⟨Bx,0,none⟩)] encB (Kc X) (λys=>ys=upto (bk bs) bs.length) (λ_=>True) bs.length w:=λl J Jx W hW _ _ hY h0=>by
 have hK:Kc X w W:=Kc.below hW
 have hc':=hK.cell (p:=⟨Bx,0,none⟩) hBX hc
 by_cases hb:bs = []
 ·subst hb
  exact(aix F n hF hro l Bx a cap J W hc' h0).mono λe W' ⟨he,hj⟩=>⟨he,.inl ⟨_,rfl,hj⟩⟩
 ·obtain⟨b,off,rfl,hcs⟩:=hI.cells hb
  have hbX:=hX b hb rfl
  exact ari F n hF hro hn l Bx X b off cap bs hreach hbX hBX J Jx hY W hc' (λj hj=>hK.cell (p:=⟨b,off+j,none⟩) hbX (hcs j hj)) h0
end Go.Proofs.YtjlelckefiannaaGreatDoor
namespace Go.Proofs.YtjlelckefiannaaGreatDoor
set_option linter.unusedVariables false
set_option linter.unusedSimpArgs false
open Go.RowKit
def WI(W:World)(g:Nat)(bs:List UInt8)(w:World):Prop:=∃v,IsW w g v bs∧Fr (λk=>k=g) W w∧∀k,v.ownBlock=some k→W.heap.size≤k
theorem WI.of{W:World}{g:Nat}(h:W.heap[g]? = some (.cells #[.slice none 0 0] 100 (0,0))):WI W g [] W:=⟨_,⟨h,OwnB.nil W⟩,Fr.refl _ _,λk e=>by cases e⟩
theorem WI.step{W w w':World}{g:Nat}{v:Value}{bs:List UInt8}(hf:Fr (λk=>k=g) W w)(ho:∀k,v.ownBlock=some k→W.heap.size≤k)(p:xu w g v bs w'):WI W g bs w':=by
 obtain⟨v',h',f',o'⟩:=p
 refine⟨v',h',hf.trans f' λi hi hs=>?_,λk hk=>?_⟩
 ·rcases hs with rfl|hs
  ·rfl
  ·have:=ho i hs
   omega
 ·rcases o' k hk with h|h
  ·exact ho k h
  ·exact Nat.le_trans hf.size h
theorem WI.keep{W w:World}{g k:Nat}{bs:List UInt8}{x:Obj}(h:WI W g bs w)(hk:k≠g)(hx:W.heap[k]? = some x):w.heap[k]? = some x:=by
 obtain⟨v,_,f,_⟩:=h
 exact f.keeps (λe=>hk e) hx
theorem WI.put{W w:World}{g:Nat}{bs:List UInt8}(h:WI W g bs w)(x:Nat)(hx:x<4294967296)(hl:bs.length≤1000):
  Calls Tryz.prog 37 #[.pointer (some ⟨g,0,none⟩),.int .u64 (x:Int),.int .i64 4] w λe w'=>e = .returned (.tuple #[])∧WI W g (bs++le 4 x) w':=by
 obtain⟨v,hw,f,ho⟩:=h
 exact(anm g v bs x 4 w hw (by omega) rfl (by omega)).mono λe w' ⟨he,p⟩=>⟨he,WI.step f ho p⟩
theorem WI.raw{W w:World}{g:Nat}{bs:List UInt8}(h:WI W g bs w)(a:Option Addr)(n c:Nat)(xs:List UInt8)(hb:Bs w a c xs)(hn:n=xs.length)(hl:bs.length+xs.length≤100000):
  Calls Tryz.prog 36 #[.pointer (some ⟨g,0,none⟩),.slice a n c] w λe w'=>e = .returned (.tuple #[])∧WI W g (bs++xs) w':=by
 obtain⟨v,hw,f,ho⟩:=h
 exact(aog g v bs a n c xs w hw hb hn (by omega)).mono λe w' ⟨he,p⟩=>⟨he,WI.step f ho p⟩
theorem WI.bytes{W w w0:World}{g:Nat}{bs:List UInt8}(h:WI W g bs w)(fW:Fr F0 w0 W)(hg:w0.heap.size≤g)(hl:bs.length≤100000):
  Calls Tryz.prog 39 #[.pointer (some ⟨g,0,none⟩)] w (ou bs w0):=by
 obtain⟨v,hw,f,ho⟩:=h
 refine(ayi g v bs w hw (by omega)).mono λe w' ⟨a,c,he,hb,f',n'⟩=>⟨a,c,he,hb,?_,λb e=>⟨Nat.le_trans (Nat.le_trans fW.size f.size) (n' b e).1,(n' b e).2⟩⟩
 exact(fW.trans f λi hi e=>by omega).trans' f'
theorem WI.puts{W w:World}{g:Nat}{bs:List UInt8}(h:WI W g bs w)(x n:Nat)(hx:x<18446744073709551616)(hn:szB n=true)(hl:bs.length≤1000000):
  Calls Tryz.prog 37 #[.pointer (some ⟨g,0,none⟩),.int .u64 (x:Int),.int .i64 (n:Int)] w λe w'=>e = .returned (.tuple #[])∧WI W g (bs++le n x) w':=by
 obtain⟨v,hw,f,ho⟩:=h
 exact(anm g v bs x n w hw (by omega) hn (by omega)).mono λe w' ⟨he,p⟩=>⟨he,WI.step f ho p⟩
theorem WI.count{W w:World}{g:Nat}{bs:List UInt8}(h:WI W g bs w)(x:Nat)(hx:x<18446744073709551616)(hl:bs.length≤1000000):
  Calls Tryz.prog 38 #[.pointer (some ⟨g,0,none⟩),.int .u64 (x:Int)] w λe w'=>e = .returned (.tuple #[])∧WI W g (bs++cnt x) w':=by
 obtain⟨v,hw,f,ho⟩:=h
 exact(amy g v bs x w hw (by omega) (by omega) (by omega)).mono λe w' ⟨he,p⟩=>⟨he,WI.step f ho p⟩
theorem WI.counted{W w:World}{g:Nat}{bs:List UInt8}(h:WI W g bs w)(a:Option Addr)(n c:Nat)(xs:List UInt8)(hb:Bs w a c xs)(hn:n=xs.length)(hl:bs.length+xs.length≤1000000)
  (ha:xs ≠ []→∀k,ql a=some k→k≠g∧k<W.heap.size) :
  Calls Tryz.prog 35 #[.pointer (some ⟨g,0,none⟩),.slice a n c] w λe w'=>e = .returned (.tuple #[])∧WI W g (bs++ctd xs) w':=by
 obtain⟨v,hw,f,ho⟩:=h
 refine(aiv g v bs a n c xs w hw hb hn (by omega) λhx k hk hs=>?_).mono λe w' ⟨he,p⟩=>⟨he,WI.step f ho p⟩
 have h1:=ha hx k hk
 rcases hs with e|e
 ·exact h1.1 e
 ·have:=ho k e
  omega
end Go.Proofs.YtjlelckefiannaaGreatDoor
namespace Go.Proofs.YtjlelckefiannaaGreatDoor
set_option linter.unusedVariables false
set_option linter.unusedSimpArgs false
def ng:Nat:=2 ^ 256
theorem abk:ng=2 ^ (64*4):=rfl
theorem aam:0<ng:=Nat.two_pow_pos 256
def ahr(x y c:Nat):Nat:=(x+y+c) % 2 ^ 64
def aoy(x y c:Nat):Nat:=(x+y+c)/2 ^ 64
def aov(x y b:Nat):Nat:=(x+2 ^ 64-y-b) % 2 ^ 64
def aow(x y b:Nat):Nat:=if x<y+b then 1 else 0
def afv(x y:Nat):Nat:=x*y % 2 ^ 64
def alc(x y:Nat):Nat:=x*y/2 ^ 64
theorem ag3(x y c:Nat):ahr x y c<2 ^ 64:=Nat.mod_lt _ (Nat.two_pow_pos _)
theorem au2(x y c:Nat):aov x y c<2 ^ 64:=Nat.mod_lt _ (Nat.two_pow_pos _)
theorem aGy(x y:Nat):afv x y<2 ^ 64:=Nat.mod_lt _ (Nat.two_pow_pos _)
theorem aFy(x y b:Nat):aow x y b≤1:=by unfold aow;split<;>omega
theorem aQb(P B r q:Nat)(h:r<P):(r+P*q) % (P*B)=r+P*(q % B):=by
 rw[Nat.mod_mul,Nat.add_mul_mod_self_left,Nat.mod_eq_of_lt h,Nat.add_mul_div_left _ _ (by omega),Nat.div_eq_of_lt h,Nat.zero_add]
theorem aQk(P B r q:Nat)(h:r<P):(r+P*q)/(P*B)=q/B:=by
 rw[←Nat.div_div_eq_div_mul,Nat.add_mul_div_left _ _ (by omega),Nat.div_eq_of_lt h,Nat.zero_add]
theorem acn(i:Nat):2 ^ (64*(i+1))=2 ^ (64*i)*2 ^ 64:=by rw[←Nat.pow_add];congr 1
def adT(a b i:Nat):Nat:=a % 2 ^ (64*i)+b % 2 ^ (64*i)
def adS(a b i:Nat):Nat:=adT a b i % 2 ^ (64*i)
def adC(a b i:Nat):Nat:=adT a b i/2 ^ (64*i)
theorem awe(a b i:Nat):adT a b (i+1)=adS a b i+2 ^ (64*i)*(dgt 64 a i+dgt 64 b i+adC a b i):=by
 have h:=Nat.mod_add_div (adT a b i) (2 ^ (64*i))
 have e:adT a b (i+1)=adT a b i+2 ^ (64*i)*(dgt 64 a i+dgt 64 b i):=by
  unfold adT
  rw[mod_succ,mod_succ,Nat.mul_add]
  omega
 rw[e,adS,adC,Nat.mul_add _ _ (adT a b i/_)]
 omega
theorem az0(a b i:Nat):adS a b i<2 ^ (64*i):=Nat.mod_lt _ (Nat.two_pow_pos _)
theorem aH6(a b i:Nat):adS a b (i+1)=adS a b i+2 ^ (64*i)*ahr (dgt 64 a i) (dgt 64 b i) (adC a b i):=by
 show adT a b (i+1) % _=_
 rw[awe,acn,aQb _ _ _ _ (az0 a b i)]
 rfl
theorem aH8(a b i:Nat):adC a b (i+1)=aoy (dgt 64 a i) (dgt 64 b i) (adC a b i):=by
 show adT a b (i+1)/_=_
 rw[awe,acn,aQk _ _ _ _ (az0 a b i)]
 rfl
theorem aSj(a b i:Nat):adC a b i≤1:=by
 have h1:=Nat.mod_lt a (Nat.two_pow_pos (64*i))
 have h2:=Nat.mod_lt b (Nat.two_pow_pos (64*i))
 have:adT a b i<2 ^ (64*i)*2:=by unfold adT;omega
 have:=(Nat.div_lt_iff_lt_mul (Nat.two_pow_pos (64*i))).2 (show adT a b i<2*2 ^ (64*i) by omega)
 unfold adC
 omega
theorem aH5(a b:Nat):adS a b 0=0:=by simp[adS,Nat.mod_one]
theorem aH7(a b:Nat):adC a b 0=0:=by simp[adC,adT,Nat.mod_one]
theorem aNs(a b:Nat)(ha:a<ng)(hb:b<ng):adS a b 4=(a+b) % ng:=by
 unfold adS adT
 rw[←abk,Nat.mod_eq_of_lt ha,Nat.mod_eq_of_lt hb]
theorem aNt(a b:Nat)(ha:a<ng)(hb:b<ng):(adC a b 4 != 0)=decide (ng≤a+b):=by
 unfold adC adT
 rw[←abk,Nat.mod_eq_of_lt ha,Nat.mod_eq_of_lt hb]
 by_cases h:ng≤a+b
 ·have:0<(a+b)/ng:=Nat.div_pos h aam
  simp only[h,decide_true]
  exact bne_iff_ne.2 (by omega)
 ·rw[Nat.div_eq_of_lt (by omega)]
  simp[h]
def sbT(a b i:Nat):Nat:=a % 2 ^ (64*i)+2 ^ (64*i)-b % 2 ^ (64*i)
def sbS(a b i:Nat):Nat:=sbT a b i % 2 ^ (64*i)
def sbC(a b i:Nat):Nat:=if a % 2 ^ (64*i)<b % 2 ^ (64*i)then 1 else 0
theorem azk(a b i:Nat):sbS a b i<2 ^ (64*i):=Nat.mod_lt _ (Nat.two_pow_pos _)
theorem azl(a b i:Nat):sbC a b i≤1:=by unfold sbC;split<;>omega
theorem aP7(a b i:Nat):a % 2 ^ (64*i)+2 ^ (64*i)*sbC a b i=b % 2 ^ (64*i)+sbS a b i:=by
 have h1:=Nat.mod_lt a (Nat.two_pow_pos (64*i))
 have h2:=Nat.mod_lt b (Nat.two_pow_pos (64*i))
 unfold sbC sbS sbT
 generalize a % 2 ^ (64*i)=x at *
 generalize b % 2 ^ (64*i)=y at *
 generalize 2 ^ (64*i)=P at *
 split
 ·rw[Nat.mod_eq_of_lt (by omega)];omega
 ·rw[show x+P-y=x-y+P by omega,Nat.add_mod_right,Nat.mod_eq_of_lt (by omega)];omega
theorem aLr(P x y s c s' c':Nat)(h:x+P*c=y+s)(h':x+P*c'=y+s')(hs:s<P)(hs':s'<P)(hc:c≤1)(hc':c'≤1):s=s'∧c=c':=by
 have e0:c=0∨c=1:=by omega
 have e1:c'=0∨c'=1:=by omega
 rcases e0 with rfl|rfl<;>rcases e1 with rfl|rfl<;>simp at h h' ⊢ <;> omega
theorem sub_eq(x y b:Nat)(hx:x<2 ^ 64)(hy:y<2 ^ 64)(hb:b≤1):x+2 ^ 64*aow x y b=y+b+aov x y b:=by
 unfold aow aov
 split<;>omega
theorem aAg(a b i:Nat):sbS a b (i+1)=sbS a b i+2 ^ (64*i)*aov (dgt 64 a i) (dgt 64 b i) (sbC a b i)∧sbC a b (i+1)=aow (dgt 64 a i) (dgt 64 b i) (sbC a b i):=by
 have h0:=aP7 a b i
 have h1:=aP7 a b (i+1)
 have h2:=sub_eq (dgt 64 a i) (dgt 64 b i) (sbC a b i) (abq _ _ _) (abq _ _ _) (azl a b i)
 have h3:=au2 (dgt 64 a i) (dgt 64 b i) (sbC a b i)
 have h4:=azk a b i
 refine aLr (2 ^ (64*(i+1))) (a % 2 ^ (64*(i+1))) (b % 2 ^ (64*(i+1))) _ _ _ _ h1 ?_ (azk _ _ _) ?_ (azl _ _ _) (aFy _ _ _)
 ·rw[mod_succ,mod_succ,acn]
  generalize dgt 64 a i=x at *
  generalize dgt 64 b i=y at *
  generalize sbC a b i=c at *
  generalize aow x y c=H at *
  generalize aov x y c=L at *
  have e:2 ^ (64*i)*(x+2 ^ 64*H)=2 ^ (64*i)*(y+c+L):=by rw[h2]
  rw[Nat.mul_add,Nat.mul_add,Nat.mul_add,←Nat.mul_assoc]at e
  omega
 ·rw[acn]
  have:2 ^ (64*i)*(aov (dgt 64 a i) (dgt 64 b i) (sbC a b i)+1)≤2 ^ (64*i)*2 ^ 64:=Nat.mul_le_mul_left _ h3
  rw[Nat.mul_add]at this
  omega
theorem aF2(a b:Nat):sbS a b 0=0:=by simp[sbS,Nat.mod_one]
theorem aF3(a b:Nat):sbC a b 0=0:=by simp[sbC,Nat.mod_one]
theorem aLs(a b:Nat)(ha:a<ng)(hb:b<ng):sbS a b 4=(a+ng-b) % ng:=by
 unfold sbS sbT
 rw[←abk,Nat.mod_eq_of_lt ha,Nat.mod_eq_of_lt hb]
theorem aLt(a b:Nat)(ha:a<ng)(hb:b<ng):(sbC a b 4 != 0)=decide (a<b):=by
 unfold sbC
 rw[←abk,Nat.mod_eq_of_lt ha,Nat.mod_eq_of_lt hb]
 by_cases h:a<b<;>simp[h]
def mlT(a x i:Nat):Nat:=a % 2 ^ (64*i)*x
def mlS(a x i:Nat):Nat:=mlT a x i % 2 ^ (64*i)
def mlH(a x i:Nat):Nat:=mlT a x i/2 ^ (64*i)
theorem auk(a x i:Nat):mlS a x i<2 ^ (64*i):=Nat.mod_lt _ (Nat.two_pow_pos _)
theorem ave(a x i:Nat):mlT a x (i+1)=mlS a x i+2 ^ (64*i)*(dgt 64 a i*x+mlH a x i):=by
 have h:=Nat.mod_add_div (mlT a x i) (2 ^ (64*i))
 have e:mlT a x (i+1)=mlT a x i+2 ^ (64*i)*(dgt 64 a i*x):=by
  unfold mlT
  rw[mod_succ,Nat.add_mul,Nat.mul_assoc]
 rw[e,mlS,mlH,Nat.mul_add]
 omega
theorem aRo(a x i:Nat)(hx:x<2 ^ 64):mlH a x i<2 ^ 64:=by
 unfold mlH mlT
 rw[Nat.div_lt_iff_lt_mul (Nat.two_pow_pos _)]
 have h1:=Nat.mod_lt a (Nat.two_pow_pos (64*i))
 calc a % 2 ^ (64*i)*x≤a % 2 ^ (64*i)*2 ^ 64:=Nat.mul_le_mul_left _ (by omega)
  _<2 ^ (64*i)*2 ^ 64:=Nat.mul_lt_mul_of_pos_right h1 (Nat.two_pow_pos _)
  _=2 ^ 64*2 ^ (64*i):=Nat.mul_comm _ _
theorem asf(d x H:Nat):ahr (afv d x) H 0=(d*x+H) % 2 ^ 64∧alc d x+aoy (afv d x) H 0=(d*x+H)/2 ^ 64:=by
 unfold ahr aoy afv alc
 generalize d*x=q
 omega
theorem avf(a x i:Nat):mlS a x (i+1)=mlS a x i+2 ^ (64*i)*ahr (afv (dgt 64 a i) x) (mlH a x i) 0:=by
 show mlT a x (i+1) % _=_
 rw[ave,acn,aQb _ _ _ _ (auk a x i),(asf _ _ _).1]
theorem avh(a x i:Nat):mlH a x (i+1)=alc (dgt 64 a i) x+aoy (afv (dgt 64 a i) x) (mlH a x i) 0:=by
 show mlT a x (i+1)/_=_
 rw[ave,acn,aQk _ _ _ _ (auk a x i),(asf _ _ _).2]
theorem aG0(a x:Nat):mlS a x 0=0:=by simp[mlS,Nat.mod_one]
theorem avg(a x:Nat):mlH a x 0=0:=by simp[mlH,mlT,Nat.mod_one]
theorem aMk(a x:Nat)(ha:a<ng):mlS a x 4=a*x % ng:=by
 unfold mlS mlT
 rw[←abk,Nat.mod_eq_of_lt ha]
theorem aMm(a x:Nat)(ha:a<ng):(mlH a x 4 != 0)=decide (ng≤a*x):=by
 unfold mlH mlT
 rw[←abk,Nat.mod_eq_of_lt ha]
 by_cases h:ng≤a*x
 ·have:0<(a*x)/ng:=Nat.div_pos h aam
  simp only[h,decide_true]
  exact bne_iff_ne.2 (by omega)
 ·rw[Nat.div_eq_of_lt (by omega)]
  simp[h]
def aI9(a:Nat):Nat→Nat
 |0=>a
 |i+1=>ala 64 (aI9 a i) i (2 ^ 64-1-dgt 64 a i)
theorem an5(a:Nat):∀i j,dgt 64 (aI9 a i) j=if j<i then 2 ^ 64-1-dgt 64 a j else dgt 64 a j
 |0,j=>by simp[aI9]
 |i+1,j=>by
  rw[aI9,ai2 _ _ _ _ _ (by have:=abq 64 a i;omega),an5 a i j]
  by_cases h:j=i
  ·subst h;simp
  ·simp only[h,if_false]
   by_cases h2:j<i
   ·rw[if_pos h2,if_pos (by omega)]
   ·rw[if_neg h2,if_neg (by omega)]
theorem aHm(n:Nat):∀(a i:Nat),i<n→a<2 ^ (64*n)→dgt 64 (2 ^ (64*n)-1-a) i=2 ^ 64-1-dgt 64 a i:=by
 induction n with
 |zero=>intro a i hi _;omega
 |succ n ih =>
  intro a i hi ha
  have e1:=acn n
  have hm:=Nat.mod_lt a (Nat.two_pow_pos (64*n))
  have hd:a/2 ^ (64*n)<2 ^ 64:=by rw[Nat.div_lt_iff_lt_mul (Nat.two_pow_pos _)];rw[e1,Nat.mul_comm]at ha;exact ha
  have hq:dgt 64 a n=a/2 ^ (64*n):=Nat.mod_eq_of_lt hd
  have hs:=Nat.mod_add_div a (2 ^ (64*n))
  have key:2 ^ (64*(n+1))-1-a=(2 ^ (64*n)-1-a % 2 ^ (64*n))+2 ^ (64*n)*(2 ^ 64-1-a/2 ^ (64*n)):=by
   rw[e1]
   generalize a/2 ^ (64*n)=q at *
   generalize a % 2 ^ (64*n)=r at *
   generalize 2 ^ (64*n)=P at *
   obtain⟨k,hk⟩:∃k,2 ^ 64=q+1+k:=⟨2 ^ 64-(q+1),by omega⟩
   rw[show 2 ^ 64-1-q=k by omega,hk]
   have:P*(q+1+k)=P*q+P+P*k:=by rw[Nat.mul_add,Nat.mul_add,Nat.mul_one]
   omega
  by_cases hin:i=n
  ·subst hin
   rw[dgt,key,Nat.add_mul_div_left _ _ (Nat.two_pow_pos _),Nat.div_eq_of_lt (by omega),Nat.zero_add,hq,Nat.mod_eq_of_lt (by omega)]
  ·rw[key,ab8 64 _ (2 ^ (64*n)-1-a % 2 ^ (64*n)) n i (by omega) (by rw[Nat.add_mul_mod_self_left]),ih (a % 2 ^ (64*n)) i (by omega) hm,ab8 64 (a % 2 ^ (64*n)) a n i (by omega) (Nat.mod_mod _ _)]
theorem aMg(a:Nat)(ha:a<ng)(k:IntKind):gu k 64 4 (aI9 a 4)=gu k 64 4 (ng-1-a):=by
 refine ah0 _ _ _ _ _ (adk _ _ _ _ λi hi=>?_)
 rw[an5,if_pos hi,abk,aHm 4 a i hi (by rw[←abk];exact ha)]
end Go.Proofs.YtjlelckefiannaaGreatDoor
namespace Go.Proofs.YtjlelckefiannaaGreatDoor
set_option linter.unusedVariables false
set_option linter.unusedSimpArgs false
open Go.RowKit Go.Shelf
variable {F:Fence} {n:Nat} {P:Program}
def SeqJ{α:Type}(F:Fence)(n:Nat)(P:Program)(gf:Nat)(lb:Array Value)(encs:α→Array Value)(C:List α→World→Prop)(Nx:List α→α→Prop)(S:List α→Prop):Prop :=
 ∀(l:Nat) (J Jx:List α→World→Prop) (W:World),(∀pre W',J pre W'→C pre W') →
  (∀pre x W1,J pre W1→Nx pre x→YieldAt F (n-1) P l (encs x) W1 λe W'=>(e = .returned (.bool true)∧J (pre ++ [x]) W')∨(e = .returned (.bool false)∧Jx (pre ++ [x]) W')) →
  J [] W →
  CallsIn F n P gf (#[.func (.yield l) #[] #[]]++lb) W λe W'=>(∃v,e = .returned v)∧((∃xs,S xs∧J xs W')∨(∃pre,Jx pre W'))
abbrev KT:World→World→Prop:=λ_ _=>True
theorem ahc{α:Type}{g:Operand}{ps:Array Tmp}{assign body:Code}{Q:Exit→Act→World→Prop}{a:Act}{w:World}
  (hro:F.round=none) (h1:1≤n) {gf:Nat} {lb:Array Value} (hg:a.eval g = .func (.func gf) #[] lb) (hFg:F.fn gf) (eg:∀args w,(callFunc gf args).run P w = .ok (.enter gf args) w)
  {encs:α→Array Value} {C:List α→World→Prop} {Nx:List α→α→Prop} {S:List α→Prop} (hseq:SeqJ F (n-1) P gf lb encs C Nx S) (hps:∀x,(encs x).size=ps.size)
  (I:List α→World→Prop) (Ix:Code→List α→World→Prop) (hI:OwnFrom w.heap.size I) (hIx:∀c,OwnFrom w.heap.size (Ix c)) (hIC:∀pre W,I pre W→C pre W) (h0:I [] w) (a₁:α→Act)
  (hassign:∀(l:Nat) (x:α) (W:World) (K:Act→World→Prop),K (a₁ x) W →
   assign.wpIn (F.inRound l) (n-1-1) P (Exit.then K (λ_ _ _=>False)) { tmps:=(ps.zip (encs x)).foldl (λt (p,v)=>t.setIfInBounds p v) a.tmps,defers := [] } W)
  (hbody:∀(l:Nat) (pre:List α) (x:α) (W:World),I pre W→Nx pre x→body.wpIn (F.inRound l) (n-1-1) P (ownPostG w.heap.size KT I Ix (pre ++ [x]) W) (a₁ x) W)
  (hdone:∀(D:Nat) (xs:List α) (W:World),w.heap.size≤D→S xs→I xs W→W.heap[D]? = some (.deferred (some []))→Q .normal { a with defers := { target := .collected D,args:=#[] }::a.defers } W)
  (hstop:∀(D:Nat) (c:Code) (pre:List α) (W:World),w.heap.size≤D→Ix c pre W→W.heap[D]? = some (.deferred (some []))→c.wpIn F n P Q { a with defers := { target := .collected D,args:=#[] }::a.defers } W) :
  (Code.rangeFunc g ps assign body).wpIn F n P Q a w:=by
 refine wpIn_rangeFunc λfn hfn=>?_
 rw[hro]
 generalize hB:w.heap.size=B at *
 obtain⟨R,hR⟩:∃R:LoopState→Option Code→Obj,R=λst pe => .loop { state:=st,pending:=pe,fn,tmps:=a.tmps,params:=ps,assign,body,defers:=B }:=⟨_,rfl⟩
 obtain⟨V,hV⟩:∃V,V=(w.alloc (.deferred (some []))).alloc (R .ready none):=⟨_,rfl⟩
 have hVl:V.heap[B+1]? = some (R .ready none):=by
  rw[hV,←hB];have:=World.alloc_heap_new (w.alloc (.deferred (some []))) (R .ready none);rwa [World.size_alloc]at this
 have hVd:V.heap[B]? = some (.deferred (some [])):=by
  rw[hV,←hB];exact(Below.heap_alloc _ _ _ (by simp)).trans (World.alloc_heap_new w _)
 refine⟨B+1,[{ target := .collected B,args:=#[] }],V,{ target := .fn (.func gf) lb,args:=#[.func (.yield (B+1)) #[] #[]] },V,gf,#[.func (.yield (B+1)) #[] #[]]++lb,V,?_,?_,?_,?_,λ_=>h1,?_⟩
 ·rw[hV,hR,←hB];exact run_enterLoop_outer _ _ _ _ _
 ·simp only[resolve,hg]
  simp[go_sem]
 ·intro f' hf'
  simp[Target.leads]at hf'
  subst hf'
  exact hFg
 ·simp[invoke,go_sem,eg]
 ·refine(hseq (B+1) (λpre W=>I pre W∧W.heap[B+1]? = some (R .ready none)∧W.heap[B]? = some (.deferred (some [])))
   (λpre W=>∃c,Ix c pre W∧W.heap[B+1]? = some (R .done (some c))∧W.heap[B]? = some (.deferred (some []))) V (λpre W' h=>hIC pre W' h.1) ?_ ⟨by rw[hV];exact hI.alloc _ (hI.alloc _ h0),hVl,hVd⟩).mono ?_
  ·rintro pre x W ⟨hi,hl,hk⟩ hnx
   have hlt:B+1<W.heap.size:=(Array.getElem?_eq_some_iff.1 hl).1
   rw[hR]at hl
   have hy:=run_yield (P:=P) (args:=encs x) hl (hps x)
   refine⟨fn,_,assign,body,hy,roundIn_of_wpIn hfn (hassign _ x W _ ⟨_,run_beginRound hl rfl,?_⟩)⟩
   obtain⟨bz,hbz⟩:∃bz:Loop,bz = { state := .busy,pending:=none,fn,tmps:=a.tmps,params:=ps,assign,body,defers:=B }:=⟨_,rfl⟩
   have hl2:(W.putObj (B+1) (.loop bz)).heap[B+1]? = some (.loop bz):=World.putObj_heap_same hlt
   have hk2:(W.putObj (B+1) (.loop bz)).heap[B]? = some (.deferred (some [])):=(World.putObj_heap_other (by omega)).trans hk
   rw[←hbz]
   refine wpIn_mono (hbody _ pre x _ (hI.putObj _ hi (by omega) hl rfl) hnx) ?_
   have fin:∀(j:Option Code) (U:World),KeepsFrom B (W.putObj (B+1) (.loop bz)) U→U.heap[B+1]? = some (.loop bz) ∧
     (Instr.endRound (B+1) j).run P U = .ok (.bool j.isNone) (U.putObj (B+1) (R (if j.isNone then .ready else .done) j)) ∧
     (U.putObj (B+1) (R (if j.isNone then .ready else .done) j)).heap[B+1]? = some (R (if j.isNone then .ready else .done) j) ∧
     (U.putObj (B+1) (R (if j.isNone then .ready else .done) j)).heap[B]? = some (.deferred (some [])):=λj U hk3=>by
    have hl3:=hk3.same _ _ (by omega) hl2 rfl
    refine⟨hl3,?_,World.putObj_heap_same (Array.getElem?_eq_some_iff.1 hl3).1,(World.putObj_heap_other (by omega)).trans (hk3.same _ _ (Nat.le_refl _) hk2 rfl)⟩
    have:=run_endRound (P:=P) j hl3
    rw[hbz]at this
    rw[hR]
    exact this
   rintro e a3 U hp
   cases e with
   |normal =>
    obtain⟨hl3,hr,hl4,hk4⟩:=fin none U hp.1
    exact⟨_,_,hr,.inl ⟨rfl,hI.putObj _ hp.2.2 (by omega) hl3 rfl,hl4,hk4⟩⟩
   |ret =>
    obtain⟨hl3,hr,hl4,hk4⟩:=fin (some .ret) U hp.1
    exact⟨_,_,hr,.inr ⟨rfl,.ret,(hIx _).putObj _ hp.2 (by omega) hl3 rfl,hl4,hk4⟩⟩
   |exit id =>
    obtain⟨hl3,hr,hl4,hk4⟩:=fin (some (.exit id)) U hp.1
    exact⟨_,_,hr,.inr ⟨rfl,.exit id,(hIx _).putObj _ hp.2 (by omega) hl3 rfl,hl4,hk4⟩⟩
   |goto t =>
    obtain⟨hl3,hr,hl4,hk4⟩:=fin (some (.goto t)) U hp.1
    exact⟨_,_,hr,.inr ⟨rfl,.goto t,(hIx _).putObj _ hp.2 (by omega) hl3 rfl,hl4,hk4⟩⟩
   |panic ch=>exact hp.elim
   |outgrown=>exact hp.elim
  ·rintro e U ⟨⟨v,rfl⟩,(⟨xs,hS,hi,hl,hk⟩|⟨pre,c,hi,hl,hk⟩)⟩
   ·rw[hR]at hl
    exact⟨none,_,run_endLoop (P:=P) hl (by simp),hdone _ xs _ (Nat.le_refl _) hS (hI.putObj _ hi (by omega) hl rfl) ((World.putObj_heap_other (by omega)).trans hk)⟩
   ·rw[hR]at hl
    exact⟨some c,_,run_endLoop (P:=P) hl (by simp),hstop _ c pre _ (Nat.le_refl _) ((hIx c).putObj _ hi (by omega) hl rfl) ((World.putObj_heap_other (by omega)).trans hk)⟩
theorem og{β:Type}(B g:Nat)(c:β→Array Value)(t:TypeId)(f:Nat×Nat):OwnFrom B (fun(s:β) W=>W.heap[g]? = some (.cells (c s) t f)) :=
 λs A D row hs hg hr=>(grownBy_keeps_cells hg (λr e=>(hr r e).2) hs rfl).trans hs
theorem yx{β:Type}(B:Nat)(p:β→Prop):OwnFrom B (fun(s:β) (_:World)=>p s):=λs A D row hs _ _=>hs
theorem own_below{β:Type}(B n:Nat)(w:World)(h:w.heap.size≤B)(hn:n≤w.heap.size):OwnFrom B (fun(_:β) W=>Below n w W):=ownFrom_below hn (by omega)
end Go.Proofs.YtjlelckefiannaaGreatDoor
namespace Go.Proofs.YtjlelckefiannaaGreatDoor
set_option linter.unusedVariables false
set_option linter.unusedSimpArgs false
open Go.RowKit Go.Shelf
attribute [local go_sem] Oper.semAt_some
def bt(v:List (Nat×Nat)→Nat)(N:Nat):Nat→List (Nat×Nat)
 |0 => []
 |k+1=>bt v N k ++ [(N-1-k,v (bt v N k))]
theorem aa2(v:List (Nat×Nat)→Nat)(N:Nat):∀k,(bt v N k).length=k
 |0=>rfl
 |k+1=>by simp[bt,aa2 v N k]
def nextU(v:List (Nat×Nat)→Nat)(N:Nat)(pre:List (Nat×Nat))(x:Nat×Nat):Prop:=pre.length<N∧x=(N-1-pre.length,v pre)∧pre=bt v N pre.length
abbrev encU (x:Nat×Nat):Array Value:=#[.int .i64 (x.1:Int),.int .u64 (x.2:Int)]
def seesU(v:List (Nat×Nat)→Nat)(N Bx b off cap:Nat)(pre:List (Nat×Nat))(W:World):Prop :=
 W.cell? ⟨Bx,0,none⟩=some (.slice (some ⟨b,off,none⟩) N cap)∧(pre.length<N→W.cell? ⟨b,off+(N-1-pre.length),none⟩=some (.int .u64 (v pre:Nat)))
theorem aft(F:Fence)(n:Nat)(hF:F.fn 191)(hro:F.round=none)(hn:1≤n)(v:List (Nat×Nat)→Nat)(N Bx b off cap:Nat)(hN:N≤140737488355328):
  SeqJ F n Tryz.prog 191 #[.pointer (some ⟨Bx,0,none⟩)] encU (seesU v N Bx b off cap) (nextU v N) (λxs=>xs=bt v N N):=by
 intro l J Jx W hC hY h0
 refine callsIn_of_wp Tryz.func191 rfl hF ?_ hro
 simp only[Tryz.ntmps191,List.size_toArray,List.length_cons,List.length_nil,Nat.reduceAdd,Nat.reduceSub,Array.replicate_succ,Array.replicate_zero,List.push_toArray,List.append_toArray,List.nil_append,List.cons_append]
 have hbox:=(hC _ _ h0).1
 gi_wp2
 gi_loopw [3] (λi wr=>∃k:Nat,k≤N∧i = .int .i64 ((N:Int)-1-k)∧J (bt v N k) wr) (λi _=>(intOf i+1).toNat)
 case atStart=>exact⟨0,Nat.zero_le _,by simp,h0⟩
 case round =>
  clear hbox
  obtain⟨k,hk,rfl,hJs⟩:=hrel
  obtain⟨hbox,hcx⟩:=hC _ _ hJs
  rw[aa2]at hcx
  by_cases hlt:k<N
  ·replace hcx:=hcx hlt
   obtain⟨fn,tmps,assign,body,hy,hR⟩:=hY _ (N-1-k,v (bt v N k)) wr hJs ⟨by rw[aa2];exact hlt,by rw[aa2],by rw[aa2]⟩
   dsimp only[encU]at hy
   have e1:((N-1-k:Nat):Int)=(N:Int)-1-k:=by omega
   rw[e1]at hy
   clear e1
   gi_wp2
   refine hR.mono ?_
   rintro e W3 (⟨rfl,hJ3⟩|⟨rfl,hJx3⟩)
   ·gi_wp2
    go_roundw
    case rel=>exact⟨k+1,by omega,by go_num,hJ3⟩
    case measure=>simp[intOf];omega
   ·gi_wp2
    refine bodyPost_ret (results_none rfl _ _ _) rfl ?_
    exact⟨⟨_,rfl⟩,.inr ⟨_,hJx3⟩⟩
  ·obtain rfl:k=N:=by omega
   gi_wp2
   go_end0
   exact⟨⟨_,rfl⟩,.inl ⟨_,rfl,hJs⟩⟩
theorem ajc(F:Fence)(n:Nat)(hF:F.fn 172)(hro:F.round=none)(a:Option Addr)(len cap:Nat)(w:World):
  CallsIn F n Tryz.prog 172 #[.slice a len cap] w λe w'=>e = .returned (.func (.func 191) #[] #[.pointer (some ⟨w.heap.size,0,none⟩)])∧w'=w.alloc (.cells #[.slice a len cap] 251):=by
 refine callsIn_of_wp Tryz.func172 rfl hF ?_ hro
 simp only[Tryz.ntmps172,List.size_toArray,List.length_cons,List.length_nil,Nat.reduceAdd,Nat.reduceSub,Array.replicate_succ,Array.replicate_zero,List.push_toArray,List.append_toArray,List.nil_append,List.cons_append]
 gi_wp2
 go_ret
 exact⟨rfl,rfl⟩
end Go.Proofs.YtjlelckefiannaaGreatDoor
namespace Go.Proofs.YtjlelckefiannaaGreatDoor
set_option linter.unusedVariables false
set_option linter.unusedSimpArgs false
structure agx (y1 y0 u d q r:Nat):Prop where
 eq:u=q*y1+r
 ge:(u*4294967296+d)/(y1*4294967296+y0)≤q
theorem azv{y u d:Nat}(hy:0<y)(hu:u<y)(hd:d<4294967296):(u*4294967296+d)/y<4294967296:=by
 rw[Nat.div_lt_iff_lt_mul hy]
 have:(u+1)*4294967296≤y*4294967296:=Nat.mul_le_mul_right _ hu
 rw[Nat.add_mul]at this
 rw[Nat.mul_comm 4294967296 y]
 omega
theorem akt{y1 y0 u d:Nat}(h1:0<y1)(h0:y0<4294967296)(hd:d<4294967296):agx y1 y0 u d (u/y1) (u % y1):=by
 refine⟨?_,?_⟩
 ·have:=Nat.mod_add_div u y1
  rw[Nat.mul_comm (u/y1)]
  omega
 ·have hY:0<y1*4294967296+y0:=by omega
  generalize hq:(u*4294967296+d)/(y1*4294967296+y0)=q
  have h2:q*(y1*4294967296+y0)≤u*4294967296+d:=by rw[←hq];exact Nat.div_mul_le_self _ _
  rw[Nat.le_div_iff_mul_le h1]
  rw[Nat.mul_add,←Nat.mul_assoc]at h2
  generalize q*y1=z at *
  generalize q*y0=t at *
  omega
theorem ah6{y1 y0 u d q r:Nat}(g:agx y1 y0 u d q r):(q*y0>r*4294967296+d)↔q*(y1*4294967296+y0)>u*4294967296+d:=by
 rw[g.eq,Nat.mul_add,←Nat.mul_assoc,Nat.add_mul]
 generalize q*y1=z
 generalize q*y0=t
 omega
theorem ah7{y1 y0 u d q r:Nat}(hY:0<y1*4294967296+y0)(g:agx y1 y0 u d q r)(h:q*(y1*4294967296+y0)>u*4294967296+d):0<q∧agx y1 y0 u d (q-1) (r+y1):=by
 have hlt:(u*4294967296+d)/(y1*4294967296+y0)<q:=by rw[Nat.div_lt_iff_lt_mul hY];omega
 refine⟨Nat.lt_of_le_of_lt (Nat.zero_le _) hlt,?_,Nat.le_sub_one_of_lt hlt⟩
 have hq0:0<q:=Nat.lt_of_le_of_lt (Nat.zero_le _) hlt
 clear hlt
 obtain⟨k,rfl⟩:∃k,q=k+1:=⟨q-1,by omega⟩
 rw[Nat.add_sub_cancel,g.eq,Nat.add_mul]
 omega
theorem ap3{y1 y0 u d q r:Nat}(hY:0<y1*4294967296+y0)(hu:u<y1*4294967296+y0)(hd:d<4294967296)(g:agx y1 y0 u d q r)(h:4294967296≤q):0<q∧agx y1 y0 u d (q-1) (r+y1):=by
 have hq:=azv hY hu hd
 refine ah7 hY g ?_
 have:(u*4294967296+d)/(y1*4294967296+y0)<q:=Nat.lt_of_lt_of_le hq h
 rw[Nat.div_lt_iff_lt_mul hY]at this
 exact this
theorem aj6{y1 y0 u d q r:Nat}(hY:0<y1*4294967296+y0)(g:agx y1 y0 u d q r)(h:¬q*(y1*4294967296+y0)>u*4294967296+d):q=(u*4294967296+d)/(y1*4294967296+y0):=by
 refine Nat.le_antisymm ?_ g.ge
 rw[Nat.le_div_iff_mul_le hY]
 omega
theorem amu{y1 y0 u d q r:Nat}(hY:0<y1*4294967296+y0)(h0:y0<4294967296)(hq:q≤4294967296)(g:agx y1 y0 u d q r)(h:4294967296≤r):q=(u*4294967296+d)/(y1*4294967296+y0):=by
 refine aj6 hY g ?_
 rw[←ah6 g]
 have h1:q*y0≤4294967296*y0:=Nat.mul_le_mul_right _ hq
 omega
theorem aks{y1 y0 u:Nat}(h1:2147483648≤y1)(h0:y0<4294967296)(hu:u<y1*4294967296+y0):u/y1≤4294967297:=by
 have:u/y1<4294967298:=by
  rw[Nat.div_lt_iff_lt_mul (by omega)]
  omega
 omega
theorem awv(u v1 v0 y:Nat)(hy:0<y):(u*18446744073709551616+(v1*4294967296+v0))/y=(u*4294967296+v1)/y*4294967296+((u*4294967296+v1) % y*4294967296+v0)/y ∧
  (u*18446744073709551616+(v1*4294967296+v0)) % y=((u*4294967296+v1) % y*4294967296+v0) % y:=by
 have e:u*18446744073709551616+(v1*4294967296+v0)=((u*4294967296+v1) % y*4294967296+v0)+y*((u*4294967296+v1)/y*4294967296):=by
  have h:=Nat.mod_add_div (u*4294967296+v1) y
  generalize (u*4294967296+v1)/y=q at *
  generalize (u*4294967296+v1) % y=r at *
  rw[←Nat.mul_assoc]
  generalize y*q=z at *
  omega
 rw[e,Nat.add_mul_div_left _ _ hy,Nat.add_mul_mod_self_left]
 exact⟨Nat.add_comm _ _,rfl⟩
theorem akj(n y s:Nat):n*2 ^ s/(y*2 ^ s)=n/y∧n*2 ^ s % (y*2 ^ s)/2 ^ s=n % y:=by
 have hp:=Nat.two_pow_pos s
 refine⟨Nat.mul_div_mul_right _ _ hp,?_⟩
 rw[Nat.mul_mod_mul_right,Nat.mul_div_cancel _ hp]
theorem aGv{hi lo y s Y U V:Nat}(hlt:hi<y)(hs:s≤64)(hY:Y=y*2 ^ s)(hU:U=hi*2 ^ s+lo/2 ^ (64-s))(hV:V=lo*2 ^ s % 2 ^ 64)(hlo:lo<2 ^ 64):
  U<Y∧(hi*18446744073709551616+lo)*2 ^ s=U*18446744073709551616+V∧lo/2 ^ (64-s)<2 ^ s:=by
 have ps:(2:Nat) ^ 64=2 ^ (64-s)*2 ^ s:=by rw[←Nat.pow_add];congr 1;omega
 have hl:lo/2 ^ (64-s)<2 ^ s:=by
  rw[Nat.div_lt_iff_lt_mul (Nat.two_pow_pos _),Nat.mul_comm,←ps]
  exact hlo
 refine⟨?_,?_,hl⟩
 ·have h1:(hi+1)*2 ^ s≤y*2 ^ s:=Nat.mul_le_mul_right _ hlt
  rw[Nat.add_mul]at h1
  omega
 ·have h1:=Nat.mod_add_div (lo*2 ^ s) (2 ^ 64)
  have h2:lo*2 ^ s/2 ^ 64=lo/2 ^ (64-s):=by rw[ps,Nat.mul_div_mul_right _ _ (Nat.two_pow_pos _)]
  rw[h2,←hV]at h1
  rw[hU,Nat.add_mul,Nat.add_mul,←h1]
  generalize lo/2 ^ (64-s)=z
  have:hi*18446744073709551616*2 ^ s=hi*2 ^ s*18446744073709551616:=by rw[Nat.mul_right_comm]
  omega
theorem avv{u d y q:Nat}(hy:y<18446744073709551616)(h0:0<y)(hd:d<4294967296)(hq:q=(u*4294967296+d)/y):
  (((u:Int)*4294967296 % 18446744073709551616+d) % 18446744073709551616-(q:Int)*y % 18446744073709551616) % 18446744073709551616=(((u*4294967296+d) % y:Nat):Int):=by
 have h:=Nat.mod_add_div (u*4294967296+d) y
 have hl:=Nat.mod_lt (u*4294967296+d) h0
 rw[←hq]at h
 generalize (u*4294967296+d) % y=r at *
 have e:(q:Int)*y=((y*q:Nat):Int):=by rw[Int.natCast_mul,Int.mul_comm]
 rw[e]
 generalize y*q=z at *
 omega
end Go.Proofs.YtjlelckefiannaaGreatDoor
namespace Go.Proofs.YtjlelckefiannaaGreatDoor
open Go.RowKit
theorem cu{P:Program}{fn:Func}{p u:Tmp}{ty:TypeId}(h:fn.results=#[.cell p ty,.tmp u])(tmps:Array Value)(w:World)(g:Nat)(t:TypeId)(cs:Array Value)(fr:Nat×Nat)(d:TypeDesc)
  (hp:tmps.getD p undef = .pointer (some ⟨g,0,none⟩)) (hg:w.heap[g]? = some (.cells cs t fr))
  (hu:P.underlying ty=some d) (hd:(match d with|.struct _|.array _ _=>true|_=>false)=true) (hi:(P.info? ty).map (·.size)=some cs.size) :
  (results fn tmps).run P w = .ok (.tuple #[.agg cs,tmps.getD u undef]) w:=by
 rw[results_cell_tmp h,hp]
 simp[asAddr,run_loadVar_row w g t ty cs fr d hg hu hd hi]
end Go.Proofs.YtjlelckefiannaaGreatDoor
namespace Go.Proofs.YtjlelckefiannaaGreatDoor
set_option linter.unusedVariables false
set_option linter.unusedSimpArgs false
open Go.RowKit
structure Bk where
 hash:List UInt8
 ahead:Int
 time:Nat
 bits:Nat
 bytes:Value
instance:Inhabited Bk:=⟨⟨[],-1,0,0,.bool false⟩⟩
structure Bk.Ok (b:Bk):Prop where
 hash:b.hash.length=32
 time:b.time<4294967296
 bits:b.bits<4294967296
 bytes:b.bytes.oneCell'=true
def bkT(L:List Bk)(i:Nat):Bk:=L.getD i default
structure WFt (L:List Bk):Prop where
 ok:∀b∈L,b.Ok
 up:∀i,i<L.length → -1≤(bkT L i).ahead∧(bkT L i).ahead<(i:Int)
theorem aNj{L:List Bk}{i:Nat}(h:i<L.length):bkT L i∈L:=by
 unfold bkT
 rw[List.getD,List.getElem?_eq_getElem h]
 exact List.getElem_mem h
theorem WFt.at{L:List Bk}(h:WFt L){i:Nat}(hi:i<L.length):(bkT L i).Ok:=h.ok _ (aNj hi)
def path(L:List Bk):Nat→Nat→List Nat
 |0,i => [i]
 |f+1,i=>if(bkT L i).ahead<0 then [i]else i::path L f (bkT L i).ahead.toNat
def anc(L:List Bk)(i:Nat):List Nat:=path L i i
theorem ajz{L:List Bk}(h:WFt L):∀f g i,i≤f→i≤g→i<L.length→path L f i=path L g i:=by
 intro f
 induction f with
 |zero =>
  intro g i hf hg hl
  obtain rfl:i=0:=by omega
  have:=h.up 0 hl
  cases g with
  |zero=>rfl
  |succ g=>rw[path,path,if_pos (by omega)]
 |succ f ih =>
  intro g i hf hg hl
  have hu:=h.up i hl
  cases g with
  |zero =>
   obtain rfl:i=0:=by omega
   rw[path,path,if_pos (by omega)]
  |succ g =>
   rw[path,path]
   by_cases h0:(bkT L i).ahead<0
   ·rw[if_pos h0,if_pos h0]
   ·rw[if_neg h0,if_neg h0,ih g _ (by omega) (by omega) (by omega)]
theorem abe{L:List Bk}(h:WFt L){i:Nat}(hi:i<L.length)(h0:(bkT L i).ahead<0):anc L i = [i]:=by
 rw[anc,ajz h i (i+1) i (by omega) (by omega) hi,path,if_pos h0]
theorem aal{L:List Bk}(h:WFt L){i j:Nat}(hi:i<L.length)(hj:(bkT L i).ahead=(j:Int)):j<i∧anc L i=i::anc L j:=by
 have hu:=h.up i hi
 refine⟨by omega,?_⟩
 rw[anc,ajz h i (i+1) i (by omega) (by omega) hi,path,if_neg (by omega),hj,Int.toNat_natCast,anc,ajz h i j j (by omega) (by omega) (by omega)]
theorem ab3{L:List Bk}(h:WFt L):∀i,i<L.length→0<(anc L i).length∧(anc L i).length≤i+1:=by
 intro i
 induction i using Nat.strongRecOn with
 |_ i ih =>
  intro hi
  have hu:=h.up i hi
  by_cases h0:(bkT L i).ahead<0
  ·rw[abe h hi h0];simp
  ·obtain⟨j,hj⟩:=Int.eq_ofNat_of_zero_le (show 0≤(bkT L i).ahead by omega)
   obtain⟨h1,h2⟩:=aal h hi hj
   have:=ih j h1 (by omega)
   rw[h2,List.length_cons]
   omega
theorem aif{L:List Bk}(h:WFt L):∀i,i<L.length→∀k∈anc L i,k≤i:=by
 intro i
 induction i using Nat.strongRecOn with
 |_ i ih =>
  intro hi k hk
  have hu:=h.up i hi
  by_cases h0:(bkT L i).ahead<0
  ·rw[abe h hi h0]at hk;simp at hk;omega
  ·obtain⟨j,hj⟩:=Int.eq_ofNat_of_zero_le (show 0≤(bkT L i).ahead by omega)
   obtain⟨h1,h2⟩:=aal h hi hj
   rw[h2,List.mem_cons]at hk
   rcases hk with rfl|hk
   ·exact Nat.le_refl _
   ·have:=ih j h1 (by omega) k hk
    omega
def ig(L:List Bk)(i:Nat):Nat:=(anc L i).length-1
def qx(L:List Bk)(i:Nat):List Nat:=(anc L i).reverse
def aae(h:List UInt8):List Bk→Nat→Int
 |[],_ => -1
 |b::L,k=>if b.hash=h then(k:Int)else aae h L (k+1)
def yj(L:List Bk)(h:List UInt8):Int:=aae h L 0
def abg(L:List Bk)(i:Nat):Bool:=L.all λb => !decide (b.ahead=(i:Int))
def arx(L:List Bk)(n:Nat):Nat:=(List.range n).countP λi=>abg L i
def uq(L:List Bk):Nat:=arx L L.length
theorem awz(L:List Bk)(n:Nat):arx L (n+1)=arx L n+if abg L n then 1 else 0:=by
 unfold arx
 rw[List.range_succ,List.countP_append,List.countP_singleton]
def common:List Nat→List Nat→Nat
 |x::xs,y::ys=>if x=y then common xs ys+1 else 0
 |_,_=>0
def af7(L:List Bk)(a b:Nat):Nat:=common ((qx L a).drop 1) ((qx L b).drop 1)
end Go.Proofs.YtjlelckefiannaaGreatDoor
namespace Go.Proofs.YtjlelckefiannaaGreatDoor
set_option linter.unusedVariables false
set_option linter.unusedSimpArgs false
end Go.Proofs.YtjlelckefiannaaGreatDoor
namespace Go.Proofs.YtjlelckefiannaaGreatDoor
set_option linter.unusedVariables false
set_option linter.unusedSimpArgs false
open Go.RowKit Go.Shelf
attribute [local go_sem] Oper.semAt_some
end Go.Proofs.YtjlelckefiannaaGreatDoor
namespace Go.Proofs.YtjlelckefiannaaGreatDoor
set_option linter.unusedVariables false
set_option linter.unusedSimpArgs false
open Go.RowKit
def am8(ops:Array Oper):Bool:=ops.all λo=>match o.op with|.defer _=>false|_=>true
theorem amm{ops:Array Oper}(h:am8 ops=true){i:Nat}{o:Oper}(hi:ops[i]? = some o):∀c,o.op ≠ .defer c:=by
 intro c hc
 unfold am8 at h
 rw[Array.all_eq_true_iff_forall_mem]at h
 have:=h o (Array.mem_of_getElem? hi)
 rw[hc]at this
 cases this
section
variable {F:Fence} {n:Nat} {P:Program} {ops:Array Oper} {Q:Exit→Act→World→Prop} {md:Region.Mode}
theorem axm{o:Oper}{a:Act}{w:World}{K:Act→World→Prop}(l:Nat)(hro:F.round=none)(hd:∀c,o.op ≠ .defer c)(h:o.wpIn F n P a w K Q):o.wpIn (F.inRound l) n P a w K Q:=by
 obtain⟨h1,h2⟩:=h
 refine⟨h1,?_⟩
 rw[Oper.semAt_plain (F.inRound l) _ _ hd]
 rw[Oper.semAt_plain F _ _ hd]at h2
 generalize (execOp a.eval o).run P w=r at *
 cases r with
 |ok x w'=>cases x<;>exact h2
 |halt x w'=>cases x<;>exact h2
end
structure Hd where
 ver:Nat
 ahead:List UInt8
 root:List UInt8
 time:Nat
 bits:Nat
 zq:Nat
deriving DecidableEq
structure Hd.Ok (h:Hd):Prop where
 ver:h.ver<4294967296
 ahead:h.ahead.length=32
 root:h.root.length=32
 time:h.time<4294967296
 bits:h.bits<4294967296
 zq:h.zq<4294967296
def Hd.cells(h:Hd):Array Value:=(Value.int .u32 (h.ver:Int)::(h.ahead.map B8++(h.root.map B8 ++ [Value.int .u32 (h.time:Int),.int .u32 (h.bits:Int),.int .u32 (h.zq:Int)]))).toArray
theorem Hd.qw{h:Hd}(o:h.Ok):h.cells.size=68:=by simp[Hd.cells,o.ahead,o.root]
theorem Hd.cell0{h:Hd}(o:h.Ok):h.cells[0]? = some (.int .u32 (h.ver:Int)):=by simp[Hd.cells]
theorem Hd.azx{h:Hd}(o:h.Ok):h.cells[65]? = some (.int .u32 (h.time:Int)):=by simp[Hd.cells,List.getElem?_append,o.ahead,o.root]
theorem Hd.azw{h:Hd}(o:h.Ok):h.cells[66]? = some (.int .u32 (h.bits:Int)):=by simp[Hd.cells,List.getElem?_append,o.ahead,o.root]
theorem Hd.aR8{h:Hd}(o:h.Ok):h.cells[67]? = some (.int .u32 (h.zq:Int)):=by simp[Hd.cells,List.getElem?_append,o.ahead,o.root]
theorem Hd.aJs{h:Hd}(o:h.Ok):(h.cells.extract 1 33).toList=h.ahead.map B8:=by
 simp[Hd.cells,o.ahead,List.take_append,List.drop_append]
theorem Hd.aL1{h:Hd}(o:h.Ok):(h.cells.extract 33 65).toList=h.root.map B8:=by
 simp[Hd.cells,o.ahead,o.root,List.take_append,List.drop_append]
theorem Hd.one{h:Hd}:jh h.cells:=by
 unfold jh
 rw[Array.all_eq_true_iff_forall_mem]
 intro v hv
 simp only[Hd.cells,List.mem_toArray,List.mem_cons,List.mem_append,List.mem_map,List.not_mem_nil,or_false]at hv
 rcases hv with rfl|⟨_,_,rfl⟩|⟨_,_,rfl⟩|rfl|rfl|rfl<;>rfl
end Go.Proofs.YtjlelckefiannaaGreatDoor
namespace Go.Proofs.YtjlelckefiannaaGreatDoor
set_option linter.unusedVariables false
set_option linter.unusedSimpArgs false
open Go.RowKit Go.Shelf
variable {n:Nat} {P:Program}
abbrev af6 (P:Program) (l:Nat) (args:Array Value) (W:World) (R:Ending→World→Prop):Prop:=YieldAt Fence.wide 0 P l args W R
theorem azn(k:Nat):Fence.wide.room k:=λd h=>by cases h
theorem af6.at{l l2 m:Nat}{args:Array Value}{W:World}{R:Ending→World→Prop}(h:af6 P l args W R):YieldAt (Fence.wide.inRound l2) m P l args W R:=by
 obtain⟨fn,tmps,assign,body,hy,h1,h2⟩:=h
 exact⟨fn,tmps,assign,body,hy,h1,λc cs _=>h2 c cs (azn _)⟩
theorem af6.of{l m:Nat}{args:Array Value}{W:World}{R:Ending→World→Prop}(h:YieldAt Fence.wide m P l args W R):af6 P l args W R:=by
 obtain⟨fn,tmps,assign,body,hy,h1,h2⟩:=h
 exact⟨fn,tmps,assign,body,hy,h1,λc cs _=>h2 c cs (azn _)⟩
theorem af6.plain{l m:Nat}{args:Array Value}{W:World}{R:Ending→World→Prop}(h:af6 P l args W R):YieldAt Fence.wide m P l args W R:=by
 obtain⟨fn,tmps,assign,body,hy,h1,h2⟩:=h
 exact⟨fn,tmps,assign,body,hy,h1,λc cs _=>h2 c cs (azn _)⟩
def aOy{α:Type}(P:Program)(gf:Nat)(lb:Array Value)(encs:α→Array Value)(Kq:Nat→World→World→Prop)(C:List α→World→Prop)(Nx:List α→α→World→World→Prop)(S:List α→Prop):Prop :=
 ∀(l:Nat) (J Jx:List α→World→Prop) (W:World),OwnFrom W.heap.size J→OwnFrom W.heap.size Jx→(∀pre W',J pre W'→C pre W') →
  (∀pre x W0 W1,J pre W0→Fr F0 W0 W1→Nx pre x W0 W1→af6 P l (encs x) W1 λe W'=>(e = .returned (.bool true)∧J (pre ++ [x]) W'∧Kq W.heap.size W1 W')∨(e = .returned (.bool false)∧Jx (pre ++ [x]) W'∧Kq W.heap.size W1 W')) →
  J [] W →
  Calls P gf (#[.func (.yield l) #[] #[]]++lb) W λe W'=>(∃v,e = .returned v)∧((∃xs,S xs∧J xs W')∨(∃pre,Jx pre W'))
theorem aic{β:Type}{B B':Nat}{I:β→World→Prop}(h:OwnFrom B I)(hb:B≤B'):OwnFrom B' I:=λs A D row hs hg hr=>h s A D row hs hg λr e=>⟨Nat.le_trans hb (hr r e).1,(hr r e).2⟩
theorem aap{β:Type}{B:Nat}{I:β→World→Prop}(h:OwnFrom B I){s:β}{W W':World}(hs:I s W)(f:Fr F0 W W'):I s W':=h s W W' none hs ⟨f.os,f.tape,f.output,f.size,λk hk _=>f.block k hk λe=>e⟩ λr e=>(by cases e)
theorem abp{β:Type}(B g:Nat)(o:Obj)(hg:g<B)(p:β→World→Prop)(hp:OwnFrom B p):OwnFrom B (λs W=>p s W∧W.heap[g]? = some o):=λs A D row hs hgr hr =>
 ⟨hp s A D row hs.1 hgr hr,(hgr.block g (Array.getElem?_eq_some_iff.1 hs.2).1 λe=>by have:=(hr g e.symm).1;omega).trans hs.2⟩
def Ku(B:Nat)(W W':World):Prop:=W.heap.size≤W'.heap.size∧∀k o,B≤k→W.heap[k]? = some o→W'.heap[k]? = some o
theorem Ku.refl(B:Nat)(W:World):Ku B W W:=⟨Nat.le_refl _,λ_ _ _ h=>h⟩
theorem Ku.trans{B:Nat}{X Y Z:World}(h:Ku B X Y)(k:Ku B Y Z):Ku B X Z:=⟨Nat.le_trans h.1 k.1,λi o hi ho=>k.2 i o hi (h.2 i o hi ho)⟩
theorem Ku.fr{B:Nat}{S:Nat→Prop}{W W':World}(f:Fr S W W')(hs:∀k,S k→k<B):Ku B W W':=⟨f.size,λk o hk ho=>f.keeps (λe=>by have:=hs k e;omega) ho⟩
theorem Ku.put{B:Nat}{W:World}{g:Nat}(o:Obj)(hg:g<B):Ku B W (W.putObj g o):=⟨by simp[World.putObj],λk o' hk ho=>(World.putObj_heap_other (by omega)).trans ho⟩
theorem Ku.from{B B':Nat}{W W':World}(h:Ku B W W')(hb:B≤B'):KeepsFrom B' W W':=⟨h.1,λk o hk ho _=>h.2 k o (by omega) ho⟩
theorem adi{α:Type}{g:Operand}{ps:Array Tmp}{assign body:Code}{Q:Exit→Act→World→Prop}{a:Act}{w:World}
  {gf:Nat} {lb:Array Value} (hg:a.eval g = .func (.func gf) #[] lb) (eg:∀args w,(callFunc gf args).run P w = .ok (.enter gf args) w)
  {encs:α→Array Value} {Kq:Nat→World→World→Prop} {C:List α→World→Prop} {Nx:List α→α→World→World→Prop} {S:List α→Prop} (hseq:aOy P gf lb encs Kq C Nx S) (hps:∀x,(encs x).size=ps.size)
  (hKt:∀{X Y Z:World},Kq (w.heap.size+2) X Y→Kq (w.heap.size+2) Y Z→Kq (w.heap.size+2) X Z) (hKp:∀(W:World) (o:Obj),Kq (w.heap.size+2) W (W.putObj (w.heap.size+1) o))
  (I:List α→World→Prop) (Ix:Code→List α→World→Prop) (hI:OwnFrom w.heap.size I) (hIx:∀c,OwnFrom w.heap.size (Ix c)) (hIC:∀pre W,I pre W→C pre W) (h0:I [] w)
  (Ax:List α→α→Act→World→Prop) (hAx:∀pre x a',OwnFrom w.heap.size (fun(_:Unit) W=>Ax pre x a' W))
  (hassign:∀(l:Nat) (pre:List α) (x:α) (W0 W:World) (K:Act→World→Prop),I pre W0→Fr F0 W0 W→Nx pre x W0 W→(∀a' W',KeepsFrom w.heap.size W W'→Kq (w.heap.size+2) W W'→I pre W'→Ax pre x a' W'→K a' W') →
   assign.wpIn (Fence.wide.inRound l) (n-1-1) P (Exit.then K (λ_ _ _=>False)) { tmps:=(ps.zip (encs x)).foldl (λt (p,v)=>t.setIfInBounds p v) a.tmps,defers := [] } W)
  (hbody:∀(l:Nat) (pre:List α) (x:α) (a':Act) (W:World),I pre W→Ax pre x a' W→body.wpIn (Fence.wide.inRound l) (n-1-1) P (ownPostG w.heap.size (Kq (w.heap.size+2)) I (λc p W'=>Ix c p W'∧Kq (w.heap.size+2) W W') (pre ++ [x]) W) a' W)
  (hdone:∀(D:Nat) (xs:List α) (W:World),w.heap.size≤D→S xs→I xs W→W.heap[D]? = some (.deferred (some []))→Q .normal { a with defers := { target := .collected D,args:=#[] }::a.defers } W)
  (hstop:∀(D:Nat) (c:Code) (pre:List α) (W:World),w.heap.size≤D→Ix c pre W→W.heap[D]? = some (.deferred (some []))→c.wpIn Fence.wide n P Q { a with defers := { target := .collected D,args:=#[] }::a.defers } W) :
  (Code.rangeFunc g ps assign body).wpIn Fence.wide n P Q a w:=by
 refine wpIn_rangeFunc λfn hfn=>?_
 rw[show Fence.wide.round=none from rfl]
 generalize hB:w.heap.size=B at *
 obtain⟨R,hR⟩:∃R:LoopState→Option Code→Obj,R=λst pe => .loop { state:=st,pending:=pe,fn,tmps:=a.tmps,params:=ps,assign,body,defers:=B }:=⟨_,rfl⟩
 obtain⟨V,hV⟩:∃V,V=(w.alloc (.deferred (some []))).alloc (R .ready none):=⟨_,rfl⟩
 have hVl:V.heap[B+1]? = some (R .ready none):=by
  rw[hV,←hB];have:=World.alloc_heap_new (w.alloc (.deferred (some []))) (R .ready none);rwa [World.size_alloc]at this
 have hVd:V.heap[B]? = some (.deferred (some [])):=by
  rw[hV,←hB];exact(Below.heap_alloc _ _ _ (by simp)).trans (World.alloc_heap_new w _)
 have hVs:V.heap.size=B+1+1:=by rw[hV,←hB];simp
 refine⟨B+1,[{ target := .collected B,args:=#[] }],V,{ target := .fn (.func gf) lb,args:=#[.func (.yield (B+1)) #[] #[]] },V,gf,#[.func (.yield (B+1)) #[] #[]]++lb,V,?_,?_,?_,?_,(λh=>by cases h),?_⟩
 ·rw[hV,hR,←hB];exact run_enterLoop_outer _ _ _ _ _
 ·simp only[resolve,hg]
  simp[go_sem]
 ·intro f' hf'
  trivial
 ·simp[invoke,go_sem,eg]
 ·have H:=hseq (B+1) (λpre W=>(I pre W∧W.heap[B+1]? = some (R .ready none))∧W.heap[B]? = some (.deferred (some [])))
   (λpre W=>∃c,(Ix c pre W∧W.heap[B+1]? = some (R .done (some c)))∧W.heap[B]? = some (.deferred (some []))) V
   (abp _ _ _ (by omega) _ (abp _ _ _ (by omega) _ (aic hI (by omega))))
   (λs A D row hs hgr hr=>by
    obtain⟨c,hc⟩:=hs
    exact⟨c,abp _ _ _ (by omega) _ (abp _ _ _ (by omega) _ (aic (hIx c) (by omega))) s A D row hc hgr hr⟩)
   (λpre W' h=>hIC pre W' h.1.1) ?_ ⟨⟨by rw[hV];exact hI.alloc _ (hI.alloc _ h0),hVl⟩,hVd⟩
  ·refine(callsIn_wide.2 H).mono ?_
   rintro e U ⟨⟨v,rfl⟩,(⟨xs,hS,⟨hi,hl⟩,hk⟩|⟨pre,c,⟨hi,hl⟩,hk⟩)⟩
   ·rw[hR]at hl
    exact⟨none,_,run_endLoop (P:=P) hl (by simp),hdone _ xs _ (Nat.le_refl _) hS (hI.putObj _ hi (by omega) hl rfl) ((World.putObj_heap_other (by omega)).trans hk)⟩
   ·rw[hR]at hl
    exact⟨some c,_,run_endLoop (P:=P) hl (by simp),hstop _ c pre _ (Nat.le_refl _) ((hIx c).putObj _ hi (by omega) hl rfl) ((World.putObj_heap_other (by omega)).trans hk)⟩
  ·rintro pre x W0 W hj0 f0 hnx
   have hj1:=aap (abp _ _ _ (by omega) _ (abp _ _ _ (by omega) _ (aic hI (by omega:B≤B+1+1)))) hj0 f0
   obtain⟨⟨hi,hl⟩,hk⟩:=hj1
   rw[hR]at hl
   have hy:=run_yield (P:=P) (args:=encs x) hl (hps x)
   refine af6.of (m:=n-1-1) ⟨fn,_,assign,body,hy,roundIn_of_wpIn hfn (hassign _ pre x W0 W _ hj0.1.1 f0 hnx ?_)⟩
   clear hy
   intro a' Wa hka hqa hia hax
   replace hl:=hka.same _ _ (by omega) hl rfl
   replace hk:=hka.same _ _ (Nat.le_refl _) hk rfl
   have hlt:B+1<Wa.heap.size:=(Array.getElem?_eq_some_iff.1 hl).1
   refine⟨_,run_beginRound hl rfl,?_⟩
   obtain⟨bz,hbz⟩:∃bz:Loop,bz = { state := .busy,pending:=none,fn,tmps:=a.tmps,params:=ps,assign,body,defers:=B }:=⟨_,rfl⟩
   have hl2:(Wa.putObj (B+1) (.loop bz)).heap[B+1]? = some (.loop bz):=World.putObj_heap_same hlt
   have hk2:(Wa.putObj (B+1) (.loop bz)).heap[B]? = some (.deferred (some [])):=(World.putObj_heap_other (by omega)).trans hk
   rw[←hbz]
   refine wpIn_mono (hbody _ pre x a' _ (hI.putObj _ hia (by omega) hl rfl) ((hAx pre x a').putObj (s:=()) _ hax (by omega) hl rfl)) ?_
   have fin:∀(j:Option Code) (U:World),KeepsFrom B (Wa.putObj (B+1) (.loop bz)) U→U.heap[B+1]? = some (.loop bz) ∧
     (Instr.endRound (B+1) j).run P U = .ok (.bool j.isNone) (U.putObj (B+1) (R (if j.isNone then .ready else .done) j)) ∧
     (U.putObj (B+1) (R (if j.isNone then .ready else .done) j)).heap[B+1]? = some (R (if j.isNone then .ready else .done) j) ∧
     (U.putObj (B+1) (R (if j.isNone then .ready else .done) j)).heap[B]? = some (.deferred (some [])):=λj U hk3=>by
    have hl3:=hk3.same _ _ (by omega) hl2 rfl
    refine⟨hl3,?_,World.putObj_heap_same (Array.getElem?_eq_some_iff.1 hl3).1,(World.putObj_heap_other (by omega)).trans (hk3.same _ _ (Nat.le_refl _) hk2 rfl)⟩
    have:=run_endRound (P:=P) j hl3
    rw[hbz]at this
    rw[hR]
    exact this
   rintro e a3 U hp
   cases e with
   |normal =>
    obtain⟨hl3,hr,hl4,hk4⟩:=fin none U hp.1
    exact⟨_,_,hr,.inl ⟨rfl,⟨⟨hI.putObj _ hp.2.2 (by omega) hl3 rfl,hl4⟩,hk4⟩,by rw[hVs];exact hKt hqa (hKt (hKt (hKp _ _) hp.2.1) (hKp _ _))⟩⟩
   |ret =>
    obtain⟨hl3,hr,hl4,hk4⟩:=fin (some .ret) U hp.1
    exact⟨_,_,hr,.inr ⟨rfl,⟨.ret,⟨(hIx _).putObj _ hp.2.1 (by omega) hl3 rfl,hl4⟩,hk4⟩,by rw[hVs];exact hKt hqa (hKt (hKt (hKp _ _) hp.2.2) (hKp _ _))⟩⟩
   |exit id =>
    obtain⟨hl3,hr,hl4,hk4⟩:=fin (some (.exit id)) U hp.1
    exact⟨_,_,hr,.inr ⟨rfl,⟨.exit id,⟨(hIx _).putObj _ hp.2.1 (by omega) hl3 rfl,hl4⟩,hk4⟩,by rw[hVs];exact hKt hqa (hKt (hKt (hKp _ _) hp.2.2) (hKp _ _))⟩⟩
   |goto t =>
    obtain⟨hl3,hr,hl4,hk4⟩:=fin (some (.goto t)) U hp.1
    exact⟨_,_,hr,.inr ⟨rfl,⟨.goto t,⟨(hIx _).putObj _ hp.2.1 (by omega) hl3 rfl,hl4⟩,hk4⟩,by rw[hVs];exact hKt hqa (hKt (hKt (hKp _ _) hp.2.2) (hKp _ _))⟩⟩
   |panic ch=>exact hp.elim
   |outgrown=>exact hp.elim
end Go.Proofs.YtjlelckefiannaaGreatDoor
namespace Go.Proofs.YtjlelckefiannaaGreatDoor
set_option linter.unusedVariables false
set_option linter.unusedSimpArgs false
open Go.RowKit
section
variable {n:Nat} {P:Program} {ops:Array Oper} {Q:Exit→Act→World→Prop} {md:Region.Mode} {S:World→Prop}
theorem as9{row:String}{args:Array Value}{w:World}{R:Value→World→Prop}(h:Rows P row args w R):RowsIn Fence.wide n P row args w R :=
 λc cs _=>let ⟨v,w',r,s⟩:=h c cs;⟨v,w',r,stepsIn_wide.2 s⟩
theorem aCf{o:Oper}{a:Act}{w:World}{K:Act→World→Prop}(hd:∀c,o.op ≠ .defer c)(h:o.wp P a w K Q):o.wpIn Fence.wide n P a w K Q:=by
 refine⟨λf _=>trivial,?_⟩
 rw[Oper.semAt_plain Fence.wide _ _ hd]
 unfold Oper.wp at h
 generalize (execOp a.eval o).run P w=r at *
 cases r with
 |ok x w' =>
  cases x<;>simp only[Oper.upon,Oper.uponIn]at h ⊢ <;>
   first
    |exact h
    |exact⟨(λe=>by simp[Fence.wide]at e),callsIn_wide.2 h⟩
    |exact⟨(λe=>by simp[Fence.wide]at e),as9 h⟩
 |halt x w'=>cases x<;>simp only[Oper.upon,Oper.uponIn]at h ⊢ <;> exact h
theorem ahn(l:Nat)(hn:am8 ops=true)(hQ:¬LetsOut Q):∀(fuel:Nat) (listed:Array Bool) (a:Act) (w:World),wpAnyH P md ops Q S fuel listed a w→wpAnyIn (Fence.wide.inRound l) n P md ops Q fuel listed a w
 |0,_,_,_,h=>h
 |fuel+1,listed,a,w,h=>by
  refine⟨h.1,λi hi=>?_⟩
  have h2:=h.2 i hi
  have IH:=λa' w'=>ahn l hn hQ fuel (listed.setIfInBounds i true) a' w'
  unfold wpOp at h2
  unfold wpOpIn
  cases ho:ops[i]? with
  |none=>rw[ho]at h2;exact IH _ _ h2.2
  |some o =>
   rw[ho]at h2
   simp only at h2 ⊢
   split
   ·rename_i hw
    rw[if_pos hw]at h2
    rcases h2 with h2|h2
    ·exact axm l rfl (amm hn ho) (aCf (amm hn ho) (Oper.wp_mono (λa' w' h'=>IH a' w' h'.2) h2))
    ·exact absurd h2.2 hQ
   ·rename_i hw
    rw[if_neg hw]at h2
    exact⟨λf _=>trivial,IH _ _ h2.2⟩
theorem ad8{id l:Nat}{a:Act}{w:World}(hm:P.follows .mixedOrders=true)(hn:am8 ops=true)(hQ:∀a w,Q .outgrown a w→False)(hS:S w.drew)
  (h:S w.drew→wpAnyH P .any ops (NoPanic Q) S ops.size (Array.replicate ops.size false) a w.drew):(Code.region id ops true).wpIn (Fence.wide.inRound l) n P Q a w :=
 wpIn_mono (Q:=NoPanic Q) (wpIn_region_any hm (ahn (Q:=NoPanic Q) (S:=S) l hn (fun⟨a,w,h⟩=>hQ a w h) _ _ _ _ (h hS))) NoPanic.imp
end
end Go.Proofs.YtjlelckefiannaaGreatDoor
namespace Go.Proofs.YtjlelckefiannaaGreatDoor
set_option linter.unusedVariables false
set_option linter.unusedSimpArgs false
open Go.RowKit Go.ChangeShapes Go.WideShapes Go.Deep
section
variable {H:Type} {enc:TypeId×Value→H} {w:World} {base:Nat} {spare:Nat→Bool} {held:Bool}
theorem open_bytes{fuel:Nat}{a:Option Addr}{n c:Nat}{x:DataW H×List MemPlace}(h:DataW.trod enc Tryz.prog w base spare held fuel 22 [.slice a n c]=some x):
  ∃bs:List UInt8,bs.length=n∧Bs w a c bs:=by
 rcases open_ints Tryz.underlying22 Tryz.underlying5 (by kernel_rfl) h with⟨hcs,_⟩|⟨ad,l,cap,zs,hcs,_,hl,hm,hz,_,hcell,hwz⟩
 ·simp only[List.cons.injEq,Value.slice.injEq,and_true]at hcs
  obtain⟨rfl,rfl,rfl⟩:=hcs
  exact⟨[],rfl,Bs.nothing w⟩
 ·simp only[List.cons.injEq,Value.slice.injEq,and_true]at hcs
  obtain⟨rfl,rfl,rfl⟩:=hcs
  have hzl:n≤zs.length:=by rw[hz];split<;>omega
  refine⟨(zs.take n).map λz=>UInt8.ofNat z.toNat,by simp;omega,by simp,by simp;omega,hm,(λe=>by cases e),λj u hj=>?_⟩
  simp only[List.map_map,List.getElem?_map,Option.map_eq_some_iff]at hj
  obtain⟨z,hz1,rfl⟩:=hj
  rw[List.getElem?_take]at hz1
  split at hz1
  ·rename_i hjn
   have hc:=hcell j (by omega)
   have hzj:zs.getD j 0=z:=by simp[List.getD,hz1]
   rw[hzj]at hc
   have hw:=hwz z (List.mem_of_getElem? hz1)
   have hr:0≤z∧z≤255:=bounds_u8 hw
   obtain⟨b,off,spot⟩:=ad
   have hs:w.cell? ((⟨b,off,spot⟩:Addr).add j)=some (B8 (UInt8.ofNat z.toNat)):=by
    rw[hc]
    simp only[B8,UInt8.toNat_ofNat']
    congr 2
    omega
   have h0:0<zs.length:=by omega
   have hs0:=World.cell?_spot (hcell 0 h0)
   simp only[Addr.add,if_true]at hs0
   subst hs0
   rw[Addr.add_lit]at hs
   exact⟨b,off,rfl,hs⟩
  ·cases hz1
end
end Go.Proofs.YtjlelckefiannaaGreatDoor
