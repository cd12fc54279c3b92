import Derived.Test.YtjlelckefiannaaGreatDoorZ2
import Derived.Deep.RegionWith
import Derived.OrdersHeld
import Derived.Deep.RegionHeld3
import Derived.Laws.Externs
import Derived.Laws.BitsAllLaws
import Derived.OwnWalk
import Derived.Laws.OwnMore
set_option maxRecDepth 100000
set_option maxHeartbeats 64000000
namespace Go.Proofs.YtjlelckefiannaaGreatDoor
set_option linter.unusedVariables false
set_option linter.unusedSimpArgs false
open Go.RowKit
theorem Tryz.szWide:(Tryz.prog.info? 143).map (·.size)=some 4:=by kernel_rfl
theorem Tryz.szArr32:(Tryz.prog.info? 23).map (·.size)=some 32:=by kernel_rfl
@[go_sem ↓ high] theorem aSp (p:Value):Instr.loadAt 143 p=iq 143 p:=rfl
@[go_sem ↓ high] theorem aSu (p:Value):Instr.loadAt 142 p=iq 142 p:=rfl
@[go_sem ↓ high] theorem aPg (p:Value):Instr.loadAt 23 p=iq 23 p:=rfl
@[go_sem ↓ high] theorem aO3 (p v:Value):Instr.storeAt 143 p v=ji 143 p v:=rfl
@[go_sem ↓ high] theorem aO8 (p v:Value):Instr.storeAt 142 p v=ji 142 p v:=rfl
@[go_sem ↓ high] theorem aN7 (p v:Value):Instr.storeAt 23 p v=ji 23 p v:=rfl
@[go_sem] theorem aIh (w:World) (g:Nat):(iq 143 (.pointer (some ⟨g,0,none⟩))).run Tryz.prog w=aa8 Tryz.prog 143 (.pointer (some ⟨g,0,none⟩)) w 4 w.heap[g]? :=
 qc w _ g 4 _ Tryz.underlying143 rfl Tryz.szWide
@[go_sem] theorem aEk (w:World) (g:Nat):(iq 23 (.pointer (some ⟨g,0,none⟩))).run Tryz.prog w=aa8 Tryz.prog 23 (.pointer (some ⟨g,0,none⟩)) w 32 w.heap[g]? :=
 qc w _ g 32 _ Tryz.underlying23 rfl Tryz.szArr32
@[go_sem] theorem aD9 (w:World) (g:Nat) (cells:Array Value):(ji 143 (.pointer (some ⟨g,0,none⟩)) (.agg cells)).run Tryz.prog w=aeg Tryz.prog 143 (.pointer (some ⟨g,0,none⟩)) cells g w 4 w.heap[g]? :=
 oq w _ g 4 cells Tryz.szWide
@[go_sem] theorem aD3 (w:World) (g:Nat) (cells:Array Value):(ji 23 (.pointer (some ⟨g,0,none⟩)) (.agg cells)).run Tryz.prog w=aeg Tryz.prog 23 (.pointer (some ⟨g,0,none⟩)) cells g w 32 w.heap[g]? :=
 oq w _ g 32 cells Tryz.szArr32
theorem ap1(w:World)(A B C:Obj):(((w.alloc A).alloc B).alloc C).heap[w.heap.size+1+1]? = some C:=by
 have:=heap_alloc_new ((w.alloc A).alloc B) C
 simpa using this
theorem ap0(w:World)(A B C D:Obj):((((w.alloc A).alloc B).alloc C).alloc D).heap[w.heap.size+1+1+1]? = some D:=by
 have:=heap_alloc_new (((w.alloc A).alloc B).alloc C) D
 simpa using this
attribute [simp high] heap_alloc2_new ap1 ap0 ae4 ad3 heap_alloc_new heap_alloc_old jc iy gq dn ad7 jr mg adb dh dw iw aaj aq3
attribute [go_sem low] jq ahh
theorem Tryz.szU64:(Tryz.prog.info? 31).map (·.size)=some 1:=by kernel_rfl
theorem Tryz.szU8:(Tryz.prog.info? 5).map (·.size)=some 1:=by kernel_rfl
@[simp high] theorem alg (w:World) (x i:Nat) (k:IntKind) (h:i<4):(Instr.index 143 (.agg (gu .u64 64 4 x)) (.int k (i:Int))).run Tryz.prog w = .ok (.int .u64 (dgt 64 x i:Nat)) w :=
 abu w _ _ 4 _ k i _ Tryz.underlying143 Tryz.underlying31 rfl Tryz.szU64 _ h (aaj _ _ _ _ _ h)
@[simp high] theorem aD7 (w:World) (x:Nat) (k:IntKind):(Instr.index 143 (.agg (gu .u64 64 4 x)) (.int k 0)).run Tryz.prog w = .ok (.int .u64 (dgt 64 x 0:Nat)) w:=alg w x 0 k aPl
@[simp high] theorem aD8 (w:World) (x i:Nat) (k:IntKind) (h:i<32):(Instr.index 23 (.agg (gu .u8 8 32 x)) (.int k (i:Int))).run Tryz.prog w = .ok (.int .u8 (dgt 8 x i:Nat)) w :=
 abu w _ _ 32 _ k i _ Tryz.underlying23 Tryz.underlying5 rfl Tryz.szU8 _ h (aaj _ _ _ _ _ h)
@[simp high] theorem aPa (v:Nat):ala 64 0 0 v=v:=by rw[an3 _ _ _ _ (by simp)];simp
@[simp high] theorem putw_one (x y:Nat) (h:x<2 ^ 64):ala 64 x 1 y=x+2 ^ 64*y:=an3 _ _ _ _ h
abbrev WR (x:Nat):Array Value:=gu .u64 64 4 x
abbrev WV (x:Nat):Value := .agg (gu .u64 64 4 x)
theorem aNw:gu .u64 64 4 0=#[.int .u64 0,.int .u64 0,.int .u64 0,.int .u64 0]:=by
 simp[gu,dgt,List.range_succ]
@[go_sem high] theorem zero4:(#[.int .u64 0,.int .u64 0,.int .u64 0,.int .u64 0]:Array Value)=gu .u64 64 4 0:=aNw.symm
@[go_sem high] theorem acj (z i v:Nat) (hv:v<2 ^ 64):(gu .u64 64 4 z).setIfInBounds i (.int .u64 (v:Int))=gu .u64 64 4 (ala 64 z i v):=aGb _ _ _ _ _ _ hv
theorem jo{P:Program}{c:Code}{Q:Exit→Act→World→Prop}{a:Act}{w:World}(W:World)(h:W=w)(k:Code.wp P c Q a W):Code.wp P c Q a w:=h▸k
def sub64Entry:Array Value→Sem Value:=λargs=>do
 let (x, y, b) ← Extern.MathBitsCarry.three "Sub64" args
 pure (Extern.MathBitsCarry.pair ((x+Extern.MathBitsCarry.m64-y-b) % Extern.MathBitsCarry.m64) (if x<y+b then 1 else 0))
theorem run_sub64{P:Program}(x y b:Nat)(hb:b≤1)(w:World):
  (sub64Entry #[.int .u64 x,.int .u64 y,.int .u64 b]).run P w = .ok (.tuple #[.int .u64 (aov x y b:Nat),.int .u64 (aow x y b:Nat)]) w:=by
 have:b=0∨b=1:=by omega
 rcases this with rfl|rfl<;>rfl
theorem axe{P:Program}(x y c:Nat)(hc:c≤1)(w:World):
  (add64Entry #[.int .u64 x,.int .u64 y,.int .u64 c]).run P w = .ok (.tuple #[.int .u64 (ahr x y c:Nat),.int .u64 (aoy x y c:Nat)]) w:=by
 have:c=0∨c=1:=by omega
 rcases this with rfl|rfl<;>rfl
@[go_sem] theorem aB0 (x y c:Nat) (hc:c≤1) (w:World) :
  (callFunc 155 #[.int .u64 x,.int .u64 y,.int .u64 c]).run Tryz.prog w = .ok (.value (.tuple #[.int .u64 (ahr x y c:Nat),.int .u64 (aoy x y c:Nat)])) w:=by
 rw[run_callFunc_extern Tryz.func155 (by kernel_rfl) (by kernel_rfl) (by kernel_rfl) (e:=add64Entry) (by kernel_rfl),axe x y c hc]
 rfl
@[go_sem] theorem aN9 (x y:Nat) (w:World) :
  (callFunc 155 #[.int .u64 x,.int .u64 y,.int .u64 0]).run Tryz.prog w = .ok (.value (.tuple #[.int .u64 (ahr x y 0:Nat),.int .u64 (aoy x y 0:Nat)])) w:=aB0 x y 0 aPl w
@[go_sem] theorem aSo (x y c:Nat) (hc:c≤1) (w:World) :
  (callFunc 204 #[.int .u64 x,.int .u64 y,.int .u64 c]).run Tryz.prog w = .ok (.value (.tuple #[.int .u64 (aov x y c:Nat),.int .u64 (aow x y c:Nat)])) w:=by
 rw[run_callFunc_extern Tryz.func204 (by kernel_rfl) (by kernel_rfl) (by kernel_rfl) (e:=sub64Entry) (by kernel_rfl),run_sub64 x y c hc]
 rfl
theorem bne0(n:Nat):((n:Int) != 0)=(n != 0):=by
 by_cases h:n=0
 ·subst h;rfl
 ·rw[bne_iff_ne.2 (show(n:Int)≠0 by omega),bne_iff_ne.2 h]
theorem tq{P:Program}{fn:Func}{p u:Tmp}{ty:TypeId}(h:fn.results=#[.cell p ty,.tmp u])(tmps:Array Value)(w:World)(g:Nat)(t:TypeId)(cs:Array Value)(fr:Nat×Nat)(d:TypeDesc)
  (hp:tmps.getD p undef = .pointer (some ⟨g,0,none⟩)) (hg:w.heap[g]? = some (.cells cs t fr))
  (hu:P.underlying ty=some d) (hd:(match d with|.struct _|.array _ _=>true|_=>false)=true) (hi:(P.info? ty).map (·.size)=some cs.size) :
  (results fn tmps).run P w = .ok (.tuple #[.agg cs,tmps.getD u undef]) w:=by
 have hp':tmps[p]?.getD undef = .pointer (some ⟨g,0,none⟩):=by simpa using hp
 simp[results,h,hp',asAddr,run_loadVar_row w g t ty cs fr d hg hu hd hi]
theorem heap2(w:World)(A B:Obj):let W:=(w.alloc A).alloc B
  W.heap[w.heap.size]? = some A∧W.heap[w.heap.size+1]? = some B:=⟨heap_alloc2_old _ _ _,heap_alloc2_new _ _ _⟩
theorem am3(w:World)(A B C:Obj):let W:=((w.alloc A).alloc B).alloc C
  W.heap[w.heap.size]? = some A∧W.heap[w.heap.size+1]? = some B∧W.heap[w.heap.size+1+1]? = some C:=by
 refine⟨?_,?_,?_⟩
 ·rw[heap_alloc_old _ _ aKq]
  exact(heap2 w A B).1
 ·rw[heap_alloc_old _ _ (by simp)]
  exact(heap2 w A B).2
 ·exact ap1 w A B C
theorem aK9(w:World)(A B C D:Obj):let W:=(((w.alloc A).alloc B).alloc C).alloc D
  W.heap[w.heap.size]? = some A∧W.heap[w.heap.size+1]? = some B∧W.heap[w.heap.size+1+1]? = some C∧W.heap[w.heap.size+1+1+1]? = some D:=by
 obtain⟨h0,h1,h2⟩:=am3 w A B C
 refine⟨?_,?_,?_,?_⟩
 ·rw[heap_alloc_old _ _ aKq];exact h0
 ·rw[heap_alloc_old _ _ aKq];exact h1
 ·rw[heap_alloc_old _ _ (by simp)];exact h2
 ·exact ap0 w A B C D
theorem asa{w:World}{g i z v:Nat}{t:TypeId}(h:w.heap[g]? = some (.cells (gu .u64 64 4 z) t (0,0)))(hz:z<2 ^ (64*i))(hv:v<2 ^ 64):
  (w.setCell ⟨g,i,none⟩ (.int .u64 (v:Int))).heap[g]? = some (.cells (gu .u64 64 4 (z+2 ^ (64*i)*v)) t (0,0)):=by
 rw[gq,h,jr,acj _ _ _ hv,an3 _ _ _ _ hz]
theorem aiz(a b:Nat)(ha:a<ng)(hb:b<ng)(w:World):
  Calls Tryz.prog 105 #[.agg (gu .u64 64 4 a),.agg (gu .u64 64 4 b)] w λe w'=>e = .returned (.tuple #[.agg (gu .u64 64 4 ((a+b) % ng)),.bool (decide (ng≤a+b))])∧Fr F0 w w':=by
 have HA:=Lib.hid (aNs a b ha hb)
 have HC:=Lib.hid (aNt a b ha hb)
 clear ha hb
 go_enter Tryz.func105,Tryz.ntmps105
 go_wp2
 obtain⟨W1,hW1⟩:∃W1,W1=(((w.alloc (.cells (gu .u64 64 4 a) 143)).alloc (.cells (gu .u64 64 4 b) 143)).alloc (.cells (gu .u64 64 4 0) 143)).alloc (.cells (gu .u64 64 4 0) 143):=⟨_,rfl⟩
 refine jo W1 hW1 ?_
 have f1:Fr F0 w W1:=by rw[hW1];exact((((Fr.refl F0 w).alloc _).alloc _).alloc _).alloc _
 obtain⟨r0,r1,r2,r3⟩:=aK9 w (.cells (gu .u64 64 4 a) 143) (.cells (gu .u64 64 4 b) 143) (.cells (gu .u64 64 4 0) 143) (.cells (gu .u64 64 4 0) 143)
 rw[←hW1]at r0 r1 r2 r3
 clear hW1
 generalize hg0:w.heap.size=g0 at *
 generalize hg1:g0+1=g1 at *
 generalize hg2:g1+1=g2 at *
 generalize hg3:g2+1=g3 at *
 have n0:g0≠g3:=by omega
 have n1:g1≠g3:=by omega
 have n2:g2≠g3:=by omega
 have HG:=Lib.hid (show w.heap.size≤g2∧w.heap.size≤g3 by omega)
 clear hg0 hg1 hg2 hg3
 go_loopw [7,9] (λcv iv wr=>∃i:Nat,i≤4∧iv = .int .i64 i∧cv = .int .u64 (adC a b i:Nat)∧wr.heap[g0]? = some (.cells (gu .u64 64 4 a) 143 (0,0))∧wr.heap[g1]? = some (.cells (gu .u64 64 4 b) 143 (0,0))∧wr.heap[g2]? = some (.cells (gu .u64 64 4 0) 143 (0,0))∧wr.heap[g3]? = some (.cells (gu .u64 64 4 (adS a b i)) 143 (0,0))∧Fr F0 w wr) (λcv iv _=>4-(intOf iv).toNat)
 case atStart=>exact⟨0,by omega,rfl,by rw[aH7];rfl,r0,r1,r2,by rw[aH5];exact r3,f1⟩
 case round =>
  clear r0 r1 r2 r3 f1
  obtain⟨i,hi,rfl,rfl,r0,r1,r2,r3,f1⟩:=hrel
  by_cases hi4:i<4
  ·have li:(i:Int)<4:=by omega
   have hcl:=aSj a b i
   have HS:=Lib.hid (aH6 a b i)
   have HN:=Lib.hid (aH8 a b i)
   have hl:=az0 a b i
   go_wp2
   refine jm (S:=(λw'=>w'.heap[g0]? = some (.cells (gu .u64 64 4 a) 143 (0,0))∧w'.heap[g1]? = some (.cells (gu .u64 64 4 b) 143 (0,0)))) ?_ λak=>?_
   ·exact(by((try dsimp only)<;>(exact⟨r0,r1⟩)))
   refine aj 0 ?_
   refine aj 1 ?_
   refine aj 2 ?_
   refine aj 3 ?_
   refine aj 4 ?_
   refine aj 5 ?_
   refine aj 6 ?_
   refine aj 7 ?_
   refine jf 8 λK hK=>?_
   go_simp
   refine rpu hK (by((try dsimp only)<;>(first|exact⟨r0,r1⟩|(refine⟨?_,?_⟩<;>(simp only[dh];rw[dn _ _ _ _ _ (by assumption)];assumption))))) λak=>?_
   clear hK K
   refine aj 9 ?_
   refine aj 10 ?_
   refine aj 11 ?_
   refine aj 12 ?_
   refine jf 13 λK hK=>?_
   go_simp
   refine rpu hK (by((try dsimp only)<;>(first|exact⟨r0,r1⟩|(refine⟨?_,?_⟩<;>(simp only[dh];rw[dn _ _ _ _ _ (by assumption)];assumption))))) λak=>?_
   clear hK K
   refine aj 14 ?_
   refine jg ?_
   all_goals
    go_wp2
    go_roundw
    case rel =>
     refine⟨i+1,by omega,by go_num,by rw[HN.out],?_,?_,?_,?_,?_⟩
     ·rw[dh,dn _ _ _ _ _ n0];exact r0
     ·rw[dh,dn _ _ _ _ _ n1];exact r1
     ·rw[dh,dn _ _ _ _ _ n2];exact r2
     ·rw[dh,asa r3 hl (ag3 _ _ _),HS.out]
     ·exact(f1.setCell (p:=⟨g3,i,none⟩) (λh=>by have:=HG.out;simp only at h;omega) _).drew
    case measure=>simp[intOf];omega
  ·obtain rfl:i=4:=by omega
   rw[HA.out]at r3
   have hb0:=HC.out
   go_wp2
   refine bodyPost_ret (tq rfl _ _ g2 _ _ _ _ rfl zz64 Tryz.underlying143 rfl zz75) rfl ⟨?_,?_⟩
   ·rw[←hb0,←bne0];rfl
   ·exact f1.setRow (λh=>by have:=HG.out;omega) _
theorem aFi(a b:Nat)(ha:a<ng)(hb:b<ng)(w:World):
  Calls Tryz.prog 195 #[.agg (gu .u64 64 4 a),.agg (gu .u64 64 4 b)] w λe w'=>e = .returned (.tuple #[.agg (gu .u64 64 4 ((a+ng-b) % ng)),.bool (decide (a<b))])∧Fr F0 w w':=by
 have HA:=Lib.hid (aLs a b ha hb)
 have HC:=Lib.hid (aLt a b ha hb)
 clear ha hb
 go_enter Tryz.func195,Tryz.ntmps195
 go_wp2
 obtain⟨W1,hW1⟩:∃W1,W1=(((w.alloc (.cells (gu .u64 64 4 a) 143)).alloc (.cells (gu .u64 64 4 b) 143)).alloc (.cells (gu .u64 64 4 0) 143)).alloc (.cells (gu .u64 64 4 0) 143):=⟨_,rfl⟩
 refine jo W1 hW1 ?_
 have f1:Fr F0 w W1:=by rw[hW1];exact((((Fr.refl F0 w).alloc _).alloc _).alloc _).alloc _
 obtain⟨r0,r1,r2,r3⟩:=aK9 w (.cells (gu .u64 64 4 a) 143) (.cells (gu .u64 64 4 b) 143) (.cells (gu .u64 64 4 0) 143) (.cells (gu .u64 64 4 0) 143)
 rw[←hW1]at r0 r1 r2 r3
 clear hW1
 generalize hg0:w.heap.size=g0 at *
 generalize hg1:g0+1=g1 at *
 generalize hg2:g1+1=g2 at *
 generalize hg3:g2+1=g3 at *
 have n0:g0≠g3:=by omega
 have n1:g1≠g3:=by omega
 have n2:g2≠g3:=by omega
 have HG:=Lib.hid (show w.heap.size≤g2∧w.heap.size≤g3 by omega)
 clear hg0 hg1 hg2 hg3
 go_loopw [7,9] (λcv iv wr=>∃i:Nat,i≤4∧iv = .int .i64 i∧cv = .int .u64 (sbC a b i:Nat)∧wr.heap[g0]? = some (.cells (gu .u64 64 4 a) 143 (0,0))∧wr.heap[g1]? = some (.cells (gu .u64 64 4 b) 143 (0,0))∧wr.heap[g2]? = some (.cells (gu .u64 64 4 0) 143 (0,0))∧wr.heap[g3]? = some (.cells (gu .u64 64 4 (sbS a b i)) 143 (0,0))∧Fr F0 w wr) (λcv iv _=>4-(intOf iv).toNat)
 case atStart=>exact⟨0,by omega,rfl,by rw[aF3];rfl,r0,r1,r2,by rw[aF2];exact r3,f1⟩
 case round =>
  clear r0 r1 r2 r3 f1
  obtain⟨i,hi,rfl,rfl,r0,r1,r2,r3,f1⟩:=hrel
  by_cases hi4:i<4
  ·have li:(i:Int)<4:=by omega
   have hcl:=azl a b i
   have HS:=Lib.hid (aAg a b i).1
   have HN:=Lib.hid (aAg a b i).2
   have hl:=azk a b i
   go_wp2
   refine jm (S:=(λw'=>w'.heap[g0]? = some (.cells (gu .u64 64 4 a) 143 (0,0))∧w'.heap[g1]? = some (.cells (gu .u64 64 4 b) 143 (0,0)))) ?_ λak=>?_
   ·exact(by((try dsimp only)<;>(exact⟨r0,r1⟩)))
   refine aj 0 ?_
   refine aj 1 ?_
   refine aj 2 ?_
   refine aj 3 ?_
   refine aj 4 ?_
   refine aj 5 ?_
   refine aj 6 ?_
   refine aj 7 ?_
   refine jf 8 λK hK=>?_
   go_simp
   refine rpu hK (by((try dsimp only)<;>(first|exact⟨r0,r1⟩|(refine⟨?_,?_⟩<;>(simp only[dh];rw[dn _ _ _ _ _ (by assumption)];assumption))))) λak=>?_
   clear hK K
   refine aj 9 ?_
   refine aj 10 ?_
   refine aj 11 ?_
   refine aj 12 ?_
   refine jf 13 λK hK=>?_
   go_simp
   refine rpu hK (by((try dsimp only)<;>(first|exact⟨r0,r1⟩|(refine⟨?_,?_⟩<;>(simp only[dh];rw[dn _ _ _ _ _ (by assumption)];assumption))))) λak=>?_
   clear hK K
   refine aj 14 ?_
   refine jg ?_
   all_goals
    go_wp2
    go_roundw
    case rel =>
     refine⟨i+1,by omega,by go_num,by rw[HN.out],?_,?_,?_,?_,?_⟩
     ·rw[dh,dn _ _ _ _ _ n0];exact r0
     ·rw[dh,dn _ _ _ _ _ n1];exact r1
     ·rw[dh,dn _ _ _ _ _ n2];exact r2
     ·rw[dh,asa r3 hl (au2 _ _ _),HS.out]
     ·exact(f1.setCell (p:=⟨g3,i,none⟩) (λh=>by have:=HG.out;simp only at h;omega) _).drew
    case measure=>simp[intOf];omega
  ·obtain rfl:i=4:=by omega
   rw[HA.out]at r3
   have hb0:=HC.out
   go_wp2
   refine bodyPost_ret (tq rfl _ _ g2 _ _ _ _ rfl zz64 Tryz.underlying143 rfl zz75) rfl ⟨?_,?_⟩
   ·rw[←hb0,←bne0];rfl
   ·exact f1.setRow (λh=>by have:=HG.out;omega) _
theorem ai4{a b:Nat}(ha:a<4294967296)(hb:b<4294967296):a*b≤18446744065119617025:=by
 have:a*b≤4294967295*4294967295:=Nat.mul_le_mul aPl aPl
 omega
theorem aCi(x y:Nat):x*y=x % 4294967296*(y % 4294967296)+4294967296*(x/4294967296*(y % 4294967296)+x % 4294967296*(y/4294967296))+18446744073709551616*(x/4294967296*(y/4294967296)):=by
 have h1:=Nat.mod_add_div x 4294967296
 have h2:=Nat.mod_add_div y 4294967296
 generalize x % 4294967296=x0 at *
 generalize x/4294967296=x1 at *
 generalize y % 4294967296=y0 at *
 generalize y/4294967296=y1 at *
 subst h1 h2
 have e1:(x0+4294967296*x1)*(y0+4294967296*y1)=x0*y0+x0*(4294967296*y1)+(4294967296*x1*y0+4294967296*x1*(4294967296*y1)):=by rw[Nat.add_mul,Nat.mul_add,Nat.mul_add]
 have e2:x0*(4294967296*y1)=4294967296*(x0*y1):=by rw[Nat.mul_left_comm]
 have e3:4294967296*x1*y0=4294967296*(x1*y0):=Nat.mul_assoc _ _ _
 have e4:4294967296*x1*(4294967296*y1)=18446744073709551616*(x1*y1):=by
  rw[Nat.mul_assoc,Nat.mul_left_comm x1,←Nat.mul_assoc]
 rw[e1,e2,e3,e4,Nat.mul_add]
 omega
theorem ag2(x:Nat)(h:x<18446744073709551616):bits BinOp.and IntKind.u64 (x:Int) 4294967295=((x % 4294967296:Nat):Int):=by
 have h1:=u64_and_nat x 4294967295 h (by decide)
 rw[show((4294967295:Nat):Int)=4294967295 from rfl]at h1
 rw[h1,show(4294967295:Nat)=2 ^ 32-1 from rfl,Nat.and_two_pow_sub_one_eq_mod]
theorem aGu(X:Nat)(h:X<18446744073709551616):Value.int IntKind.u64 (bits BinOp.xor IntKind.u64 (if IntKind.u64.signed=true then -1 else IntKind.u64.max) (X:Int)) = .int .u64 ((2 ^ 64-1-X:Nat):Int):=by
 have h1:=u64_xor_nat 18446744073709551615 X (by decide) h
 have h2:(18446744073709551615:Nat) ^^^ X=2 ^ 64-1-X:=by
  have e:(BitVec.allOnes 64 ^^^ BitVec.ofNat 64 X).toNat=18446744073709551615 ^^^ X:=by
   rw[BitVec.toNat_xor,BitVec.toNat_allOnes,BitVec.toNat_ofNat,Nat.mod_eq_of_lt (by simpa using h)]
  rw[←e,BitVec.allOnes_xor,BitVec.toNat_not,BitVec.toNat_ofNat,Nat.mod_eq_of_lt (by simpa using h)]
 rw[h2]at h1
 rw[←h1]
 rfl
theorem aqg(x y:Nat)(hx:x<18446744073709551616)(hy:y<18446744073709551616)(w:World):
  Calls Tryz.prog 203 #[.int .u64 x,.int .u64 y] w λe w'=>e = .returned (.tuple #[.int .u64 (alc x y:Nat),.int .u64 (afv x y:Nat)])∧w'=w:=by
 have hs:=aCi x y
 have a0:=ag2 x hx
 have a1:=ag2 y hy
 have d0:(x:Int)/4294967296=((x/4294967296:Nat):Int):=by omega
 have d1:(y:Int)/4294967296=((y/4294967296:Nat):Int):=by omega
 have b0:x % 4294967296<4294967296:=Nat.mod_lt _ (by decide)
 have b1:y % 4294967296<4294967296:=Nat.mod_lt _ (by decide)
 have b2:x/4294967296<4294967296:=by omega
 have b3:y/4294967296<4294967296:=by omega
 generalize x % 4294967296=x0 at *
 generalize x/4294967296=x1 at *
 generalize y % 4294967296=y0 at *
 generalize y/4294967296=y1 at *
 have p0:=ai4 b0 b1
 have p1:=ai4 b2 b1
 have p2:=ai4 b0 b3
 have p3:=ai4 b2 b3
 have m0:(x0:Int)*y0=((x0*y0:Nat):Int):=(Int.natCast_mul _ _).symm
 have m1:(x1:Int)*y0=((x1*y0:Nat):Int):=(Int.natCast_mul _ _).symm
 have m2:(x0:Int)*y1=((x0*y1:Nat):Int):=(Int.natCast_mul _ _).symm
 have m3:(x1:Int)*y1=((x1*y1:Nat):Int):=(Int.natCast_mul _ _).symm
 have ml:(x:Int)*y=((x*y:Nat):Int):=(Int.natCast_mul _ _).symm
 have HR:=Lib.hid (show alc x y=x*y/18446744073709551616∧afv x y=x*y % 18446744073709551616 from⟨rfl,rfl⟩)
 generalize x0*y0=q0 at *
 generalize x1*y0=q1 at *
 generalize x0*y1=q2 at *
 generalize x1*y1=q3 at *
 generalize x*y=q at *
 have w0:IntKind.u64.wrap (q0:Int)=(q0:Int):=IntWalk.u64_in _ aPl
 have w1:IntKind.u64.wrap (q1:Int)=(q1:Int):=IntWalk.u64_in _ aPl
 have w2:IntKind.u64.wrap (q2:Int)=(q2:Int):=IntWalk.u64_in _ aPl
 have w3:IntKind.u64.wrap (q3:Int)=(q3:Int):=IntWalk.u64_in _ aPl
 obtain⟨t,ht⟩:∃t,t=q1+q0/4294967296:=⟨_,rfl⟩
 have w4:IntKind.u64.wrap ((q1:Int)+(q0:Int)/4294967296)=(t:Int):=by rw[IntWalk.u64_in _ aPl];omega
 have a2:=ag2 t aPl
 obtain⟨t0,ht0⟩:∃q,q=t % 4294967296:=⟨_,rfl⟩
 rw[←ht0]at a2
 obtain⟨s,hs1⟩:∃s,s=t0+q2:=⟨_,rfl⟩
 have w5:IntKind.u64.wrap ((t0:Int)+(q2:Int))=(s:Int):=by rw[IntWalk.u64_in _ aPl];omega
 obtain⟨u,hu⟩:∃u,u=q3+t/4294967296:=⟨_,rfl⟩
 have w6:IntKind.u64.wrap ((q3:Int)+(t:Int)/4294967296)=(u:Int):=by rw[IntWalk.u64_in _ aPl];omega
 obtain⟨v,hv⟩:∃v,v=u+s/4294967296:=⟨_,rfl⟩
 have w7:IntKind.u64.wrap ((u:Int)+(s:Int)/4294967296)=(v:Int):=by rw[IntWalk.u64_in _ aPl];omega
 have w8:IntKind.u64.wrap (q:Int)=((afv x y:Nat):Int):=by rw[HR.out.2,IntKind.wrap_u64];omega
 have hvv:v=alc x y:=by rw[HR.out.1];omega
 have HV:=Lib.hid hvv
 clear hvv ht ht0 hs1 hu hv hs p0 p1 p2 p3
 go_enter Tryz.func203,Tryz.ntmps203
 go_wp2
 go_ret2
 exact⟨by rw[←HV.out];rfl,rfl⟩
theorem aFk(a:Nat)(ha:a<ng)(w:World):
  Calls Tryz.prog 146 #[.agg (gu .u64 64 4 a)] w λe w'=>e = .returned (.agg (gu .u64 64 4 (ng-1-a)))∧Fr F0 w w':=by
 have HA:=Lib.hid (aMg a ha .u64)
 clear ha
 go_enter Tryz.func146,Tryz.ntmps146
 go_wp2
 obtain⟨W1,hW1⟩:∃W1,W1=(w.alloc (.cells (gu .u64 64 4 a) 143)).alloc (.cells (gu .u64 64 4 0) 143):=⟨_,rfl⟩
 refine jo W1 hW1 ?_
 obtain⟨r0,r1⟩:=heap2 w (.cells (gu .u64 64 4 a) 143) (.cells (gu .u64 64 4 0) 143)
 rw[←hW1]at r0 r1
 have f1:Fr F0 w W1:=by rw[hW1];exact((Fr.refl F0 w).alloc _).alloc _
 clear hW1
 generalize hg0:w.heap.size=g0 at *
 generalize hg1:g0+1=g1 at *
 have n1:g1≠g0:=by omega
 have HG:=Lib.hid (show w.heap.size≤g0∧w.heap.size≤g1 by omega)
 clear hg0 hg1
 go_loopw [4] (λiv wr=>∃i:Nat,i≤4∧iv = .int .i64 i∧wr.heap[g0]? = some (.cells (gu .u64 64 4 (aI9 a i)) 143 (0,0))∧wr.heap[g1]? = some (.cells (gu .u64 64 4 0) 143 (0,0))∧Fr F0 w wr) (λiv _=>4-(intOf iv).toNat)
 case atStart=>exact⟨0,by omega,rfl,r0,r1,f1⟩
 case round =>
  clear r0 r1 f1
  obtain⟨i,hi,rfl,r0,r1,f1⟩:=hrel
  by_cases hi4:i<4
  ·have li:(i:Int)<4:=by omega
   have hd:dgt 64 (aI9 a i) i=dgt 64 a i:=by rw[an5];simp
   obtain⟨X,hX⟩:∃X,X=dgt 64 a i:=⟨_,rfl⟩
   rw[←hX]at hd
   have hXl:=abq 64 a i
   rw[←hX]at hXl
   have hD:=Lib.hid hX.symm
   clear hX
   go_wp2
   go_roundw
   case rel =>
    refine⟨i+1,by omega,by go_num,?_,?_,?_⟩
    ·rw[gq,r0,jr,aGu X aPl,acj _ _ _ aPl,aI9,hD.out]
    ·rw[dn _ _ _ _ _ n1];exact r1
    ·exact f1.setCell (p:=⟨g0,i,none⟩) (λh=>by have:=HG.out;simp only at h;omega) _
   case measure=>simp[intOf];omega
  ·obtain rfl:i=4:=by omega
   rw[HA.out]at r0
   go_wp2
   refine bodyPost_ret (results_cell_row rfl _ _ g1 _ _ _ _ rfl aPp Tryz.underlying143 rfl zz75) rfl ⟨rfl,?_⟩
   exact f1.setRow (λh=>by have:=HG.out;omega) _
theorem auw(a x:Nat)(ha:a<ng)(hx:x<2 ^ 64)(w:World):
  Calls Tryz.prog 194 #[.agg (gu .u64 64 4 a),.int .u64 x] w λe w'=>e = .returned (.tuple #[.agg (gu .u64 64 4 (a*x % ng)),.bool (decide (ng≤a*x))])∧Fr F0 w w':=by
 have HA:=Lib.hid (aMk a x ha)
 have HC:=Lib.hid (aMm a x ha)
 clear ha
 go_enter Tryz.func194,Tryz.ntmps194
 go_wp2
 obtain⟨W1,hW1⟩:∃W1,W1=((w.alloc (.cells (gu .u64 64 4 a) 143)).alloc (.cells (gu .u64 64 4 0) 143)).alloc (.cells (gu .u64 64 4 0) 143):=⟨_,rfl⟩
 refine jo W1 hW1 ?_
 have f1:Fr F0 w W1:=by rw[hW1];exact(((Fr.refl F0 w).alloc _).alloc _).alloc _
 obtain⟨r0,r1,r2⟩:=am3 w (.cells (gu .u64 64 4 a) 143) (.cells (gu .u64 64 4 0) 143) (.cells (gu .u64 64 4 0) 143)
 rw[←hW1]at r0 r1 r2
 clear hW1
 generalize hg0:w.heap.size=g0 at *
 generalize hg1:g0+1=g1 at *
 generalize hg2:g1+1=g2 at *
 have n1:g1≠g2:=by omega
 have HG:=Lib.hid (show w.heap.size≤g1∧w.heap.size≤g2 by omega)
 clear hg0 hg1 hg2 r0
 go_loopw [7,15] (λcv iv wr=>∃i:Nat,i≤4∧iv = .int .i64 i∧cv = .int .u64 (mlH a x i:Nat)∧wr.heap[g1]? = some (.cells (gu .u64 64 4 0) 143 (0,0))∧wr.heap[g2]? = some (.cells (gu .u64 64 4 (mlS a x i)) 143 (0,0))∧Fr F0 w wr) (λcv iv _=>4-(intOf iv).toNat)
 case atStart=>exact⟨0,by omega,rfl,by rw[avg];rfl,r1,by rw[aG0];exact r2,f1⟩
 case round =>
  clear r1 r2 f1
  obtain⟨i,hi,rfl,rfl,r1,r2,f1⟩:=hrel
  by_cases hi4:i<4
  ·have li:(i:Int)<4:=by omega
   have HS:=Lib.hid (avf a x i)
   have HN:=Lib.hid (avh a x i)
   have hl:=auk a x i
   have hh:=aRo a x (i+1) hx
   rw[HN.out]at hh
   have hw:IntKind.u64.wrap ((alc (dgt 64 a i) x:Nat)+(aoy (afv (dgt 64 a i) x) (mlH a x i) 0:Nat):Int)=(mlH a x (i+1):Nat):=by
    rw[HN.out,IntWalk.u64_in _ aPl];omega
   have hdl:=abq 64 a i
   go_wp2_with ((with_reducible refine(aqg _ _ aPl aPl _).mono ?_);rintro e w' ⟨rfl,rfl⟩)
   go_roundw
   case rel =>
    refine⟨i+1,by omega,by go_num,rfl,?_,?_,?_⟩
    ·rw[dn _ _ _ _ _ n1];exact r1
    ·rw[asa r2 hl (ag3 _ _ _),HS.out]
    ·exact f1.setCell (p:=⟨g2,i,none⟩) (λh=>by have:=HG.out;simp only at h;omega) _
   case measure=>simp[intOf];omega
  ·obtain rfl:i=4:=by omega
   rw[HA.out]at r2
   have hb0:=HC.out
   go_wp2
   refine bodyPost_ret (tq rfl _ _ g1 _ _ _ _ rfl aPp Tryz.underlying143 rfl zz75) rfl ⟨?_,?_⟩
   ·rw[←hb0,←bne0];rfl
   ·exact f1.setRow (λh=>by have:=HG.out;omega) _
def U64(x:Nat):Value := .int .u64 (x:Int)
def Us(w:World)(a:Option Addr)(c:Nat)(l:List Nat):Prop:=Sl w 1 a c l.length (l.map U64)
def ds(n x:Nat):List Nat:=(List.range n).map (dgt 16 x)
def lg(x:Nat):Nat:=if x=0 then 0 else x.log2/16+1
def dg(x:Nat):List Nat:=ds (lg x) x
abbrev Ns (w:World) (a:Option Addr) (c:Nat) (x:Nat):Prop:=Us w a c (dg x)
end Go.Proofs.YtjlelckefiannaaGreatDoor
