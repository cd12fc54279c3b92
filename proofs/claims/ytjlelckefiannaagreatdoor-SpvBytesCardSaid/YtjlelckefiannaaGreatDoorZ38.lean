import Derived.Test.YtjlelckefiannaaGreatDoorZ20
import Derived.Test.YtjlelckefiannaaGreatDoorZ26
import Derived.Test.YtjlelckefiannaaGreatDoorZ3
import Derived.Test.YtjlelckefiannaaGreatDoorZ37
import Derived.Test.YtjlelckefiannaaGreatDoorZ1
import Derived.Test.YtjlelckefiannaaGreatDoorZ2
import Derived.Deep.Cut
import Derived.Test.YtjlelckefiannaaGreatDoorZ27
set_option maxRecDepth 100000
set_option maxHeartbeats 64000000
namespace Go.Proofs.YtjlelckefiannaaGreatDoor
set_option linter.unusedVariables false
set_option linter.unusedSimpArgs false
open Go.RowKit
def Fh0:Hd := { ver:=1,ahead:=aE6,root:=aE6,time:=1000,bits:=545259519,zq:=0 }
theorem Fh0.ok:Fh0.Ok:=⟨by decide,rfl,rfl,by decide,by decide,by decide⟩
def Fh:Hd:=Fh0.with 1
theorem Fh.ok:Fh.Ok:=⟨by decide,rfl,rfl,by decide,by decide,by decide⟩
def aRu:List UInt8 := [61,203,117,189,137,197,20,104,21,221,192,209,215,49,76,183,70,25,253,247,43,253,106,115,55,132,161,91,255,182,29,187]
def aFb:List UInt8 := [64,212,44,169,105,242,46,26,213,113,80,86,103,22,131,220,56,26,102,175,166,60,188,192,220,97,234,162,38,110,30,39]
theorem Fh0.sum:uj (Fh0.with 0).bytes=aRu:=by
 rw[uj,af0,af0]
 decide +kernel
theorem Fh.sum:uj Fh.bytes=aFb:=by
 rw[uj,af0,af0]
 decide +kernel
theorem Fh0.meets:mtH (Fh0.with 0)=false:=by
 rw[mtH,hsh,Fh0.sum]
 decide +kernel
theorem Fh.meets:mtH (Fh0.with 1)=true:=by
 rw[mtH,hsh,show Fh0.with 1=Fh from rfl,Fh.sum]
 decide +kernel
theorem Fh.mine:aay Fh0 1000 0=some 1:=by
 rw[show(1000:Nat)=999+1 from rfl,aay,Fh0.meets,if_neg (by decide),if_neg (by decide),show(999:Nat)=998+1 from rfl,aay,show(0+1:Nat)=1 from rfl,Fh.meets,if_pos rfl]
theorem Fh.acf:acf Fh0 1000=Fh∧agw Fh0 1000=true:=by
 unfold Go.Proofs.YtjlelckefiannaaGreatDoor.acf agw
 rw[show Fh0.zq=0 from rfl,Fh.mine]
 exact⟨rfl,rfl⟩
def aod(parts:Array (Nat×Value)):Sem Value:=Instr.build 49 parts
@[go_sem ↓ high] theorem aKl (p:Array (Nat×Value)):Instr.build 49 p=aod p:=rfl
theorem aq0(w:World)(parts:Array (Nat×Value))(cells:Array Value)(h:Tryz.prog.built 49 parts.toList=some cells):(aod parts).run Tryz.prog w = .ok (.agg cells) w:=run_build w _ parts cells h
def ruC(e s k:Nat):Array Value:=(Value.int .i64 (e:Int) :: .int .u32 (s:Int) :: .int .u32 545259519 :: .int .i64 (k:Int)::Fh.cells.toList).toArray
theorem ajg(e s k:Nat)(hs:s<4294967296):aJh (ruC e s k) e s 545259519 k:=by
 refine⟨rfl,rfl,rfl,rfl,rfl,?_,hs,by omega⟩
 unfold jh;kernel_rfl
theorem aDc(e s k:Nat):Tryz.prog.built 49 [(0,.int .i64 (e:Int)),(1,.int .u32 (s:Int)),(2,.int .u32 545259519),(3,.int .i64 (k:Int)),(4,.agg Fh.cells)]=some (ruC e s k):=by
 kernel_rfl
theorem aDg:Tryz.prog.built 47 [(0,.int .u32 1),(3,.int .u32 1000),(4,.int .u32 545259519)]=some Fh0.cells:=by kernel_rfl
theorem aty(HM:aKb)(every confirm:Int)(span:Nat)(he : -9223372036854775808≤every∧every≤9223372036854775807)(hk : -9223372036854775808≤confirm∧confirm≤9223372036854775807)(hs:span<4294967296)(w:World)(zn:Cub w):
  Calls Tryz.prog 12 #[.int .i64 every,.int .u32 (span:Int),.int .i64 confirm] w λe w'=>e = .returned (.agg (ruC (2+(every % 18446744073709551616).toNat % 6) (1+span % 1000) (1+(confirm % 18446744073709551616).toNat % 4)))∧Fr F0 w w':=by
 have HC:=Lib.hid zn
 have H1:=Lib.hid (HM Fh0 Fh0.ok 1000 aPl)
 rw[Fh.acf.1,Fh.acf.2]at H1
 change Hid (∀w,Cub w→Calls Tryz.prog 49 #[.agg Fh0.cells,.int .u32 1000] w λe w'=>e = .returned (.tuple #[.agg Fh.cells,.bool true])∧Fr F0 w w')at H1
 have hb0:∀w,(aga #[(0,.int .u32 1),(3,.int .u32 1000),(4,.int .u32 545259519)]).run Tryz.prog w = .ok (.agg Fh0.cells) w:=λw=>ad1 w _ _ aDg
 obtain⟨q1,hq1⟩:∃q:Nat,q=(every % 18446744073709551616).toNat:=⟨_,rfl⟩
 obtain⟨q2,hq2⟩:∃q:Nat,q=(confirm % 18446744073709551616).toNat:=⟨_,rfl⟩
 have m1:IntKind.u64.wrap every=(q1:Int):=by rw[IntKind.wrap_u64];omega
 have m2:IntKind.u64.wrap confirm=(q2:Int):=by rw[IntKind.wrap_u64];omega
 rw[←hq1,←hq2]
 have hb1:∀w,(aod #[(0,.int .i64 (2+(q1:Int) % 6)),(1,.int .u32 (1+(span:Int) % 1000)),(2,.int .u32 545259519),(3,.int .i64 (1+(q2:Int) % 4)),(4,.agg Fh.cells)]).run Tryz.prog w = .ok (.agg (ruC (2+q1 % 6) (1+span % 1000) (1+q2 % 4))) w:=λw=>by
  rw[show 2+(q1:Int) % 6=((2+q1 % 6:Nat):Int) by omega,show 1+(span:Int) % 1000=((1+span % 1000:Nat):Int) by omega,show 1+(q2:Int) % 4=((1+q2 % 4:Nat):Int) by omega]
  exact aq0 w _ _ (aDc _ _ _)
 have s0:Fh0.cells.size=68:=rfl
 have s1:Fh.cells.size=68:=rfl
 have s2:(ruC (2+q1 % 6) (1+span % 1000) (1+q2 % 4)).size=72:=rfl
 have o1:jh Fh.cells:=Hd.one
 have o2:=(ajg (2+q1 % 6) (1+span % 1000) (1+q2 % 4) aPl).one
 generalize ruC (2+q1 % 6) (1+span % 1000) (1+q2 % 4)=R at *
 generalize Fh.cells=C at *
 generalize Fh0.cells=C0 at *
 clear zn HM hq1 hq2 he hk
 go_enter Tryz.func12,Tryz.ntmps12
 have zz:Tryz.zeroCells49.size=72:=by kernel_rfl
 go_wp2_with fail
 generalize Tryz.zeroCells49=Z at *
 refine ru λW1 N1=>?_
 have r0:=N1.new
 have F:=N1.fr
 have hg0:∃g0,g0=w.heap.size:=⟨_,rfl⟩
 obtain⟨g0,hg0⟩:=hg0
 rw[←hg0]at r0 ⊢
 replace hg0:=Lib.hid hg0
 clear N1
 (with_reducible refine(H1.out _ (HC.out.fr F λf=>f)).mono ?_);rintro e w2 ⟨rfl,f⟩
 replace r0:=au f r0
 replace F:=F.trans' f
 clear f
 go_upto_region 2 with fail
 refine uy λW2 N2=>?_
 have r1:=N2.new
 have ne:=N2.ne r0
 replace r0:=N2.old r0
 replace F:=F.trans' N2.fr
 generalize w2.heap.size=g1 at *
 clear N2
 go_wp2_with fail
 refine bodyPost_ret (results_cell_row rfl _ _ g0 _ _ _ _ rfl (by rw[jc,r0];rfl) Tryz.underlying49 rfl (by rw[Tryz.szRules,s2])) rfl ⟨rfl,?_⟩
 exact F.setRow (λh=>by have:=hg0.out;omega) _
theorem avi(h:Hd):h.cells=((Value.int .u32 (h.ver:Int)::(h.ahead.map B8++(h.root.map B8 ++ [Value.int .u32 (h.time:Int)]))) ++ [Value.int .u32 (h.bits:Int),Value.int .u32 (h.zq:Int)]).toArray:=by simp[Hd.cells]
theorem aG1{h:Hd}(o:h.Ok)(k:Nat):h.cells.setIfInBounds 66 (.int .u32 (k:Int))=({ h with bits:=k }:Hd).cells:=by
 rw[avi,avi,List.setIfInBounds_toArray,List.set_append_right _ _ (by simp[o.ahead,o.root])]
 simp[o.ahead,o.root]
theorem aAu{h:Hd}:∀k n,n<4294967296→∀r,aay h k n=some r→r<4294967296
 |0,n,hn,r,e=>by
  rw[aay]at e
  split at e
  ·cases e;exact hn
  ·cases e
 |k+1,n,hn,r,e=>by
  rw[aay]at e
  split at e
  ·cases e;exact hn
  ·split at e
   ·cases e
   ·exact aAu k (n+1) aPl r e
theorem avk{h:Hd}(o:h.Ok)(k:Nat):(acf h k).Ok:=by
 unfold acf
 cases e:aay h k h.zq with
 |none=>exact aai.ok
 |some r=>exact⟨o.ver,o.ahead,o.root,o.time,o.bits,aAu k _ o.zq r e⟩
end Go.Proofs.YtjlelckefiannaaGreatDoor
