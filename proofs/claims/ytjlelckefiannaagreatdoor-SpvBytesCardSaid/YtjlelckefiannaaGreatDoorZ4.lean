import Derived.Test.YtjlelckefiannaaGreatDoorZ3
import Derived.Test.YtjlelckefiannaaGreatDoorZ2
import Derived.Deep.CutBlock
import Derived.Deep.DeepCutAuto
set_option maxRecDepth 100000
set_option maxHeartbeats 64000000
namespace Go.Proofs.YtjlelckefiannaaGreatDoor
set_option linter.unusedVariables false
set_option linter.unusedSimpArgs false
open Go.RowKit
attribute [simp high] ae4 ad3 heap_alloc_new heap_alloc_old jc iy gq dn ad7 jr mg adb dh
attribute [go_sem low] jq ahh
theorem Tryz.szAddress:(Tryz.prog.info? 62).map (·.size)=some 20:=by kernel_rfl
theorem Tryz.szLock:(Tryz.prog.info? 121).map (·.size)=some 22:=by kernel_rfl
@[go_sem ↓ high] theorem aq7 (p:Value):Instr.loadAt 62 p=iq 62 p:=rfl
@[go_sem ↓ high] theorem aIf (p v:Value):Instr.storeAt 62 p v=ji 62 p v:=rfl
@[go_sem] theorem ay4 (w:World) (g:Nat):(iq 62 (.pointer (some ⟨g,0,none⟩))).run Tryz.prog w=aa8 Tryz.prog 62 (.pointer (some ⟨g,0,none⟩)) w 20 w.heap[g]? :=
 qc w _ g 20 _ Tryz.underlying62 rfl Tryz.szAddress
@[go_sem] theorem ayo (w:World) (g:Nat) (cells:Array Value):(ji 62 (.pointer (some ⟨g,0,none⟩)) (.agg cells)).run Tryz.prog w=aeg Tryz.prog 62 (.pointer (some ⟨g,0,none⟩)) cells g w 20 w.heap[g]? :=
 oq w _ g 20 cells Tryz.szAddress
@[go_sem] theorem ayp (w:World) (g:Nat):(iq 62 (.pointer (some ⟨g,1,none⟩))).run Tryz.prog w=aec Tryz.prog 62 (.pointer (some ⟨g,1,none⟩)) w 20 1 22 w.heap[g]? :=
 agf w _ g 1 20 22 _ aPl Tryz.underlying62 rfl Tryz.szAddress
@[go_sem ↓ high] theorem aSs (p:Value):Instr.loadAt 121 p=iq 121 p:=rfl
@[go_sem ↓ high] theorem aO6 (p v:Value):Instr.storeAt 121 p v=ji 121 p v:=rfl
@[go_sem] theorem aIj (w:World) (g:Nat):(iq 121 (.pointer (some ⟨g,0,none⟩))).run Tryz.prog w=aa8 Tryz.prog 121 (.pointer (some ⟨g,0,none⟩)) w 22 w.heap[g]? :=
 qc w _ g 22 _ Tryz.underlying121 rfl Tryz.szLock
@[go_sem] theorem aEc (w:World) (g:Nat) (cells:Array Value):(ji 121 (.pointer (some ⟨g,0,none⟩)) (.agg cells)).run Tryz.prog w=aeg Tryz.prog 121 (.pointer (some ⟨g,0,none⟩)) cells g w 22 w.heap[g]? :=
 oq w _ g 22 cells Tryz.szLock
def anh(parts:Array (Nat×Value)):Sem Value:=Instr.build 121 parts
@[go_sem ↓ high] theorem aPi (p:Array (Nat×Value)):Instr.build 121 p=anh p:=rfl
theorem ab9(w:World)(parts:Array (Nat×Value))(cells:Array Value)(h:Tryz.prog.built 121 parts.toList=some cells):(anh parts).run Tryz.prog w = .ok (.agg cells) w:=run_build w _ parts cells h
def ajt(parts:Array (Nat×Value)):Sem Value:=Instr.build 62 parts
@[go_sem ↓ high] theorem aIm (p:Array (Nat×Value)):Instr.build 62 p=ajt p:=rfl
theorem agk(w:World)(parts:Array (Nat×Value))(cells:Array Value)(h:Tryz.prog.built 62 parts.toList=some cells):(ajt parts).run Tryz.prog w = .ok (.agg cells) w:=run_build w _ parts cells h
def yu:List UInt8:=List.replicate 20 0
def lkC(k:Int)(A:List UInt8)(s:Value):Array Value:=(Value.int .i64 k::(A.map B8 ++ [s])).toArray
structure LkC (k:Int) (A:List UInt8) (s:Value) (C:Array Value):Prop where
 size:C.size=22
 c0:C[0]? = some (.int .i64 k)
 c21:C[21]? = some s
 x1:C.extract 1 21=(A.map B8).toArray
theorem LkC.of{k:Int}{A:List UInt8}(h:A.length=20)(s:Value):LkC k A s (lkC k A s):=by
 refine⟨by simp[lkC,h],by simp[lkC],by simp[lkC,h],?_⟩
 apply Array.toList_inj.1
 simp[lkC,h,List.take_append]
theorem ajs{k:Int}{A:List UInt8}{a:Option Addr}{n c:Nat}:jh (lkC k A (.slice a n c)):=by
 unfold jh
 rw[Array.all_eq_true_iff_forall_mem]
 intro v hv
 simp only[lkC,List.mem_toArray,List.mem_cons,List.mem_append,List.mem_map,List.not_mem_nil,or_false]at hv
 rcases hv with rfl|⟨_,_,rfl⟩|rfl<;>rfl
def lkE(k:Int)(t:List UInt8):Int:=if k=1 then 0 else if k=2 then(if t.length=0∨40<t.length then 3 else 0)else 1
def lkB(k:Int)(A t:List UInt8):List UInt8:=if k=1 then [118,169,20]++A ++ [136,172]else if k=2∧¬(t.length=0∨40<t.length)then 106::UInt8.ofNat t.length::t else []
def aNx:Prop:=∀(k:Int) (A t:List UInt8) (a:Option Addr) (n c:Nat) (w:World),A.length=20→Bs w a c t→n=t.length→t.length≤1000 →
 Calls Tryz.prog 51 #[.agg (lkC k A (.slice a n c))] w λe w'=>∃a' n' c',e = .returned (.tuple #[.slice a' n' c',.int .i64 (lkE k t)])∧n'=(lkB k A t).length∧Bs w' a' c' (lkB k A t)∧Fr F0 w w'∧∀g,ql a'=some g→w.heap.size≤g
def lkP(b:List UInt8):Int×List UInt8×List UInt8 :=
 if b.length=25∧b.take 3 = [118,169,20]∧b.drop 23 = [136,172]then(1,(b.drop 3).take 20,[])
 else if 3≤b.length∧b.length≤42∧b.getD 0 0=106∧(b.getD 1 0).toNat+2=b.length then(2,yu,b.drop 2)
 else(0,yu,[])
def LKeyC:Prop:=∀(A:List UInt8) (w:World),A.length=20→Calls Tryz.prog 52 #[.agg (A.map B8).toArray] w (ou (20::A) w)
def opO(b:List UInt8):Bool:=decide (b.length=21∧b.getD 0 0=20)
def opA(b:List UInt8):List UInt8:=if opO b then b.drop 1 else yu
def aId:Prop:=∀(b:List UInt8) (a:Option Addr) (n c:Nat) (w:World),Bs w a c b→n=b.length→b.length≤1000 →
 Calls Tryz.prog 189 #[.slice a n c] w λe w'=>e = .returned (.tuple #[.agg ((opA b).map B8).toArray,.bool (opO b)])∧Fr F0 w w'
theorem agt(w:World)(l m:List UInt8)(hl:l.length=20)(hm:m.length=20):(Op.equalIn 10000 62 (.agg (l.map B8).toArray) (.agg (m.map B8).toArray)).run Tryz.prog w = .ok (decide (l=m)) w:=by
 obtain⟨i0,hi,_⟩:=info_parts Tryz.infoU8
 rw[run_equalIn_array w 9999 _ _ Tryz.underlying62 hi,show Tryz.prog.cellsOf 5=1 by kernel_rfl,abn w 5 9998 (by kernel_rfl) Tryz.underlying5 l m 20 hl hm _ (λj hj=>List.mem_range.1 hj)]
 congr 1
 rw[Bool.eq_iff_iff]
 simp only[List.all_eq_true,List.mem_range,decide_eq_true_eq]
 constructor
 ·intro h
  apply List.ext_getElem aPl
  intro j h1 h2
  have:=h j aPl
  simpa [List.getD,List.getElem?_eq_getElem h1,List.getElem?_eq_getElem h2]using this
 ·rintro rfl j _
  rfl
theorem ajr(l:List UInt8):jh (l.map B8).toArray:=by
 unfold jh
 rw[Array.all_eq_true_iff_forall_mem]
 intro v hv
 simp only[List.mem_toArray,List.mem_map]at hv
 obtain⟨_,_,rfl⟩:=hv
 rfl
theorem twenty(l:List UInt8)(h:l.length=20):∃x0 x1 x2 x3 x4 x5 x6 x7 x8 x9 x10 x11 x12 x13 x14 x15 x16 x17 x18 x19,l = [x0,x1,x2,x3,x4,x5,x6,x7,x8,x9,x10,x11,x12,x13,x14,x15,x16,x17,x18,x19]:=by
 match l,h with
 |[x0,x1,x2,x3,x4,x5,x6,x7,x8,x9,x10,x11,x12,x13,x14,x15,x16,x17,x18,x19],_=>exact⟨x0,x1,x2,x3,x4,x5,x6,x7,x8,x9,x10,x11,x12,x13,x14,x15,x16,x17,x18,x19,rfl⟩
theorem aqb(A:List UInt8)(h:A.length=20):Tryz.prog.built 121 [(0,.int .i64 1),(1,.agg (A.map B8).toArray)]=some (lkC 1 A (.slice none 0 0)):=by
 obtain⟨x0,x1,x2,x3,x4,x5,x6,x7,x8,x9,x10,x11,x12,x13,x14,x15,x16,x17,x18,x19,rfl⟩:=twenty A h
 kernel_rfl
theorem aqa(a:Option Addr)(n c:Nat):Tryz.prog.built 121 [(0,.int .i64 2),(2,.slice a n c)]=some (lkC 2 yu (.slice a n c)):=by
 kernel_rfl
theorem aDh:Tryz.prog.built 62 []=some (yu.map B8).toArray:=by kernel_rfl
end Go.Proofs.YtjlelckefiannaaGreatDoor
