import Derived.Test.YtfjcplfhkahamaaGreatDoorQ18
import Derived.Test.YtfjcplfhkahamaaGreatDoorQ26
import Derived.Test.YtfjcplfhkahamaaGreatDoorQ1
import Derived.Deep.Cut
set_option maxRecDepth 100000
set_option maxHeartbeats 64000000
namespace Go.Proofs.YtfjcplfhkahamaaGreatDoor
set_option linter.unusedVariables false
set_option linter.unusedSimpArgs false
open Go.RowKit
def buildRB (parts : Array (Nat × Value)) : Sem Value := Instr.build 38 parts
@[go_sem ↓ high] theorem build_rblock (p : Array (Nat × Value)) : Instr.build 38 p = buildRB p := rfl
theorem run_buildRB (w : World) (parts : Array (Nat × Value)) (cells : Array Value) (h : Tryz.prog.built 38 parts.toList = some cells) : (buildRB parts).run Tryz.prog w = .ok (.agg cells) w := run_build w _ parts cells h
theorem list32 (A : List UInt8) (h : A.length = 32) : ∃ x0 x1 x2 x3 x4 x5 x6 x7 x8 x9 x10 x11 x12 x13 x14 x15 x16 x17 x18 x19 x20 x21 x22 x23 x24 x25 x26 x27 x28 x29 x30 x31 : UInt8,A = [x0,x1,x2,x3,x4,x5,x6,x7,x8,x9,x10,x11,x12,x13,x14,x15,x16,x17,x18,x19,x20,x21,x22,x23,x24,x25,x26,x27,x28,x29,x30,x31] := by
 match A,h with
 |[x0,x1,x2,x3,x4,x5,x6,x7,x8,x9,x10,x11,x12,x13,x14,x15,x16,x17,x18,x19,x20,x21,x22,x23,x24,x25,x26,x27,x28,x29,x30,x31],_ => exact ⟨x0,x1,x2,x3,x4,x5,x6,x7,x8,x9,x10,x11,x12,x13,x14,x15,x16,x17,x18,x19,x20,x21,x22,x23,x24,x25,x26,x27,x28,x29,x30,x31,rfl⟩
theorem built_rb (A : List UInt8) (h : A.length = 32) (t b : Int) (a : Option Addr) (n c : Nat) : Tryz.prog.built 38 [(0,.agg (A.map B8).toArray),(2,.int .u32 t),(3,.int .u32 b),(4,.slice a n c)] = some (A.map B8 ++ [Value.int .i64 0,.int .u32 t,.int .u32 b,.slice a n c]).toArray := by
 obtain ⟨x0,x1,x2,x3,x4,x5,x6,x7,x8,x9,x10,x11,x12,x13,x14,x15,x16,x17,x18,x19,x20,x21,x22,x23,x24,x25,x26,x27,x28,x29,x30,x31,rfl⟩ := list32 A h
 kernel_rfl
def plainB (h : Hd) (v : Value) : Bk := ⟨sha2 h.bytes,0,h.time,h.bits,v⟩
theorem plain12_any (HH : HHashC) (h : Hd) (o : h.Ok) (w : World) (hw : Cub w) :
  Calls Tryz.prog 8 #[.agg h.cells] w fun e w' => ∃ a c,e = .returned (.agg (plainB h (.slice a h.bytes.length c)).arr) ∧ Bs w' a c h.bytes ∧ Fr F0 w w' := by
 have hsum : (sha2 h.bytes).length = 32 := by simp [sha2,sha_length]
 have HB := Lib.hid (built_rb (sha2 h.bytes) hsum (h.time : Int) (h.bits : Int))
 have J1 := Lib.hid (HH h o)
 have J2 := Lib.hid fun w => Ref07_any h o w
 obtain ⟨s,c0,c65,c66,c67,x1,x33,one⟩ := Hd.of o
 unfold plainB Bk.arr Bk.cells
 have sR : ∀ a n c,((sha2 h.bytes).map B8 ++ [Value.int .i64 0,.int .u32 (h.time : Int),.int .u32 (h.bits : Int),.slice a n c]).toArray.size = 36 := fun a n c => by simp [hsum]
 have oR : ∀ a n c,rowOne ((sha2 h.bytes).map B8 ++ [Value.int .i64 0,.int .u32 (h.time : Int),.int .u32 (h.bits : Int),.slice a n c]).toArray := fun a n c => by
  have := Bk.arr_one (b := ⟨sha2 h.bytes,0,h.time,h.bits,.slice a n c⟩) ⟨hsum,o.time,o.bits,rfl⟩
  exact this
 generalize h.bytes = bs at *
 dsimp only
 generalize (sha2 bs).map B8 = HL at *
 have hcub := Lib.hid hw
 generalize h.cells = C at *
 generalize h.time = ti at *
 generalize h.bits = bi at *
 obtain ⟨CC,hCC⟩ : ∃ CC : Option Addr → Nat → Nat → Array Value,∀ a n c,(HL ++ [Value.int .i64 0,.int .u32 (ti : Int),.int .u32 (bi : Int),.slice a n c]).toArray = CC a n c := ⟨_,fun _ _ _ => rfl⟩
 simp only [hCC] at sR oR HB ⊢
 have HSR := Lib.hid (And.intro sR oR)
 clear hCC
 have hbld := fun W a n c => run_buildRB W #[(0,.agg HL.toArray),(2,.int .u32 (ti : Int)),(3,.int .u32 (bi : Int)),(4,.slice a n c)] _ (HB.out a n c)
 have sa : 65 < C.size ∧ 66 < C.size := by omega
 obtain ⟨sa,sb⟩ := sa
 have d65 := cell_is c65 sa
 have d66 := cell_is c66 sb
 clear sR oR hw hsum c0 c67 x1 x33
 go_enter Tryz.func8,Tryz.ntmps8
 go_wp2_with fail
 refine wp_new fun W N => ?_
 have r1 := N.old (heap_alloc_new w (.cells C 28))
 have F := ((Fr.refl F0 w).alloc (.cells C 28)).trans' N.fr
 obtain ⟨Z,r2,sZ⟩ : ∃ Z : Array Value,W.heap[(w.alloc (.cells C 28)).heap.size]? = some (.cells Z 38 (0,0)) ∧ Z.size = 36 := ⟨_,N.new,rfl⟩
 clear N
 rw [World.size_alloc] at *
 have HG := Lib.hid (And.intro (Nat.le_refl w.heap.size) (show w.heap.size ≤ w.heap.size + 1 by omega))
 obtain ⟨g1,hg1⟩ : ∃ g1,w.heap.size = g1 := ⟨_,rfl⟩
 rw [hg1] at r2 r1
 have HGG := Lib.hid (show w.heap.size ≤ g1 + 1 ∧ g1 ≠ g1 + 1 by omega)
 simp only [hg1]
 clear hg1 HG
 refine rbegin (S := (fun w' => (w'.heap[g1]? = some (.cells C 28 (0,0)) ∧ ∃ d : Array Value,d.size = 36 ∧ w'.heap[g1 + 1]? = some (.cells d 38 (0,0))) ∧ Fr F0 w w')) ?_ fun hHeld => ?_
 ·((try dsimp only) <;> (exact ⟨⟨r1,Z,sZ,r2⟩,F.drew⟩))
 refine rtake 0 ?_
 refine rtake 2 ?_
 refine rtake 3 ?_
 refine rtake 4 ?_
 refine rtake 5 ?_
 refine rtake 6 ?_
 refine rone 1 fun K hK => ?_
 go_simp
 ((refine (J1.out _ (hcub.out.fr hHeld.2 (fun f => f))).mono ?_); rintro e w5 ⟨rfl,f5⟩)
 refine hK.out _ _ ?_ (fun hHeld => ?_)
 ·((try dsimp only) <;> (exact ⟨⟨keep_fr f5 hHeld.1.1,hHeld.1.2.imp fun _ h => ⟨h.1,keep_fr f5 h.2⟩⟩,hHeld.2.trans' f5⟩))
 clear hK K
 try (simp only [Act.put,aST]; dsimp only [aS0,aS1])
 refine rone 7 fun K hK => ?_
 go_simp
 (have hgl := (Array.getElem?_eq_some_iff.1 hHeld.1.2.choose_spec.2).1; (refine (J2.out _).mono ?_); rintro e w7 ⟨a7,c7,rfl,ob7,f5,nb7⟩)
 refine hK.out _ _ ?_ (fun hHeld => ?_)
 ·((try dsimp only) <;> (exact ⟨⟨keep_fr f5 hHeld.1.1,hHeld.1.2.imp fun _ h => ⟨h.1,keep_fr f5 h.2⟩⟩,hHeld.2.trans' f5⟩))
 clear hK K
 try (simp only [Act.put,aST]; dsimp only [aS0,aS1])
 refine rtake 8 ?_
 refine rone 9 fun K hK => ?_
 go_simp
 (obtain ⟨dd,sdd,hdd⟩ := hHeld.1.2; rw [rowIn_of (old := dd) (t' := 38) hdd sdd (HSR.out.1 _ _ _) (HSR.out.2 _ _ _)]; go_simp)
 refine hK.out _ _ ?_ (fun hHeld => ?_)
 ·((try dsimp only) <;> (exact ⟨⟨keep_row (by have := HGG.out; omega) hHeld.1.1,_,HSR.out.1 _ _ _,new_row hdd⟩,hHeld.2.setRow (fun h => by have := HGG.out; omega) _⟩))
 clear hK K
 try (simp only [Act.put,aST]; dsimp only [aS0,aS1])
 refine rdone ?_
 all_goals
  have hab : ∀ k,ablk a7 = some k → ¬ k = g1 + 1 := fun k hk e => by
   have h1 := nb7 k hk
   omega
  have hbs : Bs (w7.setRow (g1 + 1) (CC a7 bs.length c7)) a7 c7 bs := Sl.fr ob7.bs.2 (Fr.setRow (S := fun k => k = g1 + 1) (Fr.refl _ w7) (fun _ => rfl) _) hab
  have F9 := hHeld.2
  go_wp2_with fail
  refine bodyPost_ret (results_cell_row rfl _ _ (g1 + 1) _ _ _ _ rfl (new_row hdd) Tryz.underlying38 rfl (by rw [Tryz.szRBlock,HSR.out.1])) rfl ⟨a7,c7,rfl,hbs,F9⟩
end Go.Proofs.YtfjcplfhkahamaaGreatDoor
