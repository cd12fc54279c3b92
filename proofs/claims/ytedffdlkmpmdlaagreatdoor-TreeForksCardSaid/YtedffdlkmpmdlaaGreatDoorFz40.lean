import Derived.Test.YtedffdlkmpmdlaaGreatDoorFz36
import Derived.Test.YtedffdlkmpmdlaaGreatDoorFz20
import Derived.Test.YtedffdlkmpmdlaaGreatDoorFz26
import Derived.Test.YtedffdlkmpmdlaaGreatDoorFz1
import Derived.Test.YtedffdlkmpmdlaaGreatDoorFz38
import Derived.Test.YtedffdlkmpmdlaaGreatDoorFz8
import Derived.Test.YtedffdlkmpmdlaaGreatDoorFz31
import Derived.Test.YtedffdlkmpmdlaaGreatDoorFz16
import Derived.Test.YtedffdlkmpmdlaaGreatDoorFz39
set_option maxRecDepth 100000
set_option maxHeartbeats 64000000
namespace Go.Proofs.YtedffdlkmpmdlaaGreatDoor
set_option maxRecDepth 100000
set_option linter.unusedVariables false
set_option linter.unusedSimpArgs false
open Go.RowKit
theorem jNums_any {C : Array Value} {e k : Nat} {span limit : Nat} (h : RuOf C (e : Int) span limit (k : Int)) (h1 : 2 ≤ e) (h2 : e ≤ 2016) (h3 : 1 ≤ span) (h4 : span ≤ 2147483648) (h5 : 1 ≤ k) (h6 : k ≤ 100) (w : World) :
  Calls Tryz.prog 54 #[.agg C] w fun ed w' => ed = .returned (.bool true) ∧ Fr F0 w w' := by
 obtain ⟨s,c0,c1,_,c3,_,_,_⟩ := h
 have s0 : 0 < C.size := by omega
 have d0 := cell_is c0 s0
 have s1 : 1 < C.size := by omega
 have d1 := cell_is c1 s1
 have s3 : 3 < C.size := by omega
 have d3 := cell_is c3 s3
 have F := (Fr.refl F0 w).alloc (.cells C 29)
 have l1 : (2 : Int) ≤ (e : Int) := by omega
 have l2 : (e : Int) ≤ 2016 := by omega
 have l3 : (1 : Int) ≤ (span : Int) := by omega
 have l4 : (span : Int) ≤ 2147483648 := by omega
 have l5 : (1 : Int) ≤ (k : Int) := by omega
 have l6 : (k : Int) ≤ 100 := by omega
 go_enter Tryz.func54,Tryz.ntmps54
 go_wp2_with fail
 go_ret
 exact ⟨by first | rfl | simp [*],F⟩
theorem topF : topN 545259519 = btT 545259519 := if_pos (of_decide_eq_true (by decide +kernel : decide (btP 545259519) = true))
theorem bitsF : btP 545259519 := of_decide_eq_true (by decide +kernel : decide (btP 545259519) = true)
theorem Fh.check2 : ckE Fh (btT 545259519) = 0 := by
 unfold ckE hsh
 rw [Fh.sum]
 decide +kernel
theorem ruC_first (e s k : Nat) (j : Nat) (hj : j < 68) : (ruC e s k)[4 + j]? = Fh.cells[j]? := by
 unfold ruC
 rw [List.getElem?_toArray,show 4 + j = j + 1 + 1 + 1 + 1 by omega,List.getElem?_cons_succ,List.getElem?_cons_succ,List.getElem?_cons_succ,List.getElem?_cons_succ,Array.getElem?_toList]
theorem first_load (e s k : Nat) (W : World) (g : Nat) {t : TypeId} {f : Nat × Nat} (h : W.heap[g]? = some (.cells (ruC e s k) t f)) : (loadRowAt 27 (.pointer (some ⟨g,4,none⟩))).run Tryz.prog W = .ok (.agg Fh.cells) W := by
 have := run_loadAt_mid (P := Tryz.prog) W g 4 27 Fh.cells.toList _ (fun j u hj => by
  have hl : j < 68 := by have := (List.getElem?_eq_some_iff.1 hj).1; rw [Array.length_toList,Hd.cells_size Fh.ok] at this; exact this
  rw [cell_of_row W g (4 + j) _ _ _ h,ruC_first e s k j hl]
  simpa using hj) Tryz.underlying27 rfl (by rw [Array.length_toList,Hd.cells_size Fh.ok]; kernel_rfl)
 rw [Array.toArray_toList] at this
 exact this
theorem jCheck_any (HD : DecC) (HK : HCheckC) (e s k : Nat) (h1 : 2 ≤ e) (h2 : e ≤ 2016) (h3 : 1 ≤ s) (h4 : s ≤ 2147483648) (h5 : 1 ≤ k) (h6 : k ≤ 100) (w : World) (hcub : Cub w) :
  Calls Tryz.prog 29 #[.agg (ruC e s k)] w fun ed w' => ed = .returned (.int .i64 0) ∧ Fr F0 w w' := by
 have hru := ruC_of e s k (by omega)
 have HTop := Lib.hid (jTop_any HD hru)
 rw [topF] at HTop
 have HN := Lib.hid (jNums_any hru h1 h2 h3 h4 h5 h6)
 have HC := Lib.hid (HK Fh Fh.ok (btT 545259519) bitsF.2.2 0 Fh.check2)
 have HCub := Lib.hid hcub
 have HLD := Lib.hid (fun W g (h : W.heap[g]? = some (.cells (ruC e s k) 29 (0,0))) => first_load e s k W g h)
 have hz := rowEq_0 (btT 545259519) bitsF.2.2 _ rfl
 rw [decide_eq_false (show ¬ btT 545259519 = 0 by have := bitsF.2.1; omega)] at hz
 have sR := hru.size
 have oR := hru.one
 generalize ruC e s k = R at *
 generalize btT 545259519 = T at *
 generalize Fh.cells = X at *
 clear hru h1 h2 h3 h4 h5 h6 hcub
 have r1 := heap_alloc_new w (.cells R 29)
 have F := (Fr.refl F0 w).alloc (.cells R 29)
 go_enter Tryz.func29,Tryz.ntmps29
 go_wp2_with fail
 generalize hW : w.alloc (.cells R 29) = W at *
 generalize w.heap.size = g1 at *
 (with_reducible refine (HTop.out _).mono ?_); rintro e1 w2 ⟨rfl,f⟩
 replace r1 := keep_fr f r1
 replace F := F.trans' f
 clear f hW
 go_upto_region 2 with fail
 refine wp_put fun W4 N4 => ?_
 have r3 := N4.new
 replace r1 := N4.old r1
 replace F := F.trans' N4.fr
 clear N4
 generalize w2.heap.size = g3 at *
 go_wp2_with fail
 (with_reducible refine (HN.out _).mono ?_); rintro e1 w3 ⟨rfl,f⟩
 replace r1 := keep_fr f r1
 replace r3 := keep_fr f r3
 replace F := F.trans' f
 clear f
 have ld := HLD.out _ _ r1
 go_wp2_with fail
 (with_reducible refine (HC.out _ (HCub.out.fr F fun f => f)).mono ?_); rintro e1 w5 ⟨rfl,f⟩
 replace F := F.trans' f
 go_wp2_with fail
 go_ret
 exact ⟨rfl,F⟩
def buildKB (parts : Array (Nat × Value)) : Sem Value := Instr.build 77 parts
@[go_sem ↓ high] theorem build_kblock (p : Array (Nat × Value)) : Instr.build 77 p = buildKB p := rfl
theorem run_buildKB (w : World) (parts : Array (Nat × Value)) (cells : Array Value) (h : Tryz.prog.built 77 parts.toList = some cells) : (buildKB parts).run Tryz.prog w = .ok (.agg cells) w := run_build w _ parts cells h
def buildKT (parts : Array (Nat × Value)) : Sem Value := Instr.build 80 parts
@[go_sem ↓ high] theorem build_ktree (p : Array (Nat × Value)) : Instr.build 80 p = buildKT p := rfl
theorem run_buildKT (w : World) (parts : Array (Nat × Value)) (cells : Array Value) (h : Tryz.prog.built 80 parts.toList = some cells) : (buildKT parts).run Tryz.prog w = .ok (.agg cells) w := run_build w _ parts cells h
theorem built_kbL (ver ti bi no : Nat) (A R hs : List UInt8) (hA : A.length = 32) (hR : R.length = 32) (l : hs.length = 32) (up : Option Addr) (ht wk : Nat) :
  Tryz.prog.built 77 [(0,.agg (Hd.cells ⟨ver,A,R,ti,bi,no⟩)),(1,.agg (hc hs)),(2,.pointer up),(3,.int .i64 (ht : Int)),(4,.agg (rowN .u64 64 4 wk))] = some (blkC ⟨ver,A,R,ti,bi,no⟩ hs (.pointer up) ht wk false) := by
 obtain ⟨x0,x1,x2,x3,x4,x5,x6,x7,x8,x9,x10,x11,x12,x13,x14,x15,x16,x17,x18,x19,x20,x21,x22,x23,x24,x25,x26,x27,x28,x29,x30,x31,rfl⟩ := list32 A hA
 obtain ⟨y0,y1,y2,y3,y4,y5,y6,y7,y8,y9,y10,y11,y12,y13,y14,y15,y16,y17,y18,y19,y20,y21,y22,y23,y24,y25,y26,y27,y28,y29,y30,y31,rfl⟩ := list32 R hR
 obtain ⟨z0,z1,z2,z3,z4,z5,z6,z7,z8,z9,z10,z11,z12,z13,z14,z15,z16,z17,z18,z19,z20,z21,z22,z23,z24,z25,z26,z27,z28,z29,z30,z31,rfl⟩ := list32 hs l
 kernel_rfl
theorem built_kb (h : Hd) (o : h.Ok) (hs : List UInt8) (l : hs.length = 32) (up : Option Addr) (ht wk : Nat) :
  Tryz.prog.built 77 [(0,.agg h.cells),(1,.agg (hc hs)),(2,.pointer up),(3,.int .i64 (ht : Int)),(4,.agg (rowN .u64 64 4 wk))] = some (blkC h hs (.pointer up) ht wk false) :=
 built_kbL h.ver h.time h.bits h.nonce h.ahead h.root hs o.ahead o.root l up ht wk
theorem built_kbL1 (ver ti bi no : Nat) (A R hs : List UInt8) (hA : A.length = 32) (hR : R.length = 32) (l : hs.length = 32) (wk : Nat) :
  Tryz.prog.built 77 [(0,.agg (Hd.cells ⟨ver,A,R,ti,bi,no⟩)),(1,.agg (hc hs)),(4,.agg (rowN .u64 64 4 wk)),(5,.bool true)] = some (blkC ⟨ver,A,R,ti,bi,no⟩ hs (.pointer none) 0 wk true) := by
 obtain ⟨x0,x1,x2,x3,x4,x5,x6,x7,x8,x9,x10,x11,x12,x13,x14,x15,x16,x17,x18,x19,x20,x21,x22,x23,x24,x25,x26,x27,x28,x29,x30,x31,rfl⟩ := list32 A hA
 obtain ⟨y0,y1,y2,y3,y4,y5,y6,y7,y8,y9,y10,y11,y12,y13,y14,y15,y16,y17,y18,y19,y20,y21,y22,y23,y24,y25,y26,y27,y28,y29,y30,y31,rfl⟩ := list32 R hR
 obtain ⟨z0,z1,z2,z3,z4,z5,z6,z7,z8,z9,z10,z11,z12,z13,z14,z15,z16,z17,z18,z19,z20,z21,z22,z23,z24,z25,z26,z27,z28,z29,z30,z31,rfl⟩ := list32 hs l
 kernel_rfl
theorem built_kb1 (h : Hd) (o : h.Ok) (hs : List UInt8) (l : hs.length = 32) (wk : Nat) :
  Tryz.prog.built 77 [(0,.agg h.cells),(1,.agg (hc hs)),(4,.agg (rowN .u64 64 4 wk)),(5,.bool true)] = some (blkC h hs (.pointer none) 0 wk true) :=
 built_kbL1 h.ver h.time h.bits h.nonce h.ahead h.root hs o.ahead o.root l wk
theorem built_kt (e s k bm : Nat) (a : Option Addr) (n c : Nat) :
  Tryz.prog.built 80 [(0,.agg (ruC e s k)),(1,.map (some bm)),(2,.slice a n c),(3,.int .i64 1)] = some (treC (ruC e s k) bm (.slice a n c) 1) := by
 kernel_rfl
end Go.Proofs.YtedffdlkmpmdlaaGreatDoor
namespace Go.Proofs.YtedffdlkmpmdlaaGreatDoor
set_option maxRecDepth 100000
set_option linter.unusedVariables false
set_option linter.unusedSimpArgs false
open Go.RowKit
def b0 (v : Value) : Bk := ⟨sha2 Fh.bytes,-1,Fh.time,Fh.bits,v⟩
theorem b0_hash (v : Value) : (b0 v).hash = sha2 Fh.bytes := by simp only [b0]
theorem b0_time (v : Value) : (b0 v).time = Fh.time := by simp only [b0]
theorem b0_bits (v : Value) : (b0 v).bits = Fh.bits := by simp only [b0]
theorem b0_ahead (v : Value) : (b0 v).ahead = -1 := by simp only [b0]
theorem anc_b0 (v : Value) : anc [b0 v] 0 = [0] := rfl
theorem wf_b0 {v : Value} (o : v.oneCell' = true) : WFt [b0 v] := by
 refine ⟨fun b hb => ?_,fun i hi => ?_⟩
 ·rw [List.mem_singleton] at hb
  subst hb
  exact ⟨by simp [b0,sha2,sha_length],Fh.ok.time,Fh.ok.bits,o⟩
 ·have : i = 0 := by simpa using hi
  subst this
  exact ⟨show (-1 : Int) ≤ -1 by omega,show (-1 : Int) < ((0 : Nat) : Int) by omega⟩
theorem bk_b0 (v : Value) : bkT [b0 v] 0 = b0 v := rfl
theorem hd_b0 : hdT [Fh] 0 = Fh := rfl
theorem TI_first {v : Value} (o : v.oneCell' = true) (q : Nat) : TI [Fh] [b0 v] [q] := by
 refine ⟨wf_b0 o,fun i h0 hi => ?_,fun i j hi hj _ => ?_,by simp,by simp,rfl,rfl,fun i hi => ?_,fun i j hi hj _ => ?_,fun i hi => ?_⟩
 ·simp at hi; omega
 ·simp at hi hj; omega
 ·have : i = 0 := by simpa using hi
  subst this
  rw [hd_b0,bk_b0]
  exact ⟨Fh.ok,b0_hash v,b0_time v,b0_bits v⟩
 ·simp at hi hj; omega
 ·have : i = 0 := by simpa using hi
  subst this
  rw [workM,anc_b0]
  simpa using wkN_W
theorem chn_b0 (v : Value) : chn [b0 v] = [sha2 Fh.bytes] := by
 have hb : bestM [b0 v] = 0 := by have := best_lt (L := [b0 v]) (by simp); simp at this; omega
 rw [chn,hb,lineM,anc_b0,List.reverse_singleton,List.map_cons,List.map_nil,bk_b0,b0_hash]
theorem TM_first {w : World} {p : Nat} {R : Array Value} {bm q sl : Nat} {v : Value} (o : v.oneCell' = true)
  (top : w.heap[p]? = some (.cells (treC R bm (.slice (some ⟨sl,0,none⟩) 1 1) 1) 80 (0,0)))
  (map : w.heap[bm]? = some (.map #[⟨.agg (hc (sha2 Fh.bytes)),.pointer (some ⟨q,0,none⟩),0⟩] 1))
  (blk : w.heap[q]? = some (.cells (blkC Fh (sha2 Fh.bytes) (.pointer none) 0 (wkN (btT Fh.bits)) true) 77 (0,0)))
  (row : w.heap[sl]? = some (.cells (hc (sha2 Fh.bytes)) 25 (0,0))) : TM w p R bm [Fh] [b0 v] [q] (.slice (some ⟨sl,0,none⟩) 1 1) (chn [b0 v]) := by
 have l32 : (sha2 Fh.bytes).length = 32 := by simp [sha2,sha_length]
 refine ⟨top,⟨_,_,map,by simp only [List.map_cons,List.map_nil,b0_hash],fun j e he => ?_⟩,fun i hi => ?_,⟨⟨?_,.inr ⟨sl,1,_,by rw [chn_b0]; rfl,Nat.zero_le _,row,by rw [chn_b0]; exact Nat.le_refl _,by unfold maxLen; omega,by rw [hc_size l32],?_⟩⟩,fun k _ => Nat.zero_le _,fun x hx => ?_⟩⟩
 ·cases j with
  |zero => simp at he; subst he; rfl
  |succ j => simp at he
 ·have : i = 0 := by simpa using hi
  subst this
  refine blk.trans ?_
  have hw : workM [b0 v] 0 = wkN (btT Fh.bits) := by rw [workM,anc_b0,List.map_cons,List.map_nil,bk_b0,b0_bits]; simp
  unfold blkOf
  rw [hw,hd_b0,bk_b0,b0_hash,b0_ahead]
  rfl
 ·rw [chn_b0]
  simp [l32]
 ·rw [chn_b0]
  simp only [hc,List.length_singleton,Nat.one_mul,List.flatMap_cons,List.flatMap_nil,List.append_nil]
  rw [List.take_of_length_le (by rw [List.length_map,l32]; exact Nat.le_refl _)]
 ·rw [chn_b0,List.mem_singleton] at hx
  rw [hx]; exact l32
open Classical in
noncomputable def updOut (W : World) (bm : Nat) (A : Array Value) (v : Value) : Option Obj → Result Unit
 |some (.map es c) => if es = #[] ∧ c = 0 then .ok () (ChangeMaps.setBlock W bm (.map #[⟨.agg A,v,0⟩] 1)) else (updK (.map (some bm)) (.agg A) v).run Tryz.prog W
 |_ => (updK (.map (some bm)) (.agg A) v).run Tryz.prog W
open Classical in
theorem updOut_map (W : World) (bm : Nat) (A : Array Value) (v : Value) (es : Array MapEntry) (c : Nat) : updOut W bm A v (some (.map es c)) = if es = #[] ∧ c = 0 then .ok () (ChangeMaps.setBlock W bm (.map #[⟨.agg A,v,0⟩] 1)) else (updK (.map (some bm)) (.agg A) v).run Tryz.prog W := rfl
@[go_sem] theorem updOut_new (W : World) (bm : Nat) (A : Array Value) (v : Value) : updOut W bm A v (some (.map #[] 0)) = .ok () (ChangeMaps.setBlock W bm (.map #[⟨.agg A,v,0⟩] 1)) := by rw [updOut_map,if_pos ⟨rfl,rfl⟩]
theorem run_updK0 (h : List UInt8) (hl : h.length = 32) (W : World) (bm : Nat) (v : Value) : (updK (.map (some bm)) (.agg (hc h)) v).run Tryz.prog W = updOut W bm (hc h) v W.heap[bm]? := by
 cases hb : W.heap[bm]? with
 |none => rfl
 |some ob =>
  cases ob with
  |map es c =>
   rw [updOut_map]
   by_cases he : es = #[] ∧ c = 0
   ·rw [if_pos he]
    obtain ⟨rfl,rfl⟩ := he
    unfold updK
    have h2 : (Instr.findKey 25 (.agg (hc h)) []).run Tryz.prog W = .ok none W := by
     rw [run_findKey_eq W (by rw [Tryz.underlying25]) (.agg (hc h)) []]
     rfl
    simp [Instr.mapUpdate,run_underlying Tryz.underlying78,MapKept.run_getObj_map hb,run_checkHash _ h hl W,h2,MapKept.run_setObj_map _ hb,Result.andThen,ChangeMaps.setBlock]
   ·rw [if_neg he]
  |_ => rfl
theorem setBlock_fr {W : World} {bm : Nat} {es : Array MapEntry} {c : Nat} (hb : W.heap[bm]? = some (.map es c)) (o : Obj) : Fr (fun k => k = bm) W (ChangeMaps.setBlock W bm o) :=
 ⟨rfl,rfl,rfl,by simp [ChangeMaps.setBlock],fun i _ hi => ChangeMaps.heap_setBlock_other hb _ (fun e => hi (by rw [e]))⟩
theorem heap_alloc_at (w : World) (o : Obj) {n : Nat} (h : n = w.heap.size) : (w.alloc o).heap[n]? = some o := by rw [h]; exact heap_alloc_new w o
theorem setB_keep {W : World} {bm g : Nat} {oo : Obj} (o : Obj) (hb : W.heap[bm]? = some (.map #[] 0)) (h : W.heap[g]? = some oo) (hne : g ≠ bm) : (ChangeMaps.setBlock W bm o).heap[g]? = some oo := (ChangeMaps.heap_setBlock_other hb o hne).trans h
theorem setB_size (W : World) (bm : Nat) (o : Obj) : (ChangeMaps.setBlock W bm o).heap.size = W.heap.size := by simp [ChangeMaps.setBlock]
theorem drew_size (W : World) : W.drew.heap.size = W.heap.size := rfl
theorem kNew_any (HD : DecC) (HK : HCheckC) (HH : HHashC) (HW : WorkC) (e s k : Nat) (h1 : 2 ≤ e) (h2 : e ≤ 2016) (h3 : 1 ≤ s) (h4 : s ≤ 2147483648) (h5 : 1 ≤ k) (h6 : k ≤ 100) (vb : Value) (ovb : vb.oneCell' = true) (w : World) (hcub : Cub w) :
  Calls Tryz.prog 10 #[.agg (ruC e s k)] w fun ed w' => (∃ p bm q sl,ed = .returned (.tuple #[.pointer (some ⟨p,0,none⟩),.int .i64 0]) ∧ TM w' p (ruC e s k) bm [Fh] [b0 vb] [q] (.slice (some ⟨sl,0,none⟩) 1 1) (chn [b0 vb]) ∧ w.heap.size ≤ p ∧ w.heap.size ≤ bm ∧ w.heap.size ≤ q ∧ w.heap.size ≤ sl) ∧ Fr F0 w w' := by
 have hru := ruC_of e s k (by omega)
 have HCk := Lib.hid (jCheck_any HD HK e s k h1 h2 h3 h4 h5 h6)
 have HHs := Lib.hid (HH Fh Fh.ok)
 have HTg := Lib.hid (kTargetOf_any HD Fh Fh.ok bitsF)
 have HWk := Lib.hid (HW (btT Fh.bits) bitsF.2.2)
 have HCub := Lib.hid hcub
 have HLD := Lib.hid (fun W g (h : W.heap[g]? = some (.cells (ruC e s k) 29 (0,0))) => first_load e s k W g h)
 have l32 : (sha2 Fh.bytes).length = 32 := by simp [sha2,sha_length]
 have hbd := fun W => run_buildKB W _ _ (built_kb1 Fh Fh.ok (sha2 Fh.bytes) l32 (wkN (btT Fh.bits)))
 have hbt := fun W bm a n c => run_buildKT W _ _ (built_kt e s k bm a n c)
 have hup := fun W bm v => run_updK0 (sha2 Fh.bytes) l32 W bm v
 have hbl := fun W => run_buildLh W (hc (sha2 Fh.bytes)) (hc_size l32)
 have HLH := Lib.hid (fun W q (hW : W.heap[q]? = some (.cells (blkC Fh (sha2 Fh.bytes) (.pointer none) 0 (wkN (btT Fh.bits)) true) 77 (0,0))) => show (loadRowAt 25 (.pointer (some ⟨q,68,none⟩))).run Tryz.prog W = .ok (.agg (hc (sha2 Fh.bytes))) W from
  load_midH l32 fun j x hj => by
   have hl : j < 32 := by have := (List.getElem?_eq_some_iff.1 hj).1; rw [List.length_map,l32] at this; exact this
   rw [cell_of_row W q (68 + j) _ _ _ hW,blkC_mid Fh.ok l32 j hl]
   exact hj)
 have HTM := Lib.hid (fun W p bm q sl => @TM_first W p (ruC e s k) bm q sl vb ovb)
 have sX := hc_size l32
 have oX := hc_one (sha2 Fh.bytes)
 have sB := blkC_size (up := .pointer none) (ht := 0) (wk := wkN (btT Fh.bits)) (tip := true) Fh.ok l32
 have oB := blkC_one (h := Fh) (hs := sha2 Fh.bytes) (up := .pointer none) (ht := 0) (wk := wkN (btT Fh.bits)) (tip := true) rfl
 have sR := hru.size
 have oR := hru.one
 have hmm := @run_makeMap Tryz.prog
 change Hid (∀ w,Cub w → Calls Tryz.prog 22 #[.agg Fh.cells] w fun e w' => e = .returned (.agg (hc (sha2 Fh.bytes))) ∧ Fr F0 w w') at HHs
 generalize hc (sha2 Fh.bytes) = X at *
 generalize blkC Fh (sha2 Fh.bytes) (.pointer none) 0 (wkN (btT Fh.bits)) true = B at *
 generalize btT Fh.bits = T at *
 generalize wkN T = wk at *
 generalize Fh.cells = Y at *
 generalize ruC e s k = R at *
 clear hru h1 h2 h3 h4 h5 h6 hcub l32
 have r1 := heap_alloc_new w (.cells R 29)
 have F := (Fr.refl F0 w).alloc (.cells R 29)
 have hg := Nat.le_refl w.heap.size
 go_enter Tryz.func10,Tryz.ntmps10
 go_wp2_with fail
 generalize hW : w.alloc (.cells R 29) = W at *
 obtain ⟨g1,hg1⟩ : ∃ g1,w.heap.size = g1 := ⟨_,rfl⟩
 rw [hg1] at r1 ⊢
 (with_reducible refine (HCk.out _ (HCub.out.fr F fun f => f)).mono ?_); rintro e1 w2 ⟨rfl,f⟩
 replace r1 := keep_fr f r1
 replace F := F.trans' f
 clear f hW hg1
 go_upto_region 4 with fail
 refine rbegin (S := (fun w' => (w'.heap[g1]? = some (.cells R 29 (0,0)) ∧ (loadRowAt 27 (.pointer (some ⟨g1,4,none⟩))).run Tryz.prog w' = .ok (.agg Y) w') ∧ Fr F0 w w')) ?_ fun hHeld => ?_
 ·((try dsimp only) <;> (exact ⟨⟨r1,HLD.out _ _ r1⟩,F.drew⟩))
 refine rtake 0 ?_
 refine rtake 1 ?_
 refine rtake 2 ?_
 refine rtake 3 ?_
 refine rtake 5 ?_
 refine rtake 6 ?_
 refine rone 4 fun K hK => ?_
 go_simp
 ((with_reducible refine (HHs.out _ (HCub.out.fr hHeld.2 fun f => f)).mono ?_); rintro e w5 ⟨rfl,f5⟩)
 refine hK.out _ _ ?_ (fun hHeld => ?_)
 ·((try dsimp only) <;> (first | exact hHeld | exact ⟨⟨keep_fr f5 hHeld.1.1,HLD.out _ _ (keep_fr f5 hHeld.1.1)⟩,hHeld.2.trans' f5⟩))
 clear hK K
 try (simp only [Act.put,aST]; dsimp only [aS0,aS1])
 refine rone 7 fun K hK => ?_
 go_simp
 ((with_reducible refine (HTg.out _).mono ?_); rintro e w5 ⟨rfl,f5⟩)
 refine hK.out _ _ ?_ (fun hHeld => ?_)
 ·((try dsimp only) <;> (first | exact hHeld | exact ⟨⟨keep_fr f5 hHeld.1.1,HLD.out _ _ (keep_fr f5 hHeld.1.1)⟩,hHeld.2.trans' f5⟩))
 clear hK K
 try (simp only [Act.put,aST]; dsimp only [aS0,aS1])
 refine rone 8 fun K hK => ?_
 go_simp
 ((with_reducible refine (HWk.out _).mono ?_); rintro e w5 ⟨rfl,f5⟩; have z5 := (hHeld.2.trans' f5).size)
 refine hK.out _ _ ?_ (fun hHeld => ?_)
 ·((try dsimp only) <;> (first | exact hHeld | exact ⟨⟨keep_fr f5 hHeld.1.1,HLD.out _ _ (keep_fr f5 hHeld.1.1)⟩,hHeld.2.trans' f5⟩))
 clear hK K
 try (simp only [Act.put,aST]; dsimp only [aS0,aS1])
 refine rtake 9 ?_
 refine rone 10 fun K hK => ?_
 go_simp
 refine hK.out _ _ ?_ (fun hHeld => ?_)
 ·((try dsimp only) <;> (first | exact hHeld | exact ⟨⟨keep_alloc hHeld.1.1,HLD.out _ _ (keep_alloc hHeld.1.1)⟩,hHeld.2.alloc _⟩))
 clear hK K
 try (simp only [Act.put,aST]; dsimp only [aS0,aS1])
 refine rtake 11 ?_
 refine rdone ?_
 all_goals
  clear r1 F
  have rq := heap_alloc_new w5 (.cells B 77)
  generalize hWW : w5.alloc (.cells B 77) = W at *
  obtain ⟨q,hq⟩ : ∃ q,w5.heap.size = q := ⟨_,rfl⟩
  rw [hq] at rq z5 ⊢
  clear hWW hq
  obtain ⟨⟨r1,_⟩,F⟩ := hHeld
  have HQ := Lib.hid (And.intro (Array.getElem?_eq_some_iff.1 rq).1 (And.intro z5 (And.intro F.size (Array.getElem?_eq_some_iff.1 r1).1)))
  go_upto_region 5 with fail
  refine rbegin (S := (fun w' => (w'.heap[g1]? = some (.cells R 29 (0,0)) ∧ w'.heap[q]? = some (.cells B 77 (0,0)) ∧ (loadRowAt 25 (.pointer (some ⟨q,68,none⟩))).run Tryz.prog w' = .ok (.agg X) w') ∧ Fr F0 W w')) ?_ fun hHeld => ?_
  ·((try dsimp only) <;> (exact ⟨⟨r1,rq,HLH.out _ _ rq⟩,(Fr.refl F0 W).drew⟩))
  refine rtake 0 ?_
  refine rtake 2 ?_
  refine rtake 3 ?_
  refine rtake 4 ?_
  refine rtake 5 ?_
  refine rtake 6 ?_
  refine rtake 9 ?_
  refine rtake 10 ?_
  refine rtake 11 ?_
  refine rtake 12 ?_
  refine wpAnyH_ready (rs := [1,13]) (by kernel_rfl) (by simp) ?_
  refine AllReadyH.cons (o := ⟨_,_,_,_,_,_⟩) rfl (fun K hK => ?_) (AllReadyH.cons (o := ⟨_,_,_,_,_,_⟩) rfl (fun K hK => ?_) AllReadyH.nil)
  go_simp
  refine hK.out _ _ ?_ (fun hHeld => ?_)
  ·((try dsimp only) <;> (first | exact hHeld | exact ⟨⟨keep_alloc hHeld.1.1,keep_alloc hHeld.1.2.1,HLH.out _ _ (keep_alloc hHeld.1.2.1)⟩,hHeld.2.alloc _⟩ | exact ⟨⟨setB_keep _ (by first | exact heap_alloc_new _ _ | exact keep_alloc (heap_alloc_new _ _) | exact heap_alloc_at _ _ (by simp)) hHeld.1.1 (by have := HQ.out; omega),setB_keep _ (by first | exact heap_alloc_new _ _ | exact keep_alloc (heap_alloc_new _ _) | exact heap_alloc_at _ _ (by simp)) hHeld.1.2.1 (by have := HQ.out; omega),HLH.out _ _ (setB_keep _ (by first | exact heap_alloc_new _ _ | exact keep_alloc (heap_alloc_new _ _) | exact heap_alloc_at _ _ (by simp)) hHeld.1.2.1 (by have := HQ.out; omega))⟩,hHeld.2.trans (setBlock_fr (by first | exact heap_alloc_new _ _ | exact keep_alloc (heap_alloc_new _ _) | exact heap_alloc_at _ _ (by simp)) _) (fun i hi e => by have := HQ.out; omega)⟩))
  clear hK K
  try (simp only [Act.put,aST]; dsimp only [aS0,aS1])
  refine wpAnyH_ready (rs := [7,13]) (by kernel_rfl) (by simp) ?_
  refine AllReadyH.cons (o := ⟨_,_,_,_,_,_⟩) rfl (fun K hK => ?_) (AllReadyH.cons (o := ⟨_,_,_,_,_,_⟩) rfl (fun K hK => ?_) AllReadyH.nil)
  go_simp
  refine hK.out _ _ ?_ (fun hHeld => ?_)
  ·((try dsimp only) <;> (first | exact hHeld | exact ⟨⟨keep_alloc hHeld.1.1,keep_alloc hHeld.1.2.1,HLH.out _ _ (keep_alloc hHeld.1.2.1)⟩,hHeld.2.alloc _⟩ | exact ⟨⟨setB_keep _ (by first | exact heap_alloc_new _ _ | exact keep_alloc (heap_alloc_new _ _) | exact heap_alloc_at _ _ (by simp)) hHeld.1.1 (by have := HQ.out; omega),setB_keep _ (by first | exact heap_alloc_new _ _ | exact keep_alloc (heap_alloc_new _ _) | exact heap_alloc_at _ _ (by simp)) hHeld.1.2.1 (by have := HQ.out; omega),HLH.out _ _ (setB_keep _ (by first | exact heap_alloc_new _ _ | exact keep_alloc (heap_alloc_new _ _) | exact heap_alloc_at _ _ (by simp)) hHeld.1.2.1 (by have := HQ.out; omega))⟩,hHeld.2.trans (setBlock_fr (by first | exact heap_alloc_new _ _ | exact keep_alloc (heap_alloc_new _ _) | exact heap_alloc_at _ _ (by simp)) _) (fun i hi e => by have := HQ.out; omega)⟩))
  clear hK K
  try (simp only [Act.put,aST]; dsimp only [aS0,aS1])
  refine rtake 8 ?_
  refine rone 13 fun K hK => ?_
  go_simp
  refine hK.out _ _ ?_ (fun hHeld => ?_)
  ·((try dsimp only) <;> (first | exact hHeld | exact ⟨⟨keep_alloc hHeld.1.1,keep_alloc hHeld.1.2.1,HLH.out _ _ (keep_alloc hHeld.1.2.1)⟩,hHeld.2.alloc _⟩ | exact ⟨⟨setB_keep _ (by first | exact heap_alloc_new _ _ | exact keep_alloc (heap_alloc_new _ _) | exact heap_alloc_at _ _ (by simp)) hHeld.1.1 (by have := HQ.out; omega),setB_keep _ (by first | exact heap_alloc_new _ _ | exact keep_alloc (heap_alloc_new _ _) | exact heap_alloc_at _ _ (by simp)) hHeld.1.2.1 (by have := HQ.out; omega),HLH.out _ _ (setB_keep _ (by first | exact heap_alloc_new _ _ | exact keep_alloc (heap_alloc_new _ _) | exact heap_alloc_at _ _ (by simp)) hHeld.1.2.1 (by have := HQ.out; omega))⟩,hHeld.2.trans (setBlock_fr (by first | exact heap_alloc_new _ _ | exact keep_alloc (heap_alloc_new _ _) | exact heap_alloc_at _ _ (by simp)) _) (fun i hi e => by have := HQ.out; omega)⟩))
  clear hK K
  try (simp only [Act.put,aST]; dsimp only [aS0,aS1])
  refine rtake 14 ?_
  refine rone 15 fun K hK => ?_
  go_simp
  refine hK.out _ _ ?_ (fun hHeld => ?_)
  ·((try dsimp only) <;> (first | exact hHeld | exact ⟨⟨keep_alloc hHeld.1.1,keep_alloc hHeld.1.2.1,HLH.out _ _ (keep_alloc hHeld.1.2.1)⟩,hHeld.2.alloc _⟩ | exact ⟨⟨setB_keep _ (by first | exact heap_alloc_new _ _ | exact keep_alloc (heap_alloc_new _ _) | exact heap_alloc_at _ _ (by simp)) hHeld.1.1 (by have := HQ.out; omega),setB_keep _ (by first | exact heap_alloc_new _ _ | exact keep_alloc (heap_alloc_new _ _) | exact heap_alloc_at _ _ (by simp)) hHeld.1.2.1 (by have := HQ.out; omega),HLH.out _ _ (setB_keep _ (by first | exact heap_alloc_new _ _ | exact keep_alloc (heap_alloc_new _ _) | exact heap_alloc_at _ _ (by simp)) hHeld.1.2.1 (by have := HQ.out; omega))⟩,hHeld.2.trans (setBlock_fr (by first | exact heap_alloc_new _ _ | exact keep_alloc (heap_alloc_new _ _) | exact heap_alloc_at _ _ (by simp)) _) (fun i hi e => by have := HQ.out; omega)⟩))
  clear hK K
  try (simp only [Act.put,aST]; dsimp only [aS0,aS1])
  refine rtake 16 ?_
  refine rtake 17 ?_
  refine rdone ?_
  rotate_left
  go_simp
  refine hK.out _ _ ?_ (fun hHeld => ?_)
  ·((try dsimp only) <;> (first | exact hHeld | exact ⟨⟨keep_alloc hHeld.1.1,keep_alloc hHeld.1.2.1,HLH.out _ _ (keep_alloc hHeld.1.2.1)⟩,hHeld.2.alloc _⟩ | exact ⟨⟨setB_keep _ (by first | exact heap_alloc_new _ _ | exact keep_alloc (heap_alloc_new _ _) | exact heap_alloc_at _ _ (by simp)) hHeld.1.1 (by have := HQ.out; omega),setB_keep _ (by first | exact heap_alloc_new _ _ | exact keep_alloc (heap_alloc_new _ _) | exact heap_alloc_at _ _ (by simp)) hHeld.1.2.1 (by have := HQ.out; omega),HLH.out _ _ (setB_keep _ (by first | exact heap_alloc_new _ _ | exact keep_alloc (heap_alloc_new _ _) | exact heap_alloc_at _ _ (by simp)) hHeld.1.2.1 (by have := HQ.out; omega))⟩,hHeld.2.trans (setBlock_fr (by first | exact heap_alloc_new _ _ | exact keep_alloc (heap_alloc_new _ _) | exact heap_alloc_at _ _ (by simp)) _) (fun i hi e => by have := HQ.out; omega)⟩))
  clear hK K
  try (simp only [Act.put,aST]; dsimp only [aS0,aS1])
  refine rone 7 fun K hK => ?_
  go_simp
  refine hK.out _ _ ?_ (fun hHeld => ?_)
  ·((try dsimp only) <;> (first | exact hHeld | exact ⟨⟨keep_alloc hHeld.1.1,keep_alloc hHeld.1.2.1,HLH.out _ _ (keep_alloc hHeld.1.2.1)⟩,hHeld.2.alloc _⟩ | exact ⟨⟨setB_keep _ (by first | exact heap_alloc_new _ _ | exact keep_alloc (heap_alloc_new _ _) | exact heap_alloc_at _ _ (by simp)) hHeld.1.1 (by have := HQ.out; omega),setB_keep _ (by first | exact heap_alloc_new _ _ | exact keep_alloc (heap_alloc_new _ _) | exact heap_alloc_at _ _ (by simp)) hHeld.1.2.1 (by have := HQ.out; omega),HLH.out _ _ (setB_keep _ (by first | exact heap_alloc_new _ _ | exact keep_alloc (heap_alloc_new _ _) | exact heap_alloc_at _ _ (by simp)) hHeld.1.2.1 (by have := HQ.out; omega))⟩,hHeld.2.trans (setBlock_fr (by first | exact heap_alloc_new _ _ | exact keep_alloc (heap_alloc_new _ _) | exact heap_alloc_at _ _ (by simp)) _) (fun i hi e => by have := HQ.out; omega)⟩))
  clear hK K
  try (simp only [Act.put,aST]; dsimp only [aS0,aS1])
  refine rtake 8 ?_
  refine rtake 14 ?_
  refine rone 15 fun K hK => ?_
  go_simp
  refine hK.out _ _ ?_ (fun hHeld => ?_)
  ·((try dsimp only) <;> (first | exact hHeld | exact ⟨⟨keep_alloc hHeld.1.1,keep_alloc hHeld.1.2.1,HLH.out _ _ (keep_alloc hHeld.1.2.1)⟩,hHeld.2.alloc _⟩ | exact ⟨⟨setB_keep _ (by first | exact heap_alloc_new _ _ | exact keep_alloc (heap_alloc_new _ _) | exact heap_alloc_at _ _ (by simp)) hHeld.1.1 (by have := HQ.out; omega),setB_keep _ (by first | exact heap_alloc_new _ _ | exact keep_alloc (heap_alloc_new _ _) | exact heap_alloc_at _ _ (by simp)) hHeld.1.2.1 (by have := HQ.out; omega),HLH.out _ _ (setB_keep _ (by first | exact heap_alloc_new _ _ | exact keep_alloc (heap_alloc_new _ _) | exact heap_alloc_at _ _ (by simp)) hHeld.1.2.1 (by have := HQ.out; omega))⟩,hHeld.2.trans (setBlock_fr (by first | exact heap_alloc_new _ _ | exact keep_alloc (heap_alloc_new _ _) | exact heap_alloc_at _ _ (by simp)) _) (fun i hi e => by have := HQ.out; omega)⟩))
  clear hK K
  try (simp only [Act.put,aST]; dsimp only [aS0,aS1])
  refine rtake 16 ?_
  refine rtake 17 ?_
  refine rdone ?_
  rotate_left
  go_simp
  refine hK.out _ _ ?_ (fun hHeld => ?_)
  ·((try dsimp only) <;> (first | exact hHeld | exact ⟨⟨keep_alloc hHeld.1.1,keep_alloc hHeld.1.2.1,HLH.out _ _ (keep_alloc hHeld.1.2.1)⟩,hHeld.2.alloc _⟩ | exact ⟨⟨setB_keep _ (by first | exact heap_alloc_new _ _ | exact keep_alloc (heap_alloc_new _ _) | exact heap_alloc_at _ _ (by simp)) hHeld.1.1 (by have := HQ.out; omega),setB_keep _ (by first | exact heap_alloc_new _ _ | exact keep_alloc (heap_alloc_new _ _) | exact heap_alloc_at _ _ (by simp)) hHeld.1.2.1 (by have := HQ.out; omega),HLH.out _ _ (setB_keep _ (by first | exact heap_alloc_new _ _ | exact keep_alloc (heap_alloc_new _ _) | exact heap_alloc_at _ _ (by simp)) hHeld.1.2.1 (by have := HQ.out; omega))⟩,hHeld.2.trans (setBlock_fr (by first | exact heap_alloc_new _ _ | exact keep_alloc (heap_alloc_new _ _) | exact heap_alloc_at _ _ (by simp)) _) (fun i hi e => by have := HQ.out; omega)⟩))
  clear hK K
  try (simp only [Act.put,aST]; dsimp only [aS0,aS1])
  refine rone 1 fun K hK => ?_
  go_simp
  refine hK.out _ _ ?_ (fun hHeld => ?_)
  ·((try dsimp only) <;> (first | exact hHeld | exact ⟨⟨keep_alloc hHeld.1.1,keep_alloc hHeld.1.2.1,HLH.out _ _ (keep_alloc hHeld.1.2.1)⟩,hHeld.2.alloc _⟩ | exact ⟨⟨setB_keep _ (by first | exact heap_alloc_new _ _ | exact keep_alloc (heap_alloc_new _ _) | exact heap_alloc_at _ _ (by simp)) hHeld.1.1 (by have := HQ.out; omega),setB_keep _ (by first | exact heap_alloc_new _ _ | exact keep_alloc (heap_alloc_new _ _) | exact heap_alloc_at _ _ (by simp)) hHeld.1.2.1 (by have := HQ.out; omega),HLH.out _ _ (setB_keep _ (by first | exact heap_alloc_new _ _ | exact keep_alloc (heap_alloc_new _ _) | exact heap_alloc_at _ _ (by simp)) hHeld.1.2.1 (by have := HQ.out; omega))⟩,hHeld.2.trans (setBlock_fr (by first | exact heap_alloc_new _ _ | exact keep_alloc (heap_alloc_new _ _) | exact heap_alloc_at _ _ (by simp)) _) (fun i hi e => by have := HQ.out; omega)⟩))
  clear hK K
  try (simp only [Act.put,aST]; dsimp only [aS0,aS1])
  refine rone 7 fun K hK => ?_
  go_simp
  refine hK.out _ _ ?_ (fun hHeld => ?_)
  ·((try dsimp only) <;> (first | exact hHeld | exact ⟨⟨keep_alloc hHeld.1.1,keep_alloc hHeld.1.2.1,HLH.out _ _ (keep_alloc hHeld.1.2.1)⟩,hHeld.2.alloc _⟩ | exact ⟨⟨setB_keep _ (by first | exact heap_alloc_new _ _ | exact keep_alloc (heap_alloc_new _ _) | exact heap_alloc_at _ _ (by simp)) hHeld.1.1 (by have := HQ.out; omega),setB_keep _ (by first | exact heap_alloc_new _ _ | exact keep_alloc (heap_alloc_new _ _) | exact heap_alloc_at _ _ (by simp)) hHeld.1.2.1 (by have := HQ.out; omega),HLH.out _ _ (setB_keep _ (by first | exact heap_alloc_new _ _ | exact keep_alloc (heap_alloc_new _ _) | exact heap_alloc_at _ _ (by simp)) hHeld.1.2.1 (by have := HQ.out; omega))⟩,hHeld.2.trans (setBlock_fr (by first | exact heap_alloc_new _ _ | exact keep_alloc (heap_alloc_new _ _) | exact heap_alloc_at _ _ (by simp)) _) (fun i hi e => by have := HQ.out; omega)⟩))
  clear hK K
  try (simp only [Act.put,aST]; dsimp only [aS0,aS1])
  refine rtake 8 ?_
  refine rtake 14 ?_
  refine rone 15 fun K hK => ?_
  go_simp
  refine hK.out _ _ ?_ (fun hHeld => ?_)
  ·((try dsimp only) <;> (first | exact hHeld | exact ⟨⟨keep_alloc hHeld.1.1,keep_alloc hHeld.1.2.1,HLH.out _ _ (keep_alloc hHeld.1.2.1)⟩,hHeld.2.alloc _⟩ | exact ⟨⟨setB_keep _ (by first | exact heap_alloc_new _ _ | exact keep_alloc (heap_alloc_new _ _) | exact heap_alloc_at _ _ (by simp)) hHeld.1.1 (by have := HQ.out; omega),setB_keep _ (by first | exact heap_alloc_new _ _ | exact keep_alloc (heap_alloc_new _ _) | exact heap_alloc_at _ _ (by simp)) hHeld.1.2.1 (by have := HQ.out; omega),HLH.out _ _ (setB_keep _ (by first | exact heap_alloc_new _ _ | exact keep_alloc (heap_alloc_new _ _) | exact heap_alloc_at _ _ (by simp)) hHeld.1.2.1 (by have := HQ.out; omega))⟩,hHeld.2.trans (setBlock_fr (by first | exact heap_alloc_new _ _ | exact keep_alloc (heap_alloc_new _ _) | exact heap_alloc_at _ _ (by simp)) _) (fun i hi e => by have := HQ.out; omega)⟩))
  clear hK K
  try (simp only [Act.put,aST]; dsimp only [aS0,aS1])
  refine rtake 16 ?_
  refine rtake 17 ?_
  refine rdone ?_
  rotate_left
  all_goals
   clear r1 rq
   have HH := Lib.hid hHeld
   clear hHeld
   go_wp2_with fail
   go_ret2
   obtain ⟨⟨h1,h2,_⟩,f⟩ := HH.out
   refine ⟨⟨_,_,q,_,rfl,HTM.out _ _ _ q _ (heap_alloc_at _ _ (by simp)) ?_ h2 ?_,?_,?_,HQ.out.2.1,?_⟩,F.trans' f⟩
   ·repeat (first | exact ChangeMaps.heap_setBlock_same (by first | exact heap_alloc_new _ _ | exact keep_alloc (heap_alloc_new _ _) | exact heap_alloc_at _ _ (by simp)) _ | refine keep_alloc ?_)
   ·repeat (first | exact heap_alloc_new _ _ | exact heap_alloc_at _ _ (by simp) | refine keep_alloc ?_ | refine setB_keep _ (by first | exact heap_alloc_new _ _ | exact keep_alloc (heap_alloc_new _ _) | exact heap_alloc_at _ _ (by simp)) ?_ (by simp))
   all_goals
    have := HQ.out
    (try simp only [setB_size,drew_size,World.size_alloc])
    omega
end Go.Proofs.YtedffdlkmpmdlaaGreatDoor
namespace Go.Proofs.YtedffdlkmpmdlaaGreatDoor
set_option maxRecDepth 100000
set_option linter.unusedVariables false
set_option linter.unusedSimpArgs false
open Go.RowKit
theorem ka3 {s1 s2 s4 s5 s6 s7 s8 s9 s10 s11 s12 s13 s14 s15 s16 s17 s18 s19 s20 s21 s22 s23 s24 s25 s26 s27 s28 s29 s30 s31 s32 s33 s34 s35 s36 s37 s38 s39 s40 s41 s42 s43 s44 s45 s46 s47 s48 s49 s50 s51 s52 s53 s54 s55 s56 s57 s58 s59 s60 s61 s62 s63 s64 s65 s66 s67 s68 s69 s70 s71 s72 s73 s74 s75 s76 s77 s78 : Value} {K : Act → World → Prop} {Q : Exit → Act → World → Prop} (w w3 : World) (C X HL HA : Array Value) (V : Value) (p bm g3 : Nat) (HC : RowKit.Hid (Cub w)) (H1 : RowKit.Hid (∀ w : World,Cub w → Calls Tryz.prog 22 #[.agg X] w fun e w' => e = .returned (.agg HL) ∧ Fr F0 w w')) (H2 : RowKit.Hid (∀ W : World,W.heap[g3]? = some (.cells X 27 (0,0)) → (loadRowAt 25 (.pointer (some ⟨g3,1,none⟩))).run Tryz.prog W = .ok (.agg HA) W)) (H3 : RowKit.Hid (∀ W : World,Fr F0 w W → (lookK (.map (some bm)) (.agg HA) false).run Tryz.prog W = .ok V W)) (sC : C.size = 75) (c72 : C[72]? = some (.map (some bm))) (k72 : 72 < C.size) (d72 : C[72] = .map (some bm)) (sX : X.size = 68) (sH : HL.size = 32) (oH : rowOne HL) (r1 : w3.heap[p]? = some (.cells C 80 (0,0))) (r3 : w3.heap[g3]? = some (.cells X 27 (0,0))) (F : Fr F0 w w3)
  (hK : RowKit.Hid (∀ {u5 u6 u11 u12 u13 u14 u15 u16 u17 u18 u19 : Value} {w' : World},((∃ g5 : Nat,u5 = .pointer (some ⟨g5,0,none⟩) ∧ w'.heap[g5]? = some (.cells HL 25 (0,0)) ∧ w.heap.size ≤ g5) ∧ u6 = V ∧ w'.heap[p]? = some (.cells C 80 (0,0)) ∧ w'.heap[g3]? = some (.cells X 27 (0,0)) ∧ Fr F0 w w') → K ⟨#[.pointer (some ⟨p,0,none⟩),s1,s2,.pointer (some ⟨g3,0,none⟩),s4,u5,u6,s7,s8,s9,s10,u11,u12,u13,u14,u15,u16,u17,u18,u19,s20,s21,s22,s23,s24,s25,s26,s27,s28,s29,s30,s31,s32,s33,s34,s35,s36,s37,s38,s39,s40,s41,s42,s43,s44,s45,s46,s47,s48,s49,s50,s51,s52,s53,s54,s55,s56,s57,s58,s59,s60,s61,s62,s63,s64,s65,s66,s67,s68,s69,s70,s71,s72,s73,s74,s75,s76,s77,s78],[]⟩ w')) :
  Code.wp Tryz.prog ((Tryz.f12.body.bind (findRegion 3)).getD .skip) (Exit.then K Q) ⟨#[.pointer (some ⟨p,0,none⟩),s1,s2,.pointer (some ⟨g3,0,none⟩),s4,s5,s6,s7,s8,s9,s10,s11,s12,s13,s14,s15,s16,s17,s18,s19,s20,s21,s22,s23,s24,s25,s26,s27,s28,s29,s30,s31,s32,s33,s34,s35,s36,s37,s38,s39,s40,s41,s42,s43,s44,s45,s46,s47,s48,s49,s50,s51,s52,s53,s54,s55,s56,s57,s58,s59,s60,s61,s62,s63,s64,s65,s66,s67,s68,s69,s70,s71,s72,s73,s74,s75,s76,s77,s78],[]⟩ w3 := by
 conv => arg 2; whnf
 have HG := Lib.hid (And.intro (Array.getElem?_eq_some_iff.1 r1).1 (And.intro (Array.getElem?_eq_some_iff.1 r3).1 F.size))
 refine rbegin (S := (fun w' => (w'.heap[p]? = some (.cells C 80 (0,0)) ∧ w'.heap[g3]? = some (.cells X 27 (0,0)) ∧ (loadRowAt 25 (.pointer (some ⟨g3,1,none⟩))).run Tryz.prog w' = .ok (.agg HA) w' ∧ (lookK (.map (some bm)) (.agg HA) false).run Tryz.prog w' = .ok V w') ∧ Fr F0 w w')) ?_ fun hHeld => ?_
 ·((try dsimp only) <;> (exact ⟨⟨r1,r3,H2.out _ r3,H3.out _ F.drew⟩,F.drew⟩))
 refine rtake 0 ?_
 refine rtake 2 ?_
 refine rtake 3 ?_
 refine rtake 4 ?_
 refine rtake 5 ?_
 refine rtake 6 ?_
 refine rtake 7 ?_
 refine rtake 8 ?_
 refine wpAnyH_ready (rs := [1,9]) (by kernel_rfl) (by simp) ?_
 refine AllReadyH.cons (o := ⟨_,_,_,_,_,_⟩) rfl (fun K hK => ?_) (AllReadyH.cons (o := ⟨_,_,_,_,_,_⟩) rfl (fun K hK => ?_) AllReadyH.nil)
 go_simp
 ((with_reducible refine (H1.out _ (HC.out.fr hHeld.2 fun f => f)).mono ?_); rintro e w5 ⟨rfl,f5⟩; have z5 := f5.size; (try simp only [World.size_alloc,heap_drew'] at z5))
 refine hK.out _ _ ?_ (fun hHeld => ?_)
 ·((try dsimp only) <;> (first | exact hHeld | exact ⟨⟨keep_fr f5 hHeld.1.1,keep_fr f5 hHeld.1.2.1,H2.out _ (keep_fr f5 hHeld.1.2.1),H3.out _ (hHeld.2.trans' f5)⟩,hHeld.2.trans' f5⟩))
 clear hK K
 try (simp only [Act.put,aST]; dsimp only [aS0,aS1])
 refine rone 9 fun K hK => ?_
 go_simp
 refine hK.out _ _ ?_ (fun hHeld => ?_)
 ·((try dsimp only) <;> (first | exact hHeld | exact ⟨⟨keep_alloc hHeld.1.1,keep_alloc hHeld.1.2.1,H2.out _ (keep_alloc hHeld.1.2.1),H3.out _ (hHeld.2.alloc _)⟩,hHeld.2.alloc _⟩ | exact ⟨⟨keep_row (by have := HG.out; omega) hHeld.1.1,keep_row (by have := HG.out; omega) hHeld.1.2.1,H2.out _ (keep_row (by have := HG.out; omega) hHeld.1.2.1),H3.out _ (hHeld.2.setRow (fun h => by have := HG.out; omega) _)⟩,hHeld.2.setRow (fun h => by have := HG.out; omega) _⟩))
 clear hK K
 try (simp only [Act.put,aST]; dsimp only [aS0,aS1])
 refine rone 10 fun K hK => ?_
 go_simp
 (try (rw [rowIn_of (old := hc z32) (t' := 25) (by ((try rw [← Array.getElem?_eq_getElem]); repeat (first | exact heap_alloc_new _ _ | refine keep_alloc ?_ | refine keep_fr (by assumption) ?_))) (hc_size z32_length) sH oH]; go_simp))
 refine hK.out _ _ ?_ (fun hHeld => ?_)
 ·((try dsimp only) <;> (first | exact hHeld | exact ⟨⟨keep_alloc hHeld.1.1,keep_alloc hHeld.1.2.1,H2.out _ (keep_alloc hHeld.1.2.1),H3.out _ (hHeld.2.alloc _)⟩,hHeld.2.alloc _⟩ | exact ⟨⟨keep_row (by have := HG.out; omega) hHeld.1.1,keep_row (by have := HG.out; omega) hHeld.1.2.1,H2.out _ (keep_row (by have := HG.out; omega) hHeld.1.2.1),H3.out _ (hHeld.2.setRow (fun h => by have := HG.out; omega) _)⟩,hHeld.2.setRow (fun h => by have := HG.out; omega) _⟩))
 clear hK K
 try (simp only [Act.put,aST]; dsimp only [aS0,aS1])
 refine rtake 11 ?_
 refine rdone ?_
 rotate_left
 go_simp
 refine hK.out _ _ ?_ (fun hHeld => ?_)
 ·((try dsimp only) <;> (first | exact hHeld | exact ⟨⟨keep_alloc hHeld.1.1,keep_alloc hHeld.1.2.1,H2.out _ (keep_alloc hHeld.1.2.1),H3.out _ (hHeld.2.alloc _)⟩,hHeld.2.alloc _⟩ | exact ⟨⟨keep_row (by have := HG.out; omega) hHeld.1.1,keep_row (by have := HG.out; omega) hHeld.1.2.1,H2.out _ (keep_row (by have := HG.out; omega) hHeld.1.2.1),H3.out _ (hHeld.2.setRow (fun h => by have := HG.out; omega) _)⟩,hHeld.2.setRow (fun h => by have := HG.out; omega) _⟩))
 clear hK K
 try (simp only [Act.put,aST]; dsimp only [aS0,aS1])
 refine rone 1 fun K hK => ?_
 go_simp
 ((with_reducible refine (H1.out _ (HC.out.fr hHeld.2 fun f => f)).mono ?_); rintro e w5 ⟨rfl,f5⟩; have z5 := f5.size; (try simp only [World.size_alloc,heap_drew'] at z5))
 refine hK.out _ _ ?_ (fun hHeld => ?_)
 ·((try dsimp only) <;> (first | exact hHeld | exact ⟨⟨keep_fr f5 hHeld.1.1,keep_fr f5 hHeld.1.2.1,H2.out _ (keep_fr f5 hHeld.1.2.1),H3.out _ (hHeld.2.trans' f5)⟩,hHeld.2.trans' f5⟩))
 clear hK K
 try (simp only [Act.put,aST]; dsimp only [aS0,aS1])
 refine rone 10 fun K hK => ?_
 go_simp
 (try (rw [rowIn_of (old := hc z32) (t' := 25) (by ((try rw [← Array.getElem?_eq_getElem]); repeat (first | exact heap_alloc_new _ _ | refine keep_alloc ?_ | refine keep_fr (by assumption) ?_))) (hc_size z32_length) sH oH]; go_simp))
 refine hK.out _ _ ?_ (fun hHeld => ?_)
 ·((try dsimp only) <;> (first | exact hHeld | exact ⟨⟨keep_alloc hHeld.1.1,keep_alloc hHeld.1.2.1,H2.out _ (keep_alloc hHeld.1.2.1),H3.out _ (hHeld.2.alloc _)⟩,hHeld.2.alloc _⟩ | exact ⟨⟨keep_row (by have := HG.out; omega) hHeld.1.1,keep_row (by have := HG.out; omega) hHeld.1.2.1,H2.out _ (keep_row (by have := HG.out; omega) hHeld.1.2.1),H3.out _ (hHeld.2.setRow (fun h => by have := HG.out; omega) _)⟩,hHeld.2.setRow (fun h => by have := HG.out; omega) _⟩))
 clear hK K
 try (simp only [Act.put,aST]; dsimp only [aS0,aS1])
 refine rtake 11 ?_
 refine rdone ?_
 rotate_left
 all_goals
  refine hK.out ⟨⟨_,rfl,?_,?_⟩,rfl,hHeld.1.1,hHeld.1.2.1,hHeld.2⟩
  ·refine (new_row (z := hc z32) (t := 25) (f := (0,0)) ?_)
   repeat (first | exact heap_alloc_new _ _ | refine keep_alloc ?_ | refine keep_fr (by assumption) ?_)
  ·have := HG.out
   (try simp only [World.size_alloc,heap_drew'])
   omega
theorem ka16 {s0 s1 s2 s4 s5 s7 s8 s9 s10 s11 s12 s13 s14 s15 s16 s17 s18 s19 s20 s21 s22 s23 s24 s25 s26 s27 s28 s29 s30 s31 s32 s33 s34 s35 s36 s37 s38 s39 s40 s41 s42 s43 s44 s45 s46 s47 s48 s49 s50 s51 s52 s53 s54 s55 s56 s57 s58 s59 s60 s61 s62 s63 s64 s65 s66 s67 s68 s69 s70 s71 s72 s73 s74 s75 s76 s77 s78 : Value} {K : Act → World → Prop} {Q : Exit → Act → World → Prop} (w w3 : World) (X B : Array Value) (T x y z g3 q : Nat) (H1 : RowKit.Hid (∀ w : World,Calls Tryz.prog 33 #[.agg X] w fun e w' => e = .returned (.agg (rowN .u64 64 4 T)) ∧ Fr F0 w w')) (H2 : RowKit.Hid (∀ w : World,Calls Tryz.prog 32 #[.agg (rowN .u64 64 4 T)] w fun e w' => e = .returned (.agg (rowN .u64 64 4 y)) ∧ Fr F0 w w')) (H3 : RowKit.Hid (∀ w : World,Calls Tryz.prog 41 #[.agg (rowN .u64 64 4 x),.agg (rowN .u64 64 4 y)] w fun e w' => e = .returned (.tuple #[.agg (rowN .u64 64 4 z),.bool false]) ∧ Fr F0 w w')) (H4 : RowKit.Hid (∀ W : World,W.heap[q]? = some (.cells B 77 (0,0)) → (loadRowAt 73 (.pointer (some ⟨q,102,none⟩))).run Tryz.prog W = .ok (.agg (rowN .u64 64 4 x)) W)) (sB : B.size = 107) (sX : X.size = 68) (r2 : w3.heap[q]? = some (.cells B 77 (0,0))) (r3 : w3.heap[g3]? = some (.cells X 27 (0,0))) (F : Fr F0 w w3)
  (hK : RowKit.Hid (∀ {u7 u8 u55 u56 u57 u58 u59 u60 u61 u62 u63 u64 u65 : Value} {w' : World},((∃ g7 : Nat,u7 = .pointer (some ⟨g7,0,none⟩) ∧ w'.heap[g7]? = some (.cells (rowN .u64 64 4 z) 73 (0,0)) ∧ w.heap.size ≤ g7) ∧ Fr F0 w3 w') → K ⟨#[s0,s1,s2,.pointer (some ⟨g3,0,none⟩),s4,s5,.pointer (some ⟨q,0,none⟩),u7,u8,s9,s10,s11,s12,s13,s14,s15,s16,s17,s18,s19,s20,s21,s22,s23,s24,s25,s26,s27,s28,s29,s30,s31,s32,s33,s34,s35,s36,s37,s38,s39,s40,s41,s42,s43,s44,s45,s46,s47,s48,s49,s50,s51,s52,s53,s54,u55,u56,u57,u58,u59,u60,u61,u62,u63,u64,u65,s66,s67,s68,s69,s70,s71,s72,s73,s74,s75,s76,s77,s78],[]⟩ w')) :
  Code.wp Tryz.prog ((Tryz.f12.body.bind (findRegion 16)).getD .skip) (Exit.then K Q) ⟨#[s0,s1,s2,.pointer (some ⟨g3,0,none⟩),s4,s5,.pointer (some ⟨q,0,none⟩),s7,s8,s9,s10,s11,s12,s13,s14,s15,s16,s17,s18,s19,s20,s21,s22,s23,s24,s25,s26,s27,s28,s29,s30,s31,s32,s33,s34,s35,s36,s37,s38,s39,s40,s41,s42,s43,s44,s45,s46,s47,s48,s49,s50,s51,s52,s53,s54,s55,s56,s57,s58,s59,s60,s61,s62,s63,s64,s65,s66,s67,s68,s69,s70,s71,s72,s73,s74,s75,s76,s77,s78],[]⟩ w3 := by
 conv => arg 2; whnf
 have HG := Lib.hid (And.intro (Array.getElem?_eq_some_iff.1 r2).1 (And.intro (Array.getElem?_eq_some_iff.1 r3).1 F.size))
 have F9 := Fr.refl F0 w3
 refine rbegin (S := (fun w' => (w'.heap[q]? = some (.cells B 77 (0,0)) ∧ w'.heap[g3]? = some (.cells X 27 (0,0)) ∧ (loadRowAt 73 (.pointer (some ⟨q,102,none⟩))).run Tryz.prog w' = .ok (.agg (rowN .u64 64 4 x)) w') ∧ Fr F0 w3 w')) ?_ fun hHeld => ?_
 ·((try dsimp only) <;> (exact ⟨⟨r2,r3,H4.out _ r2⟩,F9.drew⟩))
 refine rtake 0 ?_
 refine rtake 1 ?_
 refine rtake 2 ?_
 refine rtake 3 ?_
 refine rtake 4 ?_
 refine wpAnyH_ready (rs := [5,11]) (by kernel_rfl) (by simp) ?_
 refine AllReadyH.cons (o := ⟨_,_,_,_,_,_⟩) rfl (fun K hK => ?_) (AllReadyH.cons (o := ⟨_,_,_,_,_,_⟩) rfl (fun K hK => ?_) AllReadyH.nil)
 go_simp
 ((with_reducible refine (H1.out _).mono ?_); rintro e w5 ⟨rfl,f5⟩; have z5 := f5.size; (try simp only [World.size_alloc,heap_drew'] at z5))
 refine hK.out _ _ ?_ (fun hHeld => ?_)
 ·((try dsimp only) <;> (first | exact hHeld | exact ⟨⟨keep_fr f5 hHeld.1.1,keep_fr f5 hHeld.1.2.1,H4.out _ (keep_fr f5 hHeld.1.1)⟩,hHeld.2.trans' f5⟩))
 clear hK K
 try (simp only [Act.put,aST]; dsimp only [aS0,aS1])
 refine wpAnyH_ready (rs := [6,11]) (by kernel_rfl) (by simp) ?_
 refine AllReadyH.cons (o := ⟨_,_,_,_,_,_⟩) rfl (fun K hK => ?_) (AllReadyH.cons (o := ⟨_,_,_,_,_,_⟩) rfl (fun K hK => ?_) AllReadyH.nil)
 go_simp
 ((with_reducible refine (H2.out _).mono ?_); rintro e w5 ⟨rfl,f5⟩; have z6 := f5.size; (try simp only [World.size_alloc,heap_drew'] at z6))
 refine hK.out _ _ ?_ (fun hHeld => ?_)
 ·((try dsimp only) <;> (first | exact hHeld | exact ⟨⟨keep_fr f5 hHeld.1.1,keep_fr f5 hHeld.1.2.1,H4.out _ (keep_fr f5 hHeld.1.1)⟩,hHeld.2.trans' f5⟩))
 clear hK K
 try (simp only [Act.put,aST]; dsimp only [aS0,aS1])
 refine wpAnyH_ready (rs := [7,11]) (by kernel_rfl) (by simp) ?_
 refine AllReadyH.cons (o := ⟨_,_,_,_,_,_⟩) rfl (fun K hK => ?_) (AllReadyH.cons (o := ⟨_,_,_,_,_,_⟩) rfl (fun K hK => ?_) AllReadyH.nil)
 go_simp
 ((with_reducible refine (H3.out _).mono ?_); rintro e w5 ⟨rfl,f5⟩; have z7 := f5.size; (try simp only [World.size_alloc,heap_drew'] at z7))
 refine hK.out _ _ ?_ (fun hHeld => ?_)
 ·((try dsimp only) <;> (first | exact hHeld | exact ⟨⟨keep_fr f5 hHeld.1.1,keep_fr f5 hHeld.1.2.1,H4.out _ (keep_fr f5 hHeld.1.1)⟩,hHeld.2.trans' f5⟩))
 clear hK K
 try (simp only [Act.put,aST]; dsimp only [aS0,aS1])
 refine rtake 8 ?_
 refine rtake 9 ?_
 refine rtake 10 ?_
 refine rone 11 fun K hK => ?_
 go_simp
 refine hK.out _ _ ?_ (fun hHeld => ?_)
 ·((try dsimp only) <;> (first | exact hHeld | exact ⟨⟨keep_alloc hHeld.1.1,keep_alloc hHeld.1.2.1,H4.out _ (keep_alloc hHeld.1.1)⟩,hHeld.2.alloc _⟩ | exact ⟨⟨keep_row (by have := HG.out; omega) hHeld.1.1,keep_row (by have := HG.out; omega) hHeld.1.2.1,H4.out _ (keep_row (by have := HG.out; omega) hHeld.1.1)⟩,hHeld.2.setRow (fun h => by have := HG.out; omega) _⟩))
 clear hK K
 try (simp only [Act.put,aST]; dsimp only [aS0,aS1])
 refine rone 12 fun K hK => ?_
 go_simp
 (try (rw [rowIn_of (old := rowN .u64 64 4 0) (t' := 73) (by ((try rw [← Array.getElem?_eq_getElem]); repeat (first | exact heap_alloc_new _ _ | refine keep_alloc ?_ | refine keep_fr (by assumption) ?_))) (rowN_size _ _ _ _) (rowN_size _ _ _ _) (rowN_rowOne _ _ _ _)]; go_simp))
 refine hK.out _ _ ?_ (fun hHeld => ?_)
 ·((try dsimp only) <;> (first | exact hHeld | exact ⟨⟨keep_alloc hHeld.1.1,keep_alloc hHeld.1.2.1,H4.out _ (keep_alloc hHeld.1.1)⟩,hHeld.2.alloc _⟩ | exact ⟨⟨keep_row (by have := HG.out; omega) hHeld.1.1,keep_row (by have := HG.out; omega) hHeld.1.2.1,H4.out _ (keep_row (by have := HG.out; omega) hHeld.1.1)⟩,hHeld.2.setRow (fun h => by have := HG.out; omega) _⟩))
 clear hK K
 try (simp only [Act.put,aST]; dsimp only [aS0,aS1])
 refine rtake 13 ?_
 refine rdone ?_
 rotate_left
 go_simp
 refine hK.out _ _ ?_ (fun hHeld => ?_)
 ·((try dsimp only) <;> (first | exact hHeld | exact ⟨⟨keep_alloc hHeld.1.1,keep_alloc hHeld.1.2.1,H4.out _ (keep_alloc hHeld.1.1)⟩,hHeld.2.alloc _⟩ | exact ⟨⟨keep_row (by have := HG.out; omega) hHeld.1.1,keep_row (by have := HG.out; omega) hHeld.1.2.1,H4.out _ (keep_row (by have := HG.out; omega) hHeld.1.1)⟩,hHeld.2.setRow (fun h => by have := HG.out; omega) _⟩))
 clear hK K
 try (simp only [Act.put,aST]; dsimp only [aS0,aS1])
 refine rone 7 fun K hK => ?_
 go_simp
 ((with_reducible refine (H3.out _).mono ?_); rintro e w5 ⟨rfl,f5⟩; have z7 := f5.size; (try simp only [World.size_alloc,heap_drew'] at z7))
 refine hK.out _ _ ?_ (fun hHeld => ?_)
 ·((try dsimp only) <;> (first | exact hHeld | exact ⟨⟨keep_fr f5 hHeld.1.1,keep_fr f5 hHeld.1.2.1,H4.out _ (keep_fr f5 hHeld.1.1)⟩,hHeld.2.trans' f5⟩))
 clear hK K
 try (simp only [Act.put,aST]; dsimp only [aS0,aS1])
 refine rtake 8 ?_
 refine rtake 9 ?_
 refine rtake 10 ?_
 refine rone 12 fun K hK => ?_
 go_simp
 (try (rw [rowIn_of (old := rowN .u64 64 4 0) (t' := 73) (by ((try rw [← Array.getElem?_eq_getElem]); repeat (first | exact heap_alloc_new _ _ | refine keep_alloc ?_ | refine keep_fr (by assumption) ?_))) (rowN_size _ _ _ _) (rowN_size _ _ _ _) (rowN_rowOne _ _ _ _)]; go_simp))
 refine hK.out _ _ ?_ (fun hHeld => ?_)
 ·((try dsimp only) <;> (first | exact hHeld | exact ⟨⟨keep_alloc hHeld.1.1,keep_alloc hHeld.1.2.1,H4.out _ (keep_alloc hHeld.1.1)⟩,hHeld.2.alloc _⟩ | exact ⟨⟨keep_row (by have := HG.out; omega) hHeld.1.1,keep_row (by have := HG.out; omega) hHeld.1.2.1,H4.out _ (keep_row (by have := HG.out; omega) hHeld.1.1)⟩,hHeld.2.setRow (fun h => by have := HG.out; omega) _⟩))
 clear hK K
 try (simp only [Act.put,aST]; dsimp only [aS0,aS1])
 refine rtake 13 ?_
 refine rdone ?_
 rotate_left
 go_simp
 refine hK.out _ _ ?_ (fun hHeld => ?_)
 ·((try dsimp only) <;> (first | exact hHeld | exact ⟨⟨keep_alloc hHeld.1.1,keep_alloc hHeld.1.2.1,H4.out _ (keep_alloc hHeld.1.1)⟩,hHeld.2.alloc _⟩ | exact ⟨⟨keep_row (by have := HG.out; omega) hHeld.1.1,keep_row (by have := HG.out; omega) hHeld.1.2.1,H4.out _ (keep_row (by have := HG.out; omega) hHeld.1.1)⟩,hHeld.2.setRow (fun h => by have := HG.out; omega) _⟩))
 clear hK K
 try (simp only [Act.put,aST]; dsimp only [aS0,aS1])
 refine rone 6 fun K hK => ?_
 go_simp
 ((with_reducible refine (H2.out _).mono ?_); rintro e w5 ⟨rfl,f5⟩; have z6 := f5.size; (try simp only [World.size_alloc,heap_drew'] at z6))
 refine hK.out _ _ ?_ (fun hHeld => ?_)
 ·((try dsimp only) <;> (first | exact hHeld | exact ⟨⟨keep_fr f5 hHeld.1.1,keep_fr f5 hHeld.1.2.1,H4.out _ (keep_fr f5 hHeld.1.1)⟩,hHeld.2.trans' f5⟩))
 clear hK K
 try (simp only [Act.put,aST]; dsimp only [aS0,aS1])
 refine rone 7 fun K hK => ?_
 go_simp
 ((with_reducible refine (H3.out _).mono ?_); rintro e w5 ⟨rfl,f5⟩; have z7 := f5.size; (try simp only [World.size_alloc,heap_drew'] at z7))
 refine hK.out _ _ ?_ (fun hHeld => ?_)
 ·((try dsimp only) <;> (first | exact hHeld | exact ⟨⟨keep_fr f5 hHeld.1.1,keep_fr f5 hHeld.1.2.1,H4.out _ (keep_fr f5 hHeld.1.1)⟩,hHeld.2.trans' f5⟩))
 clear hK K
 try (simp only [Act.put,aST]; dsimp only [aS0,aS1])
 refine rtake 8 ?_
 refine rtake 9 ?_
 refine rtake 10 ?_
 refine rone 12 fun K hK => ?_
 go_simp
 (try (rw [rowIn_of (old := rowN .u64 64 4 0) (t' := 73) (by ((try rw [← Array.getElem?_eq_getElem]); repeat (first | exact heap_alloc_new _ _ | refine keep_alloc ?_ | refine keep_fr (by assumption) ?_))) (rowN_size _ _ _ _) (rowN_size _ _ _ _) (rowN_rowOne _ _ _ _)]; go_simp))
 refine hK.out _ _ ?_ (fun hHeld => ?_)
 ·((try dsimp only) <;> (first | exact hHeld | exact ⟨⟨keep_alloc hHeld.1.1,keep_alloc hHeld.1.2.1,H4.out _ (keep_alloc hHeld.1.1)⟩,hHeld.2.alloc _⟩ | exact ⟨⟨keep_row (by have := HG.out; omega) hHeld.1.1,keep_row (by have := HG.out; omega) hHeld.1.2.1,H4.out _ (keep_row (by have := HG.out; omega) hHeld.1.1)⟩,hHeld.2.setRow (fun h => by have := HG.out; omega) _⟩))
 clear hK K
 try (simp only [Act.put,aST]; dsimp only [aS0,aS1])
 refine rtake 13 ?_
 refine rdone ?_
 rotate_left
 go_simp
 refine hK.out _ _ ?_ (fun hHeld => ?_)
 ·((try dsimp only) <;> (first | exact hHeld | exact ⟨⟨keep_alloc hHeld.1.1,keep_alloc hHeld.1.2.1,H4.out _ (keep_alloc hHeld.1.1)⟩,hHeld.2.alloc _⟩ | exact ⟨⟨keep_row (by have := HG.out; omega) hHeld.1.1,keep_row (by have := HG.out; omega) hHeld.1.2.1,H4.out _ (keep_row (by have := HG.out; omega) hHeld.1.1)⟩,hHeld.2.setRow (fun h => by have := HG.out; omega) _⟩))
 clear hK K
 try (simp only [Act.put,aST]; dsimp only [aS0,aS1])
 refine rone 5 fun K hK => ?_
 go_simp
 ((with_reducible refine (H1.out _).mono ?_); rintro e w5 ⟨rfl,f5⟩; have z5 := f5.size; (try simp only [World.size_alloc,heap_drew'] at z5))
 refine hK.out _ _ ?_ (fun hHeld => ?_)
 ·((try dsimp only) <;> (first | exact hHeld | exact ⟨⟨keep_fr f5 hHeld.1.1,keep_fr f5 hHeld.1.2.1,H4.out _ (keep_fr f5 hHeld.1.1)⟩,hHeld.2.trans' f5⟩))
 clear hK K
 try (simp only [Act.put,aST]; dsimp only [aS0,aS1])
 refine rone 6 fun K hK => ?_
 go_simp
 ((with_reducible refine (H2.out _).mono ?_); rintro e w5 ⟨rfl,f5⟩; have z6 := f5.size; (try simp only [World.size_alloc,heap_drew'] at z6))
 refine hK.out _ _ ?_ (fun hHeld => ?_)
 ·((try dsimp only) <;> (first | exact hHeld | exact ⟨⟨keep_fr f5 hHeld.1.1,keep_fr f5 hHeld.1.2.1,H4.out _ (keep_fr f5 hHeld.1.1)⟩,hHeld.2.trans' f5⟩))
 clear hK K
 try (simp only [Act.put,aST]; dsimp only [aS0,aS1])
 refine rone 7 fun K hK => ?_
 go_simp
 ((with_reducible refine (H3.out _).mono ?_); rintro e w5 ⟨rfl,f5⟩; have z7 := f5.size; (try simp only [World.size_alloc,heap_drew'] at z7))
 refine hK.out _ _ ?_ (fun hHeld => ?_)
 ·((try dsimp only) <;> (first | exact hHeld | exact ⟨⟨keep_fr f5 hHeld.1.1,keep_fr f5 hHeld.1.2.1,H4.out _ (keep_fr f5 hHeld.1.1)⟩,hHeld.2.trans' f5⟩))
 clear hK K
 try (simp only [Act.put,aST]; dsimp only [aS0,aS1])
 refine rtake 8 ?_
 refine rtake 9 ?_
 refine rtake 10 ?_
 refine rone 12 fun K hK => ?_
 go_simp
 (try (rw [rowIn_of (old := rowN .u64 64 4 0) (t' := 73) (by ((try rw [← Array.getElem?_eq_getElem]); repeat (first | exact heap_alloc_new _ _ | refine keep_alloc ?_ | refine keep_fr (by assumption) ?_))) (rowN_size _ _ _ _) (rowN_size _ _ _ _) (rowN_rowOne _ _ _ _)]; go_simp))
 refine hK.out _ _ ?_ (fun hHeld => ?_)
 ·((try dsimp only) <;> (first | exact hHeld | exact ⟨⟨keep_alloc hHeld.1.1,keep_alloc hHeld.1.2.1,H4.out _ (keep_alloc hHeld.1.1)⟩,hHeld.2.alloc _⟩ | exact ⟨⟨keep_row (by have := HG.out; omega) hHeld.1.1,keep_row (by have := HG.out; omega) hHeld.1.2.1,H4.out _ (keep_row (by have := HG.out; omega) hHeld.1.1)⟩,hHeld.2.setRow (fun h => by have := HG.out; omega) _⟩))
 clear hK K
 try (simp only [Act.put,aST]; dsimp only [aS0,aS1])
 refine rtake 13 ?_
 refine rdone ?_
 rotate_left
 all_goals
  refine hK.out ⟨⟨_,rfl,?_,?_⟩,hHeld.2⟩
  ·refine (new_row (z := rowN .u64 64 4 0) (t := 73) (f := (0,0)) ?_)
   repeat (first | exact heap_alloc_new _ _ | refine keep_alloc ?_ | refine keep_fr (by assumption) ?_)
  ·have := HG.out
   (try simp only [World.size_alloc,heap_drew'])
   omega
end Go.Proofs.YtedffdlkmpmdlaaGreatDoor
namespace Go.Proofs.YtedffdlkmpmdlaaGreatDoor
set_option maxRecDepth 100000
set_option linter.unusedVariables false
set_option linter.unusedSimpArgs false
open Go.RowKit
def nbB (h : Hd) (v : Value) (i : Nat) : Bk := ⟨sha2 h.bytes,(i : Int),h.time,h.bits,v⟩
structure TB (L : List Bk) (e span limit : Nat) : Prop where
 bits : ∀ i,i < L.length → btP (bkT L i).bits
 next : ∀ i,i < L.length → btP (bitsM L e span limit i) ∧ btT (bitsM L e span limit i) ≤ btT limit ∧ workM L i + wkN (btT (bitsM L e span limit i)) < W256
theorem find_hd {h : Hd} (o : h.Ok) (W : World) (g : Nat) {t : TypeId} {f : Nat × Nat} (hg : W.heap[g]? = some (.cells h.cells t f)) : (loadRowAt 25 (.pointer (some ⟨g,1,none⟩))).run Tryz.prog W = .ok (.agg (hc h.ahead)) W :=
 load_midH o.ahead fun j u hj => by
  have hl : j < 32 := by have := (List.getElem?_eq_some_iff.1 hj).1; rw [List.length_map,o.ahead] at this; exact this
  rw [cell_of_row W g (1 + j) _ _ _ hg]
  have := Hd.range1 o
  have e := congrArg (fun l : List Value => l[j]?) this
  simp only [Array.getElem?_toList,Array.getElem?_extract] at e
  rw [if_pos (by have := Hd.cells_size o; omega)] at e
  rw [e]
  exact hj
theorem kAdd_any {w : World} {p : Nat} {R : Array Value} {bm : Nat} {H : List Hd} {L : List Bk} {ps : List Nat} {v : Value} {e span limit : Nat} (ri : RI R e span limit) (I : TI H L ps) (tb : TB L e span limit) (T : TM w p R bm H L ps v (chn L)) (h : Hd) (oh : h.Ok) (vb vc : Value) (ovb : vb.oneCell' = true) (hcub : Cub w) :
  Calls Tryz.prog 12 #[.pointer (some ⟨p,0,none⟩),.agg h.cells] w fun ed w' => ed = .returned (.int .i64 (chkE L e span limit (plainB h vc) h.ahead (mtH h))) ∧
   (chkE L e span limit (plainB h vc) h.ahead (mtH h) ≠ 0 → Fr F0 w w') ∧
   (chkE L e span limit (plainB h vc) h.ahead (mtH h) = 0 → ∃ i : Nat,findM L h.ahead = (i : Int) ∧ ∃ q v',NB H L ps i h (nbB h vb i) q ∧ TM w' p R bm (H ++ [h]) (L ++ [nbB h vb i]) (ps ++ [q]) v' (chn (L ++ [nbB h vb i])) ∧ w.heap.size ≤ q ∧ (∀ k,v'.ownBlock = some k → v.ownBlock = some k ∨ w.heap.size ≤ k) ∧ Fr (TS p bm ps v) w w') := by
 have HH := Lib.hid (hHashC h oh)
 have l32 : (sha2 h.bytes).length = 32 := by simp [sha2,sha_length]
 change Hid (∀ w,Cub w → Calls Tryz.prog 22 #[.agg h.cells] w fun e w' => e = .returned (.agg (hc (sha2 h.bytes))) ∧ Fr F0 w w') at HH
 have hR : R.size = 72 := by obtain ⟨c,hr⟩ := ri.of; exact hr.size
 have HI := Lib.hid (And.intro I (And.intro ri (And.intro tb hR)))
 have HT := Lib.hid T
 have HCub := Lib.hid hcub
 have HL1 := Lib.hid (fun W (f : Fr F0 w W) => (T.fr f).map.look I.h32 h.ahead oh.ahead)
 have HL2 := Lib.hid (fun W (f : Fr F0 w W) => (T.fr f).map.look I.h32 (sha2 h.bytes) l32)
 have HLA := Lib.hid (fun W g (hg : W.heap[g]? = some (.cells h.cells 27 (0,0))) => find_hd oh W g hg)
 have r1 := T.top
 have sC := treC_size (bm := bm) (v := v) (tips := tipsM L) hR
 have c72 := treC_72 (bm := bm) (v := v) (tips := tipsM L) hR
 generalize treC R bm v (tipsM L) = C at *
 have s72 : 72 < C.size := by omega
 have d72 := cell_is c72 s72
 have sX := Hd.cells_size oh
 have oX : rowOne h.cells := Hd.one
 have x65 := Hd.cell65 oh
 have x66 := Hd.cell66 oh
 have sH := hc_size l32
 have oH := hc_one (sha2 h.bytes)
 obtain ⟨X,hX⟩ : ∃ X,h.cells = X := ⟨_,rfl⟩
 obtain ⟨HL,hHL⟩ : ∃ HL,hc (sha2 h.bytes) = HL := ⟨_,rfl⟩
 obtain ⟨HA,hHA⟩ : ∃ HA,hc h.ahead = HA := ⟨_,rfl⟩
 rw [hX] at HH HLA sX oX x65 x66 ⊢
 rw [hHL] at HH HL2 sH oH
 rw [hHA] at HL1 HLA
 have HXX := Lib.hid (And.intro hX (And.intro hHL hHA))
 have s65 : 65 < X.size := by omega
 have d65 := cell_is x65 s65
 have s66 : 66 < X.size := by omega
 have d66 := cell_is x66 s66
 obtain ⟨E,hE⟩ : ∃ E,chkE L e span limit (plainB h vc) h.ahead (mtH h) = E := ⟨_,rfl⟩
 rw [hE]
 have HE := Lib.hid (show E = if 0 ≤ findM L (sha2 h.bytes) then 9 else if findM L h.ahead < 0 then 8 else mayE L e span limit (plainB h vc) (findM L h.ahead).toNat (mtH h) from by rw [← hE]; rfl)
 obtain ⟨z1,hz1⟩ : ∃ z1,findM L (sha2 h.bytes) = z1 := ⟨_,rfl⟩
 obtain ⟨z2,hz2⟩ : ∃ z2,findM L h.ahead = z2 := ⟨_,rfl⟩
 rw [hz1] at HE HL2
 rw [hz2] at HE HL1
 have hlt2 := findM_lt h.ahead L
 rw [hz2] at hlt2
 have HZ := Lib.hid (And.intro hz1 (And.intro hz2 hlt2))
 have HOH := Lib.hid oh
 have HOB := Lib.hid ovb
 have HL32 := Lib.hid l32
 clear T I ri tb hR hcub hX hHL hHA hE hz1 hz2 hlt2 oh ovb l32
 replace r1 := keep_alloc (o := .cells X 27) r1
 have r3 := heap_alloc_new w (.cells X 27)
 have F := (Fr.refl F0 w).alloc (.cells X 27)
 go_enter Tryz.func12,Tryz.ntmps12
 go_upto_region 3 with fail
 obtain ⟨W0,hW0⟩ : ∃ W,W = w.alloc (.cells X 27) := ⟨_,rfl⟩
 refine wp_of_world W0 hW0 ?_
 rw [← hW0] at r1 r3 F
 obtain ⟨g3,hg3⟩ : ∃ g,w.heap.size = g := ⟨_,rfl⟩
 rw [hg3] at r3 ⊢
 have HG3 := Lib.hid hg3
 clear hW0 hg3
 refine ka3 w W0 C X HL HA (ptV ps z2) p bm g3 HCub HH (Lib.hid fun W hW => HLA.out W g3 hW) HL1 sC c72 s72 d72 sX sH oH r1 r3 F (Lib.hid ?_)
 clear r1 r3 F
 rename_i w3
 rintro ⟨⟨g5,rfl,r5,hg5⟩,rfl,r1,r3,F⟩
 have HG5 := Lib.hid hg5
 clear hg5
 have h2 := HL2.out _ F.drew
 have hcase1 : (0 ≤ z1 ∧ ∃ k : Nat,ptV ps z1 = .pointer (some ⟨k,0,none⟩)) ∨ (¬ 0 ≤ z1 ∧ ptV ps z1 = .pointer none) := by
  by_cases hz : 0 ≤ z1
  ·obtain ⟨k,rfl⟩ := Int.eq_ofNat_of_zero_le hz
   exact .inl ⟨hz,_,ptV_some ps k⟩
  ·exact .inr ⟨hz,ptV_none ps (by omega)⟩
 have oV1 := ptV_one ps z1
 generalize ptV ps z1 = V1 at *
 rcases hcase1 with ⟨hz1,k1,rfl⟩ | ⟨hz1,rfl⟩
 ·have HX := Lib.hid (show E = 9 by rw [HE.out,if_pos hz1])
  go_upto_region 4 with fail
  refine rbegin (S := (fun w' => (w'.heap[p]? = some (.cells C 80 (0,0)) ∧ w'.heap[g3]? = some (.cells X 27 (0,0)) ∧ w'.heap[g5]? = some (.cells HL 25 (0,0)) ∧ (lookK (.map (some bm)) (.agg HL) false).run Tryz.prog w' = .ok (.pointer (some ⟨k1,0,none⟩)) w') ∧ Fr F0 w w')) ?_ fun hHeld => ?_
  ·((try dsimp only) <;> (exact ⟨⟨r1,r3,r5,h2⟩,F.drew⟩))
  refine rtake 0 ?_
  refine rtake 1 ?_
  refine rtake 2 ?_
  refine rtake 3 ?_
  refine rtake 4 ?_
  refine rone 5 fun K hK => ?_
  go_simp
  refine hK.out _ _ ?_ (fun hHeld => ?_)
  ·((try dsimp only) <;> (exact hHeld))
  clear hK K
  try (simp only [Act.put,aST]; dsimp only [aS0,aS1])
  refine rtake 6 ?_
  refine rtake 7 ?_
  refine rdone ?_
  all_goals
   clear r1 r3 r5 F h2
   obtain ⟨⟨r1,r3,r5,_⟩,F⟩ := hHeld
   generalize w3.drew = w4 at *
   go_wp2_with fail
   go_ret
   refine ⟨by rw [HX.out]; rfl,fun _ => F,fun h0 => ?_⟩
   rw [HX.out] at h0
   cases h0
 ·replace HE := Lib.hid (show E = if z2 < 0 then 8 else mayE L e span limit (plainB h vc) z2.toNat (mtH h) from by rw [HE.out,if_neg hz1])
  have HNEW := Lib.hid hz1
  clear hz1
  go_upto_region 4 with fail
  refine rbegin (S := (fun w' => (w'.heap[p]? = some (.cells C 80 (0,0)) ∧ w'.heap[g3]? = some (.cells X 27 (0,0)) ∧ w'.heap[g5]? = some (.cells HL 25 (0,0)) ∧ (lookK (.map (some bm)) (.agg HL) false).run Tryz.prog w' = .ok (.pointer none) w') ∧ Fr F0 w w')) ?_ fun hHeld => ?_
  ·((try dsimp only) <;> (exact ⟨⟨r1,r3,r5,h2⟩,F.drew⟩))
  refine rtake 0 ?_
  refine rtake 1 ?_
  refine rtake 2 ?_
  refine rtake 3 ?_
  refine rtake 4 ?_
  refine rone 5 fun K hK => ?_
  go_simp
  refine hK.out _ _ ?_ (fun hHeld => ?_)
  ·((try dsimp only) <;> (exact hHeld))
  clear hK K
  try (simp only [Act.put,aST]; dsimp only [aS0,aS1])
  refine rtake 6 ?_
  refine rtake 7 ?_
  refine rdone ?_
  all_goals
   clear r1 r3 r5 F h2
   obtain ⟨⟨r1,r3,r5,_⟩,F⟩ := hHeld
   generalize w3.drew = w4 at *
   by_cases hz2 : z2 < 0
   ·have HX := Lib.hid (show E = 8 by rw [HE.out,if_pos hz2])
    rw [ptV_none ps hz2]
    clear hz2
    go_wp2_with fail
    go_ret
    refine ⟨by rw [HX.out]; rfl,fun _ => F,fun h0 => ?_⟩
    rw [HX.out] at h0
    cases h0
   ·obtain ⟨i,rfl,hi⟩ : ∃ i : Nat,z2 = i ∧ i < L.length := by
     rcases HZ.out.2.2 with hh | hh
     ·omega
     ·exact hh
    replace HE := Lib.hid (show E = mayE L e span limit (plainB h vc) i (mtH h) from by rw [HE.out,if_neg hz2,Int.toNat_natCast])
    clear hz2
    have HII := Lib.hid hi
    rw [ptV_some]
    obtain ⟨I,ri,tb,hR⟩ := HI.out
    have HB := Lib.hid (fun W (f : Fr F0 w W) => kBitsB_any decC encTC scaleC ri I (HT.out.fr f) i hi (tb.bits i hi))
    have HMd := Lib.hid (fun W (f : Fr F0 w W) => kMedian_any I (HT.out.fr f) i hi)
    have HRm := Lib.hid (fun W (f : Fr F0 w W) => kHasRoom_any hR I (HT.out.fr f) i hi)
    have HNX := Lib.hid (tb.next i hi)
    have HBK := Lib.hid (fun W (f : Fr F0 w W) => (HT.out.fr f).blk i hi)
    have sB := I.blk_size hi
    have HLW := Lib.hid (fun W (hW : W.heap[ps.getD i 0]? = some (.cells (blkOf H L ps i) 77 (0,0))) => show (loadRowAt 73 (.pointer (some ⟨ps.getD i 0,102,none⟩))).run Tryz.prog W = .ok (.agg (rowN .u64 64 4 (workM L i))) W from by
     have := run_loadAt_mid (P := Tryz.prog) W (ps.getD i 0) 102 73 (rowN .u64 64 4 (workM L i)).toList _ (fun j x hj => by
      have hl : j < 4 := by have := (List.getElem?_eq_some_iff.1 hj).1; rw [rowN_len4] at this; exact this
      rw [cell_of_row W _ (102 + j) _ _ _ hW,blkOf,blkC_wk (I.hd i hi).1 (I.at32 hi) j hl]
      simpa using hj) Tryz.underlying73 rfl (by rw [rowN_len4]; kernel_rfl)
     rw [Array.toArray_toList] at this
     exact this)
    have b101 : (blkOf H L ps i)[101]? = some (.int .i64 (heightM L i : Int)) := blkC_ht (I.hd i hi).1 (I.at32 hi)
    have HHT := Lib.hid (I.height hi)
    have HQL := Lib.hid (fun k (hk : k < L.length) => (Array.getElem?_eq_some_iff.1 (HT.out.blk k hk)).1)
    have HWI := Lib.hid (I.wk i hi)
    obtain ⟨q,hq⟩ : ∃ q,ps.getD i 0 = q := ⟨_,rfl⟩
    obtain ⟨B,hB⟩ : ∃ B,blkOf H L ps i = B := ⟨_,rfl⟩
    rw [hq] at HB HMd HRm HBK HLW ⊢
    rw [hB] at HBK HLW sB b101
    have HQB := Lib.hid (And.intro hq hB)
    obtain ⟨bi,hbi⟩ : ∃ bi,bitsM L e span limit i = bi := ⟨_,rfl⟩
    rw [hbi] at HB HNX
    replace HE := Lib.hid (show E = if ¬ (bi = h.bits ∧ btP h.bits ∧ btT h.bits ≤ btT limit) then 6 else if mtH h = false then 7 else if h.time ≤ medianM L i then 11 else if 4096 ≤ L.length ∨ (isTip L i = false ∧ 16 ≤ tipsM L) then 10 else 0 from by rw [HE.out,← hbi]; rfl)
    clear I ri tb hR hi hq hB hbi
    by_cases hb : bi = h.bits
    ·obtain ⟨n1,n2,n3⟩ := HNX.out
     replace HE := Lib.hid (show E = if mtH h = false then 7 else if h.time ≤ medianM L i then 11 else if 4096 ≤ L.length ∨ (isTip L i = false ∧ 16 ≤ tipsM L) then 10 else 0 from by
      rw [HE.out,if_neg]
      rw [← hb]
      exact fun hh => hh ⟨rfl,n1,n2⟩)
     have HMM := Lib.hid (fun W => show Calls Tryz.prog 38 #[.agg HL,.agg (rowN .u64 64 4 (btT h.bits))] W fun e w' => e = .returned (.bool (mtH h)) ∧ Fr F0 W w' from by
      have := meetsC (ofLE (sha2 h.bytes)) (btT h.bits) (mtH h) (hash_lt _ HL32.out) (by rw [← hb]; exact n1.2.2) (by
       unfold mtH hsh
       exact decide_eq_decide.2 ⟨fun hh => ⟨by rw [← hb]; exact n1,hh⟩,fun hh => hh.2⟩) W
      rw [← hash_row _ HL32.out] at this
      rw [← HXX.out.2.1]
      exact this)
     have HTg := Lib.hid (fun W => kTargetOf_any decC h HOH.out (by rw [← hb]; exact n1) W)
     rw [HXX.out.1] at HTg
     have HWk := Lib.hid (workC (btT h.bits) (by rw [← hb]; exact n1.2.2))
     rw [hb] at n3
     have HAd := Lib.hid (fun W => show Calls Tryz.prog 41 #[.agg (rowN .u64 64 4 (workM L i)),.agg (rowN .u64 64 4 (wkN (btT h.bits)))] W fun e w' => e = .returned (.tuple #[.agg (rowN .u64 64 4 (workM L i + wkN (btT h.bits))),.bool false]) ∧ Fr F0 W w' from by
      have := wAdd_any (workM L i) (wkN (btT h.bits)) HWI.out wkN_W W
      rw [Nat.mod_eq_of_lt n3,decide_eq_false (by omega)] at this
      exact this)
     have HN3 := Lib.hid n3
     rw [hb] at HB
     have lne : ((h.bits : Int) != (h.bits : Int)) = false := by rw [bne_self_eq_false]
     obtain ⟨T,hT⟩ : ∃ T,btT h.bits = T := ⟨_,rfl⟩
     rw [hT] at HMM HTg HWk HAd HN3
     have HTT := Lib.hid hT
     obtain ⟨mt,hmt⟩ : ∃ mt,mtH h = mt := ⟨_,rfl⟩
     rw [hmt] at HE HMM
     clear n1 n2 n3 hb hT hmt
     go_upto_region 8 with fail
     refine rbegin (S := (fun w' => (w'.heap[p]? = some (.cells C 80 (0,0)) ∧ w'.heap[g3]? = some (.cells X 27 (0,0)) ∧ w'.heap[g5]? = some (.cells HL 25 (0,0))) ∧ Fr F0 w w')) ?_ fun hHeld => ?_
     ·((try dsimp only) <;> (exact ⟨⟨r1,r3,r5⟩,F.drew⟩))
     refine rtake 0 ?_
     refine rtake 1 ?_
     refine rtake 2 ?_
     refine rtake 3 ?_
     refine rone 4 fun K hK => ?_
     go_simp
     ((with_reducible refine (HB.out _ hHeld.2).mono ?_); rintro e w5 ⟨rfl,f5⟩)
     refine hK.out _ _ ?_ (fun hHeld => ?_)
     ·((try dsimp only) <;> (first | exact hHeld | exact ⟨⟨keep_fr f5 hHeld.1.1,keep_fr f5 hHeld.1.2.1,keep_fr f5 hHeld.1.2.2⟩,hHeld.2.trans' f5⟩))
     clear hK K
     try (simp only [Act.put,aST]; dsimp only [aS0,aS1])
     refine rtake 5 ?_
     refine rtake 6 ?_
     refine rdone ?_
     all_goals
      clear r1 r3 r5 F
      obtain ⟨⟨r1,r3,r5⟩,F⟩ := hHeld
      go_upto_region 10 with fail
      refine rbegin (S := (fun w' => (w'.heap[p]? = some (.cells C 80 (0,0)) ∧ w'.heap[g3]? = some (.cells X 27 (0,0)) ∧ w'.heap[g5]? = some (.cells HL 25 (0,0))) ∧ Fr F0 w w')) ?_ fun hHeld => ?_
      ·((try dsimp only) <;> (exact ⟨⟨r1,r3,r5⟩,F.drew⟩))
      refine rtake 0 ?_
      refine rtake 1 ?_
      refine rone 2 fun K hK => ?_
      go_simp
      ((with_reducible refine (HTg.out _).mono ?_); rintro e w5 ⟨rfl,f5⟩)
      refine hK.out _ _ ?_ (fun hHeld => ?_)
      ·((try dsimp only) <;> (first | exact hHeld | exact ⟨⟨keep_fr f5 hHeld.1.1,keep_fr f5 hHeld.1.2.1,keep_fr f5 hHeld.1.2.2⟩,hHeld.2.trans' f5⟩))
      clear hK K
      try (simp only [Act.put,aST]; dsimp only [aS0,aS1])
      refine rone 3 fun K hK => ?_
      go_simp
      ((with_reducible refine (HMM.out _).mono ?_); rintro e w5 ⟨rfl,f5⟩)
      refine hK.out _ _ ?_ (fun hHeld => ?_)
      ·((try dsimp only) <;> (first | exact hHeld | exact ⟨⟨keep_fr f5 hHeld.1.1,keep_fr f5 hHeld.1.2.1,keep_fr f5 hHeld.1.2.2⟩,hHeld.2.trans' f5⟩))
      clear hK K
      try (simp only [Act.put,aST]; dsimp only [aS0,aS1])
      refine rtake 4 ?_
      refine rtake 5 ?_
      refine rdone ?_
      all_goals
       clear r1 r3 r5 F
       obtain ⟨⟨r1,r3,r5⟩,F⟩ := hHeld
       cases mt
       ·have HX := Lib.hid (show E = 7 by rw [HE.out]; exact if_pos rfl)
        go_wp2_with fail
        go_ret
        refine ⟨by rw [HX.out]; rfl,fun _ => F,fun h0 => ?_⟩
        rw [HX.out] at h0
        cases h0
       ·replace HE := Lib.hid (show E = if h.time ≤ medianM L i then 11 else if 4096 ≤ L.length ∨ (isTip L i = false ∧ 16 ≤ tipsM L) then 10 else 0 from by rw [HE.out]; exact if_neg (by simp))
        obtain ⟨md,hmd⟩ : ∃ md,medianM L i = md := ⟨_,rfl⟩
        rw [hmd] at HE HMd
        clear hmd
        obtain ⟨tl,htl⟩ : ∃ tl,decide ((h.time : Int) ≤ (md : Int)) = tl := ⟨_,rfl⟩
        have HTL := Lib.hid htl
        go_upto_region 12 with fail
        refine rbegin (S := (fun w' => (w'.heap[p]? = some (.cells C 80 (0,0)) ∧ w'.heap[g3]? = some (.cells X 27 (0,0)) ∧ w'.heap[g5]? = some (.cells HL 25 (0,0))) ∧ Fr F0 w w')) ?_ fun hHeld => ?_
        ·((try dsimp only) <;> (exact ⟨⟨r1,r3,r5⟩,F.drew⟩))
        refine rtake 0 ?_
        refine rtake 1 ?_
        refine rtake 2 ?_
        refine rone 3 fun K hK => ?_
        go_simp
        ((with_reducible refine (HMd.out _ hHeld.2).mono ?_); rintro e w5 ⟨rfl,f5⟩)
        refine hK.out _ _ ?_ (fun hHeld => ?_)
        ·((try dsimp only) <;> (first | exact hHeld | exact ⟨⟨keep_fr f5 hHeld.1.1,keep_fr f5 hHeld.1.2.1,keep_fr f5 hHeld.1.2.2⟩,hHeld.2.trans' f5⟩))
        clear hK K
        try (simp only [Act.put,aST]; dsimp only [aS0,aS1])
        refine rtake 4 ?_
        refine rtake 5 ?_
        refine rdone ?_
        all_goals
         clear r1 r3 r5 F
         obtain ⟨⟨r1,r3,r5⟩,F⟩ := hHeld
         by_cases hm : h.time ≤ md
         ·have HX := Lib.hid (show E = 11 by rw [HE.out]; exact if_pos hm)
          have hm2 : (h.time : Int) ≤ (md : Int) := by omega
          clear htl
          go_wp2_with fail
          go_ret
          refine ⟨by rw [HX.out]; rfl,fun _ => F,fun h0 => ?_⟩
          rw [HX.out] at h0
          cases h0
         ·replace HE := Lib.hid (show E = if 4096 ≤ L.length ∨ (isTip L i = false ∧ 16 ≤ tipsM L) then 10 else 0 from by rw [HE.out]; exact if_neg hm)
          have hm2 : ¬ (h.time : Int) ≤ (md : Int) := by omega
          clear htl
          obtain ⟨rm,hrm⟩ : ∃ rm,(decide (L.length < 4096) && (isTip L i || decide (tipsM L < 16))) = rm := ⟨_,rfl⟩
          rw [hrm] at HRm
          have HRR := Lib.hid hrm
          clear hrm
          go_wp2_with fail
          (with_reducible refine (HRm.out _ F).mono ?_); rintro e w6 ⟨rfl,f⟩
          replace r3 := keep_fr f r3
          replace r5 := keep_fr f r5
          replace F := F.trans' f
          clear f r1
          cases rm
          ·have HX := Lib.hid (show E = 10 by
            rw [HE.out]
            refine if_pos ?_
            have hr := HRR.out
            rw [Bool.and_eq_false_iff,Bool.or_eq_false_iff,decide_eq_false_iff_not,decide_eq_false_iff_not] at hr
            rcases hr with hr | hr
            ·exact .inl (by omega)
            ·exact .inr ⟨hr.1,by omega⟩)
           go_wp2_with fail
           go_ret
           refine ⟨by rw [HX.out]; rfl,fun _ => F,fun h0 => ?_⟩
           rw [HX.out] at h0
           cases h0
          ·have hr := HRR.out
           rw [Bool.and_eq_true,Bool.or_eq_true,decide_eq_true_eq,decide_eq_true_eq] at hr
           have HX := Lib.hid (show E = 0 by
            rw [HE.out]
            refine if_neg ?_
            rintro (h1 | ⟨h1,h2⟩)
            ·omega
            ·rcases hr.2 with h3 | h3
             ·rw [h1] at h3; cases h3
             ·omega)
           have HLL := Lib.hid hr.1
           clear hr
           have r2 := HBK.out _ F
           go_upto_region 16 with fail
           refine ka16 w _ X B T (workM L i) (wkN T) (workM L i + wkN T) g3 q HTg HWk HAd HLW sB sX r2 r3 F (Lib.hid ?_)
           rename_i w9
           rintro ⟨⟨g7,rfl,r7,hg7⟩,f9⟩
           replace r3 := keep_fr f9 r3
           replace r5 := keep_fr f9 r5
           replace F := F.trans' f9
           replace r2 := keep_fr f9 r2
           clear f9
           obtain ⟨ht1,hh1⟩ : ∃ ht1,heightM L i + 1 = ht1 := ⟨_,rfl⟩
           have m1 : IntKind.i64.wrap ((heightM L i : Int) + 1) = (ht1 : Int) := by have := HHT.out; rw [IntWalk.i64_in _ (by omega)]; omega
           have hbd := fun W => run_buildKB W _ _ (built_kb h HOH.out (sha2 h.bytes) HL32.out (some ⟨q,0,none⟩) ht1 (workM L i + wkN T))
           have hTSl : ∀ k,TS p bm ps v k → k < w.heap.size := by
            rintro k (rfl | rfl | hk | hk)
            ·exact (Array.getElem?_eq_some_iff.1 HT.out.top).1
            ·exact HT.out.map.lt
            ·obtain ⟨j,hj,rfl⟩ := List.getElem_of_mem hk
             have := HQL.out j (by rw [← HI.out.1.plen]; exact hj)
             rw [List.getD_eq_getElem?_getD,List.getElem?_eq_getElem hj] at this
             exact this
            ·obtain ⟨cur,hc⟩ := own_block HT.out.own hk
             exact (Array.getElem?_eq_some_iff.1 hc).1
           have HPut := Lib.hid (fun (W : World) (f : Fr F0 w W) (qn : Nat) (hqn : w.heap.size ≤ qn) (hW : W.heap[qn]? = some (.cells (blkC h (sha2 h.bytes) (.pointer (some ⟨q,0,none⟩)) ht1 (workM L i + wkN T) false) 77 (0,0))) =>
            show Calls Tryz.prog 42 #[.pointer (some ⟨p,0,none⟩),.pointer (some ⟨qn,0,none⟩)] W fun e w' => e = .returned (.tuple #[]) ∧ (∃ v',NB H L ps i h (nbB h vb i) qn ∧ TM w' p R bm (H ++ [h]) (L ++ [nbB h vb i]) (ps ++ [qn]) v' (chn (L ++ [nbB h vb i])) ∧ ∀ k,v'.ownBlock = some k → v.ownBlock = some k ∨ w.heap.size ≤ k) ∧ Fr (fun k => k = qn ∨ TS p bm ps v k) W w' from by
             have hnb : NB H L ps i h (nbB h vb i) qn := ⟨HII.out,HOH.out,⟨HL32.out,HOH.out.time,HOH.out.bits,HOB.out⟩,rfl,rfl,rfl,rfl,by
              show findM L (sha2 h.bytes) < 0
              rw [HZ.out.1]; have := HNEW.out; omega,fun k hk => by have := HQL.out k hk; omega,by
              show workM L i + wkN (btT h.bits) < W256
              rw [HTT.out]; exact HN3.out,by have := HLL.out; omega⟩
             refine (kPut_any HI.out.2.2.2 HI.out.1 (HT.out.fr f) hnb ?_).mono ?_
             ·rw [hW,ptV_some,HQB.out.1,hh1]
              show some (Obj.cells (blkC h (sha2 h.bytes) (.pointer (some ⟨q,0,none⟩)) ht1 (workM L i + wkN T) false) _ _) = some (Obj.cells (blkC h (sha2 h.bytes) (.pointer (some ⟨q,0,none⟩)) ht1 (workM L i + wkN (btT h.bits)) false) _ _)
              rw [HTT.out]
             ·rintro e w' ⟨rfl,⟨v',T',ho⟩,f'⟩
              exact ⟨rfl,⟨v',hnb,T',fun k hk => (ho k hk).imp id fun hh => Nat.le_trans f.size hh⟩,f'⟩)
           have HTS := Lib.hid (And.intro hTSl (And.intro F.size (And.intro (Array.getElem?_eq_some_iff.1 r3).1 (And.intro (Array.getElem?_eq_some_iff.1 r5).1 (And.intro (Array.getElem?_eq_some_iff.1 r7).1 (And.intro hg7 (And.intro HG5.out HG3.out)))))))
           have HKK := Lib.hid (fun g (h1 : w.heap.size ≤ g) (h2 : g < w9.heap.size) => show ¬ (g = w9.heap.size ∨ TS p bm ps v g) from fun e => e.elim (fun e => by omega) fun e => by have := hTSl g e; omega)
           have hk3 := HKK.out g3 (by have := HG3.out; omega) (Array.getElem?_eq_some_iff.1 r3).1
           have hk5 := HKK.out g5 HG5.out (Array.getElem?_eq_some_iff.1 r5).1
           have hk7 := HKK.out g7 hg7 (Array.getElem?_eq_some_iff.1 r7).1
           have HK3 := Lib.hid (And.intro hk3 (And.intro hk5 hk7))
           have hF := F
           have s101 : 101 < B.size := by omega
           have d101 := cell_is b101 s101
           rw [HXX.out.1,HXX.out.2.1] at hbd
           generalize blkC h (sha2 h.bytes) (.pointer (some ⟨q,0,none⟩)) ht1 (workM L i + wkN T) false = BN at *
           generalize workM L i + wkN T = zz at *
           generalize heightM L i = hti at *
           clear hTSl hk3 hk5 hk7 hg7 HHT
           go_upto_region 17 with fail
           refine rbegin (S := (fun w' => (w'.heap[g3]? = some (.cells X 27 (0,0)) ∧ w'.heap[g5]? = some (.cells HL 25 (0,0)) ∧ w'.heap[g7]? = some (.cells (rowN .u64 64 4 zz) 73 (0,0))) ∧ Fr (TS p bm ps v) w w')) ?_ fun hHeld => ?_
           ·((try dsimp only) <;> (exact ⟨⟨r3,r5,r7⟩,F.drew.of0⟩))
           refine rtake 0 ?_
           refine rtake 1 ?_
           refine rtake 2 ?_
           refine rtake 3 ?_
           refine rtake 4 ?_
           refine rtake 5 ?_
           refine rtake 6 ?_
           refine rtake 9 ?_
           refine rone 7 fun K hK => ?_
           go_simp
           refine hK.out _ _ ?_ (fun hHeld => ?_)
           ·((try dsimp only) <;> (first | exact hHeld | exact ⟨⟨keep_alloc hHeld.1.1,keep_alloc hHeld.1.2.1,keep_alloc hHeld.1.2.2⟩,hHeld.2.alloc _⟩ | exact ⟨⟨f5.keeps HK3.out.1 hHeld.1.1,f5.keeps HK3.out.2.1 hHeld.1.2.1,f5.keeps HK3.out.2.2 hHeld.1.2.2⟩,hHeld.2.trans f5 (fun k hk e => e.elim (fun e => absurd hk (by have := HTS.out.2.1; omega)) id)⟩))
           clear hK K
           try (simp only [Act.put,aST]; dsimp only [aS0,aS1])
           refine rtake 8 ?_
           refine rtake 10 ?_
           refine rone 11 fun K hK => ?_
           go_simp
           refine hK.out _ _ ?_ (fun hHeld => ?_)
           ·((try dsimp only) <;> (first | exact hHeld | exact ⟨⟨keep_alloc hHeld.1.1,keep_alloc hHeld.1.2.1,keep_alloc hHeld.1.2.2⟩,hHeld.2.alloc _⟩ | exact ⟨⟨f5.keeps HK3.out.1 hHeld.1.1,f5.keeps HK3.out.2.1 hHeld.1.2.1,f5.keeps HK3.out.2.2 hHeld.1.2.2⟩,hHeld.2.trans f5 (fun k hk e => e.elim (fun e => absurd hk (by have := HTS.out.2.1; omega)) id)⟩))
           clear hK K
           try (simp only [Act.put,aST]; dsimp only [aS0,aS1])
           refine rone 12 fun K hK => ?_
           go_simp
           ((refine (HPut.out _ (hF.drew.alloc _) _ HTS.out.2.1 (heap_alloc_new _ _)).mono ?_); rintro e w5 ⟨rfl,⟨v',hnb,T5,own5⟩,f5⟩)
           refine hK.out _ _ ?_ (fun hHeld => ?_)
           ·((try dsimp only) <;> (first | exact hHeld | exact ⟨⟨f5.keeps HK3.out.1 hHeld.1.1,f5.keeps HK3.out.2.1 hHeld.1.2.1,f5.keeps HK3.out.2.2 hHeld.1.2.2⟩,hHeld.2.trans f5 (fun k hk e => e.elim (fun e => absurd hk (by have := HTS.out.2.1; omega)) id)⟩))
           clear hK K
           try (simp only [Act.put,aST]; dsimp only [aS0,aS1])
           refine rdone ?_
           all_goals
            have HF := Lib.hid (And.intro hnb (And.intro T5 (And.intro own5 hHeld.2)))
            clear hnb T5 own5 hHeld f5
            go_wp2_with fail
            go_ret
            exact ⟨by rw [HX.out]; rfl,fun h0 => absurd HX.out h0,fun _ => ⟨i,HZ.out.2.1,_,v',HF.out.1,HF.out.2.1,HTS.out.2.1,HF.out.2.2.1,HF.out.2.2.2⟩⟩
    ·have HX := Lib.hid (show E = 6 by rw [HE.out]; exact if_pos fun hh => hb hh.1)
     have lne : ((h.bits : Int) != (bi : Int)) = true := by rw [bne_iff_ne]; omega
     have lne2 : ¬ (h.bits : Int) = (bi : Int) := by omega
     have lne3 : ¬ h.bits = bi := by omega
     clear hb
     go_upto_region 8 with fail
     refine rbegin (S := (fun w' => (w'.heap[p]? = some (.cells C 80 (0,0)) ∧ w'.heap[g3]? = some (.cells X 27 (0,0)) ∧ w'.heap[g5]? = some (.cells HL 25 (0,0))) ∧ Fr F0 w w')) ?_ fun hHeld => ?_
     ·((try dsimp only) <;> (exact ⟨⟨r1,r3,r5⟩,F.drew⟩))
     refine rtake 0 ?_
     refine rtake 1 ?_
     refine rtake 2 ?_
     refine rtake 3 ?_
     refine rone 4 fun K hK => ?_
     go_simp
     ((with_reducible refine (HB.out _ hHeld.2).mono ?_); rintro e w5 ⟨rfl,f5⟩)
     refine hK.out _ _ ?_ (fun hHeld => ?_)
     ·((try dsimp only) <;> (first | exact hHeld | exact ⟨⟨keep_fr f5 hHeld.1.1,keep_fr f5 hHeld.1.2.1,keep_fr f5 hHeld.1.2.2⟩,hHeld.2.trans' f5⟩))
     clear hK K
     try (simp only [Act.put,aST]; dsimp only [aS0,aS1])
     refine rtake 5 ?_
     refine rtake 6 ?_
     refine rdone ?_
     all_goals
      have F := hHeld.2
      go_wp2_with fail
      go_ret
      refine ⟨by rw [HX.out]; rfl,fun _ => F,fun h0 => ?_⟩
      rw [HX.out] at h0
      cases h0
end Go.Proofs.YtedffdlkmpmdlaaGreatDoor
namespace Go.Proofs.YtedffdlkmpmdlaaGreatDoor
set_option maxRecDepth 100000
set_option linter.unusedVariables false
set_option linter.unusedSimpArgs false
open Go.RowKit
theorem sc_top {t x s top : Nat} (ht : 0 < top) : scN t x s top ≤ top ∧ 0 < scN t x s top := ⟨sc_most t x s top ht,sc_pos t x s top ht⟩
abbrev lim0 : Nat := 545259519
theorem lim0_P : btP lim0 := of_decide_eq_true (by decide +kernel : decide (btP 545259519) = true)
end Go.Proofs.YtedffdlkmpmdlaaGreatDoor
namespace Go.Proofs.YtedffdlkmpmdlaaGreatDoor
set_option maxRecDepth 100000
set_option linter.unusedVariables false
set_option linter.unusedSimpArgs false
open Go.RowKit
end Go.Proofs.YtedffdlkmpmdlaaGreatDoor
