import Derived.Test.YtfjcplfhkahamaaGreatDoorQ2
import Derived.Test.YtfjcplfhkahamaaGreatDoorQ7
import Derived.Test.YtfjcplfhkahamaaGreatDoorQ17
import Derived.Test.YtfjcplfhkahamaaGreatDoorQ1
import Derived.Deep.Cut
import Derived.OwnWalk
set_option maxRecDepth 100000
set_option maxHeartbeats 64000000
namespace Go.Proofs.YtfjcplfhkahamaaGreatDoor
set_option linter.unusedVariables false
set_option linter.unusedSimpArgs false
open Go.RowKit
def Bk.cells (b : Bk) : List Value := b.hash.map B8 ++ [.int .i64 b.ahead,.int .u32 (b.time : Int),.int .u32 (b.bits : Int),b.bytes]
theorem Bk.cells_len {b : Bk} (o : b.Ok) : b.cells.length = 36 := by simp [Bk.cells,o.hash]
theorem Bk.cell_lo {b : Bk} (o : b.Ok) (j : Nat) (h : j < 32) : b.cells[j]? = (b.hash.map B8)[j]? := by
 rw [Bk.cells,List.getElem?_append_left (by rw [List.length_map,o.hash]; exact h)]
theorem Bk.cell32 {b : Bk} (o : b.Ok) : b.cells[32]? = some (.int .i64 b.ahead) := by
 rw [Bk.cells,List.getElem?_append_right (by rw [List.length_map,o.hash]; omega),List.length_map,o.hash]; rfl
theorem Bk.cell33 {b : Bk} (o : b.Ok) : b.cells[33]? = some (.int .u32 (b.time : Int)) := by
 rw [Bk.cells,List.getElem?_append_right (by rw [List.length_map,o.hash]; omega),List.length_map,o.hash]; rfl
theorem Bk.cell34 {b : Bk} (o : b.Ok) : b.cells[34]? = some (.int .u32 (b.bits : Int)) := by
 rw [Bk.cells,List.getElem?_append_right (by rw [List.length_map,o.hash]; omega),List.length_map,o.hash]; rfl
theorem Bk.cell35 {b : Bk} (o : b.Ok) : b.cells[35]? = some b.bytes := by
 rw [Bk.cells,List.getElem?_append_right (by rw [List.length_map,o.hash]; omega),List.length_map,o.hash]; rfl
theorem Bk.one {b : Bk} (o : b.Ok) : ∀ u ∈ b.cells,u.oneCell' = true := by
 intro u hu
 simp only [Bk.cells,List.mem_append,List.mem_map,List.mem_cons,List.not_mem_nil,or_false] at hu
 rcases hu with ⟨_,_,rfl⟩ | rfl | rfl | rfl | rfl
 ·rfl
 ·rfl
 ·rfl
 ·rfl
 ·exact o.bytes
theorem flat36_at : ∀ (L : List Bk),(∀ b ∈ L,b.Ok) → ∀ k,k < L.length → ∀ j,j < 36 → (L.flatMap Bk.cells)[k * 36 + j]? = (bkT L k).cells[j]?
 |[],_,k,h,j,_ => absurd h (by simp)
 |x :: L,hl,0,_,j,hj => by
  rw [List.flatMap_cons,Nat.zero_mul,Nat.zero_add,List.getElem?_append_left (by rw [Bk.cells_len (hl x (by simp))]; exact hj)]
  rfl
 |x :: L,hl,k + 1,h,j,hj => by
  have e : x.cells.length = 36 := Bk.cells_len (hl x (by simp))
  rw [List.flatMap_cons,List.getElem?_append_right (by rw [e]; omega),e,show (k + 1) * 36 + j - 36 = k * 36 + j by omega,flat36_at L (fun y hy => hl y (by simp [hy])) k (by simpa using h) j hj]
  rfl
structure Bks (w : World) (a : Option Addr) (c : Nat) (L : List Bk) : Prop where
 sl : Sl w 36 a c L.length (L.flatMap Bk.cells)
 ok : ∀ b ∈ L,b.Ok
theorem Bks.fr {w w' : World} {a : Option Addr} {c : Nat} {L : List Bk} (h : Bks w a c L) (f : Fr F0 w w') : Bks w' a c L := ⟨Sl.fr h.sl f fun _ _ f => f,h.ok⟩
theorem Bks.get {w : World} {a : Option Addr} {c : Nat} {L : List Bk} (h : Bks w a c L) (k : Nat) (hk : k < L.length) :
  ∃ b off,a = some ⟨b,off,none⟩ ∧ ∀ j u,(bkT L k).cells[j]? = some u → w.cell? ⟨b,off + k * 36 + j,none⟩ = some u := by
 have h0 := h.ok _ (bkT_mem hk)
 obtain ⟨b,off,e,_⟩ := h.sl.cell (k * 36 + 0) _ ((flat36_at L h.ok k hk 0 (by omega)).trans (List.getElem?_eq_getElem (by rw [Bk.cells_len h0]; omega)))
 refine ⟨b,off,e,fun j u hj => ?_⟩
 have hj' : j < 36 := by have := (List.getElem?_eq_some_iff.1 hj).1; rw [Bk.cells_len h0] at this; exact this
 obtain ⟨b',off',e',hc⟩ := h.sl.cell (k * 36 + j) u ((flat36_at L h.ok k hk j hj').trans hj)
 rw [e] at e'
 cases e'
 rw [Nat.add_assoc]
 exact hc
theorem Tryz.szRBlock : (Tryz.prog.info? 38).map (·.size) = some 36 := by kernel_rfl
@[go_sem ↓ high] theorem load_rblock (p : Value) : Instr.loadAt 38 p = loadRowAt 38 p := rfl
@[go_sem ↓ high] theorem store_rblock (p v : Value) : Instr.storeAt 38 p v = storeRowAt 38 p v := rfl
@[go_sem] theorem run_load_rblock (w : World) (g : Nat) : (loadRowAt 38 (.pointer (some ⟨g,0,none⟩))).run Tryz.prog w = rowOut Tryz.prog 38 (.pointer (some ⟨g,0,none⟩)) w 36 w.heap[g]? :=
 run_loadRowAt w _ g 36 _ Tryz.underlying38 rfl Tryz.szRBlock
@[go_sem] theorem run_store_rblock (w : World) (g : Nat) (cells : Array Value) : (storeRowAt 38 (.pointer (some ⟨g,0,none⟩)) (.agg cells)).run Tryz.prog w = rowIn Tryz.prog 38 (.pointer (some ⟨g,0,none⟩)) cells g w 36 w.heap[g]? :=
 run_storeRowAt w _ g 36 cells Tryz.szRBlock
def Bk.arr (b : Bk) : Array Value := b.cells.toArray
theorem Bk.arr_size {b : Bk} (o : b.Ok) : b.arr.size = 36 := by simp [Bk.arr,Bk.cells_len o]
theorem Bk.arr_one {b : Bk} (o : b.Ok) : rowOne b.arr := by
 unfold rowOne Bk.arr
 rw [Array.all_eq_true_iff_forall_mem]
 intro v hv
 exact Bk.one o v (by simpa using hv)
theorem Bks.load {w : World} {a : Option Addr} {c : Nat} {L : List Bk} (h : Bks w a c L) (k : Nat) (hk : k < L.length) :
  ∃ b off,a = some ⟨b,off,none⟩ ∧ ∀ W,Fr F0 w W → (loadRowAt 38 (.pointer (some ⟨b,off + k * 36,none⟩))).run Tryz.prog W = .ok (.agg (bkT L k).arr) W ∧
   Obj.cellAt (off + k * 36 + 32) W.heap[b]? = some (.int .i64 (bkT L k).ahead) ∧ Obj.cellAt (off + k * 36 + 33) W.heap[b]? = some (.int .u32 ((bkT L k).time : Int)) ∧ Obj.cellAt (off + k * 36 + 34) W.heap[b]? = some (.int .u32 ((bkT L k).bits : Int)) := by
 obtain ⟨b,off,e,_⟩ := h.get k hk
 have o := h.ok _ (bkT_mem hk)
 refine ⟨b,off,e,fun W f => ?_⟩
 obtain ⟨b',off',e',hc'⟩ := (h.fr f).get k hk
 rw [e] at e'
 cases e'
 refine ⟨run_loadAt_mid (P := Tryz.prog) W b (off + k * 36) 38 (bkT L k).cells _ hc' Tryz.underlying38 rfl (by rw [Tryz.szRBlock,Bk.cells_len o]),by rw [← cell_at]; exact hc' 32 _ (Bk.cell32 o),by rw [← cell_at]; exact hc' 33 _ (Bk.cell33 o),by rw [← cell_at]; exact hc' 34 _ (Bk.cell34 o)⟩
def TR (w : World) (p : Nat) (L : List Bk) (every : Int) (span limit : Nat) : Prop :=
 ∃ a c,w.heap[p]? = some (.cells #[.slice a L.length c,.int .i64 every,.int .u32 (span : Int),.int .u32 (limit : Int)] 43 (0,0)) ∧ Bks w a c L
theorem TR.fr {w w' : World} {p : Nat} {L : List Bk} {every : Int} {span limit : Nat} (h : TR w p L every span limit) (f : Fr F0 w w') : TR w' p L every span limit := by
 obtain ⟨a,c,h1,h2⟩ := h
 exact ⟨a,c,keep_fr f h1,h2.fr f⟩
def tipK (L : List Bk) (i k : Nat) : Bool := (L.take k).all fun b => !decide (b.ahead = (i : Int))
theorem tipK_succ (L : List Bk) (i k : Nat) (h : k < L.length) : tipK L i (k + 1) = (tipK L i k && !decide ((bkT L k).ahead = (i : Int))) := by
 unfold tipK
 rw [List.take_succ_eq_append_getElem h,List.all_append]
 have : bkT L k = L[k] := by unfold bkT; rw [List.getD,List.getElem?_eq_getElem h]; rfl
 rw [this]
 simp
theorem tipK_all (L : List Bk) (i k : Nat) (h : L.length ≤ k) : tipK L i k = isTip L i := by unfold tipK isTip; rw [List.take_of_length_le h]
theorem tipsN_le (L : List Bk) (n : Nat) : tipsN L n ≤ n := by
 unfold tipsN
 have := List.countP_le_length (p := fun i => isTip L i) (l := List.range n)
 simpa using this
theorem r12Tips_any (p : Nat) (L : List Bk) (every : Int) (span limit : Nat) (hl : L.length ≤ 100000) (w : World) (T : TR w p L every span limit) :
  Calls Tryz.prog 44 #[.pointer (some ⟨p,0,none⟩)] w fun e w' => e = .returned (.int .i64 ((tipsM L : Nat) : Int)) ∧ Fr F0 w w' := by
 obtain ⟨n,hn⟩ : ∃ n,L.length = n := ⟨_,rfl⟩
 obtain ⟨a,c,r1,hb⟩ := T
 rw [hn] at r1 hl
 have HB := Lib.hid hb
 have HN := Lib.hid hn
 have HR := Lib.hid r1
 have F := Fr.refl F0 w
 clear hb hn
 go_enter Tryz.func44,Tryz.ntmps44
 go_wp2_with fail
 go_loopw [3,13] (fun tv iv wr => ∃ i : Nat,iv = .int .i64 i ∧ tv = .int .i64 ((tipsN L i : Nat) : Int) ∧ i ≤ n ∧ Fr F0 w wr) (fun _ iv _ => n - (intOf iv).toNat)
 case atStart => exact ⟨0,rfl,rfl,by omega,F⟩
 case round =>
  clear F r1
  obtain ⟨i,rfl,rfl,hi,F⟩ := hrel
  have ht := tipsN_le L i
  have hsu := tipsN_succ L i
  generalize hgt : tipsN L i = t at *
  have HGT := Lib.hid hgt
  clear hgt
  by_cases h1 : i < n
  ·have l1 : (i : Int) < (n : Int) := by omega
   have HT := Lib.hid (And.intro h1 (And.intro ht hsu))
   have r2 := keep_fr F HR.out
   clear h1 ht hsu hi
   go_wp2_with fail
   go_loopw [5,21] (fun bv kv wr => ∃ k : Nat,kv = .int .i64 k ∧ bv = .bool (tipK L i k) ∧ k ≤ n ∧ Fr F0 w wr) (fun _ kv _ => n - (intOf kv).toNat)
   case atStart => exact ⟨0,rfl,rfl,by omega,F⟩
   case round =>
    clear F r2
    obtain ⟨k,rfl,rfl,hk,F⟩ := hrel
    by_cases h2 : k < n
    ·have l2 : (k : Int) < (n : Int) := by omega
     obtain ⟨b,off,ea,hld⟩ := (HB.out.fr F).load k (by rw [HN.out]; exact h2)
     subst ea
     have ld := (hld _ (Fr.refl _ _)).1
     have o := HB.out.ok _ (bkT_mem (show k < L.length by rw [HN.out]; exact h2))
     have s := Bk.arr_size o
     have on := Bk.arr_one o
     have c32 : (bkT L k).arr[32]? = some (.int .i64 (bkT L k).ahead) := by rw [Bk.arr,List.getElem?_toArray]; exact Bk.cell32 o
     have HS := Lib.hid (tipK_succ L i k (by rw [HN.out]; exact h2))
     generalize (bkT L k).arr = B at *
     generalize (bkT L k).ahead = A at *
     generalize tipK L i k = q at *
     have HK := Lib.hid h2
     have s32 : 32 < B.size := by omega
     have d32 := cell_is c32 s32
     clear hld o h2 hk
     go_upto_region 9 with fail
     refine wp_put fun W4 N => ?_
     have r6 := N.new
     replace F := F.trans' N.fr
     clear N
     clear ld
     generalize wr.heap.size = g6 at *
     have kw : IntKind.i64.wrap ((k : Int) + 1) = ((k + 1 : Nat) : Int) := by have := HK.out; rw [IntWalk.i64_in _ (by omega)]; omega
     by_cases h3 : A = (i : Int)
     ·have l3 : decide (A = (i : Int)) = true := decide_eq_true h3
      have HS2 := Lib.hid (show tipK L i (k + 1) = false by rw [HS.out,l3,Bool.not_true,Bool.and_false])
      go_wp2_with fail
      go_roundw
      case rel => exact ⟨k + 1,by go_num,by rw [HS2.out],by have := HK.out; omega,F⟩
      case measure => have := HK.out; simp [intOf]; omega
     ·have l3 : decide (A = (i : Int)) = false := decide_eq_false h3
      have HS2 := Lib.hid (show tipK L i (k + 1) = q by rw [HS.out,l3,Bool.not_false,Bool.and_true])
      go_wp2_with fail
      go_roundw
      case rel => exact ⟨k + 1,by go_num,by rw [HS2.out],by have := HK.out; omega,F⟩
      case measure => have := HK.out; simp [intOf]; omega
    ·have l2 : ¬ (k : Int) < (n : Int) := by omega
     have HQ := Lib.hid (tipK_all L i k (by rw [HN.out]; omega))
     generalize tipK L i k = q at *
     clear h2 hk
     cases q
     ·go_wp2_with fail
      go_roundw
      case rel =>
       obtain ⟨q1,q2,q3⟩ := HT.out
       exact ⟨i + 1,by go_num,by rw [q3,← HQ.out]; rfl,by omega,F⟩
      case measure => have := HT.out.1; simp [intOf]; omega
     ·have tw : IntKind.i64.wrap ((t : Int) + 1) = ((t + 1 : Nat) : Int) := by have := HT.out; rw [IntWalk.i64_in _ (by omega)]; omega
      go_wp2_with fail
      go_roundw
      case rel =>
       obtain ⟨q1,q2,q3⟩ := HT.out
       exact ⟨i + 1,by go_num,by rw [q3,← HQ.out]; rfl,by omega,F⟩
      case measure => have := HT.out.1; simp [intOf]; omega
  ·obtain rfl : i = n := by omega
   have l1 : ¬ (i : Int) < (i : Int) := by omega
   have HE := Lib.hid (show L.length = i from HN.out)
   clear h1 ht hsu hi
   go_wp2_with fail
   go_ret
   exact ⟨by rw [tipsM,HE.out,HGT.out]; rfl,F⟩
theorem load_hash_of {w : World} {g : Nat} {b : Bk} {t : TypeId} {f : Nat × Nat} (o : b.Ok) (h : w.heap[g]? = some (.cells b.arr t f)) : (loadRowAt 25 (.pointer (some ⟨g,0,none⟩))).run Tryz.prog w = .ok (.agg (hc b.hash)) w := by
 refine load_midA (b := g) (o := 0) (h := b.hash) o.hash fun j u hj => ?_
 have hj' : j < 32 := by have := (List.getElem?_eq_some_iff.1 hj).1; rw [List.length_map,o.hash] at this; exact this
 rw [Nat.zero_add,cell_of_row w g j _ _ _ h,Bk.arr,List.getElem?_toArray,Bk.cell_lo o j hj']
 exact hj
theorem r12Height_any (p : Nat) (L : List Bk) (every : Int) (span limit : Nat) (hw : WFt L) (i : Nat) (hi : i < L.length) (hl : L.length ≤ 100000) (w : World) (T : TR w p L every span limit) :
  Calls Tryz.prog 53 #[.pointer (some ⟨p,0,none⟩),.int .i64 (i : Int)] w fun e w' => e = .returned (.int .i64 ((heightM L i : Nat) : Int)) ∧ Fr F0 w w' := by
 have HP := Lib.hid (anc_len hw i hi)
 obtain ⟨n,hn⟩ : ∃ n,L.length = n := ⟨_,rfl⟩
 obtain ⟨a,c,r1,hb⟩ := T
 rw [hn] at r1 hl
 have HB := Lib.hid hb
 have HW := Lib.hid hw
 have HN := Lib.hid hn
 have HI := Lib.hid hi
 clear hb hw hi hn
 go_enter Tryz.func53,Tryz.ntmps53
 go_wp2_with fail
 go_loopw [1,5] (fun iv nv wr => wr = w ∧ ∃ j k : Nat,iv = .int .i64 j ∧ nv = .int .i64 k ∧ j < n ∧ (anc L i).length = k + (anc L j).length) (fun iv _ _ => (intOf iv).toNat)
 case atStart => exact ⟨rfl,i,0,rfl,rfl,by have := HI.out; have := HN.out; omega,by rw [Nat.zero_add]⟩
 case round =>
  obtain ⟨rfl,j,k,rfl,rfl,hj,hk⟩ := hrel
  obtain ⟨b,off,ea,hc⟩ := HB.out.load j (by rw [HN.out]; exact hj)
  subst ea
  obtain ⟨_,c32,_,_⟩ := hc _ (Fr.refl _ _)
  have hu := HW.out.up j (by rw [HN.out]; exact hj)
  have l1 : (j : Int) < (n : Int) := by omega
  have hpl := anc_len HW.out j (by rw [HN.out]; exact hj)
  have HK := Lib.hid (And.intro hj hk)
  generalize hA : (bkT L j).ahead = A at *
  have HA := Lib.hid hA
  clear hA hc hk
  by_cases h0 : A < 0
  ·have l2 : ¬ 0 ≤ A := by omega
   have l3 : decide (0 ≤ A) = false := decide_eq_false l2
   have hR := anc_root HW.out (by rw [HN.out]; exact hj) (by rw [HA.out]; exact h0)
   clear hu hpl
   go_wp2_with fail
   go_ret
   have e : ((heightM L i : Nat) : Int) = (k : Int) := by
    have := HK.out.2
    rw [hR] at this
    unfold heightM
    simp at this
    omega
   exact ⟨by rw [e]; rfl,Fr.refl _ _⟩
  ·have l2 : 0 ≤ A := by omega
   obtain ⟨m,rfl⟩ := Int.eq_ofNat_of_zero_le l2
   obtain ⟨h1,h2⟩ := anc_step HW.out (by rw [HN.out]; exact hj) HA.out
   have HM := Lib.hid (And.intro h1 h2)
   have hkb : k ≤ 100000 := by
    have h3 := HP.out
    have h4 := HI.out
    have h5 := HN.out
    have h6 := HK.out.2
    omega
   clear hu hpl h1 h2 hj
   go_wp2_with fail
   go_roundw
   case rel =>
    have h3 := HM.out
    have h4 := HK.out
    refine ⟨trivial,m,k + 1,rfl,by go_num,by omega,?_⟩
    rw [h4.2,h3.2,List.length_cons]
    omega
   case measure => have := HM.out.1; simp [intOf]; omega
theorem r12Find_any (p : Nat) (L : List Bk) (every : Int) (span limit : Nat) (h : List UInt8) (hh : h.length = 32) (hl : L.length ≤ 100000) (w : World) (T : TR w p L every span limit) :
  Calls Tryz.prog 38 #[.pointer (some ⟨p,0,none⟩),.agg (hc h)] w fun e w' => e = .returned (.int .i64 (findM L h)) ∧ Fr F0 w w' := by
 obtain ⟨n,hn⟩ : ∃ n,L.length = n := ⟨_,rfl⟩
 obtain ⟨a,c,r1,hb⟩ := T
 rw [hn] at r1 hl
 have HB := Lib.hid hb
 have HN := Lib.hid hn
 have HH := Lib.hid hh
 have sh := hc_size hh
 have oh := hc_one h
 have hE := fun (b : Bk) (o : b.Ok) (w : World) => run_equalIn_arrJ w b.hash h o.hash hh
 obtain ⟨A,hA⟩ : ∃ A,hc h = A := ⟨_,rfl⟩
 rw [hA] at sh oh ⊢
 simp only [hA] at hE
 clear hb hn hh
 replace r1 := keep_alloc (o := .cells A 25) r1
 have r0 := heap_alloc_new w (.cells A 25)
 have F := (Fr.refl F0 w).alloc (.cells A 25)
 go_enter Tryz.func38,Tryz.ntmps38
 go_wp2_with fail
 refine wp_of_world _ rfl ?_
 generalize hW : w.alloc (.cells A 25) = W at *
 generalize w.heap.size = g0 at *
 clear hW
 go_loopw [12] (fun iv wr => ∃ k : Nat,iv = .int .i64 k ∧ k ≤ n ∧ findM L h = findFrom h (L.drop k) k ∧ wr.heap[g0]? = some (.cells A 25 (0,0)) ∧ Fr F0 w wr) (fun iv _ => n - (intOf iv).toNat)
 case atStart => exact ⟨0,rfl,by omega,rfl,r0,F⟩
 case round =>
  clear r0 F
  obtain ⟨k,rfl,hk,he,r0,F⟩ := hrel
  have HK := Lib.hid (And.intro hk he)
  clear hk he
  by_cases h1 : k < n
  ·have l1 : (k : Int) < (n : Int) := by omega
   obtain ⟨b,off,ea,hld⟩ := (HB.out.fr F).load k (by rw [HN.out]; exact h1)
   subst ea
   have ld := (hld wr (Fr.refl _ _)).1
   have o := HB.out.ok _ (bkT_mem (show k < L.length by rw [HN.out]; exact h1))
   have s := Bk.arr_size o
   have on := Bk.arr_one o
   have hEk := hE _ o
   have HO := Lib.hid (fun (w : World) (g : Nat) (t : TypeId) (f : Nat × Nat) (hg : w.heap[g]? = some (.cells (bkT L k).arr t f)) => load_hash_of o hg)
   obtain ⟨B,hB⟩ : ∃ B,(bkT L k).arr = B := ⟨_,rfl⟩
   obtain ⟨D,hD⟩ : ∃ D,hc (bkT L k).hash = D := ⟨_,rfl⟩
   rw [hB] at ld s on HO
   rw [hD] at hEk HO
   have HKb := Lib.hid (show k < L.length by rw [HN.out]; exact h1)
   obtain ⟨q,hq⟩ : ∃ q,decide ((bkT L k).hash = h) = q := ⟨_,rfl⟩
   simp only [hq] at hEk
   have HQ := Lib.hid hq
   clear hld o hB hD hq h1
   go_upto_region 4 with fail
   refine wp_put fun W4 N => ?_
   have r6 := N.new
   replace r0 := N.old r0
   replace F := F.trans' N.fr
   clear N
   clear ld
   generalize wr.heap.size = g6 at *
   have hl0 := HO.out _ _ _ _ r6
   clear r6
   cases q
   ·go_wp2_with fail
    go_roundw
    case rel => exact ⟨k + 1,by go_num,by have := HKb.out; have := HN.out; omega,by rw [HK.out.2]; exact find_step HKb.out (of_decide_eq_false HQ.out),r0,F⟩
    case measure => have := HKb.out; have := HN.out; simp [intOf]; omega
   ·go_wp2_with fail
    go_ret
    exact ⟨by rw [HK.out.2,find_here HKb.out (of_decide_eq_true HQ.out)]; rfl,F⟩
  ·have l1 : ¬ (k : Int) < (n : Int) := by omega
   have HE := Lib.hid (show findM L h = -1 by rw [HK.out.2]; exact find_end (by rw [HN.out]; omega))
   clear h1
   go_wp2_with fail
   go_ret
   exact ⟨by rw [HE.out]; rfl,F⟩
theorem Tryz.infoInt : (Tryz.prog.info? 3).map (fun i => (i.zero,i.size,i.bytes)) = some (some (.int .i64 0),1,8) := by kernel_rfl
def I64 (x : Nat) : Value := .int .i64 (x : Int)
def Is (w : World) (a : Option Addr) (c : Nat) (l : List Nat) : Prop := Sl w 1 a c l.length (l.map I64)
def OwnI (w : World) (v : Value) (l : List Nat) : Prop := w.ownsRow 0 3 1 v l.length (l.map I64)
theorem Is.fr {w w' : World} {a : Option Addr} {c : Nat} {l : List Nat} (h : Is w a c l) (f : Fr F0 w w') : Is w' a c l := Sl.fr h f fun _ _ f => f
theorem Is.one {l : List Nat} : ∀ u ∈ l.map I64,u.oneCell' = true := by
 intro u hu
 simp only [List.mem_map] at hu
 obtain ⟨x,_,rfl⟩ := hu
 rfl
theorem Is.get {w : World} {a : Option Addr} {c : Nat} {l : List Nat} (h : Is w a c l) (j : Nat) (hj : j < l.length) : ∃ b off,a = some ⟨b,off,none⟩ ∧ Obj.cellAt (off + j) w.heap[b]? = some (.int .i64 ((l.getD j 0 : Nat) : Int)) := by
 obtain ⟨b,off,e,hc⟩ := h.cell j (I64 (l.getD j 0)) (by simp [List.getElem?_map,List.getElem?_eq_getElem hj,List.getD])
 exact ⟨b,off,e,by rw [← cell_at]; exact hc⟩
theorem OwnI.is {w : World} {a : Option Addr} {n c : Nat} {l : List Nat} (h : OwnI w (.slice a n c) l) : n = l.length ∧ Is w a c l := by
 obtain ⟨rfl,hs⟩ := Sl.of_own h
 exact ⟨rfl,hs⟩
theorem Is.empty (w : World) (t : TypeId) : Is (w.alloc (.cells #[] t)) (some ⟨w.heap.size,0,none⟩) 0 [] := ⟨rfl,Nat.le_refl _,Nat.zero_le _,(fun e => by cases e),fun j u h => by simp at h⟩
theorem wpList_appI {w : World} {ops : Array Oper} {rest : List Oper} {o : Oper} {a : Act} {Q : Exit → Act → World → Prop} (hgd : o.guard = none) (s x : Operand)
  (ho : o.op = .call { callee := .builtin .append,args := #[s,x],argTypes := #[103,103] })
  (v : Value) (b0 : List Nat) (hs : a.eval s = v) (hown : OwnI w v b0) (ad : Option Addr) (m c : Nat) (l : List Nat) (hx : a.eval x = .slice ad m c) (hsl : Is w ad c l) (hm : m = l.length)
  (hb : b0.length + l.length ≤ 1000000)
  (h : ∀ a' c' w',OwnI w' (.slice a' (b0.length + l.length) c') (b0 ++ l) → w.grownBy w' v.ownBlock → (∀ k,ablk a' = some k → v.ownBlock = some k ∨ w.heap.size ≤ k) →
   wpList Tryz.prog ops Q rest (a.put o.dst (.slice a' (b0.length + l.length) c')) w') : wpList Tryz.prog ops Q (o :: rest) a w := by
 subst hm
 obtain ⟨i0,hi,hz0,hz1,hz2⟩ := info_parts Tryz.infoInt
 refine wpList_app hgd s x 103 ho 3 i0 (.int .i64 0) 1 8 Tryz.underlying103 hi hz0 hz1 hz2 rfl (by decide) v _ _ hs hown ad c _ _ hx hsl Is.one (by unfold maxLen; omega) (by omega) ?_
 intro a' c' w' h1 h2 h3
 exact h a' c' w' (by simpa [OwnI] using h1) h2 h3
def NewI (l : List Nat) (w : World) (e : Ending) (w' : World) : Prop := ∃ a c,e = .returned (.slice a l.length c) ∧ Is w' a c l ∧ Fr F0 w w'
theorem r12Line_any (p : Nat) (L : List Bk) (every : Int) (span limit : Nat) (hw : WFt L) (i : Nat) (hi : i < L.length) (hl : L.length ≤ 100000) (w : World) (T : TR w p L every span limit) :
  Calls Tryz.prog 48 #[.pointer (some ⟨p,0,none⟩),.int .i64 (i : Int)] w (NewI (lineM L i) w) := by
 have HP := Lib.hid (anc_len hw i hi)
 obtain ⟨n,hn⟩ : ∃ n,L.length = n := ⟨_,rfl⟩
 obtain ⟨a,c,r1,hb⟩ := T
 rw [hn] at r1 hl
 have HB := Lib.hid hb
 have HW := Lib.hid hw
 have HN := Lib.hid hn
 have HI := Lib.hid hi
 have HR := Lib.hid r1
 have h0 := Is.empty w 3
 have F := (Fr.refl F0 w).alloc (.cells #[] 3)
 clear hb hw hi hn
 go_enter Tryz.func48,Tryz.ntmps48
 go_wp2_with fail
 refine wp_of_world _ rfl ?_
 generalize hW : w.alloc (.cells #[] 3) = W at *
 generalize w.heap.size = g0 at *
 clear hW
 go_loopw [1,5] (fun iv ov wr => ∃ (done : List Nat) (z : Int) (a : Option Addr) (c : Nat),iv = .int .i64 z ∧ ov = .slice a done.length c ∧ Is wr a c done ∧ Fr F0 w wr ∧ ((z < 0 ∧ anc L i = done.reverse) ∨ ∃ j : Nat,z = j ∧ j < n ∧ anc L i = done.reverse ++ anc L j)) (fun iv _ _ => ((intOf iv) + 1).toNat)
 case atStart => exact ⟨[],i,_,_,rfl,rfl,h0,F,.inr ⟨i,rfl,by have := HI.out; have := HN.out; omega,rfl⟩⟩
 case round =>
  clear h0 F
  obtain ⟨done,z,a1,c1,rfl,rfl,hi1,F,hcase⟩ := hrel
  rcases hcase with ⟨hz,hP⟩ | ⟨j,rfl,hj,hP⟩
  ·have l1 : ¬ 0 ≤ z := by omega
   have l2 : decide (0 ≤ z) = false := decide_eq_false l1
   have HE := Lib.hid (show lineM L i = done by unfold lineM; rw [hP,List.reverse_reverse])
   clear hz hP
   go_wp2_with fail
   go_ret
   exact ⟨a1,c1,by rw [HE.out]; rfl,by rw [HE.out]; exact hi1,F⟩
  ·obtain ⟨b,off,ea,hc⟩ := HB.out.load j (by rw [HN.out]; exact hj)
   subst ea
   have hA0 := hc
   obtain ⟨A,hA⟩ : ∃ A,(bkT L j).ahead = A := ⟨_,rfl⟩
   have l1 : (j : Int) < (n : Int) := by omega
   have hdl : done.length + 1 ≤ 1000000 := by
    have h1 := HP.out
    have h2 := HI.out
    have h3 := HN.out
    have h4 := anc_len HW.out j (by rw [HN.out]; exact hj)
    rw [hP,List.length_append,List.length_reverse] at h1
    omega
   have H1 : Is (wr.alloc (.cells #[.int .i64 (j : Int)] 3)) a1 c1 done := hi1.fr ((Fr.refl F0 wr).alloc _)
   have H2 : OwnI (wr.alloc (.cells #[.int .i64 (j : Int)] 3)) (.slice (some ⟨wr.heap.size,0,none⟩) 1 1) [j] := ⟨rfl,.inr ⟨wr.heap.size,1,#[.int .i64 (j : Int)],rfl,Nat.zero_le _,heap_alloc_new _ _,Nat.le_refl _,by unfold maxLen; omega,rfl,rfl⟩⟩
   have hu := HW.out.up j (by rw [HN.out]; exact hj)
   rw [hA] at hu hc
   have HJ := Lib.hid (And.intro hj (And.intro hP (And.intro hA hu)))
   clear hj hP hA hu hi1 hA0
   go_upto_region 4 with (at_builtin; refine wpList_appI rfl _ _ rfl _ [j] rfl H2 _ _ _ _ rfl H1 rfl (by simp; omega) ?_; intro a2 c2 w2 ho hg hb)
   have hg' : (wr.alloc (.cells #[.int .i64 (j : Int)] 3)).grownBy w2 (some wr.heap.size) := hg
   have F2 : Fr F0 w w2 := (F.alloc _).grown hg' fun k hk hl => by cases hk; have := F.size; omega
   have ho2 : OwnI w2 (.slice a2 (1 + done.length) c2) (j :: done) := ho
   have hi2 := ho2.is
   obtain ⟨_,c32,_,_⟩ := hc w2 F2
   have r2 := keep_fr F2 HR.out
   obtain ⟨d1,hd1⟩ : ∃ d1,1 + done.length = d1 := ⟨_,rfl⟩
   rw [hd1] at hi2 ⊢
   have HD := Lib.hid hd1
   have HF := Lib.hid (And.intro hi2.2 F2)
   clear hg hg' hb ho ho2 hi2 hc r1 F H1 H2 hd1 F2
   go_wp2_with fail
   go_roundw
   case rel =>
    obtain ⟨q1,q2,q3,q4⟩ := HJ.out
    refine ⟨j :: done,A,a2,c2,rfl,by rw [← HD.out,List.length_cons,Nat.add_comm],HF.out.1,HF.out.2,?_⟩
    by_cases h0 : A < 0
    ·left
     refine ⟨h0,?_⟩
     rw [q2,anc_root HW.out (by rw [HN.out]; exact q1) (by rw [q3]; exact h0),List.reverse_cons]
    ·right
     obtain ⟨m,rfl⟩ := Int.eq_ofNat_of_zero_le (show 0 ≤ A by omega)
     obtain ⟨q5,q6⟩ := anc_step HW.out (by rw [HN.out]; exact q1) q3
     exact ⟨m,rfl,by omega,by rw [q2,q6,List.reverse_cons,List.append_assoc]; rfl⟩
   case measure => obtain ⟨_,_,_,q4⟩ := HJ.out; simp [intOf]; omega
theorem common_step {X Y : List Nat} {k : Nat} (hx : k < X.length) (hy : k < Y.length) (e : X.getD k 0 = Y.getD k 0) : common (X.drop k) (Y.drop k) = common (X.drop (k + 1)) (Y.drop (k + 1)) + 1 := by
 rw [List.drop_eq_getElem_cons hx,List.drop_eq_getElem_cons hy,common,if_pos]
 simpa [List.getD,hx,hy] using e
theorem common_stop {X Y : List Nat} {k : Nat} (h : ¬ k < X.length ∨ ¬ k < Y.length ∨ X.getD k 0 ≠ Y.getD k 0) : common (X.drop k) (Y.drop k) = 0 := by
 by_cases hx : k < X.length
 ·by_cases hy : k < Y.length
  ·rw [List.drop_eq_getElem_cons hx,List.drop_eq_getElem_cons hy,common,if_neg]
   rcases h with h | h | h
   ·exact absurd hx h
   ·exact absurd hy h
   ·simpa [List.getD,hx,hy] using h
  ·rw [List.drop_of_length_le (l := Y) (by omega)]
   cases X.drop k <;> rfl
 ·rw [List.drop_of_length_le (l := X) (by omega)]
  rfl
theorem r12Fork_any (p : Nat) (L : List Bk) (every : Int) (span limit : Nat) (hw : WFt L) (i j : Nat) (hi : i < L.length) (hj : j < L.length) (hl : L.length ≤ 100000) (w : World) (T : TR w p L every span limit) :
  Calls Tryz.prog 54 #[.pointer (some ⟨p,0,none⟩),.int .i64 (i : Int),.int .i64 (j : Int)] w fun e w' => e = .returned (.int .i64 ((forkM L i j : Nat) : Int)) ∧ Fr F0 w w' := by
 have H1 := Lib.hid (r12Line_any p L every span limit hw i hi hl w T)
 have H2 := Lib.hid fun w (T : TR w p L every span limit) => r12Line_any p L every span limit hw j hj hl w T
 have HT := Lib.hid T
 have hX : 0 < (lineM L i).length ∧ (lineM L i).length ≤ 100000 := by unfold lineM; rw [List.length_reverse]; have := anc_len hw i hi; omega
 have hY : 0 < (lineM L j).length ∧ (lineM L j).length ≤ 100000 := by unfold lineM; rw [List.length_reverse]; have := anc_len hw j hj; omega
 unfold forkM
 generalize lineM L i = X at *
 generalize lineM L j = Y at *
 generalize hnx : X.length = nx at *
 generalize hny : Y.length = ny at *
 have HXY := Lib.hid (And.intro hnx hny)
 obtain ⟨R,hR⟩ : ∃ R,common (X.drop 1) (Y.drop 1) = R := ⟨_,rfl⟩
 rw [hR]
 have HR := Lib.hid hR
 clear hnx hny T hl hi hj hw hR
 go_enter Tryz.func54,Tryz.ntmps54
 go_wp2_with fail
 (with_reducible refine (H1.out).mono ?_); rintro e w1 ⟨a1,c1,rfl,x1,F⟩
 have T1 := HT.out.fr F
 rw [HXY.out.1]
 go_wp2_with fail
 (with_reducible refine (H2.out _ T1).mono ?_); rintro e w2 ⟨a2,c2,rfl,y2,f⟩
 have x2 := x1.fr f
 replace F := F.trans' f
 rw [HXY.out.2]
 clear x1 T1 f
 have HIS := Lib.hid (And.intro x2 y2)
 clear x2 y2
 go_wp2_with fail
 go_loopw [9] (fun kv wr => ∃ k : Nat,kv = .int .i64 k ∧ k < nx ∧ k < ny ∧ R = k + common (X.drop (k + 1)) (Y.drop (k + 1)) ∧ Fr F0 w2 wr) (fun kv _ => nx - (intOf kv).toNat)
 case atStart => exact ⟨0,rfl,by omega,by omega,by rw [HR.out]; omega,Fr.refl _ _⟩
 case round =>
  obtain ⟨k,rfl,hkx,hky,hk,f⟩ := hrel
  have HF := Lib.hid (F.trans' f)
  obtain ⟨m,hm⟩ : ∃ m,k + 1 = m := ⟨_,rfl⟩
  rw [hm] at hk
  have m1 : IntKind.i64.wrap ((k : Int) + 1) = (m : Int) := by rw [IntWalk.i64_in _ (by omega)]; omega
  have HK := Lib.hid (And.intro hkx (And.intro hky (And.intro hm hk)))
  have HFF := Lib.hid F
  clear hm hkx hky hk
  by_cases h1 : m < nx
  ·have l1 : (m : Int) < (nx : Int) := by omega
   by_cases h2 : m < ny
   ·have l2 : (m : Int) < (ny : Int) := by omega
    obtain ⟨b1,o1,e1,g1⟩ := (HIS.out.1.fr f).get m (by rw [HXY.out.1]; exact h1)
    obtain ⟨b2,o2,e2,g2⟩ := (HIS.out.2.fr f).get m (by rw [HXY.out.2]; exact h2)
    subst e1 e2
    have HE := Lib.hid (And.intro h1 h2)
    obtain ⟨x,hx⟩ : ∃ x,X.getD m 0 = x := ⟨_,rfl⟩
    obtain ⟨y,hy⟩ : ∃ y,Y.getD m 0 = y := ⟨_,rfl⟩
    rw [hx] at g1
    rw [hy] at g2
    have HV := Lib.hid (And.intro hx hy)
    clear hx hy
    by_cases h3 : x = y
    ·subst h3
     go_wp2_with fail
     refine rbegin (S := (fun w' => (Obj.cellAt (o1 + m) w'.heap[b1]? = some (.int .i64 (x : Int)) ∧ Obj.cellAt (o2 + m) w'.heap[b2]? = some (.int .i64 (x : Int))) ∧ Fr F0 w2 w')) ?_ fun hHeld => ?_
     ·((try dsimp only) <;> (exact ⟨⟨g1,g2⟩,f.drew⟩))
     refine rtake 0 ?_
     refine rtake 1 ?_
     refine rtake 2 ?_
     refine rtake 3 ?_
     refine rtake 4 ?_
     refine rtake 5 ?_
     refine rtake 6 ?_
     refine rtake 7 ?_
     refine rtake 8 ?_
     refine rtake 9 ?_
     refine rtake 10 ?_
     refine rtake 11 ?_
     refine rtake 12 ?_
     refine rtake 13 ?_
     refine rtake 14 ?_
     refine rtake 15 ?_
     refine rtake 16 ?_
     refine rtake 17 ?_
     refine rtake 18 ?_
     refine rtake 19 ?_
     refine rtake 20 ?_
     refine rtake 21 ?_
     refine rtake 22 ?_
     refine rtake 23 ?_
     refine rtake 24 ?_
     refine rdone ?_
     clear f g1 g2
     obtain ⟨_,f⟩ := hHeld
     go_wp2_with fail
     go_roundw
     case rel =>
      obtain ⟨q1,q2,q3,q4⟩ := HK.out
      exact ⟨m,rfl,HE.out.1,HE.out.2,by rw [q4,common_step (by rw [HXY.out.1]; exact HE.out.1) (by rw [HXY.out.2]; exact HE.out.2) (by rw [HV.out.1,HV.out.2])]; omega,f⟩
     case measure => have := HK.out; have := HE.out; simp [intOf]; omega
    ·have l3 : ¬ (x : Int) = (y : Int) := by omega
     have l4 : decide ((x : Int) = (y : Int)) = false := decide_eq_false l3
     have l5 : decide (x = y) = false := decide_eq_false h3
     have HE := Lib.hid (show R = k by
      obtain ⟨q1,q2,q3,q4⟩ := HK.out
      rw [q4,common_stop (.inr (.inr (by rw [HV.out.1,HV.out.2]; exact h3)))]; omega)
     go_wp2_with fail
     refine rbegin (S := (fun w' => (Obj.cellAt (o1 + m) w'.heap[b1]? = some (.int .i64 (x : Int)) ∧ Obj.cellAt (o2 + m) w'.heap[b2]? = some (.int .i64 (y : Int))) ∧ Fr F0 w2 w')) ?_ fun hHeld => ?_
     ·((try dsimp only) <;> (exact ⟨⟨g1,g2⟩,f.drew⟩))
     refine rtake 0 ?_
     refine rtake 1 ?_
     refine rtake 2 ?_
     refine rtake 3 ?_
     refine rtake 4 ?_
     refine rtake 5 ?_
     refine rtake 6 ?_
     refine rtake 7 ?_
     refine rtake 8 ?_
     refine rtake 9 ?_
     refine rtake 10 ?_
     refine rtake 11 ?_
     refine rtake 12 ?_
     refine rtake 13 ?_
     refine rtake 14 ?_
     refine rtake 15 ?_
     refine rtake 16 ?_
     refine rtake 17 ?_
     refine rtake 18 ?_
     refine rtake 19 ?_
     refine rtake 20 ?_
     refine rtake 21 ?_
     refine rtake 22 ?_
     refine rtake 23 ?_
     refine rtake 24 ?_
     refine rdone ?_
     clear f g1 g2
     have f := hHeld.2
     go_wp2_with fail
     go_ret
     exact ⟨by rw [HE.out]; rfl,HFF.out.trans' f⟩
   ·have l2 : ¬ (m : Int) < (ny : Int) := by omega
    have HE := Lib.hid (show R = k by
     obtain ⟨q1,q2,q3,q4⟩ := HK.out
     rw [q4,common_stop (.inr (.inl (by rw [HXY.out.2]; exact h2)))]; omega)
    go_wp2_with fail
    refine rbegin (S := (fun w' => Fr F0 w2 w')) ?_ fun hHeld => ?_
    ·((try dsimp only) <;> (exact f.drew))
    refine rtake 0 ?_
    refine rtake 1 ?_
    refine rtake 2 ?_
    refine rtake 3 ?_
    refine rtake 4 ?_
    refine rtake 5 ?_
    refine rtake 6 ?_
    refine rtake 7 ?_
    refine rtake 8 ?_
    refine rtake 9 ?_
    refine rtake 10 ?_
    refine rtake 11 ?_
    refine rtake 12 ?_
    refine rleave 13 ?_
    refine rleave 14 ?_
    refine rleave 15 ?_
    refine rleave 16 ?_
    refine rleave 17 ?_
    refine rleave 18 ?_
    refine rleave 19 ?_
    refine rleave 20 ?_
    refine rleave 21 ?_
    refine rleave 22 ?_
    refine rleave 23 ?_
    refine rtake 24 ?_
    refine rdone ?_
    clear f
    have f := hHeld
    go_wp2_with fail
    go_ret
    exact ⟨by rw [HE.out]; rfl,HFF.out.trans' f⟩
  ·have l1 : ¬ (m : Int) < (nx : Int) := by omega
   have HE := Lib.hid (show R = k by
    obtain ⟨q1,q2,q3,q4⟩ := HK.out
    rw [q4,common_stop (.inl (by rw [HXY.out.1]; exact h1))]; omega)
   go_wp2_with fail
   refine rbegin (S := (fun w' => Fr F0 w2 w')) ?_ fun hHeld => ?_
   ·((try dsimp only) <;> (exact f.drew))
   refine rtake 0 ?_
   refine rtake 1 ?_
   refine rtake 2 ?_
   refine rtake 3 ?_
   refine rtake 4 ?_
   refine rtake 5 ?_
   refine rleave 6 ?_
   refine rleave 7 ?_
   refine rleave 8 ?_
   refine rleave 9 ?_
   refine rleave 10 ?_
   refine rtake 11 ?_
   refine rtake 12 ?_
   refine rleave 13 ?_
   refine rleave 14 ?_
   refine rleave 15 ?_
   refine rleave 16 ?_
   refine rleave 17 ?_
   refine rleave 18 ?_
   refine rleave 19 ?_
   refine rleave 20 ?_
   refine rleave 21 ?_
   refine rleave 22 ?_
   refine rleave 23 ?_
   refine rtake 24 ?_
   refine rdone ?_
   clear f
   have f := hHeld
   go_wp2_with fail
   go_ret
   exact ⟨by rw [HE.out]; rfl,HFF.out.trans' f⟩
end Go.Proofs.YtfjcplfhkahamaaGreatDoor
