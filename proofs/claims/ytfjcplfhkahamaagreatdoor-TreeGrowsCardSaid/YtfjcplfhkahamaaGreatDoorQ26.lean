import Derived.Test.YtfjcplfhkahamaaGreatDoorQ25
import Derived.Test.YtfjcplfhkahamaaGreatDoorQ7
import Derived.Test.YtfjcplfhkahamaaGreatDoorQ1
import Derived.Test.YtfjcplfhkahamaaGreatDoorQ11
import Derived.Test.YtfjcplfhkahamaaGreatDoorQ16
import Derived.Test.YtfjcplfhkahamaaGreatDoorQ2
import Derived.Laws.Small
set_option maxRecDepth 100000
set_option maxHeartbeats 64000000
namespace Go.Proofs.YtfjcplfhkahamaaGreatDoor
set_option linter.unusedVariables false
set_option linter.unusedSimpArgs false
open Go.RowKit
theorem le4 (x : Nat) : (le 4 x).length = 4 := le_length 4 x
theorem r7Bytes_any (h : Hd) (o : h.Ok) (w : World) :
  Calls Tryz.prog 62 #[.int .u32 (h.ver : Int),.agg (h.ahead.map B8).toArray,.agg (h.root.map B8).toArray,.int .u32 (h.time : Int),.int .u32 (h.bits : Int),.int .u32 (h.nonce : Int)] w (NewOwn h.bytes w) := by
 obtain ⟨v,A,R,t,b,n⟩ := h
 obtain ⟨o1,o2,o3,o4,o5,o6⟩ := o
 simp only at o1 o2 o3 o4 o5 o6
 simp only [Hd.bytes]
 go_enter Tryz.func62,Tryz.ntmps62
 go_wp2_with fail
 obtain ⟨W2,hW2⟩ : ∃ W,W = (w.alloc (.cells (A.map B8).toArray 25)).alloc (.cells (R.map B8).toArray 25) := ⟨_,rfl⟩
 refine Calls.of_world W2 hW2 ?_
 have q1 : W2.heap[w.heap.size]? = some (.cells (A.map B8).toArray 25 (0,0)) := by rw [hW2,heap_alloc_old _ _ (by simp)]; exact heap_alloc_new _ _
 have q2 : W2.heap[w.heap.size + 1]? = some (.cells (R.map B8).toArray 25 (0,0)) := by have := heap_alloc_new (w.alloc (.cells (A.map B8).toArray 25)) (.cells (R.map B8).toArray 25); rw [World.size_alloc] at this; rw [hW2]; exact this
 have fW : Fr F0 w W2 := by rw [hW2]; exact ((Fr.refl F0 w).alloc _).alloc _
 replace q1 := Lib.hid q1
 replace q2 := Lib.hid q2
 try simp only [World.size_alloc]
 clear hW2
 generalize w.heap.size = g at *
 refine (refPut_own v 4 W2 (by omega) (by omega)).mono ?_
 rintro e w1 ⟨a1,c1,rfl,p1,f1,b1⟩
 replace b1 := Lib.hid b1
 rw [le4] at p1 ⊢
 go_wp2_with fail
 go_loopw [13,14,19] (fun ov iv jv wr => ∃ (k : Nat) (a : Option Addr) (m c : Nat),k ≤ 32 ∧ jv = .int .i64 k ∧ ov = .slice a m c ∧ OwnB wr (.slice a m c) (le 4 v ++ A.take k) ∧ Fr F0 W2 wr ∧ Hid (∀ i,ablk a = some i → W2.heap.size ≤ i)) (fun _ _ jv _ => 32 - (intOf jv).toNat)
 case atStart => exact ⟨0,a1,4,c1,Nat.zero_le _,rfl,rfl,by simpa using p1,f1,b1⟩
 case round =>
  obtain ⟨k,a,m,c,hk,rfl,rfl,po,fo,bo⟩ := hrel
  by_cases hkn : k < 32
  ·have cA := (cell_at _ _ _).symm.trans (rowB_get (fo.keeps (fun f => f) q1.out) k (by omega))
   have hll : (le 4 v ++ A.take k).length ≤ 100 := by simp only [List.length_append,le4,List.length_take]; omega
   replace hll := Lib.hid hll
   have hm := Lib.hid (OwnB.bs po).1
   have hT := Lib.hid (take_succ_getD A k (by omega))
   generalize A.getD k 0 = z at *
   have O1 := po.fr ((Fr.refl F0 wr).alloc (.cells #[.int .u8 (z.toNat : Int)] 5)) fun _ _ => id
   have B1 := one_B8 wr z 5
   go_wp2_with (at_builtin; refine wpList_appBN (m + 1) rfl _ _ rfl (.slice a m c) _ rfl O1 _ _ _ _ rfl B1 rfl (by rw [hm.out]; rfl) (by have := hll.out; have := hm.out; omega) ?_; intro a' c' w1 ho1 hgr hb; have HB := Lib.hid hb; clear hb)
   have hf1 := own_app fo bo.out hgr
   have hb1 := own_new (fo.alloc _) bo.out HB.out
   go_roundw
   case rel =>
    refine ⟨k + 1,a',_,c',by omega,by go_num,rfl,?_,hf1,hb1⟩
    rw [hT.out,← List.append_assoc]
    exact ho1
   case measure => simp [intOf]; omega
  ·have hk2 : k = 32 := by omega
   rw [hk2,List.take_of_length_le (Nat.le_of_eq o2)] at po
   clear hk2
   go_wp2
   go_loopw [13,15,29] (fun ov iv jv wr => ∃ (k : Nat) (a : Option Addr) (m c : Nat),k ≤ 32 ∧ jv = .int .i64 k ∧ ov = .slice a m c ∧ OwnB wr (.slice a m c) ((le 4 v ++ A) ++ R.take k) ∧ Fr F0 W2 wr ∧ Hid (∀ i,ablk a = some i → W2.heap.size ≤ i)) (fun _ _ jv _ => 32 - (intOf jv).toNat)
   case atStart => exact ⟨0,a,m,c,Nat.zero_le _,rfl,rfl,by simpa using po,fo,bo⟩
   case round =>
    obtain ⟨k,a,m,c,hk,rfl,rfl,po,fo,bo⟩ := hrel
    by_cases hkn : k < 32
    ·have cA := (cell_at _ _ _).symm.trans (rowB_get (fo.keeps (fun f => f) q2.out) k (by omega))
     have hll : ((le 4 v ++ A) ++ R.take k).length ≤ 100 := by simp only [List.length_append,le4,List.length_take]; omega
     replace hll := Lib.hid hll
     have hm := Lib.hid (OwnB.bs po).1
     have hT := Lib.hid (take_succ_getD R k (by omega))
     generalize R.getD k 0 = z at *
     have O1 := po.fr ((Fr.refl F0 wr).alloc (.cells #[.int .u8 (z.toNat : Int)] 5)) fun _ _ => id
     have B1 := one_B8 wr z 5
     go_wp2_with (at_builtin; refine wpList_appBN (m + 1) rfl _ _ rfl (.slice a m c) _ rfl O1 _ _ _ _ rfl B1 rfl (by rw [hm.out]; rfl) (by have := hll.out; have := hm.out; omega) ?_; intro a' c' w1 ho1 hgr hb; have HB := Lib.hid hb; clear hb)
     have hf1 := own_app fo bo.out hgr
     have hb1 := own_new (fo.alloc _) bo.out HB.out
     go_roundw
     case rel =>
      refine ⟨k + 1,a',_,c',by omega,by go_num,rfl,?_,hf1,hb1⟩
      rw [hT.out,← List.append_assoc]
      exact ho1
     case measure => simp [intOf]; omega
    ·have hk3 : k = 32 := by omega
     rw [hk3,List.take_of_length_le (Nat.le_of_eq o3)] at po
     clear hk3
     have hlz := Lib.hid (show (le 4 v ++ A ++ R).length = 68 by simp only [List.length_append,le4]; omega)
     go_wp2_with fail
     refine (refPut_own t 4 wr (by omega) (by omega)).mono ?_
     rintro e w3 ⟨a3,c3,rfl,p3,f3,b3⟩
     have s3 := (OwnB.bs p3).2
     have po3 := po.fr f3 (fun _ _ => id)
     replace b3 := Lib.hid b3
     rw [le4]
     go_wp2_with (at_builtin; refine wpList_appBN 72 rfl _ _ rfl (.slice a m c) _ rfl po3 _ _ _ _ rfl s3 (le4 _).symm (by rw [hlz.out,le4]) (by omega) ?_; intro a' c' w1 ho1 hgr hb; have HB := Lib.hid hb; clear hb)
     have fo4 := own_app0 (fo.trans' f3) bo.out hgr
     have bo4 := Lib.hid (own_new (fo.trans' f3) bo.out HB.out)
     clear hgr HB po3 s3 b3 p3 f3 fo bo po
     have hl4 := Lib.hid (show (le 4 v ++ A ++ R ++ le 4 t).length = 72 by rw [List.length_append,hlz.out,le4])
     refine (refPut_own b 4 w1 (by omega) (by omega)).mono ?_
     rintro e w3 ⟨a4,c4,rfl,p3,f3,b3⟩
     have s3 := (OwnB.bs p3).2
     have po3 := ho1.fr f3 (fun _ _ => id)
     rw [le4]
     clear b3
     go_wp2_with (at_builtin; refine wpList_appBN 76 rfl _ _ rfl (.slice a' 72 c') _ rfl po3 _ _ _ _ rfl s3 (le4 _).symm (by rw [hl4.out,le4]) (by omega) ?_; intro a5 c5 w5 ho5 hgr hb; have HB := Lib.hid hb; clear hb)
     have fo5 := own_app0 (fo4.trans' f3) bo4.out hgr
     have bo5 := Lib.hid (own_new (fo4.trans' f3) bo4.out HB.out)
     clear hgr HB po3 s3 p3 f3 fo4 bo4 ho1
     have hl5 := Lib.hid (show (le 4 v ++ A ++ R ++ le 4 t ++ le 4 b).length = 76 by rw [List.length_append,hl4.out,le4])
     refine (refPut_own n 4 w5 (by omega) (by omega)).mono ?_
     rintro e w3 ⟨a6,c6,rfl,p3,f3,b3⟩
     have s3 := (OwnB.bs p3).2
     have po3 := ho5.fr f3 (fun _ _ => id)
     rw [le4]
     clear b3
     go_wp2_with (at_builtin; refine wpList_appBN 80 rfl _ _ rfl (.slice a5 76 c5) _ rfl po3 _ _ _ _ rfl s3 (le4 _).symm (by rw [hl5.out,le4]) (by omega) ?_; intro a7 c7 w7 ho7 hgr hb; have HB := Lib.hid hb; clear hb)
     go_ret
     have fo7 := own_app0 (fo5.trans' f3) bo5.out hgr
     have bo7 := own_new (fo5.trans' f3) bo5.out HB.out
     have e : le 4 v ++ A ++ R ++ le 4 t ++ le 4 b ++ le 4 n = le 4 v ++ (A ++ (R ++ (le 4 t ++ (le 4 b ++ le 4 n)))) := by simp only [List.append_assoc]
     rw [e] at ho7
     exact NewOwn.mk' ho7 (fW.trans' fo7) fun k hk => Nat.le_trans fW.size (bo7 k hk)
theorem Hd.cellH {h : Hd} (o : h.Ok) : h.cells.extract 1 33 = (h.ahead.map B8).toArray := by
 apply Array.toList_inj.1
 rw [Hd.range1 o]
theorem Hd.cellR {h : Hd} (o : h.Ok) : h.cells.extract 33 65 = (h.root.map B8).toArray := by
 apply Array.toList_inj.1
 rw [Hd.range33 o]
theorem Tryz.szHeader : (Tryz.prog.info? 28).map (·.size) = some 68 := by kernel_rfl
@[go_sem ↓ high] theorem load_header (p : Value) : Instr.loadAt 28 p = loadRowAt 28 p := rfl
@[go_sem ↓ high] theorem store_header (p v : Value) : Instr.storeAt 28 p v = storeRowAt 28 p v := rfl
@[go_sem] theorem run_load_header (w : World) (g : Nat) : (loadRowAt 28 (.pointer (some ⟨g,0,none⟩))).run Tryz.prog w = rowOut Tryz.prog 28 (.pointer (some ⟨g,0,none⟩)) w 68 w.heap[g]? :=
 run_loadRowAt w _ g 68 _ Tryz.underlying28 rfl Tryz.szHeader
@[go_sem] theorem run_store_header (w : World) (g : Nat) (cells : Array Value) : (storeRowAt 28 (.pointer (some ⟨g,0,none⟩)) (.agg cells)).run Tryz.prog w = rowIn Tryz.prog 28 (.pointer (some ⟨g,0,none⟩)) cells g w 68 w.heap[g]? :=
 run_storeRowAt w _ g 68 cells Tryz.szHeader
@[go_sem ↓ high] theorem store_hash (p v : Value) : Instr.storeAt 26 p v = storeRowAt 26 p v := rfl
@[go_sem] theorem run_store_hash (w : World) (g : Nat) (cells : Array Value) : (storeRowAt 26 (.pointer (some ⟨g,0,none⟩)) (.agg cells)).run Tryz.prog w = rowIn Tryz.prog 26 (.pointer (some ⟨g,0,none⟩)) cells g w 32 w.heap[g]? :=
 run_storeRowAt w _ g 32 cells Tryz.szHash
def buildHd (parts : Array (Nat × Value)) : Sem Value := Instr.build 28 parts
@[go_sem ↓ high] theorem build_header (p : Array (Nat × Value)) : Instr.build 28 p = buildHd p := rfl
theorem run_buildHd (w : World) (parts : Array (Nat × Value)) (cells : Array Value) (h : Tryz.prog.built 28 parts.toList = some cells) : (buildHd parts).run Tryz.prog w = .ok (.agg cells) w := run_build w _ parts cells h
@[go_sem] theorem run_load_hash1 (w : World) (g : Nat) : (loadRowAt 26 (.pointer (some ⟨g,1,none⟩))).run Tryz.prog w = midOut Tryz.prog 26 (.pointer (some ⟨g,1,none⟩)) w 32 1 68 w.heap[g]? :=
 run_loadMid w _ g 1 32 68 _ (by omega) Tryz.underlying26 rfl Tryz.szHash
@[go_sem] theorem run_load_hash33 (w : World) (g : Nat) : (loadRowAt 26 (.pointer (some ⟨g,33,none⟩))).run Tryz.prog w = midOut Tryz.prog 26 (.pointer (some ⟨g,33,none⟩)) w 32 33 68 w.heap[g]? :=
 run_loadMid w _ g 33 32 68 _ (by omega) Tryz.underlying26 rfl Tryz.szHash
structure CellsOf (h : Hd) (C : Array Value) : Prop where
 size : C.size = 68
 c0 : C[0]? = some (.int .u32 (h.ver : Int))
 c65 : C[65]? = some (.int .u32 (h.time : Int))
 c66 : C[66]? = some (.int .u32 (h.bits : Int))
 c67 : C[67]? = some (.int .u32 (h.nonce : Int))
 x1 : C.extract 1 33 = (h.ahead.map B8).toArray
 x33 : C.extract 33 65 = (h.root.map B8).toArray
 one : rowOne C
theorem Hd.of {h : Hd} (o : h.Ok) : CellsOf h h.cells := ⟨Hd.cells_size o,Hd.cell0 o,Hd.cell65 o,Hd.cell66 o,Hd.cell67 o,Hd.cellH o,Hd.cellR o,Hd.one⟩
theorem Ref07_any (h : Hd) (o : h.Ok) (w : World) : Calls Tryz.prog 25 #[.agg h.cells] w (NewOwn h.bytes w) := by
 have HB := Lib.hid (r7Bytes_any h o)
 obtain ⟨s,c0,c65,c66,c67,x1,x33,_⟩ := Hd.of o
 generalize h.cells = C at *
 generalize h.bytes = bs at *
 obtain ⟨v,A,R,t,b,n⟩ := h
 simp only at *
 obtain ⟨o1,o2,o3,o4,o5,o6⟩ := o
 simp only at *
 have r0 := heap_alloc_new w (.cells C 28)
 have F := (Fr.refl F0 w).alloc (.cells C 28)
 go_enter Tryz.func25,Tryz.ntmps25
 go_wp2_with fail
 have d0 := cell_is c0 (by omega)
 have d65 := cell_is c65 (by omega)
 have d66 := cell_is c66 (by omega)
 have d67 := cell_is c67 (by omega)
 rw [d0,d65,d66,d67]
 refine (HB.out _).mono ?_
 rintro e w1 ⟨a1,c1,rfl,p1,f1,b1⟩
 replace b1 := Lib.hid fun k hk => Nat.le_trans (show w.heap.size ≤ _ by rw [World.size_alloc]; omega) (b1 k hk)
 replace F := F.trans' f1
 go_wp2_with fail
 go_ret
 exact NewOwn.mk' p1 F b1.out
theorem byte_step7 (x j : Nat) : x / 2 ^ (8 * (j + 1)) * 256 + dgt 8 x j = x / 2 ^ (8 * j) := by
 unfold dgt
 rw [show 8 * (j + 1) = 8 * j + 8 by omega,Nat.pow_add,← Nat.div_div_eq_div_mul]
 have := Nat.div_add_mod (x / 2 ^ (8 * j)) (2 ^ 8)
 omega
theorem lg_2567 : lg 256 = 1 := by decide
theorem dg_2567 : dg 256 = [256] := by unfold dg; rw [lg_2567]; simp [ds,dgt]
theorem r7Number_any (h : Nat) (hh : h < W256) (w : World) : Calls Tryz.prog 76 #[.agg (rowN .u8 8 32 h)] w fun e w' => NN h w e w' := by
 have HMu := Lib.hid (fun x (hx : lg x ≤ 10000) a c a2 c2 w h1 (h2 : Us w a2 c2 [256]) => by
  have := r3Mul_any x 256 a c a2 c2 hx (lg_w10 (word_w (by omega))) w h1 (by unfold Ns; rw [dg_2567]; exact h2)
  rwa [lg_2567] at this)
 have HAd := Lib.hid (fun x y (hx : lg x ≤ 10000) (hy : lg y ≤ 10000) a c a2 c2 w h1 h2 => r3Add_any x y a c a2 c2 hx hy w h1 h2)
 have h32 : h / 2 ^ (8 * 32) = 0 := Nat.div_eq_of_lt hh
 have hlh : ∀ j,lg (h / 2 ^ (8 * j)) ≤ 5000 := fun j => lg_w (Nat.lt_of_le_of_lt (Nat.div_le_self _ _) hh)
 have HHW := Lib.hid hh
 clear hh
 have H32 := Lib.hid h32
 have HLH := Lib.hid hlh
 clear h32 hlh
 go_enter Tryz.func76,Tryz.ntmps76
 go_upto_region 2 with fail
 obtain ⟨W10,hW10⟩ : ∃ W,W = (w.alloc (.cells (rowN .u8 8 32 h) 25)).alloc (.cells #[] 49) := ⟨_,rfl⟩
 refine wp_of_world W10 hW10 ?_
 have n0 : Us W10 (some ⟨w.heap.size + 1,0,none⟩) 0 [] := by
  have := Us.of_list (w.alloc (.cells (rowN .u8 8 32 h) 25)) [] 49 (by simp)
  rw [World.size_alloc] at this
  rw [hW10]; exact this
 have r2 : W10.heap[w.heap.size]? = some (.cells (rowN .u8 8 32 h) 25 (0,0)) := by rw [hW10]; exact keep_alloc (heap_alloc_new _ _)
 have F : Fr F0 w W10 := by rw [hW10]; exact ((Fr.refl _ _).alloc _).alloc _
 clear hW10
 generalize w.heap.size + 1 = g3 at *
 generalize w.heap.size = g2 at *
 go_wp2_with fail
 go_loopw [3,4] (fun ov iv wr => ∃ i : Nat,i ≤ 32 ∧ iv = .int .i64 ((i : Int) - 1) ∧ (∃ a' c',ov = .slice a' (lg (h / 2 ^ (8 * i))) c' ∧ Ns wr a' c' (h / 2 ^ (8 * i))) ∧ wr.heap[g2]? = some (.cells (rowN .u8 8 32 h) 25 (0,0)) ∧ Fr F0 w wr) (fun _ iv _ => (intOf iv + 1).toNat)
 case atStart => exact ⟨32,by omega,rfl,⟨_,_,by rw [H32.out]; rfl,by rw [H32.out]; exact n0⟩,r2,F⟩
 case round =>
  clear n0 r2 F
  obtain ⟨i,hi,rfl,⟨a1,c1,rfl,n1⟩,r2,hf⟩ := hrel
  cases i with
  |zero =>
   rw [Nat.mul_zero,Nat.pow_zero,Nat.div_one] at n1 ⊢
   clear HMu HAd HLH H32
   go_wp2_with fail
   go_ret
   exact ⟨a1,c1,rfl,n1,hf⟩
  |succ j =>
   have hst := byte_step7 h j
   have hd8 := dgt_lt 8 h j
   have hbn := rowN_nil4 0
   have hsd := set_first (dgt 8 h j) (by omega)
   have m1 : IntKind.u64.wrap ((dgt 8 h j : Nat) : Int) = ((dgt 8 h j : Nat) : Int) := IntWalk.u64_in _ (by omega)
   have HMj := Lib.hid (HMu.out (h / 2 ^ (8 * (j + 1))) (by have := HLH.out (j + 1); omega))
   have HOd := Lib.hid (r3Of_any (dgt 8 h j) (word_w (by omega)))
   have HAj := Lib.hid (HAd.out (h / 2 ^ (8 * (j + 1)) * 256) (dgt 8 h j) (lg_w10 (by
    have h1 : h / 2 ^ (8 * (j + 1)) * 256 ≤ h / 2 ^ (8 * j) := by omega
    exact Nat.lt_of_le_of_lt h1 ((lg_16 _).1 (lg_word (Nat.lt_of_le_of_lt (Nat.div_le_self _ _) HHW.out))))) (lg_w10 (word_w (by omega))))
   rw [hst] at HAj
   have l3 : (0 : Int) ≤ (j : Int) := by omega
   have l4 : (j : Int) < 32 := by omega
   have l5 : j < 32 := by omega
   generalize hv : h / 2 ^ (8 * j) = v at *
   have HV := Lib.hid hv
   generalize h / 2 ^ (8 * (j + 1)) = y at *
   rw [show ((j + 1 : Nat) : Int) - 1 = (j : Int) by omega]
   clear hst hd8 hv hi HMu HAd HLH
   go_upto_region 5 with fail
   refine rbegin (S := (fun w' => w'.heap[g2]? = some (.cells (rowN .u8 8 32 h) 25 (0,0)) ∧ Fr F0 wr w')) ?_ fun hHeld => ?_
   ·((try dsimp only) <;> (exact ⟨r2,(Fr.refl F0 wr).drew⟩))
   refine rtake 0 ?_
   refine rtake 3 ?_
   refine rtake 4 ?_
   refine rtake 5 ?_
   refine rtake 6 ?_
   refine rtake 7 ?_
   refine rone 1 fun K hK => ?_
   go_simp
   refine hK.out _ _ ?_ (fun hHeld => ?_)
   ·((try dsimp only) <;> (exact ⟨keep_alloc hHeld.1,hHeld.2.alloc _⟩))
   clear hK K
   try (simp only [Act.put,aST]; dsimp only [aS0,aS1])
   refine rone 2 fun K hK => ?_
   go_simp
   (refine (HMj.out _ _ _ _ _ (Us.fr n1 hHeld.2) (Us.fr (Us.of1 wr 256 49) (Fr.refl F0 _).drew)).mono ?_; rintro e w12 ⟨p7,k7,rfl,n7,f5⟩)
   refine hK.out _ _ ?_ (fun hHeld => ?_)
   ·((try dsimp only) <;> (exact ⟨keep_fr f5 hHeld.1,hHeld.2.trans' f5⟩))
   clear hK K
   try (simp only [Act.put,aST]; dsimp only [aS0,aS1])
   refine rone 8 fun K hK => ?_
   go_simp
   ((with_reducible refine (HOd.out _).mono ?_); rintro e w13 ⟨p8,k8,rfl,n8,f5⟩; replace n7 := Us.fr n7 f5)
   refine hK.out _ _ ?_ (fun hHeld => ?_)
   ·((try dsimp only) <;> (exact ⟨keep_fr f5 hHeld.1,hHeld.2.trans' f5⟩))
   clear hK K
   try (simp only [Act.put,aST]; dsimp only [aS0,aS1])
   refine rone 9 fun K hK => ?_
   go_simp
   ((with_reducible refine (HAj.out _ _ _ _ _ n7 n8).mono ?_); rintro e w14 ⟨p9,k9,rfl,n9,f5⟩)
   refine hK.out _ _ ?_ (fun hHeld => ?_)
   ·((try dsimp only) <;> (exact ⟨keep_fr f5 hHeld.1,hHeld.2.trans' f5⟩))
   clear hK K
   try (simp only [Act.put,aST]; dsimp only [aS0,aS1])
   refine rtake 10 ?_
   refine rdone ?_
   all_goals
    go_wp2
    go_roundw
    case rel => exact ⟨j,by omega,by go_num,⟨p9,k9,by rw [HV.out],by rw [HV.out]; exact n9⟩,hHeld.1,hf.trans' hHeld.2⟩
    case measure => simp [intOf]
theorem ofLE_le7 (n x : Nat) : ofLE (le n x) = x % 256 ^ n := by
 induction n generalizing x with
 |zero => simp [le,ofLE,Nat.mod_one]
 |succ n ih =>
  simp only [le,ofLE,ih,Nat.pow_succ,UInt8.toNat_ofNat',Nat.mod_mod]
  rw [Nat.mul_comm (256 ^ n) 256,Nat.mod_mul]
theorem bits_at {h : Hd} (o : h.Ok) : ((h.bytes.drop 72).take 4) = le 4 h.bits := by
 obtain ⟨v,A,R,t,b,n⟩ := h
 obtain ⟨o1,o2,o3,o4,o5,o6⟩ := o
 simp only at o2 o3
 simp only [Hd.bytes]
 rw [show le 4 v ++ (A ++ (R ++ (le 4 t ++ (le 4 b ++ le 4 n)))) = (le 4 v ++ A ++ R ++ le 4 t) ++ (le 4 b ++ le 4 n) by simp only [List.append_assoc]]
 rw [List.drop_left' (by simp only [List.length_append,le4]; omega),List.take_left' (le4 b)]
theorem row_ofLE : ∀ (l : List UInt8),(rowN .u8 8 l.length (ofLE l)).toList = l.map B8 := by
 intro l
 apply List.ext_getElem?
 intro i
 by_cases hi : i < l.length
 ·rw [Array.getElem?_toList,rowN_get _ _ _ _ _ hi,List.getElem?_map,List.getElem?_eq_getElem hi]
  simp only [Option.map_some,B8,Option.some.injEq,Value.int.injEq,true_and]
  congr 1
  have key : ∀ (l : List UInt8) (i : Nat) (hi : i < l.length),dgt 8 (ofLE l) i = l[i].toNat := by
   intro l
   induction l with
   |nil => intro i hi; simp at hi
   |cons x l ih =>
    intro i hi
    have hx := x.toNat_lt
    cases i with
    |zero => simp only [dgt,ofLE,List.getElem_cons_zero]; omega
    |succ i =>
     have h2 := ih i (by simpa using hi)
     simp only [List.getElem_cons_succ]
     rw [← h2]
     simp only [dgt,ofLE]
     rw [show 8 * (i + 1) = 8 + 8 * i by omega,Nat.pow_add,← Nat.div_div_eq_div_mul]
     congr 2
     omega
  exact key l i hi
 ·rw [List.getElem?_eq_none (by simp; omega),List.getElem?_eq_none (by simp; omega)]
theorem hash_row (l : List UInt8) (h : l.length = 32) : (l.map B8).toArray = rowN .u8 8 32 (ofLE l) := by
 have := row_ofLE l
 rw [h] at this
 apply Array.toList_inj.1
 rw [this]
theorem hash_lt (l : List UInt8) (h : l.length = 32) : ofLE l < W256 := by
 have := ofLE_lt l
 rw [h] at this
 exact this
def hsh (h : Hd) : Nat := ofLE (sha2 h.bytes)
def mtH (h : Hd) : Bool := decide (btP h.bits ∧ hsh h ≤ btT h.bits)
theorem r7Meets_any (h : Hd) (o : h.Ok) (a : Option Addr) (c : Nat) (w : World) (hb : Bs w a c h.bytes) :
  Calls Tryz.prog 42 #[.slice a 80 c] w fun e w' => e = .returned (.bool (mtH h)) ∧ Fr F0 w w' := by
 have hl := Hd.bytes_length o
 have B4 : Bs w _ _ ((h.bytes.drop 72).take 4) := (hb.drop 72 (by omega)).take 4
 rw [bits_at o] at B4
 have hmo := hb.most
 have hro := hb.room
 rw [hl] at hro
 unfold maxLen at hmo
 obtain ⟨b0,off,rfl,hz⟩ := hb.at 0 (by omega)
 clear hz
 have hcut : cutA (some ⟨b0,off,none⟩) c 72 1 = some ⟨b0,off + 72,none⟩ := by
  unfold cutA
  rw [if_neg (by omega)]
  simp [Addr.add_lit]
 rw [hcut] at B4
 have hG := refGet_any _ 4 _ _ w B4 (le4 _).symm (by rw [le4]; omega)
 rw [ofLE_le7,Nat.mod_eq_of_lt (show h.bits < 256 ^ 4 from o.bits)] at hG
 have HG := Lib.hid hG
 clear hG B4
 have HD := Lib.hid (fun o' ho' w => r6Decode_any h.bits o.bits o' ho' w)
 have HS := Lib.hid (fun w hw => r2Double_any (some ⟨b0,off,none⟩) 80 c h.bytes hl.symm (by omega) w hw)
 rw [hash_row _ (by simp [sha2,sha_length])] at HS
 have HN := Lib.hid (fun w => r7Number_any (ofLE (sha2 h.bytes)) (hash_lt _ (by simp [sha2,sha_length])) w)
 have hm : mtH h = decide (btP h.bits ∧ ofLE (sha2 h.bytes) ≤ btT h.bits) := rfl
 have hx := hash_lt (sha2 h.bytes) (by simp [sha2,sha_length])
 have HB := Lib.hid hb
 clear hb hcut
 rw [hm]
 clear hm
 generalize ofLE (sha2 h.bytes) = x at *
 obtain ⟨ob,hob⟩ : ∃ ob,decide (btP h.bits) = ob := ⟨_,rfl⟩
 have hD := HD.out ob hob
 replace HD := Lib.hid hD
 clear hD
 have hbm : (h.bits : Int) % 4294967296 = (h.bits : Int) := by have := o.bits; omega
 generalize hT : btT h.bits = T at *
 generalize h.bits = b at *
 generalize h.bytes = bs at *
 obtain ⟨r,hr⟩ : ∃ r,decide (btP b ∧ x ≤ T) = r := ⟨_,rfl⟩
 rw [hr]
 go_enter Tryz.func42,Tryz.ntmps42
 go_wp2_with fail
 (with_reducible refine HG.out.mono ?_); rintro e w1 ⟨rfl,hw⟩; subst hw
 go_wp2_with fail
 (with_reducible refine (HD.out _).mono ?_); rintro e w2 ⟨a2,c2,rfl,n2,f2⟩
 cases ob with
 |false =>
  have hn : ¬ (btP b) := of_decide_eq_false hob
  go_wp2_with fail
  go_ret
  exact ⟨by rw [← hr]; simp [hn],f2⟩
 |true =>
  have hy : btP b := of_decide_eq_true hob
  have hTW : T < W256 := by rw [← hT]; exact hy.2.2
  have HCm := Lib.hid (fun a1 c1 w h1 h2 => r3Cmp_any x T a1 c1 a2 c2 (lg_w10 hx) (lg_w10 hTW) w h1 h2)
  obtain ⟨ol,hol⟩ : ∃ ol,decide (x ≤ T) = ol := ⟨_,rfl⟩
  have hz : (ol = true ∧ cmpZ x T ≤ 0) ∨ (ol = false ∧ ¬ cmpZ x T ≤ 0) := by
   rw [← hol]
   unfold cmpZ
   by_cases h1 : x ≤ T
   ·exact .inl ⟨decide_eq_true h1,by split <;> (try split) <;> omega⟩
   ·exact .inr ⟨decide_eq_false h1,by rw [if_neg (by omega),if_pos (by omega)]; omega⟩
  have e : decide (btP b ∧ x ≤ T) = ol := by rw [← hol]; simp [hy]
  rw [hr] at e
  clear hol hob hx hTW hr
  subst e
  generalize cmpZ x T = z at *
  have HZ := Lib.hid hz
  clear hz
  generalize hq : lg T = q at *
  generalize hq2 : lg x = q2 at *
  clear hq hT
  go_wp2_with fail
  have hb2 : Bs w2 _ _ _ := Sl.fr HB.out f2 fun _ _ f => f
  (with_reducible refine (HS.out _ hb2).mono ?_); rintro e w3 ⟨rfl,f3⟩
  go_wp2_with fail
  (with_reducible refine (HN.out _).mono ?_); rintro e w4 ⟨a4,c4,rfl,n4,f4⟩
  rw [hq2]
  go_wp2_with fail
  (with_reducible refine (HCm.out _ _ _ n4 (Us.fr n2 (f3.trans' f4))).mono ?_); rintro e w5 ⟨rfl,hw⟩; replace hw := hw.symm; subst hw
  rcases HZ.out with ⟨rfl,hz⟩ | ⟨rfl,hz⟩
  ·go_wp2
   go_ret
   exact ⟨by first | rfl | (simp; done) | (simp; omega),(f2.trans' f3).trans' f4⟩
  ·go_wp2
   go_ret
   exact ⟨by first | rfl | (simp; done) | (simp; omega),(f2.trans' f3).trans' f4⟩
def zero7 : List UInt8 := List.replicate 32 0
def HBytesC : Prop := ∀ (h : Hd),h.Ok → ∀ w,Calls Tryz.prog 56 #[.agg h.cells] w (NewBytes h.bytes w)
def zeroHd : Hd := { ver := 0,ahead := zero7,root := zero7,time := 0,bits := 0,nonce := 0 }
theorem zeroHd.ok : zeroHd.Ok := ⟨by decide,rfl,rfl,by decide,by decide,by decide⟩
def HHashC : Prop := ∀ (h : Hd),h.Ok → ∀ w,Cub w → Calls Tryz.prog 19 #[.agg h.cells] w fun e w' => e = .returned (.agg ((sha2 h.bytes).map B8).toArray) ∧ Fr F0 w w'
def ckE (h : Hd) (l : Nat) : Int := if btP h.bits ∧ btT h.bits ≤ l then (if hsh h ≤ btT h.bits then 0 else 7) else 6
def HCheckC : Prop := ∀ (h : Hd),h.Ok → ∀ (l : Nat),l < W256 → ∀ E,ckE h l = E → ∀ w,Cub w → Calls Tryz.prog 27 #[.agg h.cells,.agg (rowN .u64 64 4 l)] w fun e w' => e = .returned (.int .i64 E) ∧ Fr F0 w w'
def Hd.with (h : Hd) (n : Nat) : Hd := { h with nonce := n }
def mineN (h : Hd) : Nat → Nat → Option Nat
 |0,n => if mtH (h.with n) then some n else none
 |k + 1,n => if mtH (h.with n) then some n else if n = 4294967295 then none else mineN h k (n + 1)
def mineH (h : Hd) (m : Nat) : Hd := match mineN h m h.nonce with | some n => h.with n | none => zeroHd
def mineO (h : Hd) (m : Nat) : Bool := (mineN h m h.nonce).isSome
def HMineC : Prop := ∀ (h : Hd),h.Ok → ∀ (m : Nat),m < 4294967296 → ∀ w,Cub w → Calls Tryz.prog 21 #[.agg h.cells,.int .u32 (m : Int)] w fun e w' => e = .returned (.tuple #[.agg (mineH h m).cells,.bool (mineO h m)]) ∧ Fr F0 w w'
theorem build_zeroHd (w : World) : (buildHd #[]).run Tryz.prog w = .ok (.agg zeroHd.cells) w := run_buildHd w #[] _ (by kernel_rfl)
theorem Hd.with_ok {h : Hd} (o : h.Ok) (n : Nat) (hn : n < 4294967296) : (h.with n).Ok := ⟨o.ver,o.ahead,o.root,o.time,o.bits,hn⟩
theorem Hd.with_set {h : Hd} (o : h.Ok) (n k : Nat) : (h.with n).cells.setIfInBounds 67 (.int .u32 (k : Int)) = (h.with k).cells := by
 have e : ∀ n,(h.with n).cells = ((Value.int .u32 (h.ver : Int) :: (h.ahead.map B8 ++ (h.root.map B8 ++ [Value.int .u32 (h.time : Int),.int .u32 (h.bits : Int)]))) ++ [Value.int .u32 (n : Int)]).toArray := by
  intro n
  simp [Hd.cells,Hd.with]
 rw [e,e]
 simp only [List.setIfInBounds_toArray]
 congr 1
 rw [List.set_append_right _ _ (by simp [o.ahead,o.root])]
 simp [o.ahead,o.root]
theorem mineN_hit {h : Hd} {k n : Nat} (e : mtH (h.with n) = true) : mineN h k n = some n := by
 cases k <;> simp [mineN,e]
theorem mineN_last {h : Hd} {n : Nat} (e : mtH (h.with n) = false) : mineN h 0 n = none := by simp [mineN,e]
theorem mineN_top {h : Hd} {k : Nat} (e : mtH (h.with 4294967295) = false) : mineN h k 4294967295 = none := by cases k <;> simp [mineN,e]
theorem mineN_on {h : Hd} {k n : Nat} (e : mtH (h.with n) = false) (hn : ¬ n = 4294967295) : mineN h (k + 1) n = mineN h k (n + 1) := by simp [mineN,e,hn]
theorem mineN_lt {h : Hd} : ∀ k n,n < 4294967296 → ∀ r,mineN h k n = some r → r < 4294967296
 |0,n,hn,r,e => by
  cases hm : mtH (h.with n) with
  |true => rw [mineN_hit hm] at e; cases e; exact hn
  |false => rw [mineN_last hm] at e; cases e
 |k + 1,n,hn,r,e => by
  cases hm : mtH (h.with n) with
  |true => rw [mineN_hit hm] at e; cases e; exact hn
  |false =>
   by_cases h2 : n = 4294967295
   ·subst h2; rw [mineN_top hm] at e; cases e
   ·rw [mineN_on hm h2] at e
    exact mineN_lt k (n + 1) (by omega) r e
theorem hBytesC : HBytesC := by
 intro h o w
 obtain ⟨s0,c0,c65,c66,c67,x1,x33,o0⟩ := Hd.of o
 obtain ⟨v,A,R,t,b,n⟩ := h
 obtain ⟨o1,o2,o3,o4,o5,o6⟩ := o
 simp only at o1 o2 o3 o4 o5 o6 c0 c65 c66 c67 x1 x33
 simp only [Hd.bytes]
 generalize Hd.cells _ = C at *
 have d0 := cell_is c0 (by omega)
 have d65 := cell_is c65 (by omega)
 have d66 := cell_is c66 (by omega)
 have d67 := cell_is c67 (by omega)
 go_enter Tryz.func56,Tryz.ntmps56
 go_upto_region 2 with fail
 refine wp_new fun W2 N2 => ?_
 have r0 := N2.old (heap_alloc_new w (.cells C 28))
 have fW := ((Fr.refl F0 w).alloc (.cells C 28)).trans' N2.fr
 have ne := N2.ne (heap_alloc_new w (.cells C 28))
 have i0 := WI.of N2.new
 rw [World.size_alloc] at i0 ne
 clear N2
 have gw : w.heap.size ≤ w.heap.size + 1 := by omega
 generalize w.heap.size + 1 = g1 at *
 have r0' := Lib.hid r0
 clear r0
 obtain ⟨g0,hg0⟩ : ∃ g,g = w.heap.size := ⟨_,rfl⟩
 rw [← hg0] at r0' ne ⊢
 replace ne := Lib.hid ne
 replace gw := Lib.hid gw
 clear hg0
 have r := i0.keep ne.out r0'.out
 have H := Lib.hid (i0.put v o1 (by simp only [List.length_append,le4,List.length_nil]; omega))
 go_wp2_with fail
 (with_reducible refine H.out.mono ?_); rintro e w3 ⟨rfl,i1⟩
 clear H r
 have r := i1.keep ne.out r0'.out
 have hb := Bs.of_cells (o := 1) (n := 32) r o2 (by omega) x1
 have H := Lib.hid (i1.raw _ 32 32 _ hb o2.symm (by simp only [List.length_append,le4,List.length_nil]; omega))
 go_wp2_with fail
 (with_reducible refine H.out.mono ?_); rintro e w4 ⟨rfl,i2⟩
 clear H r hb
 have r := i2.keep ne.out r0'.out
 have hb := Bs.of_cells (o := 33) (n := 32) r o3 (by omega) x33
 have H := Lib.hid (i2.raw _ 32 32 _ hb o3.symm (by simp only [List.length_append,le4,List.length_nil]; omega))
 go_wp2_with fail
 (with_reducible refine H.out.mono ?_); rintro e w5 ⟨rfl,i3⟩
 clear H r hb
 have r := i3.keep ne.out r0'.out
 have H := Lib.hid (i3.put t o4 (by simp only [List.length_append,le4,List.length_nil]; omega))
 go_wp2_with fail
 (with_reducible refine H.out.mono ?_); rintro e w6 ⟨rfl,i4⟩
 clear H r
 have r := i4.keep ne.out r0'.out
 have H := Lib.hid (i4.put b o5 (by simp only [List.length_append,le4,List.length_nil]; omega))
 go_wp2_with fail
 (with_reducible refine H.out.mono ?_); rintro e w7 ⟨rfl,i5⟩
 clear H r
 have r := i5.keep ne.out r0'.out
 have H := Lib.hid (i5.put n o6 (by simp only [List.length_append,le4,List.length_nil]; omega))
 go_wp2_with fail
 (with_reducible refine H.out.mono ?_); rintro e w8 ⟨rfl,i6⟩
 clear H r
 have H := Lib.hid (i6.bytes fW gw.out (by simp only [List.length_append,le4,List.length_nil]; omega))
 go_wp2_with fail
 refine H.out.mono ?_
 rintro e w9 ⟨a9,c9,rfl,hb9,f9,n9⟩
 have HN := Lib.hid n9
 clear n9 H
 have e : [] ++ le 4 v ++ A ++ R ++ le 4 t ++ le 4 b ++ le 4 n = le 4 v ++ (A ++ (R ++ (le 4 t ++ (le 4 b ++ le 4 n)))) := by simp only [List.append_assoc,List.nil_append]
 rw [e] at hb9 ⊢
 obtain ⟨N,hN⟩ : ∃ N,N = (le 4 v ++ (A ++ (R ++ (le 4 t ++ (le 4 b ++ le 4 n))))).length := ⟨_,rfl⟩
 rw [← hN]
 replace hN := Lib.hid hN
 go_wp2_with fail
 go_ret
 exact ⟨a9,c9,by rw [← hN.out]; rfl,hb9,f9,HN.out⟩
theorem hHashC : HHashC := by
 intro h o w hcub
 have HB := Lib.hid (hBytesC h o)
 have HD := Lib.hid (fun a c w hw hc => Double_any a 80 c h.bytes (Hd.bytes_length o).symm (by have := Hd.bytes_length o; omega) w hw hc)
 have HC := Lib.hid hcub
 have la := Hd.bytes_length o
 have s0 := Hd.cells_size o
 unfold NewBytes at HB
 rw [la] at HB
 have sx : ((sha2 h.bytes).map B8).toArray.size = 32 := by simp [sha2,sha_length]
 have ox : rowOne ((sha2 h.bytes).map B8).toArray := oneB_map _
 generalize (Array.mk ((sha2 h.bytes).map B8)) = X at *
 generalize h.cells = C at *
 generalize h.bytes = S at *
 clear hcub
 go_enter Tryz.func19,Tryz.ntmps19
 go_wp2_with fail
 refine calls_new fun W1 N1 => ?_
 have r1 := N1.new
 have F := ((Fr.refl F0 w).alloc (.cells C 28)).trans' N1.fr
 have hz : (#[.int .u8 0,.int .u8 0,.int .u8 0,.int .u8 0,.int .u8 0,.int .u8 0,.int .u8 0,.int .u8 0,.int .u8 0,.int .u8 0,.int .u8 0,.int .u8 0,.int .u8 0,.int .u8 0,.int .u8 0,.int .u8 0,
  .int .u8 0,.int .u8 0,.int .u8 0,.int .u8 0,.int .u8 0,.int .u8 0,.int .u8 0,.int .u8 0,.int .u8 0,.int .u8 0,.int .u8 0,.int .u8 0,.int .u8 0,.int .u8 0,.int .u8 0,.int .u8 0] : Array Value).size = 32 := rfl
 rw [World.size_alloc] at r1
 have hg : w.heap.size ≤ w.heap.size + 1 := by omega
 try rw [World.size_alloc]
 clear N1
 generalize (#[.int .u8 0,.int .u8 0,.int .u8 0,.int .u8 0,.int .u8 0,.int .u8 0,.int .u8 0,.int .u8 0,.int .u8 0,.int .u8 0,.int .u8 0,.int .u8 0,.int .u8 0,.int .u8 0,.int .u8 0,.int .u8 0,
  .int .u8 0,.int .u8 0,.int .u8 0,.int .u8 0,.int .u8 0,.int .u8 0,.int .u8 0,.int .u8 0,.int .u8 0,.int .u8 0,.int .u8 0,.int .u8 0,.int .u8 0,.int .u8 0,.int .u8 0,.int .u8 0] : Array Value) = Z at *
 generalize w.heap.size + 1 = g1 at *
 replace hg := Lib.hid hg
 (with_reducible refine (HB.out _).mono ?_); rintro e w2 ⟨a2,c2,rfl,hb2,f,n2⟩
 clear n2
 replace r1 := keep_fr f r1
 replace F := F.trans' f
 clear f
 go_wp2_with fail
 (with_reducible refine (HD.out _ _ _ hb2 (HC.out.fr F fun f => f)).mono ?_); rintro e w3 ⟨rfl,f⟩
 replace r1 := keep_fr f r1
 replace F := F.trans' f
 clear f
 go_wp2_with fail
 refine bodyPost_ret (results_cell_row rfl _ _ g1 _ _ _ _ rfl (by rw [heap_setRow_at,r1]; rfl) Tryz.underlying26 rfl (by rw [Tryz.szHash,sx])) rfl ⟨rfl,?_⟩
 exact F.setRow (fun h => by have := hg.out; omega) _
theorem hCheckC : HCheckC := by
 intro h o l hl E hE w hcub
 have HC := Lib.hid hcub
 have HH := Lib.hid (hHashC h o)
 rw [hash_row _ (by simp [sha2,sha_length])] at HH
 have hx := hash_lt (sha2 h.bytes) (by simp [sha2,sha_length])
 obtain ⟨sa,c0,c65,c66,c67,x1,x33,oa⟩ := Hd.of o
 clear c0 c65 c67 x1 x33 hcub
 rw [ckE,show hsh h = ofLE (sha2 h.bytes) from rfl] at hE
 generalize ofLE (sha2 h.bytes) = x at *
 by_cases hb : btP h.bits
 ·have HD := Lib.hid ((decC h.bits o.bits).1 hb)
  have hTW := hb.2.2
  generalize btT h.bits = T at *
  have HCm := Lib.hid (wCmp_any T l hTW hl)
  have HM := Lib.hid (fun o ho w => meetsC x T o hx hTW ho w)
  have hE2 : E = if T ≤ l then (if x ≤ T then 0 else 7) else 6 := by
   rw [← hE]
   by_cases h1 : T ≤ l <;> simp [hb,h1]
  clear hE hb
  generalize h.cells = A at *
  have d66 := cell_is c66 (by omega)
  generalize h.bits = b at *
  have hs : (sgn T l ≤ 0) ↔ T ≤ l := sgn_le T l
  generalize sgn T l = s at *
  clear hl hTW hx
  go_enter Tryz.func27,Tryz.ntmps27
  go_wp2_with fail
  refine calls_new fun W1 N1 => ?_
  have r1 := N1.new
  have r0 := N1.old (heap_alloc_new w (.cells A 28))
  have F := ((Fr.refl F0 w).alloc (.cells A 28)).trans' N1.fr
  rw [World.size_alloc] at r1
  clear N1
  generalize w.heap.size + 1 = g1 at *
  generalize w.heap.size = g0 at *
  (with_reducible refine (HD.out _).mono ?_); rintro e w2 ⟨rfl,f⟩
  replace r0 := keep_fr f r0
  replace r1 := keep_fr f r1
  replace F := F.trans' f
  clear f HD c66 d66
  go_upto_region 2 with fail
  refine wp_put fun W3 N3 => ?_
  have r5 := N3.new
  replace r0 := N3.old r0
  replace r1 := N3.old r1
  replace F := F.trans' N3.fr
  clear N3
  generalize w2.heap.size = g5 at *
  go_wp2_with fail
  (with_reducible refine (HCm.out _).mono ?_); rintro e w4 ⟨rfl,f⟩
  replace r0 := keep_fr f r0
  replace r5 := keep_fr f r5
  replace F := F.trans' f
  clear f HCm r1
  by_cases h1 : T ≤ l
  ·have l1 : ¬ 0 < s := by have := hs.2 h1; omega
   rw [if_pos h1] at hE2
   obtain ⟨om,hom⟩ : ∃ om,decide (x ≤ T) = om := ⟨_,rfl⟩
   have HM2 := Lib.hid (HM.out om hom)
   have hE3 : E = if om then 0 else 7 := by
    rw [hE2,← hom]
    by_cases h2 : x ≤ T <;> simp [h2]
   clear hE2 hom hs h1 HM
   go_upto_region 4 with fail
   refine rbegin (S := (fun w' => (w'.heap[g0]? = some (.cells A 28 (0,0)) ∧ w'.heap[g5]? = some (.cells (rowN .u64 64 4 T) 51 (0,0))) ∧ Fr F0 w w')) ?_ fun hHeld => ?_
   ·((try dsimp only) <;> (exact ⟨⟨r0,r5⟩,F.drew⟩))
   refine rtake 0 ?_
   refine rtake 2 ?_
   refine rone 1 fun K hK => ?_
   go_simp
   ((with_reducible refine (HH.out _ (HC.out.fr hHeld.2 fun f => f)).mono ?_); rintro e w6 ⟨rfl,f5⟩)
   refine hK.out _ _ ?_ (fun hHeld => ?_)
   ·((try dsimp only) <;> (first | exact hHeld | exact ⟨⟨keep_fr f5 hHeld.1.1,keep_fr f5 hHeld.1.2⟩,hHeld.2.trans' f5⟩))
   clear hK K
   try (simp only [Act.put,aST]; dsimp only [aS0,aS1])
   refine rone 3 fun K hK => ?_
   go_simp
   ((with_reducible refine (HM2.out _).mono ?_); rintro e w7 ⟨rfl,f5⟩)
   refine hK.out _ _ ?_ (fun hHeld => ?_)
   ·((try dsimp only) <;> (first | exact hHeld | exact ⟨⟨keep_fr f5 hHeld.1.1,keep_fr f5 hHeld.1.2⟩,hHeld.2.trans' f5⟩))
   clear hK K
   try (simp only [Act.put,aST]; dsimp only [aS0,aS1])
   refine rtake 4 ?_
   refine rtake 5 ?_
   refine rdone ?_
   all_goals
    cases om with
    |true =>
     go_wp2
     go_ret
     exact ⟨by first | rfl | (rw [hE3]; rfl),hHeld.2⟩
    |false =>
     go_wp2
     go_ret
     exact ⟨by first | rfl | (rw [hE3]; rfl),hHeld.2⟩
  ·have l1 : 0 < s := by have := hs.1; omega
   rw [if_neg h1] at hE2
   subst hE2
   go_wp2
   go_ret
   exact ⟨rfl,F⟩
 ·have HD := Lib.hid ((decC h.bits o.bits).2 hb)
  rw [if_neg (fun h => hb h.1)] at hE
  subst hE
  clear hb
  generalize h.cells = A at *
  have d66 := cell_is c66 (by omega)
  generalize h.bits = b at *
  clear hl hx
  go_enter Tryz.func27,Tryz.ntmps27
  go_wp2_with fail
  refine calls_new fun W1 N1 => ?_
  have r1 := N1.new
  have r0 := N1.old (heap_alloc_new w (.cells A 28))
  have F := ((Fr.refl F0 w).alloc (.cells A 28)).trans' N1.fr
  rw [World.size_alloc] at r1
  clear N1
  generalize w.heap.size + 1 = g1 at *
  generalize w.heap.size = g0 at *
  (with_reducible refine (HD.out _).mono ?_); rintro e w2 ⟨rfl,f⟩
  replace F := F.trans' f
  clear f HD c66 d66
  go_wp2
  go_ret
  exact ⟨rfl,F.trans' (put_new _ _ _ _).fr⟩
theorem mt_with (h : Hd) (hb : btP h.bits) (n : Nat) : mtH (h.with n) = decide (hsh (h.with n) ≤ btT h.bits) := by
 have e : (h.with n).bits = h.bits := rfl
 simp only [mtH,e,hb,true_and]
theorem mt_without (h : Hd) (hb : ¬ btP h.bits) (n : Nat) : mtH (h.with n) = false := by
 have e : (h.with n).bits = h.bits := rfl
 simp only [mtH,e,hb,false_and,decide_false]
theorem mine_without (h : Hd) (hb : ¬ btP h.bits) : ∀ k n,mineN h k n = none
 |0,n => mineN_last (mt_without h hb n)
 |k + 1,n => by
  by_cases e : n = 4294967295
  ·subst e; exact mineN_top (mt_without h hb _)
  ·rw [mineN_on (mt_without h hb n) e]; exact mine_without h hb k (n + 1)
theorem min_is32 (x y z : Nat) (h : min x y = z) : (if (y : Int) < (x : Int) then (y : Int) else (x : Int)) = (z : Int) := by split <;> omega
theorem run_min_32 (ts : Array TypeId) (t : TypeId) (x y z : Nat) (h : min x y = z) (w : World) : (Builtin.min_ ts t #[.int .u32 (x : Int),.int .u32 (y : Int)]).run Tryz.prog w = .ok (.int .u32 (z : Int)) w := by rw [run_min_int2,min_is32 x y z h]
theorem hMine_no (h : Hd) (o : h.Ok) (hb : ¬ btP h.bits) (m : Nat) (w : World) :
  Calls Tryz.prog 21 #[.agg h.cells,.int .u32 (m : Int)] w fun e w' => e = .returned (.tuple #[.agg zeroHd.cells,.bool false]) ∧ Fr F0 w w' := by
 have HD := Lib.hid ((decC h.bits o.bits).2 hb)
 obtain ⟨sa,c0,c65,c66,c67,x1,x33,oa⟩ := Hd.of o
 have hzb := build_zeroHd
 have zz : Tryz.zeroCells28.size = 68 := by kernel_rfl
 have s0 : zeroHd.cells.size = 68 := rfl
 have o0 : rowOne zeroHd.cells := Hd.one
 clear c0 c65 c67 x1 x33 hb o
 generalize Tryz.zeroCells28 = Z at *
 generalize zeroHd.cells = C at *
 generalize h.cells = A at *
 have d66 := cell_is c66 (by omega)
 generalize h.bits = b at *
 go_enter Tryz.func21,Tryz.ntmps21
 go_wp2_with fail
 refine calls_new fun W1 N1 => ?_
 have r4 := N1.new
 have F := ((Fr.refl F0 w).alloc (.cells A 28)).trans' N1.fr
 have hg : w.heap.size ≤ w.heap.size + 1 := by omega
 rw [World.size_alloc] at r4
 clear N1
 generalize w.heap.size + 1 = g4 at *
 replace hg := Lib.hid hg
 (with_reducible refine (HD.out _).mono ?_); rintro e w2 ⟨rfl,f⟩
 replace r4 := keep_fr f r4
 replace F := F.trans' f
 clear f HD c66 d66
 go_upto_region 2 with fail
 refine wp_put fun W3 N3 => ?_
 replace r4 := N3.old r4
 replace F := F.trans' N3.fr
 clear N3
 go_wp2
 refine bodyPost_ret (results_cell_row_tmp rfl _ _ g4 _ _ _ _ rfl (by rw [heap_setRow_at,r4]; rfl) Tryz.underlying28 rfl (by rw [Tryz.szHeader,s0])) rfl ⟨rfl,?_⟩
 exact F.setRow (fun h => by have := hg.out; omega) _
theorem hMine_yes (h : Hd) (o : h.Ok) (hb : btP h.bits) (m : Nat) (hm : m < 4294967296) (w : World) (hcub : Cub w) :
  Calls Tryz.prog 21 #[.agg h.cells,.int .u32 (m : Int)] w fun e w' => e = .returned (.tuple #[.agg (mineH h m).cells,.bool (mineO h m)]) ∧ Fr F0 w w' := by
 have HC := Lib.hid hcub
 have HD := Lib.hid ((decC h.bits o.bits).1 hb)
 have hTW := hb.2.2
 have HH := Lib.hid (fun n (hn : n < 4294967296) w hw => show Calls _ _ _ w fun e w' => e = .returned (.agg (rowN .u8 8 32 (hsh (h.with n)))) ∧ Fr F0 w w' from (hHashC (h.with n) (Hd.with_ok o n hn) w hw).mono fun e w' q => by
  rw [hash_row _ (by simp [sha2,sha_length])] at q
  exact q)
 have HM := Lib.hid (fun n ok (hk : mtH (h.with n) = ok) w => meetsC (hsh (h.with n)) (btT h.bits) ok (hash_lt _ (by simp [sha2,sha_length])) hTW (by rw [← mt_with h hb n]; exact hk) w)
 obtain ⟨sa,c0,c65,c66,c67,x1,x33,oa⟩ := Hd.of o
 have HN := Lib.hid o.nonce
 have HS := Lib.hid (fun n k => Hd.with_set o n k)
 have HOf := Lib.hid (fun n (hn : n < 4294967296) => Hd.of (Hd.with_ok o n hn))
 have HX : ∀ r,mineN h m h.nonce = r → mineH h m = (match r with | some n => h.with n | none => zeroHd) ∧ mineO h m = r.isSome := fun r e => by
  rw [mineH,mineO,e]
  exact ⟨rfl,rfl⟩
 replace HX := Lib.hid HX
 have szX : (mineH h m).cells.size = 68 ∧ rowOne (mineH h m).cells := by
  refine ⟨?_,Hd.one⟩
  unfold mineH
  cases e : mineN h m h.nonce with
  |none => exact Hd.cells_size zeroHd.ok
  |some r => exact Hd.cells_size (Hd.with_ok o r (mineN_lt m _ o.nonce r e))
 obtain ⟨sX,oX⟩ := szX
 obtain ⟨X,hX⟩ : ∃ X,X = (mineH h m).cells := ⟨_,rfl⟩
 obtain ⟨O,hO⟩ : ∃ O,O = mineO h m := ⟨_,rfl⟩
 rw [← hX] at sX oX ⊢
 rw [← hO]
 replace hX := Lib.hid hX
 replace hO := Lib.hid hO
 obtain ⟨k,hk⟩ : ∃ k,k = 4294967295 - h.nonce := ⟨_,rfl⟩
 obtain ⟨D,hD⟩ : ∃ D,min m k = D := ⟨_,rfl⟩
 have ws : IntKind.u32.wrap (4294967295 - (h.nonce : Int)) = (k : Int) := by have := o.nonce; rw [IntWalk.u32_in _ (by omega)]; omega
 have hmin := fun ts t w => run_min_32 ts t m k D hD w
 have wD : (D : Int) % 18446744073709551616 = (D : Int) := by omega
 obtain ⟨E,hE⟩ : ∃ E,E = D + 1 := ⟨_,rfl⟩
 have wE : IntKind.u64.wrap ((D : Int) + 1) = (E : Int) := by rw [IntWalk.u64_in _ (by omega)]; omega
 have HE := Lib.hid (show E = min m k + 1 ∧ k = 4294967295 - h.nonce by omega)
 have hE2 := Lib.hid (show E < 4294967297 by omega)
 have zz : Tryz.zeroCells28.size = 68 := by kernel_rfl
 clear hcub hb c0 c65 x1 x33 hTW o hm hD hE hk
 rw [show h.cells = (h.with h.nonce).cells from rfl] at *
 generalize btT h.bits = T at *
 generalize hA0 : (h.with h.nonce).cells = A0 at *
 replace hA0 := Lib.hid hA0
 have d66 := cell_is c66 (by omega)
 have d67 := cell_is c67 (by omega)
 generalize h.bits = b at *
 obtain ⟨N,hN⟩ : ∃ N,N = h.nonce := ⟨_,rfl⟩
 rw [← hN] at HN HX hA0 HE d67 c67 ws
 replace hN := Lib.hid hN
 go_enter Tryz.func21,Tryz.ntmps21
 go_wp2_with fail
 refine calls_new fun W1 N1 => ?_
 have r4 := N1.new
 have r2 := N1.old (heap_alloc_new w (.cells A0 28))
 have ne := N1.ne (heap_alloc_new w (.cells A0 28))
 have F := ((Fr.refl F0 w).alloc (.cells A0 28)).trans' N1.fr
 have hg : w.heap.size ≤ w.heap.size + 1 := by omega
 rw [World.size_alloc] at r4 ne
 clear N1
 generalize Tryz.zeroCells28 = Z at *
 generalize w.heap.size + 1 = g4 at *
 obtain ⟨g2,hg2⟩ : ∃ g,g = w.heap.size := ⟨_,rfl⟩
 rw [← hg2] at r2 ne hg ⊢
 have hgw := Lib.hid (show w.heap.size ≤ g2 by omega)
 replace hg := Lib.hid (show w.heap.size ≤ g4 by omega)
 replace hg2 := Lib.hid hg2
 (with_reducible refine (HD.out _).mono ?_); rintro e w2 ⟨rfl,f⟩
 replace r4 := keep_fr f r4
 replace r2 := keep_fr f r2
 replace F := F.trans' f
 clear f HD c66 d66
 go_upto_region 2 with fail
 refine wp_put fun W3 N3 => ?_
 have r6 := N3.new
 have ne6 := N3.ne r2
 replace r4 := N3.old r4
 replace r2 := N3.old r2
 replace F := F.trans' N3.fr
 clear N3
 generalize w2.heap.size = g6 at *
 go_wp2_with fail
 go_loopw [26] (fun iv wr => ∃ j n : Nat,j ≤ E ∧ iv = .int .u64 (j : Int) ∧ n < 4294967296 ∧ (wr.heap[g2]? = some (.cells (h.with n).cells 28 (0,0)) ∧ wr.heap[g4]? = some (.cells Z 28 (0,0)) ∧ wr.heap[g6]? = some (.cells (rowN .u64 64 4 T) 51 (0,0))) ∧ Fr F0 w wr ∧ Hid ((j < E → n = N + j ∧ mineN h m N = mineN h (m - j) n) ∧ (j = E → mineN h m N = none))) (fun iv _ => E - (intOf iv).toNat)
 case atStart => exact ⟨0,N,Nat.zero_le _,rfl,HN.out,⟨by rw [hA0.out]; exact r2,r4,r6⟩,F,⟨fun _ => ⟨rfl,rfl⟩,fun e => by have h1 := HE.out; omega⟩⟩
 case round =>
  clear r2 r4 r6 F
  obtain ⟨j,n,hj,rfl,hn,⟨r2,r4,r6⟩,F,HJ⟩ := hrel
  by_cases hjE : j < E
  ·have l1 : (j : Int) < (E : Int) := by omega
   obtain ⟨en,eJ⟩ := HJ.out.1 hjE
   clear HJ
   have HJ := Lib.hid eJ
   have en2 := Lib.hid en
   clear eJ en
   have HHn := Lib.hid (HH.out n hn)
   obtain ⟨mt,hmt⟩ : ∃ mt,mtH (h.with n) = mt := ⟨_,rfl⟩
   have HMn := Lib.hid (HM.out n mt hmt)
   have hset := Lib.hid (fun k => HS.out n k)
   have hof := HOf.out n hn
   have s7 := hof.size
   have o7 := hof.one
   have c7 : (h.with n).cells[67]? = some (.int .u32 (n : Int)) := hof.c67
   clear hof
   generalize hA : (h.with n).cells = A at *
   replace hA := Lib.hid hA
   have d7 := cell_is c7 (by omega)
   replace hmt := Lib.hid hmt
   replace hjE := Lib.hid hjE
   generalize hsh (h.with n) = x at *
   go_upto_region 7 with fail
   refine rbegin (S := (fun w' => (w'.heap[g2]? = some (.cells A 28 (0,0)) ∧ w'.heap[g4]? = some (.cells Z 28 (0,0)) ∧ w'.heap[g6]? = some (.cells (rowN .u64 64 4 T) 51 (0,0))) ∧ Fr F0 w w')) ?_ fun hHeld => ?_
   ·((try dsimp only) <;> (exact ⟨⟨r2,r4,r6⟩,F.drew⟩))
   refine rtake 0 ?_
   refine rtake 2 ?_
   refine rone 1 fun K hK => ?_
   go_simp
   ((with_reducible refine (HHn.out _ (HC.out.fr hHeld.2 fun f => f)).mono ?_); rintro e w6 ⟨rfl,f5⟩)
   refine hK.out _ _ ?_ (fun hHeld => ?_)
   ·((try dsimp only) <;> (first | exact hHeld | exact ⟨⟨keep_fr f5 hHeld.1.1,keep_fr f5 hHeld.1.2.1,keep_fr f5 hHeld.1.2.2⟩,hHeld.2.trans' f5⟩))
   clear hK K
   try (simp only [Act.put,aST]; dsimp only [aS0,aS1])
   refine rone 3 fun K hK => ?_
   go_simp
   ((with_reducible refine (HMn.out _).mono ?_); rintro e w7 ⟨rfl,f5⟩)
   refine hK.out _ _ ?_ (fun hHeld => ?_)
   ·((try dsimp only) <;> (first | exact hHeld | exact ⟨⟨keep_fr f5 hHeld.1.1,keep_fr f5 hHeld.1.2.1,keep_fr f5 hHeld.1.2.2⟩,hHeld.2.trans' f5⟩))
   clear hK K
   try (simp only [Act.put,aST]; dsimp only [aS0,aS1])
   refine rdone ?_
   all_goals
    cases mt with
    |true =>
     obtain ⟨e1,e2⟩ := HX.out (some n) (by rw [HJ.out,mineN_hit hmt.out])
     have eX : X = A := by rw [hX.out,e1,← hA.out]
     have eO : O = true := by rw [hO.out,e2]; rfl
     have q4 := hHeld.1.2.1
     have fq := hHeld.2
     subst eX eO
     clear e1 e2 HJ
     go_wp2
     refine bodyPost_ret (results_cell_row_tmp rfl _ _ g4 _ _ _ _ rfl (by rw [heap_setRow_at,q4]; rfl) Tryz.underlying28 rfl (by rw [Tryz.szHeader,sX])) rfl ⟨rfl,?_⟩
     exact fq.setRow (fun h => by have := hg.out; omega) _
    |false =>
     have q2 := hHeld.1.1
     have q4 := hHeld.1.2.1
     have q6 := hHeld.1.2.2
     have fq := hHeld.2
     obtain ⟨n',hn'⟩ : ∃ n',n' = (n + 1) % 4294967296 := ⟨_,rfl⟩
     have wn : IntKind.u32.wrap ((n : Int) + 1) = (n' : Int) := by rw [hn']; simp [IntKind.wrap,IntKind.signed,IntKind.bits]
     have wj : IntKind.u64.wrap ((j : Int) + 1) = ((j + 1 : Nat) : Int) := by have h1 := hjE.out; have h2 := hE2.out; rw [IntWalk.u64_in _ (by omega)]; rfl
     have hn2 := Lib.hid (show n' < 4294967296 by omega)
     have HJ2 : (j + 1 < E → n' = N + (j + 1) ∧ mineN h m N = mineN h (m - (j + 1)) n') ∧ (j + 1 = E → mineN h m N = none) := by
      have h1 := HE.out
      have h2 := en2.out
      have h3 := HN.out
      have h4 := hmt.out
      refine ⟨fun hj => ?_,fun hj => ?_⟩
      ·have e : n' = n + 1 := by omega
       refine ⟨by omega,?_⟩
       rw [HJ.out,show m - j = m - (j + 1) + 1 by omega,mineN_on h4 (by omega),e]
      ·rw [HJ.out]
       by_cases e : j = m
       ·subst e
        rw [Nat.sub_self,mineN_last h4]
       ·have e : n = 4294967295 := by omega
        subst e
        rw [mineN_top h4]
     replace HJ2 := Lib.hid HJ2
     replace hn' := Lib.hid hn'
     clear HJ
     go_wp2_with fail
     refine ⟨⟨j + 1,n',hjE.out,rfl,hn2.out,⟨?_,?_,?_⟩,?_,HJ2⟩,?_⟩
     ·rw [heap_setCell_at,q2]
      have := hset.out n'
      rw [← this]
      rfl
     ·rw [heap_setCell_ne' _ _ _ _ _ (Ne.symm ne)]
      exact q4
     ·rw [heap_setCell_ne' _ _ _ _ _ (Ne.symm ne6)]
      exact q6
     ·exact fq.setCell (p := ⟨g2,67,none⟩) (fun h => by have := hgw.out; exact absurd h (by simp only; omega)) _
     ·have h1 := hjE.out
      simp only [intOf]
      omega
  ·obtain rfl : j = E := by omega
   obtain ⟨e1,e2⟩ := HX.out none (HJ.out.2 rfl)
   have eX : X = zeroHd.cells := by rw [hX.out,e1]
   have eO : O = false := by rw [hO.out,e2]; rfl
   have hzb := build_zeroHd
   rw [← eX] at hzb
   subst eO
   have l1 : ¬ (j : Int) < (j : Int) := by omega
   clear e1 e2 HJ eX hjE
   go_wp2
   refine bodyPost_ret (results_cell_row_tmp rfl _ _ g4 _ _ _ _ rfl (by rw [heap_setRow_at,r4]; rfl) Tryz.underlying28 rfl (by rw [Tryz.szHeader,sX])) rfl ⟨rfl,?_⟩
   exact F.setRow (fun h => by have := hg.out; omega) _
theorem hMineC : HMineC := by
 intro h o m hm w hcub
 by_cases hb : btP h.bits
 ·exact hMine_yes h o hb m hm w hcub
 ·have e : mineN h m h.nonce = none := mine_without h hb m h.nonce
  have e1 : mineH h m = zeroHd := by rw [mineH,e]
  have e2 : mineO h m = false := by rw [mineO,e]; rfl
  rw [e1,e2]
  exact hMine_no h o hb m w
end Go.Proofs.YtfjcplfhkahamaaGreatDoor
