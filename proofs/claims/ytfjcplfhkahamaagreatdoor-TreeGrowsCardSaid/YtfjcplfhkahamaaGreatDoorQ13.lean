import Derived.Test.YtfjcplfhkahamaaGreatDoorQ1
import Derived.Test.YtfjcplfhkahamaaGreatDoorQ10
set_option maxRecDepth 100000
set_option maxHeartbeats 64000000
namespace Go.Proofs.YtfjcplfhkahamaaGreatDoor
set_option linter.unusedVariables false
set_option linter.unusedSimpArgs false
open Go.RowKit
attribute [local go_sem high] wdv_and wdv_or wdv_xor wdv_not wdv_add wdv_shl wdv_shr wdv_to8 wdv_of8
theorem r2Sum_any (a : Option Addr) (n c : Nat) (bs : List UInt8) (hn : n = bs.length) (hl : bs.length ≤ 1000000) (w : World) (h : Bs w a c bs) :
  Calls Tryz.prog 107 #[.slice a n c] w fun e w' => e = .returned (.agg ((sha bs).map B8).toArray) ∧ Fr F0 w w' := by
 subst hn
 have HB := Lib.hid h
 clear h
 go_enter Tryz.func107,Tryz.ntmps107
 have e64 : (arrW [] 64).size = 64 := arrW_size _ _ (by simp)
 have e8 : (arrW [] 8).size = 8 := arrW_size _ _ (by simp)
 go_wp2_with (first | refine wpList_build_none rfl 187 rfl _ Tryz.built64 ?_ | refine wpList_build_none rfl 167 rfl _ Tryz.built8 ?_ | refine wpList_store_row rfl 187 (.tmp 3) (.tmp 18) rfl (w.heap.size + 1) _ rfl rfl 187 _ (heap3_1 w _ _ _) (by rw [Tryz.sz64,e64]) (by rw [e64]; rfl) (oneAW _ _) ?_ | refine wpList_store_row rfl 167 (.tmp 4) (.tmp 19) rfl (w.heap.size + 1 + 1) _ rfl rfl 167 _ ((setRow_other _ _ _ _ (by omega)).trans (heap3_2 w _ _ _)) (by rw [Tryz.sz8w,e8]) (by rw [e8]; rfl) (oneAW _ _) ?_)
 obtain ⟨W1,hW1⟩ : ∃ W1,W1 = (((((w.alloc (.cells (arrB [] 32) 25)).alloc (.cells (arrW [] 64) 187)).alloc (.cells (arrW [] 8) 167)).setRow (w.heap.size + 1) (arrW [] 64)).setRow (w.heap.size + 1 + 1) (arrW [] 8)) := ⟨_,rfl⟩
 have hR1 : W1.heap[w.heap.size]? = some (.cells (arrB [] 32) 25 (0,0)) := by
  rw [hW1,setRow_other _ _ _ _ (by omega),setRow_other _ _ _ _ (by omega)]
  exact heap3_0 w _ _ _
 have hK1 : W1.heap[w.heap.size + 1]? = some (.cells (arrW [] 64) 187 (0,0)) := by
  rw [hW1,setRow_other _ _ _ _ (by omega)]
  exact setRow_heap _ _ _ _ _ _ (heap3_1 w _ _ _)
 have hH1 : W1.heap[w.heap.size + 1 + 1]? = some (.cells (arrW [] 8) 167 (0,0)) := by
  rw [hW1]
  exact setRow_heap _ _ _ _ _ _ ((setRow_other _ _ _ _ (by omega)).trans (heap3_2 w _ _ _))
 have hF1 : Fr F0 w W1 := by
  rw [hW1]
  exact (((((Fr.refl F0 w).alloc _).alloc _).alloc _).setRow (fun h => by omega) _).setRow (fun h => by omega) _
 refine Calls.of_world_2 W1 hW1 ?_
 clear hW1
 generalize hKb : w.heap.size + 1 = Kb at *
 generalize hHb : Kb + 1 = Hb at *
 refine (primes_any W1).mono ?_
 rintro e w2 ⟨aP,cP,rfl,hP,hf2,hPb⟩
 have hHs : Hb < W1.heap.size := (Array.getElem?_eq_some_iff.1 hH1).1
 replace hR1 := hf2.keeps (fun f => f) hR1
 replace hK1 := hf2.keeps (fun f => f) hK1
 replace hH1 := hf2.keeps (fun f => f) hH1
 replace hF1 := hF1.trans' hf2
 have HP := Lib.hid hP
 have HR1 := Lib.hid (And.intro hR1 hF1)
 have HBa := Lib.hid (fun (k : Nat) (hne : bs.map B8 ≠ []) (e : ablk a = some k) => show k < w.heap.size by
  obtain ⟨b',off,rfl,hc⟩ := HB.out.cells (fun e => hne (by rw [e]; rfl))
  cases e
  exact World.block_lt_of_cell? w _ (hc 0 (List.length_pos_iff.2 fun e => hne (by rw [e]; rfl))))
 clear hP hf2 hR1 hF1 e64 e8
 go_wp2_with fail
 go_loopw [22] (fun iv wr => ∃ i : Nat,i ≤ 64 ∧ iv = .int .i64 i ∧ wr.heap[Kb]? = some (.cells (arrW (cubesL.take i) 64) 187 (0,0)) ∧ wr.heap[Hb]? = some (.cells (arrW (H0.take i) 8) 167 (0,0)) ∧ Fr (fun k => k = Kb ∨ k = Hb) w2 wr) (fun iv _ => 64 - (intOf iv).toNat)
 case atStart => exact ⟨0,by omega,rfl,hK1,hH1,Fr.refl _ _⟩
 case round =>
  clear hK1 hH1
  obtain ⟨i,hi,rfl,hK,hH,hf⟩ := hrel
  by_cases hi64 : i < 64
  ·have hPw : Us2 wr aP cP (primesB 312) := Sl.kept HP.out fun b e hb => hf.block b hb (by have := hPb b e; omega)
   obtain ⟨b,off,rfl,hc⟩ := hPw.get i (by rw [primes_312]; exact hi64)
   have hpl := primes_small ((primesB 312).getD i 0) (by simp [List.getD,List.getElem?_eq_getElem (show i < (primesB 312).length by rw [primes_312]; exact hi64)])
   have hca := cubes_at i hi64
   have hsa := squares_at i
   generalize (primesB 312).getD i 0 = p at *
   have li : (i : Int) < 64 := by omega
   have HCA := Lib.hid hca
   have HSA := Lib.hid hsa
   have hlk : (cubesL.take i).length = i := by rw [List.length_take,cubesL_length]; omega
   have hTK := Lib.hid (take_succD cubesL i (by rw [cubesL_length]; exact hi64))
   have hTH := Lib.hid (take_succD H0 i)
   clear hca hsa hPw
   go_wp2_with fail
   refine (root_any p 3 (by omega) (by omega) _).mono ?_
   rintro e w3 ⟨rfl,hf3⟩
   have hK3 := hf3.keeps (fun f => f) hK
   have hH3 := hf3.keeps (fun f => f) hH
   have k0 := rowW_get0 (i := i) hK3 (by omega) (by omega)
   have z0 := free_row (i := i) hK3
   have HK3 := Lib.hid hK3
   have HH3 := Lib.hid hH3
   have HF3 := Lib.hid (hf.trans' hf3.of0)
   clear hK hH hf hK3 hH3
   by_cases hi8 : i < 8
   ·have li8 : (i : Int) < 8 := by omega
    go_wp2_with fail
    have hne : Hb ≠ Kb := by omega
    have hne' : Kb ≠ Hb := by omega
    have hH4 : (w3.setCell ⟨Kb,i,none⟩ (.int .u32 (wi (BitVec.ofNat 32 (rootN p 3))))).heap[Hb]? = some (.cells (arrW (H0.take i) 8) 167 (0,0)) := (Below.heap_setCell _ _ _ _ hne).trans HH3.out
    have hK4 : (w3.setCell ⟨Kb,i,none⟩ (.int .u32 (wi (BitVec.ofNat 32 (rootN p 3))))).heap[Kb]? = some (.cells (arrW (cubesL.take (i + 1)) 64) 187 (0,0)) := by
     have g := heap_setCell_in w3 Kb i _ _ _ (.int .u32 (wi (BitVec.ofNat 32 (rootN p 3)))) HK3.out
     rw [arrW_set _ _ _ _ hlk.symm (by omega),HCA.out,← hTK.out] at g
     rw [HCA.out]
     exact g
    have hF4 : Fr (fun k => k = Kb ∨ k = Hb) w2 (w3.setCell ⟨Kb,i,none⟩ (.int .u32 (wi (BitVec.ofNat 32 (rootN p 3))))) := HF3.out.setCell (p := ⟨Kb,i,none⟩) (fun _ => .inl rfl) _
    generalize w3.setCell ⟨Kb,i,none⟩ (.int .u32 (wi (BitVec.ofNat 32 (rootN p 3)))) = w4 at *
    refine (root_any p 2 (by omega) (by omega) _).mono ?_
    rintro e w5 ⟨rfl,hf5⟩
    have hlh : (H0.take i).length = i := by rw [List.length_take,H0_length]; omega
    have hK5 := hf5.keeps (fun f => f) hK4
    have hH5 := hf5.keeps (fun f => f) hH4
    have k0 := rowW_get0 (i := i) hH5 (by omega) (by omega)
    have z0 := free_row (i := i) hH5
    have HK5 := Lib.hid hK5
    have HH5 := Lib.hid hH5
    have HF5 := Lib.hid (hF4.trans' hf5.of0)
    clear hK4 hH4 hF4 hK5 hH5 hf5
    go_wp2
    go_roundw
    case rel =>
     refine ⟨i + 1,by omega,by go_num,(Below.heap_setCell _ _ _ _ hne').trans HK5.out,?_,HF5.out.setCell (p := ⟨Hb,i,none⟩) (fun _ => .inr rfl) _⟩
     have g := heap_setCell_in w5 Hb i _ _ _ (.int .u32 (wi (BitVec.ofNat 32 (rootN p 2)))) HH5.out
     rw [arrW_set _ _ _ _ hlh.symm (by omega),HSA.out hi8,← hTH.out (by rw [H0_length]; exact hi8)] at g
     rw [HSA.out hi8]
     exact g
    case measure => simp [intOf]; omega
   ·have li8 : ¬ (i : Int) < 8 := by omega
    go_wp2
    go_roundw
    case rel =>
     have hne : Hb ≠ Kb := by omega
     refine ⟨i + 1,by omega,by go_num,?_,?_,HF3.out.setCell (p := ⟨Kb,i,none⟩) (fun _ => .inl rfl) _⟩
     ·have g := heap_setCell_in w3 Kb i _ _ _ (.int .u32 (wi (BitVec.ofNat 32 (rootN p 3)))) HK3.out
      rw [arrW_set _ _ _ _ hlk.symm (by omega),HCA.out,← hTK.out] at g
      rw [HCA.out]
      exact g
     ·rw [List.take_of_length_le (by rw [H0_length]; omega)]
      rw [List.take_of_length_le (by rw [H0_length]; omega)] at HH3
      exact (Below.heap_setCell _ _ _ _ hne).trans HH3.out
    case measure => simp [intOf]; omega
  ·have hi0 : i = 64 := by omega
   rw [hi0,List.take_of_length_le (by rw [cubesL_length]; omega)] at hK
   rw [hi0,List.take_of_length_le (by rw [H0_length]; omega)] at hH
   clear hi0
   have hBw : Bs wr a c bs := Sl.frn (Sl.fr HB.out HR1.out.2 fun _ _ f => f) hf fun hne k e h => by
    have h9 : k < w.heap.size := HBa.out k hne e
    have h8 : k = Kb ∨ k = Hb := h
    omega
   have HF := Lib.hid hf
   have HK := Lib.hid hK
   have HH := Lib.hid hH
   clear hf hK hH
   go_wp2_with (first | (at_builtin; refine wpList_appB rfl _ _ rfl _ [] rfl (World.ownsRow_made wr #[] 0 (Nat.zero_le _) (Nat.zero_le _) rfl) _ _ _ _ rfl (Sl.fr hBw ((Fr.refl F0 wr).alloc _) fun _ _ f => f) rfl (by simp; omega) ?_; intro a4 c4 w4 ho4 hg4 hb4; have ho4' : OwnB w4 (.slice a4 bs.length c4) bs := (by simpa using ho4); have h128 : Bs (w4.alloc (.cells #[.int .u8 128] 5)) (some ⟨w4.heap.size,0,none⟩) 1 [128] := Bs.of_new w4 128) | (at_builtin; refine wpList_appB rfl _ _ rfl _ bs rfl (OwnB.fr ho4' ((Fr.refl F0 w4).alloc _) (fun _ _ f => f)) _ _ _ [128] rfl h128 rfl (by simp; omega) ?_; intro a5 c5 w5 ho5 hg5 hb5))
   rw [show decide ((i : Int) < 64) = false from decide_eq_false (by omega)]
   have ho5' : OwnB w5 (.slice a5 (bs.length + 1) c5) (bs ++ [128]) := by simpa using ho5
   have hb4' : ∀ k,ablk a4 = some k → wr.heap.size ≤ k := fun k e => by
    rcases hb4 k e with h | h
    ·cases h
     exact Nat.le_refl _
    ·simp at h; omega
   have hF4 : Fr F0 wr w4 := ((Fr.refl F0 wr).alloc _).grown hg4 fun k e hl => by
    cases e
    exact absurd hl (Nat.lt_irrefl _)
   have hF5 : Fr F0 wr w5 := (hF4.alloc _).grown hg5 fun k e hl => by
    have := hb4' k (by rw [← ablk_own]; exact e)
    omega
   have hb5' : ∀ k,ablk a5 = some k → wr.heap.size ≤ k := fun k e => by
    rcases hb5 k e with h | h
    ·exact hb4' k (by rw [← ablk_own]; exact h)
    ·have := hF4.size; simp only [World.size_alloc] at h; omega
   have HO5 := Lib.hid ho5'
   have HF5 := Lib.hid hF5
   have HB5 := Lib.hid hb5'
   obtain ⟨N,hN⟩ : ∃ N,N = bs.length := ⟨_,rfl⟩
   obtain ⟨Z,hZ⟩ : ∃ Z,Z = padZ bs.length := ⟨_,rfl⟩
   have HN := Lib.hid hN
   have HZ := Lib.hid hZ
   have hZ64 : Z < 64 := by rw [hZ,padZ]; omega
   obtain ⟨wa,hwa⟩ : ∃ wa,wa = wr := ⟨_,rfl⟩
   subst hwa
   clear ho4 ho4' hg4 hb4 h128 ho5 ho5' hg5 hb5 hb4' hF4 hF5 hb5' hN hZ hBw
   go_loopw [7] (fun mv wr => ∃ j : Nat,j ≤ Z ∧ (∃ a6 c6,mv = .slice a6 (bs.length + 1 + j) c6 ∧ OwnB wr (.slice a6 (bs.length + 1 + j) c6) (bs ++ [128] ++ List.replicate j 0) ∧ ∀ k,ablk a6 = some k → wa.heap.size ≤ k) ∧ Fr F0 wa wr) (fun mv _ => match mv with | .slice _ l _ => bs.length + 1 + Z - l | _ => 0)
   case atStart => exact ⟨0,Nat.zero_le _,⟨a5,c5,rfl,by simpa using HO5.out,HB5.out⟩,HF5.out⟩
   case round =>
    obtain ⟨j,hj,⟨a6,c6,rfl,ho6,hb6⟩,hf6⟩ := hrel
    have HO6 := Lib.hid ho6
    have HB6 := Lib.hid hb6
    have HF6 := Lib.hid hf6
    clear ho6 hb6 hf6
    by_cases hjz : j < Z
    ·have hmod : (((bs.length : Int) + 1 + (j : Int)) % 64 != 56) = true := by
      have := HZ.out
      simp only [padZ] at this
      simp
      omega
     go_wp2_with (at_builtin; refine wpList_appB rfl _ _ rfl _ (bs ++ [128] ++ List.replicate j 0) rfl (OwnB.fr HO6.out ((Fr.refl F0 wr).alloc _) (fun _ _ f => f)) _ _ _ [0] rfl (show Bs (wr.alloc (.cells #[.int .u8 0] 5)) (some ⟨wr.heap.size,0,none⟩) 1 [0] from Bs.of_new wr 0) rfl (by simp; omega) ?_; intro a7 c7 w7 ho7 hg7 hb7)
     go_roundw
     case rel =>
      refine ⟨j + 1,by omega,⟨a7,c7,by rw [show bs.length + (j + 1) + 1 = bs.length + 1 + (j + 1) by omega],?_,fun g hg' => ?_⟩,(HF6.out.alloc _).grown hg7 fun g e hl => ?_⟩
      ·rw [List.replicate_succ',← List.append_assoc]
       have e : (bs ++ [128] ++ List.replicate j 0).length + [(0 : UInt8)].length = bs.length + 1 + (j + 1) := by simp; omega
       rw [e] at ho7
       exact ho7
      ·rcases hb7 g hg' with h | h
       ·exact HB6.out g (by rw [← ablk_own]; exact h)
       ·have := HF6.out.size; simp only [World.size_alloc] at h; omega
      ·have := HB6.out g (by rw [← ablk_own]; exact e)
       omega
     case measure =>
      show bs.length + 1 + Z - (bs.length + (j + 1) + 1) < bs.length + 1 + Z - (bs.length + 1 + j)
      omega
    ·have hmod : (((bs.length : Int) + 1 + (j : Int)) % 64 != 56) = false := by
      have := HZ.out
      simp only [padZ] at this
      simp
      omega
     have hjZ : j = Z := by omega
     rw [hjZ] at HO6 hmod ⊢
     obtain ⟨wb,hwb⟩ : ∃ wb,wb = wr := ⟨_,rfl⟩
     subst hwb
     go_wp2_with fail
     go_loopw [7,8] (fun mv iv wr => ∃ j : Nat,j ≤ 8 ∧ iv = .int .i64 (56 - 8 * (j : Int)) ∧ (∃ a6 c6,mv = .slice a6 (bs.length + 1 + Z + j) c6 ∧ OwnB wr (.slice a6 (bs.length + 1 + Z + j) c6) (bs ++ [128] ++ List.replicate Z 0 ++ (be8 (8 * bs.length)).take j) ∧ ∀ k,ablk a6 = some k → wa.heap.size ≤ k) ∧ Fr F0 wa wr) (fun _ iv _ => (intOf iv + 8).toNat)
     case atStart => exact ⟨0,Nat.zero_le _,rfl,⟨a6,c6,rfl,by simpa using HO6.out,HB6.out⟩,HF6.out⟩
     case round =>
      obtain ⟨j8,hj8,rfl,⟨a8,c8,rfl,ho8,hb8⟩,hf8⟩ := hrel
      have HO8 := Lib.hid ho8
      have HB8 := Lib.hid hb8
      have HF8 := Lib.hid hf8
      clear ho8 hb8 hf8
      by_cases hj88 : j8 < 8
      ·have hT := Lib.hid (be8_take (8 * bs.length) j8 hj88)
       have hv := byte_at bs.length (56 - 8 * j8)
       generalize UInt8.ofNat (8 * bs.length / 2 ^ (56 - 8 * j8)) = B at *
       have hBN : Bs (wr.alloc (.cells #[.int .u8 ((bs.length : Int) * 8 / 2 ^ (56 - 8 * j8) % 256)] 5)) (some ⟨wr.heap.size,0,none⟩) 1 [B] := by
        rw [hv]
        exact Bs.of_new wr B
       clear hv
       go_wp2_with (at_builtin; refine wpList_appB rfl _ _ rfl _ (bs ++ [128] ++ List.replicate Z 0 ++ (be8 (8 * bs.length)).take j8) rfl (OwnB.fr HO8.out ((Fr.refl F0 wr).alloc _) (fun _ _ f => f)) _ _ _ [B] rfl hBN rfl (by simp [be8_length]; omega) ?_; intro a7 c7 w7 ho7 hg7 hb7)
       have hln : (bs ++ [128] ++ List.replicate Z 0 ++ (be8 (8 * bs.length)).take j8).length + [B].length = bs.length + 1 + Z + (j8 + 1) := by simp [be8_length]; omega
       rw [hln] at ho7
       have HO7 := Lib.hid ho7
       clear ho7
       go_roundw
       case rel =>
        refine ⟨j8 + 1,by omega,by congr 1; omega,⟨a7,c7,by congr 1; simp [be8_length]; omega,?_,fun g hg' => ?_⟩,(HF8.out.alloc _).grown hg7 fun g e hl => ?_⟩
        ·rw [hT.out,← List.append_assoc]
         exact HO7.out
        ·rcases hb7 g hg' with h | h
         ·exact HB8.out g (by rw [← ablk_own]; exact h)
         ·have := HF8.out.size; simp only [World.size_alloc] at h; omega
        ·have := HB8.out g (by rw [← ablk_own]; exact e)
         omega
       case measure => simp [intOf]; omega
      ·have hj0 : j8 = 8 := by omega
       have l8 : ¬ (0 : Int) ≤ 56 - 8 * (j8 : Int) := by omega
       have HM : OwnB wr (.slice a8 (pad bs).length c8) (pad bs) := by
        have := HO8.out
        rw [hj0,List.take_of_length_le (by rw [be8_length]; omega),HZ.out] at this
        rw [pad_length]
        rw [show bs.length + 9 + padZ bs.length = bs.length + 1 + padZ bs.length + 8 by omega]
        exact this
       have hlen : bs.length + 1 + Z + j8 = (pad bs).length := by rw [pad_length,HZ.out]; omega
       rw [hlen]
       have h64 : (pad bs).length % 64 = 0 := by rw [pad_length,padZ]; omega
       have hpl : (pad bs).length ≤ 1000100 := by rw [pad_length,padZ]; omega
       have HMs := Lib.hid HM.bs.2
       obtain ⟨wm,hwm⟩ : ∃ wm,wm = wr := ⟨_,rfl⟩
       subst hwm
       have hK9 : wm.heap[Kb]? = some (.cells (arrW cubesL 64) 187 (0,0)) := HF8.out.keeps (fun f => f) HK.out
       have hH9 : wm.heap[Hb]? = some (.cells (arrW H0 8) 167 (0,0)) := HF8.out.keeps (fun f => f) HH.out
       have hF9 : Fr (fun k => k = Kb ∨ k = Hb) w2 wm := HF.out.trans' HF8.out.of0
       have hm8 : ∀ k,ablk a8 = some k → Hb < k := fun k e => by
        have h1 := HB8.out k e
        have h2 := (Array.getElem?_eq_some_iff.1 HH.out).1
        omega
       generalize hmm : pad bs = m at *
       obtain ⟨M,hM⟩ : ∃ M,m.length = 64 * M := ⟨m.length / 64,by omega⟩
       have HMM := Lib.hid hmm
       have HMl := Lib.hid hM
       clear HO8 HB8 HF8 HF HK HH HM hlen hmod HO6 HB6 HF6 HB5 HF5 HO5 HN hj0 h64 hmm
       go_wp2_with fail
       go_loopw [9] (fun av wr => ∃ k : Nat,k ≤ M ∧ av = .int .i64 ((64 * k : Nat) : Int) ∧ wr.heap[Hb]? = some (.cells (arrW (runB m H0 k) 8) 167 (0,0)) ∧ Fr (fun b => b = Hb) wm wr) (fun av _ => m.length - (intOf av).toNat)
       case atStart => exact ⟨0,Nat.zero_le _,rfl,hH9,Fr.refl _ _⟩
       case round =>
        obtain ⟨k,hk,rfl,hH,hf⟩ := hrel
        clear hH9
        by_cases hkM : k < M
        ·obtain ⟨p,hp⟩ : ∃ p,p = 64 * k := ⟨_,rfl⟩
         rw [← hp]
         have hpm : p + 64 ≤ m.length := by omega
         have lp : (p : Int) < m.length := by omega
         have HPk := Lib.hid hp
         clear hp
         have hsl : (runB m H0 k).length = 8 := by rw [runB_length]; rfl
         have HRB := Lib.hid (show runB m H0 (k + 1) = compress (blk m k) (runB m H0 k) from rfl)
         generalize runB m H0 k = s at *
         have e64 : (arrW [] 64).size = 64 := arrW_size _ _ (by simp)
         have e8 : (arrW s 8).size = 8 := arrW_size _ _ (by omega)
         have hHs := (Array.getElem?_eq_some_iff.1 hH).1
         obtain ⟨wk,hwk⟩ : ∃ wk,wk = wr := ⟨_,rfl⟩
         subst hwk
         have HH := Lib.hid hH
         go_wp2_with (first | refine wpList_build_none rfl 187 rfl _ Tryz.built64 ?_ | refine wpList_store_row rfl 187 (.tmp 10) (.tmp 71) rfl wk.heap.size _ rfl rfl 187 _ (heap_alloc_new wk _) (by rw [Tryz.sz64,e64]) (by rw [e64]; rfl) (oneAW _ _) ?_ | refine wpList_load_row rfl 167 (.tmp 4) rfl Hb rfl 167 _ (0,0) _ ((setRow_other _ _ _ _ (by omega)).trans ((heap_alloc_old _ _ hHs).trans HH.out)) Tryz.underlying167 rfl (by rw [Tryz.sz8w,e8]) ?_ | refine wpList_store_row rfl 167 (.tmp 11) (.tmp 72) rfl (wk.heap.size + 1) _ rfl rfl 167 (arrW [] 8) (by have g := heap_alloc_new ((wk.alloc (.cells (arrW [] 64) 187)).setRow wk.heap.size (arrW [] 64)) (.cells (arrW [] 8) 167); rw [setRow_size,World.size_alloc] at g; exact g) (by rw [Tryz.sz8w,e8]) (by rw [e8]; rfl) (oneAW _ _) ?_)
         obtain ⟨W1,hW1⟩ : ∃ W1,W1 = ((((wk.alloc (.cells (arrW [] 64) 187)).setRow wk.heap.size (arrW [] 64)).alloc (.cells (arrW [] 8) 167)).setRow (wk.heap.size + 1) (arrW s 8)) := ⟨_,rfl⟩
         have hsz1 : (((wk.alloc (.cells (arrW [] 64) 187)).setRow wk.heap.size (arrW [] 64))).heap.size = wk.heap.size + 1 := by rw [setRow_size,World.size_alloc]
         have w1 : W1.heap[wk.heap.size]? = some (.cells (arrW [] 64) 187 (0,0)) := by
          rw [hW1,setRow_other _ _ _ _ (by omega),heap_alloc_old _ _ (by rw [hsz1]; omega)]
          exact setRow_heap _ _ _ _ _ _ (heap_alloc_new wk _)
         have v1 : W1.heap[wk.heap.size + 1]? = some (.cells (arrW s 8) 167 (0,0)) := by
          rw [hW1]
          refine setRow_heap _ _ (arrW [] 8) _ _ _ ?_
          rw [← hsz1]
          exact heap_alloc_new _ _
         have F1 : Fr F0 wk W1 := by
          rw [hW1]
          exact ((((Fr.refl F0 wk).alloc _).setRow (fun h => by omega) _).alloc _).setRow (fun h => by omega) _
         have h1 := F1.keeps (fun f => f) HH.out
         have f1 := hf.trans' F1.of0
         refine wp_of_world_2 W1 hW1 ?_
         clear hW1 hsz1 F1 e64 e8 hH
         have hwms : wm.heap.size ≤ wk.heap.size := hf.size
         have HFK := Lib.hid hf
         clear hf
         generalize hWb : wk.heap.size = Wb at *
         generalize hVb : Wb + 1 = Vb at *
         go_loopw [12] (fun tv wx => ∃ t : Nat,t ≤ 64 ∧ tv = .int .i64 t ∧ wx.heap[Wb]? = some (.cells (arrW (sch (blk m k) t) 64) 187 (0,0)) ∧ wx.heap[Vb]? = some (.cells (arrW (rnds (blk m k) s t) 8) 167 (0,0)) ∧ wx.heap[Hb]? = some (.cells (arrW s 8) 167 (0,0)) ∧ Fr (fun b => b = Hb) wm wx) (fun tv _ => 64 - (intOf tv).toNat)
         case atStart => exact ⟨0,Nat.zero_le _,rfl,w1,v1,h1,f1⟩
         case round =>
          clear w1 v1 h1 f1
          obtain ⟨t,ht,rfl,hW,hV,hH,hf⟩ := hrel
          by_cases ht64 : t < 64
          ·have lt64 : (t : Int) < 64 := by omega
           have hwx := hf.size
           go_upto_if 78 with fail
           go_cut [] from 77 to 168 (fun wx => wx.heap[Wb]? = some (.cells (arrW (sch (blk m k) (t + 1)) 64) 187 (0,0)) ∧ wx.heap[Vb]? = some (.cells (arrW (rnds (blk m k) s t) 8) 167 (0,0)) ∧ wx.heap[Hb]? = some (.cells (arrW s 8) 167 (0,0)) ∧ Fr (fun b => b = Hb) wm wx)
           case first =>
            have hsc := sch_length (blk m k) t
            have k0 := rowW_get0 (w := wr.drew) (i := t) hW (by omega) (by omega)
            have z0 := free_row (w := wr.drew) (i := t) hW
            have HH := Lib.hid (And.intro hW (And.intro hV (And.intro hH hf)))
            by_cases ht16 : t < 16
            ·have l16 : (t : Int) < 16 := by omega
             have hBm : Bs wr a8 c8 m := Sl.fr HMs.out hf fun b e h => by
              have h9 := hm8 b e
              have h8 : b = Hb := h
              omega
             obtain ⟨b8,off8,ea,hb8w⟩ := HMs.out.cells (by intro e; rw [e] at hpm; simp at hpm)
             have hbl : b8 < wm.heap.size := World.block_lt_of_cell? wm _ (hb8w 0 (by omega))
             have hneW : b8 ≠ Wb := by omega
             rw [ea] at hBm
             obtain ⟨q0,hq0⟩ : ∃ q,q = 4 * t := ⟨_,rfl⟩
             obtain ⟨r0,hr0⟩ : ∃ q,q = p + q0 := ⟨_,rfl⟩
             obtain ⟨r1,hr1⟩ : ∃ q,q = r0 + 1 := ⟨_,rfl⟩
             obtain ⟨r2,hr2⟩ : ∃ q,q = r0 + 2 := ⟨_,rfl⟩
             obtain ⟨r3,hr3⟩ : ∃ q,q = r0 + 3 := ⟨_,rfl⟩
             have m0 : IntKind.i64.wrap (4 * (t : Int)) = (q0 : Int) := by rw [IntWalk.i64_in _ (by omega)]; omega
             have m1 : IntKind.i64.wrap ((p : Int) + (q0 : Int)) = (r0 : Int) := by rw [IntWalk.i64_in _ (by omega)]; omega
             have m2 : IntKind.i64.wrap ((r0 : Int) + 1) = (r1 : Int) := by rw [IntWalk.i64_in _ (by omega)]; omega
             have m3 : IntKind.i64.wrap ((r0 : Int) + 2) = (r2 : Int) := by rw [IntWalk.i64_in _ (by omega)]; omega
             have m4 : IntKind.i64.wrap ((r0 : Int) + 3) = (r3 : Int) := by rw [IntWalk.i64_in _ (by omega)]; omega
             have n0 : (r0 : Int) < 64 * (M : Int) := by omega
             have n1 : (r1 : Int) < 64 * (M : Int) := by omega
             have n2 : (r2 : Int) < 64 * (M : Int) := by omega
             have n3 : (r3 : Int) < 64 * (M : Int) := by omega
             have c0 := Bs.getD hBm r0 (by omega)
             have c1 := Bs.getD hBm r1 (by omega)
             have c2 := Bs.getD hBm r2 (by omega)
             have c3 := Bs.getD hBm r3 (by omega)
             have hpk := HPk.out
             have HS := Lib.hid (show sch (blk m k) (t + 1) = sch (blk m k) t ++ [w8 (m.getD r0 0) <<< 24 ||| w8 (m.getD r1 0) <<< 16 ||| w8 (m.getD r2 0) <<< 8 ||| w8 (m.getD r3 0)] from by
              show sch (blk m k) t ++ _ = _
              rw [if_pos ht16,wordAt,blk_get m k _ (by omega),blk_get m k _ (by omega),blk_get m k _ (by omega),blk_get m k _ (by omega)]
              rw [show 64 * k + 4 * t = r0 by omega,show 64 * k + (4 * t + 1) = r1 by omega,show 64 * k + (4 * t + 2) = r2 by omega,show 64 * k + (4 * t + 3) = r3 by omega])
             generalize m.getD r0 0 = x0 at *
             generalize m.getD r1 0 = x1 at *
             generalize m.getD r2 0 = x2 at *
             generalize m.getD r3 0 = x3 at *
             clear hq0 hr0 hr1 hr2 hr3 hBm hb8w hpk hW hV hH hf
             subst ea
             go_wp2_with fail
             refine reg26 wr Wb t b8 off8 _ _ p q0 r0 r1 r2 r3 x0 x1 x2 x3 lt64 hneW m0 m1 m2 m3 m4 (by omega) (by omega) (by omega) (by omega) k0 z0 c0 c1 c2 c3 (Lib.hid ?_)
             rename_i w6
             intro h6
             obtain ⟨hh6,hf6⟩ := h6
             have HH6 := Lib.hid (And.intro hh6 hf6)
             clear hh6 hf6
             go_wp2_with fail
             go_meet
             case rel =>
              obtain ⟨hW,hV,hH,hf⟩ := HH.out
              refine ⟨?_,?_,?_,?_⟩
              ·rw [HS.out,HH6.out.1]
               have g0 := heap_setCell_in wr Wb t _ _ _ (.int .u32 (wi (w8 x0 <<< 24 ||| w8 x1 <<< 16 ||| w8 x2 <<< 8 ||| w8 x3))) hW
               rw [arrW_set _ _ _ _ hsc.symm (by omega)] at g0
               exact g0
              ·rw [HH6.out.1,Below.heap_setCell _ _ _ _ (show Vb ≠ Wb by omega)]; exact hV
              ·rw [HH6.out.1,Below.heap_setCell _ _ _ _ (show Hb ≠ Wb by omega)]; exact hH
              ·exact (hf.setCell (p := ⟨Wb,_,none⟩) (fun h => by simp only at h; omega) _).trans' HH6.out.2.of0
            ·have l16 : ¬ (t : Int) < 16 := by omega
             have d2 := row_get (w := wr.drew) hW (t - 2) (by omega)
             have d7 := row_get (w := wr.drew) hW (t - 7) (by omega)
             have d15 := row_get (w := wr.drew) hW (t - 15) (by omega)
             have d16 := row_get (w := wr.drew) hW (t - 16) (by omega)
             have HS := Lib.hid (show sch (blk m k) (t + 1) = sch (blk m k) t ++ [(sch (blk m k) t).getD (t - 16) 0 + sig0 ((sch (blk m k) t).getD (t - 15) 0) + (sch (blk m k) t).getD (t - 7) 0 + sig1 ((sch (blk m k) t).getD (t - 2) 0)] from by show sch (blk m k) t ++ _ = _; rw [if_neg ht16]; rfl)
             generalize (sch (blk m k) t).getD (t - 2) 0 = x2 at *
             generalize (sch (blk m k) t).getD (t - 7) 0 = x7 at *
             generalize (sch (blk m k) t).getD (t - 15) 0 = x15 at *
             generalize (sch (blk m k) t).getD (t - 16) 0 = x16 at *
             obtain ⟨q2,hq2⟩ : ∃ q,q = t - 2 := ⟨_,rfl⟩
             obtain ⟨q7,hq7⟩ : ∃ q,q = t - 7 := ⟨_,rfl⟩
             obtain ⟨q15,hq15⟩ : ∃ q,q = t - 15 := ⟨_,rfl⟩
             obtain ⟨q16,hq16⟩ : ∃ q,q = t - 16 := ⟨_,rfl⟩
             have m2 : IntKind.i64.wrap ((t : Int) - 2) = (q2 : Int) := by rw [IntWalk.i64_in _ (by omega)]; omega
             have m7 : IntKind.i64.wrap ((t : Int) - 7) = (q7 : Int) := by rw [IntWalk.i64_in _ (by omega)]; omega
             have m15 : IntKind.i64.wrap ((t : Int) - 15) = (q15 : Int) := by rw [IntWalk.i64_in _ (by omega)]; omega
             have m16 : IntKind.i64.wrap ((t : Int) - 16) = (q16 : Int) := by rw [IntWalk.i64_in _ (by omega)]; omega
             have o2 : (q2 : Int) < 64 := by omega
             have o7 : (q7 : Int) < 64 := by omega
             have o15 : (q15 : Int) < 64 := by omega
             have o16 : (q16 : Int) < 64 := by omega
             have n2 : q2 ≠ t := by omega
             have n7 : q7 ≠ t := by omega
             have n15 : q15 ≠ t := by omega
             have n16 : q16 ≠ t := by omega
             rw [← hq2] at d2
             rw [← hq7] at d7
             rw [← hq15] at d15
             rw [← hq16] at d16
             clear hq2 hq7 hq15 hq16 hW hV hH hf
             go_wp2_with fail
             refine reg27 wr Wb t q2 q7 q15 q16 x2 x7 x15 x16 lt64 m2 m7 m15 m16 o2 o7 o15 o16 n2 n7 n15 n16 k0 z0 d2 d7 d15 d16 (Lib.hid ?_)
             rename_i w6
             intro h6
             obtain ⟨hh6,hf6⟩ := h6
             have HH6 := Lib.hid (And.intro hh6 hf6)
             clear hh6 hf6
             go_wp2_with fail
             go_meet
             case rel =>
              obtain ⟨hW,hV,hH,hf⟩ := HH.out
              have ev : (rotr x2 17 ^^^ rotr x2 19 ^^^ x2 >>> 10) + x7 + (rotr x15 7 ^^^ rotr x15 18 ^^^ x15 >>> 3) + x16 = x16 + sig0 x15 + x7 + sig1 x2 := by
               unfold sig0 sig1
               ac_rfl
              have g0 := heap_setCell_in wr Wb t _ _ _ (.int .u32 (wi (x16 + sig0 x15 + x7 + sig1 x2))) hW
              rw [arrW_set _ _ _ _ hsc.symm (by omega),← HS.out,← ev] at g0
              refine ⟨?_,?_,?_,?_⟩
              ·rw [HH6.out.1]; exact g0
              ·rw [HH6.out.1,Below.heap_setCell _ _ _ _ (show Vb ≠ Wb by omega)]; exact hV
              ·rw [HH6.out.1,Below.heap_setCell _ _ _ _ (show Hb ≠ Wb by omega)]; exact hH
              ·exact (hf.setCell (p := ⟨Wb,_,none⟩) (fun h => by simp only at h; omega) _).trans' HH6.out.2.of0
           case rest =>
            obtain ⟨hW2,hV2,hH2,hf2⟩ := hcut
            clear hW hV hH hf
            have hvl : (rnds (blk m k) s t).length = 8 := by rw [rnds_length]; exact hsl
            obtain ⟨xa,xb,xc,xd,xe,xf,xg,xh,hve⟩ := eight hvl
            have HST := Lib.hid (show rnds (blk m k) s (t + 1) = stp (cubesL.getD t 0) ((sch (blk m k) 64).getD t 0) (rnds (blk m k) s t) from rfl)
            have hK2 : wc.heap[Kb]? = some (.cells (arrW cubesL 64) 187 (0,0)) := hf2.keeps (fun h => by omega) hK9
            have dk := row_get hK2 t (by rw [cubesL_length]; exact ht64)
            have dw := row_get hW2 t (by rw [sch_length]; omega)
            rw [← sch_get (blk m k) (t + 1) 64 t (by omega) (by omega)] at dw
            rw [hve] at hV2 HST
            have d0 := row_get hV2 0 (by simp)
            have d1 := row_get hV2 1 (by simp)
            have d2 := row_get hV2 2 (by simp)
            have d3 := row_get hV2 3 (by simp)
            have d4 := row_get hV2 4 (by simp)
            have d5 := row_get hV2 5 (by simp)
            have d6 := row_get hV2 6 (by simp)
            have d7 := row_get hV2 7 (by simp)
            replace d0 : wc.cell? ⟨Vb,0,none⟩ = some (.int .u32 (wi xa)) := d0
            replace d1 : wc.cell? ⟨Vb,1,none⟩ = some (.int .u32 (wi xb)) := d1
            replace d2 : wc.cell? ⟨Vb,2,none⟩ = some (.int .u32 (wi xc)) := d2
            replace d3 : wc.cell? ⟨Vb,3,none⟩ = some (.int .u32 (wi xd)) := d3
            replace d4 : wc.cell? ⟨Vb,4,none⟩ = some (.int .u32 (wi xe)) := d4
            replace d5 : wc.cell? ⟨Vb,5,none⟩ = some (.int .u32 (wi xf)) := d5
            replace d6 : wc.cell? ⟨Vb,6,none⟩ = some (.int .u32 (wi xg)) := d6
            replace d7 : wc.cell? ⟨Vb,7,none⟩ = some (.int .u32 (wi xh)) := d7
            generalize cubesL.getD t 0 = kq at *
            generalize (sch (blk m k) 64).getD t 0 = x at *
            have HVE := Lib.hid hve
            have HW2 := Lib.hid (And.intro hW2 (And.intro hV2 (And.intro hH2 hf2)))
            clear hve hW2 hV2 hH2 hf2 hK2 hvl
            obtain ⟨wo,hwo⟩ : ∃ wo,wo = wc := ⟨_,rfl⟩
            subst hwo
            go_upto_region 28 with fail
            refine reg28 wo Kb Wb Vb t xe xf xg xh kq x lt64 d4 d5 d6 d7 dk dw (Lib.hid ?_)
            rename_i wc
            intro hcut
            ·skip
             obtain ⟨rfl,hh1,hF1⟩ := hcut
             obtain ⟨wp,hwp⟩ : ∃ wp,wp = wc := ⟨_,rfl⟩
             subst hwp
             generalize hT1 : xh + (rotr xe 6 ^^^ rotr xe 11 ^^^ rotr xe 25) + (xe &&& xf ^^^ ~~~ xe &&& xg) + kq + x = T1 at *
             have HT1 := Lib.hid hT1
             rw [← cell_heap hh1] at d0 d1 d2 d3 d4 d5 d6
             clear hT1 d7 dk dw
             go_upto_region 29 with fail
             refine reg29 wp Vb xa xb xc d0 d1 d2 (Lib.hid ?_)
             rename_i wc
             intro hcut
             ·skip
              obtain ⟨rfl,hh2,hF2⟩ := hcut
              generalize hT2 : ((rotr xa 2 ^^^ rotr xa 13 ^^^ rotr xa 22) + (xa &&& xb ^^^ xa &&& xc ^^^ xb &&& xc)) = T2 at *
              have HT2 := Lib.hid hT2
              rw [← cell_heap hh2] at d0 d1 d2 d3 d4 d5 d6
              have hheap : wc.heap = wo.heap := hh2.trans hh1
              have hV3 : wc.heap[Vb]? = some (.cells (arrW [xa,xb,xc,xd,xe,xf,xg,xh] 8) 167 (0,0)) := by rw [hheap]; exact HW2.out.2.1
              have HHP := Lib.hid hheap
              have HFF := Lib.hid (hF1.trans' hF2)
              clear hT2 hh1 hh2 hheap hF1 hF2
              go_wp2_with (refine wpList_store_row rfl 167 (.tmp 11) (.tmp 252) rfl Vb ([T1 + T2,xa,xb,xc,xd + T1,xe,xf,xg].map W32).toArray rfl rfl 167 _ hV3 Tryz.sz8w (arrW_size _ _ (by simp)) (oneW_map _) ?_)
              go_roundw
              case rel =>
               obtain ⟨hW,hV,hH,hf⟩ := HW2.out
               refine ⟨t + 1,by omega,by go_num,?_,?_,?_,?_⟩
               ·rw [setRow_other _ _ _ _ (by omega),HHP.out]; exact hW
               ·have e : arrW (stp kq x [xa,xb,xc,xd,xe,xf,xg,xh]) 8 = ([T1 + T2,xa,xb,xc,xd + T1,xe,xf,xg].map W32).toArray := by
                 rw [arrW_full _ 8 (by rfl),← HT1.out,← HT2.out]
                 rfl
                rw [HST.out,e]
                exact setRow_heap _ _ _ _ _ _ hV3
               ·rw [setRow_other _ _ _ _ (by omega),HHP.out]; exact hH
               ·exact (hf.trans' HFF.out.of0).setRow (fun h => by omega) _
              case measure => simp [intOf]; omega
          ·have ht0 : t = 64 := by omega
           rw [ht0] at hV
           clear ht0 hW
           have lt64 : ¬ (t : Int) < 64 := by omega
           have hvl : (rnds (blk m k) s 64).length = 8 := by rw [rnds_length]; exact hsl
           have hcl : (compress (blk m k) s).length = 8 := by rw [compress_length]; exact hsl
           have hcg : ∀ i,i < 8 → (compress (blk m k) s).getD i 0 = s.getD i 0 + (rnds (blk m k) s 64).getD i 0 := fun i hi => zip_getD _ _ _ (by omega) (by omega)
           generalize rnds (blk m k) s 64 = vs at *
           generalize compress (blk m k) s = cs at *
           have HCG := Lib.hid hcg
           clear hcg
           go_wp2_with fail
           go_loopw [253] (fun iv wx => ∃ i : Nat,i ≤ 8 ∧ iv = .int .i64 i ∧ wx.heap[Hb]? = some (.cells (arrW (cs.take i ++ s.drop i) 8) 167 (0,0)) ∧ wx.heap[Vb]? = some (.cells (arrW vs 8) 167 (0,0)) ∧ Fr (fun b => b = Hb) wm wx) (fun iv _ => 8 - (intOf iv).toNat)
           case atStart => exact ⟨0,by omega,rfl,hH,hV,hf⟩
           case round =>
            clear hH hV hf
            obtain ⟨i6,hi6,rfl,hH,hV,hf⟩ := hrel
            by_cases hi68 : i6 < 8
            ·have l6 : (i6 : Int) < 8 := by omega
             have hml : (cs.take i6 ++ s.drop i6).length = 8 := by simp; omega
             have hge : (cs.take i6 ++ s.drop i6).getD i6 0 = s.getD i6 0 := by
              rw [List.getD_eq_getElem?_getD,List.getElem?_append_right (by simp; omega)]
              simp [List.getD,Nat.min_eq_left (show i6 ≤ cs.length by omega)]
             have dh := row_get (w := wr.drew) hH i6 (by omega)
             rw [hge] at dh
             have dv := row_get (w := wr.drew) hV i6 (by omega)
             have zf := free_row (w := wr.drew) (i := i6) hH
             have HS := Lib.hid (mix_set cs s i6 (by omega) (by omega))
             have HC := HCG.out i6 hi68
             generalize s.getD i6 0 = xs at *
             generalize vs.getD i6 0 = xv at *
             have HCX := Lib.hid HC
             have HH := Lib.hid (And.intro hH (And.intro hV hf))
             have hneV : Vb ≠ Hb := by omega
             clear HC hge hH hV hf
             go_wp2_with fail
             refine rbegin (S := (fun w' => w'.cell? ⟨Vb,i6,none⟩ = some (.int .u32 (wi xv)))) ?_ fun hHeld => ?_
             ·((try dsimp only) <;> (exact dv))
             refine rtake 0 ?_
             refine rtake 1 ?_
             refine rtake 2 ?_
             refine rtake 4 ?_
             refine rtake 5 ?_
             refine rtake 6 ?_
             refine rone 3 fun K hK => ?_
             go_simp
             refine hK.out _ _ ?_ (fun hHeld => ?_)
             ·((try dsimp only) <;> (first | exact dv | (simp only [cell_drew]; rw [cell_setCell_ne _ _ _ _ hneV]; exact dv)))
             clear hK K
             try (simp only [Act.put,aST]; dsimp only [aS0,aS1])
             refine rtake 7 ?_
             refine rtake 8 ?_
             refine rone 9 fun K hK => ?_
             go_simp
             refine hK.out _ _ ?_ (fun hHeld => ?_)
             ·((try dsimp only) <;> (first | exact dv | (simp only [cell_drew]; rw [cell_setCell_ne _ _ _ _ hneV]; exact dv)))
             clear hK K
             try (simp only [Act.put,aST]; dsimp only [aS0,aS1])
             refine rdone ?_
             go_wp2
             go_roundw
             case rel =>
              obtain ⟨hH,hV,hf⟩ := HH.out
              refine ⟨i6 + 1,by omega,by go_num,?_,?_,?_⟩
              ·have g0 := heap_setCell_in wr Hb i6 _ _ _ (.int .u32 (wi (xs + xv))) hH
               rw [arrW_setIn _ _ _ _ hml,← HCX.out,HS.out] at g0
               simp only [heap_drew]
               rw [← HCX.out]
               exact g0
              ·simp only [heap_drew]; rw [Below.heap_setCell _ _ _ _ hneV]; exact hV
              ·exact (hf.setCell (p := ⟨Hb,_,none⟩) (fun _ => rfl) _).drew
             case measure => simp [intOf]; omega
            ·have hi0 : i6 = 8 := by omega
             rw [hi0,List.take_of_length_le (by omega),List.drop_eq_nil_of_le (by omega),List.append_nil] at hH
             clear hi0
             have l6 : ¬ (i6 : Int) < 8 := by omega
             have mp : IntKind.i64.wrap ((p : Int) + 64) = ((p + 64 : Nat) : Int) := by rw [IntWalk.i64_in _ (by omega)]; omega
             obtain ⟨p6,hp6⟩ : ∃ q,q = p + 64 := ⟨_,rfl⟩
             rw [← hp6] at mp
             have HP6 := Lib.hid hp6
             have HHF := Lib.hid (And.intro hH hf)
             clear hp6 hH hV hf
             go_wp2
             go_roundw
             case rel =>
              refine ⟨k + 1,by omega,?_,?_,HHF.out.2⟩
              ·have := HP6.out
               have := HPk.out
               go_num
              ·rw [HRB.out]
               exact HHF.out.1
             case measure =>
              have := HP6.out
              simp [intOf]; omega
        ·have hk0 : k = M := by omega
         rw [hk0] at hH
         have lk : ¬ (64 * (k : Int)) < 64 * (M : Int) := by omega
         have hsl : (runB m H0 M).length = 8 := by rw [runB_length]; rfl
         have hsha : sha bs = bytesOf (runB m H0 M) := by
          rw [sha,HMM.out,HMl.out,Nat.mul_div_cancel_left _ (by omega)]
         have HSHA := Lib.hid hsha
         clear hk0 hsha
         generalize runB m H0 M = sF at *
         have hRw : wr.heap[w.heap.size]? = some (.cells (arrB [] 32) 25 (0,0)) := (hF9.trans (T := fun b => b = Hb) hf fun i hi h => .inr h).keeps (fun h => by omega) HR1.out.1
         have hFw : Fr F0 w wr := (HR1.out.2.trans hF9 fun i hi h => by omega).trans hf fun i hi h => by omega
         have e32 : (arrB [] 32).size = 32 := arrB_size _ _ (by simp)
         obtain ⟨wz,hwz⟩ : ∃ wz,wz = wr := ⟨_,rfl⟩
         subst hwz
         have HHz := Lib.hid (And.intro hH (And.intro hRw hFw))
         clear hH hRw hFw hf
         go_wp2_with (first | refine wpList_build_none rfl 25 rfl _ Tryz.built32 ?_ | refine wpList_store_row rfl 25 (.tmp 16) (.tmp 266) rfl wz.heap.size _ rfl rfl 25 (arrB [] 32) (heap_alloc_new wz (.cells (arrB [] 32) 25)) (by rw [Tryz.sz32w,e32]) rfl (oneAB _ _) ?_)
         obtain ⟨W1,hW1⟩ : ∃ W1,W1 = ((wz.alloc (.cells (arrB [] 32) 25)).setRow wz.heap.size (arrB [] 32)) := ⟨_,rfl⟩
         have F1 : Fr F0 wz W1 := by
          rw [hW1]
          exact ((Fr.refl F0 wz).alloc _).setRow (fun h => by omega) _
         have o1 : W1.heap[wz.heap.size]? = some (.cells (arrB [] 32) 25 (0,0)) := by
          rw [hW1]
          exact setRow_heap _ _ _ _ _ _ (heap_alloc_new wz _)
         refine wp_of_world_2 W1 hW1 ?_
         have hOw : w.heap.size < wz.heap.size := (Array.getElem?_eq_some_iff.1 HHz.out.2.1).1
         have hOh : Hb < wz.heap.size := (Array.getElem?_eq_some_iff.1 HHz.out.1).1
         have h1 := F1.keeps (fun f => f) HHz.out.1
         have r1 := F1.keeps (fun f => f) HHz.out.2.1
         have f1 := HHz.out.2.2.trans' F1
         generalize hOb : wz.heap.size = Ob at *
         clear hW1 F1 e32
         go_loopw [267] (fun iv wx => ∃ i : Nat,i ≤ 32 ∧ iv = .int .i64 i ∧ wx.heap[Ob]? = some (.cells (arrB ((bytesOf sF).take i) 32) 25 (0,0)) ∧ wx.heap[Hb]? = some (.cells (arrW sF 8) 167 (0,0)) ∧ wx.heap[w.heap.size]? = some (.cells (arrB [] 32) 25 (0,0)) ∧ Fr F0 w wx) (fun iv _ => 32 - (intOf iv).toNat)
         case atStart => exact ⟨0,by omega,rfl,o1,h1,r1,f1⟩
         case round =>
          clear o1 h1 r1 f1
          obtain ⟨i7,hi7,rfl,hO,hH,hR,hf⟩ := hrel
          have hbl : (bytesOf sF).length = 32 := by rw [bytesOf_length,hsl]
          by_cases hi32 : i7 < 32
          ·have li : (i7 : Int) < 32 := by omega
           obtain ⟨j,hj⟩ : ∃ j,j = i7 / 4 := ⟨_,rfl⟩
           obtain ⟨r,hr⟩ : ∃ r,r = i7 % 4 := ⟨_,rfl⟩
           obtain ⟨r8,hr8⟩ : ∃ q,q = 8 * r := ⟨_,rfl⟩
           obtain ⟨sh,hsh⟩ : ∃ q,q = 24 - r8 := ⟨_,rfl⟩
           have ej : (i7 : Int) / 4 = (j : Int) := by omega
           have er : (i7 : Int) % 4 = (r : Int) := by omega
           have m8 : IntKind.i64.wrap (8 * (r : Int)) = (r8 : Int) := by rw [IntWalk.i64_in _ (by omega)]; omega
           have m24 : IntKind.i64.wrap (24 - (r8 : Int)) = (sh : Int) := by rw [IntWalk.i64_in _ (by omega)]; omega
           have lj : (j : Int) < 8 := by omega
           have lsh : (sh : Int) < 32 := by omega
           have hg := bytesOf_get sF j r (by omega) (by omega)
           rw [show 4 * j + r = i7 by omega,show 24 - 8 * r = sh by omega] at hg
           have HT := Lib.hid (take_succB _ _ _ hg)
           have dh := row_get hH j (by omega)
           generalize sF.getD j 0 = xs at *
           have htl : ((bytesOf sF).take i7).length = i7 := by simp; omega
           have k0 := rowB_get0 (i := i7) hO (by omega) (by omega)
           have z0 := free_row (i := i7) hO
           have HH := Lib.hid (And.intro hO (And.intro hH (And.intro hR hf)))
           clear hg hj hr hr8 hsh hO hH hR hf hbl
           go_wp2
           go_roundw
           case rel =>
            obtain ⟨hO,hH,hR,hf⟩ := HH.out
            refine ⟨i7 + 1,by omega,by go_num,?_,?_,?_,hf.setCell (p := ⟨Ob,_,none⟩) (fun h => by simp only at h; omega) _⟩
            ·have g0 := heap_setCell_in wr Ob i7 _ _ _ (.int .u8 ((lo8 (xs >>> sh)).toNat : Int)) hO
             rw [arrB_set _ _ _ _ htl.symm (by omega),← HT.out] at g0
             exact g0
            ·rw [Below.heap_setCell _ _ _ _ (show Hb ≠ Ob by omega)]; exact hH
            ·rw [Below.heap_setCell _ _ _ _ (show w.heap.size ≠ Ob by omega)]; exact hR
           case measure => simp [intOf]; omega
          ·have hi0 : i7 = 32 := by omega
           rw [hi0,List.take_of_length_le (by omega),arrB_full _ _ hbl] at hO
           have li : ¬ (i7 : Int) < 32 := by omega
           have hbz : ((bytesOf sF).map B8).toArray.size = 32 := by simp [hbl]
           have e32 : (arrB [] 32).size = 32 := arrB_size _ _ (by simp)
           clear hi0 hH
           go_wp2_with (first | refine wpList_load_row rfl 25 (.tmp 16) rfl Ob rfl 25 _ (0,0) _ hO Tryz.underlying25 rfl (by rw [Tryz.sz32w,hbz]) ?_ | refine wpList_store_row rfl 25 (.tmp 2) (.tmp 283) rfl w.heap.size _ rfl rfl 25 _ hR (by rw [Tryz.sz32w,hbz]) (by rw [e32,hbz]) (oneB_map _) ?_)
           refine bodyPost_ret (results_cell_row rfl _ _ w.heap.size _ _ _ _ rfl (setRow_heap _ _ _ _ _ _ hR) Tryz.underlying25 rfl (by rw [Tryz.sz32w,hbz])) rfl ⟨?_,hf.setRow (fun h => by omega) _⟩
           rw [HSHA.out]
end Go.Proofs.YtfjcplfhkahamaaGreatDoor
