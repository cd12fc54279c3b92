import Derived.Test.YtedffdlkmpmdlaaGreatDoorFz40
import Derived.Test.YtedffdlkmpmdlaaGreatDoorFz18
import Derived.Test.YtedffdlkmpmdlaaGreatDoorFz16
import Derived.Test.YtedffdlkmpmdlaaGreatDoorFz13
import Derived.Test.YtedffdlkmpmdlaaGreatDoorFz1
import Derived.Test.YtedffdlkmpmdlaaGreatDoorFz32
import Derived.Test.YtedffdlkmpmdlaaGreatDoorFz20
import Derived.Test.YtedffdlkmpmdlaaGreatDoorFz11
import Derived.Test.YtedffdlkmpmdlaaGreatDoorFz31
import Derived.Test.YtedffdlkmpmdlaaGreatDoorFz27
import Derived.Test.YtedffdlkmpmdlaaGreatDoorFz39
set_option maxRecDepth 100000
set_option maxHeartbeats 64000000
namespace Go.Proofs.YtedffdlkmpmdlaaGreatDoor
set_option maxRecDepth 100000
set_option linter.unusedVariables false
set_option linter.unusedSimpArgs false
open Go.RowKit
theorem own_appK {st et sz nb : Nat} (hu : Tryz.prog.underlying st = some (.slice et)) {z : Value} (hi3 : (Tryz.prog.info? et).map (fun i => (i.zero,i.size,i.bytes)) = some (some z,sz,nb)) (hzc : z.cells.size = sz) (h0 : 0 < sz) (hnb : nb ≤ 1000)
  {w : World} {v : Value} {n : Nat} {xs : List Value} (h : w.ownsRow 0 et sz v n xs) (X : Array Value) (hX : X.size = sz) (oX : rowOne X) (hl : n ≤ 100000) (ty : TypeId) :
  ∃ a c w',(Builtin.append_ #[st,st] ty #[v,.slice (some ⟨w.heap.size,0,none⟩) 1 1]).run Tryz.prog (w.alloc (.cells X et)) = .ok (.slice a (n + 1) c) w' ∧ w'.ownsRow 0 et sz (.slice a (n + 1) c) (n + 1) (xs ++ X.toList) ∧
   Fr (fun k => v.ownBlock = some k) w w' ∧ ∀ k,ablk a = some k → v.ownBlock = some k ∨ w.heap.size ≤ k := by
 obtain ⟨i0,hi,hz,hs,hb⟩ := info_parts hi3
 obtain ⟨W,hW⟩ : ∃ W,W = w.alloc (.cells X et) := ⟨_,rfl⟩
 have hnew := heap_alloc_new w (.cells X et)
 have fW : Fr F0 w W := by rw [hW]; exact (Fr.refl F0 w).alloc _
 have sW : W.heap.size = w.heap.size + 1 := by rw [hW]; simp
 rw [← hW] at hnew ⊢
 have hsl : Sl W sz (some ⟨w.heap.size,0,none⟩) 1 1 X.toList := ⟨by rw [Array.length_toList,hX,Nat.one_mul],Nat.le_refl _,by unfold maxLen; omega,(fun e => by cases e),fun j u hj => ⟨_,_,rfl,by rw [cell_at,hnew,cellAt_cells,Nat.zero_add]; simpa using hj⟩⟩
 have hone : ∀ u ∈ X.toList,u.oneCell' = true := fun u hu => by
  unfold rowOne at oX
  rw [Array.all_eq_true_iff_forall_mem] at oX
  exact oX u (by simpa using hu)
 obtain ⟨v',w',hrun,hown,hg,hnw⟩ := run_app (P := Tryz.prog) (w := W) st ty et i0 _ sz nb hu hi hz hs hb hzc h0 v n _ (own_frJ h fW fun _ _ f => f) (some ⟨w.heap.size,0,none⟩) 1 1 X.toList hsl
  hone (by unfold maxLen; omega) (by have := Nat.mul_le_mul (show n + 1 ≤ 100001 by omega) hnb; omega)
 obtain ⟨a,c,rfl⟩ := own_slice hown
 have F : Fr (fun k => v.ownBlock = some k) w w' := (fW.of0).grown hg fun k hk hl => hk
 refine ⟨a,c,w',hrun,hown,F,fun k hk => ?_⟩
 rcases hnw k (by rw [ablk_own]; exact hk) with e | e
 ·exact .inl e
 ·exact .inr (by omega)
theorem Tryz.infoHeader : (Tryz.prog.info? 27).map (fun i => (i.zero,i.size,i.bytes)) = some (some (.agg (Value.int .u32 0 :: (z32.map B8 ++ (z32.map B8 ++ [Value.int .u32 0,.int .u32 0,.int .u32 0]))).toArray),68,80) := by kernel_rfl
def appR (t ty : TypeId) (args : Array Value) : Sem Value := Builtin.append_ #[t,t] ty args
@[go_sem ↓ high] theorem app_R2 (ty : TypeId) (args : Array Value) : Builtin.append_ #[35,35] ty args = appR 35 ty args := rfl
structure OwnHd (w : World) (v : Value) (l : List Hd) : Prop where
 own : w.ownsRow 0 27 68 v l.length (l.flatMap fun h => h.cells.toList)
 ok : ∀ h ∈ l,h.Ok
theorem OwnHd.frS {S : Nat → Prop} {w w' : World} {v : Value} {l : List Hd} (h : OwnHd w v l) (f : Fr S w w') (h1 : ∀ k,v.ownBlock = some k → ¬ S k) : OwnHd w' v l := ⟨own_frJ h.own f h1,h.ok⟩
theorem OwnHd.fr {w w' : World} {v : Value} {l : List Hd} (h : OwnHd w v l) (f : Fr F0 w w') : OwnHd w' v l := h.frS f fun _ _ e => e
theorem OwnHd.block {w : World} {v : Value} {l : List Hd} (h : OwnHd w v l) {k : Nat} (hk : v.ownBlock = some k) : ∃ cur,w.heap[k]? = some (.cells cur 27 (0,0)) := by
 rcases h.own.2 with ⟨rfl,_⟩ | ⟨g,cap,cur,rfl,_,hg,_⟩
 ·cases hk
 ·cases hk
  exact ⟨cur,hg⟩
theorem OwnHd.app {w : World} {v : Value} {l : List Hd} (h : OwnHd w v l) (b : Hd) (o : b.Ok) (hl : l.length ≤ 100000) (ty : TypeId) :
  ∃ a c w',(appR 35 ty #[v,.slice (some ⟨w.heap.size,0,none⟩) 1 1]).run Tryz.prog (w.alloc (.cells b.cells 27)) = .ok (.slice a (l.length + 1) c) w' ∧ OwnHd w' (.slice a (l.length + 1) c) (l ++ [b]) ∧
   Fr (fun k => v.ownBlock = some k) w w' ∧ ∀ k,ablk a = some k → v.ownBlock = some k ∨ w.heap.size ≤ k := by
 obtain ⟨a,c,w',h1,h2,h3,h4⟩ := own_appK Tryz.underlying35 Tryz.infoHeader rfl (by omega) (by omega) h.own b.cells (Hd.cells_size o) Hd.one hl ty
 refine ⟨a,c,w',h1,⟨?_,fun x hx => ?_⟩,h3,h4⟩
 ·rw [List.length_append,List.flatMap_append]
  simpa using h2
 ·rw [List.mem_append,List.mem_singleton] at hx
  rcases hx with hx | rfl
  ·exact h.ok x hx
  ·exact o
theorem flatHd_at : ∀ (l : List Hd),(∀ h ∈ l,h.Ok) → ∀ k,k < l.length → ∀ j,j < 68 → (l.flatMap fun h => h.cells.toList)[k * 68 + j]? = (hdT l k).cells[j]?
 |[],_,k,h,j,_ => absurd h (by simp)
 |x :: l,hl,0,_,j,hj => by
  rw [List.flatMap_cons,Nat.zero_mul,Nat.zero_add,List.getElem?_append_left (by rw [Array.length_toList,Hd.cells_size (hl x (by simp))]; exact hj),Array.getElem?_toList]
  rfl
 |x :: l,hl,k + 1,h,j,hj => by
  have e : x.cells.toList.length = 68 := by rw [Array.length_toList,Hd.cells_size (hl x (by simp))]
  rw [List.flatMap_cons,List.getElem?_append_right (by rw [e]; omega),e,show (k + 1) * 68 + j - 68 = k * 68 + j by omega,flatHd_at l (fun y hy => hl y (by simp [hy])) k (by simpa using h) j hj]
  rfl
theorem hdT_mem {l : List Hd} {k : Nat} (hk : k < l.length) : hdT l k ∈ l := by
 unfold hdT
 rw [List.getD_eq_getElem?_getD,List.getElem?_eq_getElem hk]
 exact List.getElem_mem hk
theorem OwnHd.load {w : World} {v : Value} {l : List Hd} (h : OwnHd w v l) {k : Nat} (hk : k < l.length) :
  ∃ b c,v = .slice (some ⟨b,0,none⟩) l.length c ∧ l.length ≤ c ∧ ∀ W,Fr F0 w W → (loadRowAt 27 (.pointer (some ⟨b,k * 68,none⟩))).run Tryz.prog W = .ok (.agg (hdT l k).cells) W := by
 obtain ⟨a,c,rfl⟩ := own_slice h.own
 have hs := (Sl.of_own h.own).2
 have o := h.ok _ (hdT_mem hk)
 obtain ⟨b,off,e,_⟩ := hs.cell (k * 68 + 0) _ ((flatHd_at l h.ok k hk 0 (by omega)).trans (Array.getElem?_eq_getElem (by rw [Hd.cells_size o]; omega)))
 subst e
 have hoff : off = 0 := by
  rcases h.own.2 with ⟨e,_⟩ | ⟨g,cap,cur,e,_⟩
  ·cases e
  ·cases e; rfl
 subst hoff
 refine ⟨b,c,rfl,hs.room,fun W f => ?_⟩
 have hs' := (Sl.of_own (h.fr f).own).2
 have := run_loadAt_mid (P := Tryz.prog) W b (k * 68) 27 (hdT l k).cells.toList _ (fun j u hj => by
  have hj' : j < 68 := by have := (List.getElem?_eq_some_iff.1 hj).1; rw [Array.length_toList,Hd.cells_size o] at this; exact this
  obtain ⟨b',off',e',hc⟩ := hs'.cell (k * 68 + j) u ((flatHd_at l h.ok k hk j hj').trans (by simpa using hj))
  cases e'
  rw [Nat.zero_add] at hc
  exact hc) Tryz.underlying27 rfl (by rw [Tryz.szHeader,Array.length_toList,Hd.cells_size o])
 rw [Array.toArray_toList] at this
 exact this
def buildLR (t : TypeId) (parts : Array (Nat × Value)) : Sem Value := Instr.buildSlice t 1 parts
@[go_sem ↓ high] theorem build_LR2 (p : Array (Nat × Value)) : Instr.buildSlice 35 1 p = buildLR 35 p := rfl
theorem run_buildLHd (w : World) (X : Array Value) (h : X.size = 68) : (buildLR 35 #[(0,.agg X)]).run Tryz.prog w = .ok (.slice (some ⟨w.heap.size,0,none⟩) 1 1) (w.alloc (.cells X 27)) := by
 obtain ⟨i0,hi,hz,hs,_⟩ := info_parts Tryz.infoHeader
 exact run_slice1J w 35 27 X 68 i0 _ Tryz.underlying35 hi hz hs (by omega) (by omega) h
end Go.Proofs.YtedffdlkmpmdlaaGreatDoor
namespace Go.Proofs.YtedffdlkmpmdlaaGreatDoor
set_option maxRecDepth 100000
set_option linter.unusedVariables false
set_option linter.unusedSimpArgs false
open Go.RowKit
theorem hashF_not0 : sha2 Fh.bytes ≠ List.replicate 32 0 := by
 rw [Fh.sum]
 decide +kernel
theorem lives12_any (w : World) (hcub : Cub w) :
  Calls Tryz.prog 8 #[] w fun e w' => e = .returned (.bool true) ∧ Fr F0 w w' := by
 have HC := Lib.hid hcub
 have HR := Lib.hid (fun W (hc : Cub W) => show Calls Tryz.prog 9 #[.int .i64 2,.int .u32 99,.int .i64 2] W fun e w' => e = .returned (.agg (ruC 4 100 3)) ∧ Fr F0 W w' from by
  have := Rules12_any hMineC 2 2 99 (by omega) (by omega) (by omega) W hc
  exact this)
 have HN := Lib.hid (fun W (hc : Cub W) => kNew_any decC hCheckC hHashC workC 4 100 3 (by omega) (by omega) (by omega) (by omega) (by omega) (by omega) (.bool false) rfl W hc)
 have l32 : (sha2 Fh.bytes).length = 32 := by simp [sha2,sha_length]
 have HHs := Lib.hid (hHashC Fh Fh.ok)
 change Hid (∀ w,Cub w → Calls Tryz.prog 22 #[.agg Fh.cells] w fun e w' => e = .returned (.agg (hc (sha2 Fh.bytes))) ∧ Fr F0 w w') at HHs
 have HZ := Lib.hid (fun W => show Calls Tryz.prog 30 #[.agg (hc (sha2 Fh.bytes))] W fun e w' => e = .returned (.bool false) ∧ Fr F0 W w' from by
  have := Zero_any (sha2 Fh.bytes) l32 W
  rw [decide_eq_false hashF_not0] at this
  exact this)
 have HLD := Lib.hid (fun W g (h : W.heap[g]? = some (.cells (ruC 4 100 3) 29 (0,0))) => first_load 4 100 3 W g h)
 have hru := ruC_of 4 100 3 (by omega)
 have hR := hru.size
 have oR := hru.one
 have sF : Fh.cells.size = 68 := rfl
 have heq := fun w => run_equalIn_hashJ w (sha2 Fh.bytes) (sha2 Fh.bytes) l32 l32
 rw [decide_eq_true rfl] at heq
 have HT := Lib.hid (fun W w0 p bm q v (T : TM w0 p (ruC 4 100 3) bm [Fh] [b0 (.bool false)] [q] v (chn [b0 (.bool false)])) (f : Fr F0 w0 W) => show
   (Calls Tryz.prog 24 #[.pointer (some ⟨p,0,none⟩)] W fun e w' => e = .returned (.agg (hc (sha2 Fh.bytes))) ∧ Fr F0 W w') ∧
   (Calls Tryz.prog 14 #[.pointer (some ⟨p,0,none⟩)] W fun e w' => e = .returned (.int .i64 1) ∧ Fr F0 W w') ∧
   (Calls Tryz.prog 25 #[.pointer (some ⟨p,0,none⟩),.agg (hc (sha2 Fh.bytes))] W fun e w' => e = .returned (.tuple #[.int .i64 0,.bool true]) ∧ Fr F0 W w') from by
  refine ⟨?_,?_,?_⟩
  ·have := kBest_any hR (T.fr f) (by rw [chn_b0]; simp) (by rw [chn_b0]; simp)
   rw [chn_b0] at this
   exact this
  ·exact (kLen_any hR (T.fr f)).mono (by rintro e w' ⟨rfl,rfl⟩; exact ⟨rfl,Fr.refl _ _⟩)
  ·have := kHeight_any hR (TI_first rfl q) (T.fr f) 0 (by simp)
   rw [bk_b0,b0_hash] at this
   exact this)
 obtain ⟨R,hRR⟩ : ∃ R,ruC 4 100 3 = R := ⟨_,rfl⟩
 rw [hRR] at HR HN HLD hR oR HT
 generalize Fh.cells = FC at *
 generalize hc (sha2 Fh.bytes) = X at *
 clear hcub l32 hru hRR
 have F := Fr.refl F0 w
 go_enter Tryz.func8,Tryz.ntmps8
 go_wp2_with fail
 (with_reducible refine (HR.out _ HC.out).mono ?_); rintro e1 w1 ⟨rfl,f⟩
 replace F := F.trans' f
 clear f
 go_upto_region 2 with fail
 refine wp_put fun W2 N => ?_
 have r1 := N.new
 replace F := F.trans' N.fr
 clear N
 generalize w1.heap.size = g1 at *
 go_wp2_with fail
 (with_reducible refine (HN.out _ (HC.out.fr F fun f => f)).mono ?_); rintro e1 w3 ⟨⟨p,bm,q,sl,rfl,T,_⟩,f⟩
 replace r1 := keep_fr f r1
 replace F := F.trans' f
 clear f
 have HT2 := Lib.hid (fun W (f : Fr F0 w3 W) => HT.out W w3 p bm q _ T f)
 clear T
 have F3 := Fr.refl F0 w3
 go_wp2_with fail
 (with_reducible refine (HT2.out _ F3).1.mono ?_); rintro e1 w4 ⟨rfl,f⟩
 replace F3 := F3.trans' f
 clear f
 go_wp2_with fail
 (with_reducible refine (HT2.out _ F3).2.2.mono ?_); rintro e1 w5 ⟨rfl,f⟩
 replace F3 := F3.trans' f
 replace r1 := keep_fr F3 r1
 replace F := F.trans' F3
 clear f
 have r4 := HLD.out _ _ r1
 go_upto_region 4 with fail
 refine rbegin (S := (fun w' => (w'.heap[g1]? = some (.cells R 29 (0,0)) ∧ (loadRowAt 27 (.pointer (some ⟨g1,4,none⟩))).run Tryz.prog w' = .ok (.agg FC) w') ∧ Fr F0 w3 w' ∧ Fr F0 w w')) ?_ fun hHeld => ?_
 ·((try dsimp only) <;> (exact ⟨⟨r1,HLD.out _ _ r1⟩,F3.drew,F.drew⟩))
 refine rtake 0 ?_
 refine rtake 1 ?_
 refine rtake 2 ?_
 refine rtake 3 ?_
 refine rtake 4 ?_
 refine rtake 5 ?_
 refine rtake 6 ?_
 refine rtake 7 ?_
 refine rtake 8 ?_
 refine rtake 9 ?_
 refine rtake 10 ?_
 refine rone 11 fun K hK => ?_
 go_simp
 ((with_reducible refine (HT2.out _ hHeld.2.1).2.1.mono ?_); rintro e w5 ⟨rfl,f5⟩)
 refine hK.out _ _ ?_ (fun hHeld => ?_)
 ·((try dsimp only) <;> (first | exact hHeld | exact ⟨⟨keep_fr f5 hHeld.1.1,HLD.out _ _ (keep_fr f5 hHeld.1.1)⟩,hHeld.2.1.trans' f5,hHeld.2.2.trans' f5⟩))
 clear hK K
 try (simp only [Act.put,aST]; dsimp only [aS0,aS1])
 refine rtake 12 ?_
 refine rtake 13 ?_
 refine rtake 14 ?_
 refine rtake 15 ?_
 refine rtake 17 ?_
 refine rtake 18 ?_
 refine rone 16 fun K hK => ?_
 go_simp
 ((with_reducible refine (HT2.out _ hHeld.2.1).1.mono ?_); rintro e w5 ⟨rfl,f5⟩)
 refine hK.out _ _ ?_ (fun hHeld => ?_)
 ·((try dsimp only) <;> (first | exact hHeld | exact ⟨⟨keep_fr f5 hHeld.1.1,HLD.out _ _ (keep_fr f5 hHeld.1.1)⟩,hHeld.2.1.trans' f5,hHeld.2.2.trans' f5⟩))
 clear hK K
 try (simp only [Act.put,aST]; dsimp only [aS0,aS1])
 refine rone 19 fun K hK => ?_
 go_simp
 ((with_reducible refine (HHs.out _ (HC.out.fr hHeld.2.2 fun f => f)).mono ?_); rintro e w5 ⟨rfl,f5⟩)
 refine hK.out _ _ ?_ (fun hHeld => ?_)
 ·((try dsimp only) <;> (first | exact hHeld | exact ⟨⟨keep_fr f5 hHeld.1.1,HLD.out _ _ (keep_fr f5 hHeld.1.1)⟩,hHeld.2.1.trans' f5,hHeld.2.2.trans' f5⟩))
 clear hK K
 try (simp only [Act.put,aST]; dsimp only [aS0,aS1])
 refine rtake 20 ?_
 refine rtake 21 ?_
 refine rtake 22 ?_
 refine rtake 23 ?_
 refine rone 24 fun K hK => ?_
 go_simp
 ((with_reducible refine (HT2.out _ hHeld.2.1).1.mono ?_); rintro e w5 ⟨rfl,f5⟩)
 refine hK.out _ _ ?_ (fun hHeld => ?_)
 ·((try dsimp only) <;> (first | exact hHeld | exact ⟨⟨keep_fr f5 hHeld.1.1,HLD.out _ _ (keep_fr f5 hHeld.1.1)⟩,hHeld.2.1.trans' f5,hHeld.2.2.trans' f5⟩))
 clear hK K
 try (simp only [Act.put,aST]; dsimp only [aS0,aS1])
 refine rone 25 fun K hK => ?_
 go_simp
 ((with_reducible refine (HZ.out _).mono ?_); rintro e w5 ⟨rfl,f5⟩)
 refine hK.out _ _ ?_ (fun hHeld => ?_)
 ·((try dsimp only) <;> (first | exact hHeld | exact ⟨⟨keep_fr f5 hHeld.1.1,HLD.out _ _ (keep_fr f5 hHeld.1.1)⟩,hHeld.2.1.trans' f5,hHeld.2.2.trans' f5⟩))
 clear hK K
 try (simp only [Act.put,aST]; dsimp only [aS0,aS1])
 refine rtake 26 ?_
 refine rtake 27 ?_
 refine rtake 28 ?_
 refine rdone ?_
 all_goals
  have F9 := hHeld.2.2
  go_wp2_with fail
  go_ret
  exact ⟨by first | rfl | simp,F9⟩
end Go.Proofs.YtedffdlkmpmdlaaGreatDoor
namespace Go.Proofs.YtedffdlkmpmdlaaGreatDoor
set_option maxRecDepth 100000
set_option linter.unusedVariables false
set_option linter.unusedSimpArgs false
open Go.RowKit
theorem TM.apart {w : World} {p : Nat} {R : Array Value} {bm : Nat} {H : List Hd} {L : List Bk} {ps : List Nat} {v : Value} {ch : List (List UInt8)} (T : TM w p R bm H L ps v ch) (hp : ps.length = L.length) {k : Nat} {A : Array Value} {t : TypeId} {f : Nat × Nat} (h : w.heap[k]? = some (.cells A t f))
  (h1 : t ≠ 80) (h2 : t ≠ 77) (h3 : t ≠ 25) : ¬ TS p bm ps v k := by
 rintro (rfl | rfl | hk | hk)
 ·exact cells_apart T.top h (fun e => h1 e.symm) rfl
 ·exact map_apart h T.map rfl
 ·obtain ⟨j,hj,rfl⟩ := List.getElem_of_mem hk
  have := T.blk j (by omega)
  rw [List.getD_eq_getElem?_getD,List.getElem?_eq_getElem hj] at this
  exact cells_apart this h (fun e => h2 e.symm) rfl
 ·obtain ⟨cur,hc⟩ := own_block T.own hk
  exact cells_apart hc h (fun e => h3 e.symm) rfl
theorem TM.keepS {S : Nat → Prop} {w w' : World} {p : Nat} {R : Array Value} {bm : Nat} {H : List Hd} {L : List Bk} {ps : List Nat} {v : Value} {ch : List (List UInt8)} (T : TM w p R bm H L ps v ch) (hp : ps.length = L.length) (f : Fr S w w') (hs : ∀ k,TS p bm ps v k → ¬ S k) : TM w' p R bm H L ps v ch :=
 ⟨f.keeps (hs p (.inl rfl)) T.top,T.map.keep (f.block _ T.map.lt (hs bm (.inr (.inl rfl)))),fun i hi => f.keeps (hs _ (.inr (.inr (.inl (getD_mem (by omega)))))) (T.blk i hi),T.own.frS f fun k hk => hs k (.inr (.inr (.inr hk)))⟩
section
variable {w W W' : World} {R : Array Value} {e span p bm p2 : Nat} {H : List Hd} {L : List Bk} {ps : List Nat} {v : Value} {lv : Value} {LD : List Bk} {tv : Value} {tl : List Hd}
end
end Go.Proofs.YtedffdlkmpmdlaaGreatDoor
namespace Go.Proofs.YtedffdlkmpmdlaaGreatDoor
set_option maxRecDepth 100000
set_option linter.unusedVariables false
set_option linter.unusedSimpArgs false
open Go.RowKit
end Go.Proofs.YtedffdlkmpmdlaaGreatDoor
