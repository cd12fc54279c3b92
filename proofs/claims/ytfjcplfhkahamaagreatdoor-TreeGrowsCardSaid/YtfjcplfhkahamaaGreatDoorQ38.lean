import Derived.Test.YtfjcplfhkahamaaGreatDoorQ36
import Derived.Test.YtfjcplfhkahamaaGreatDoorQ18
import Derived.Test.YtfjcplfhkahamaaGreatDoorQ26
import Derived.Test.YtfjcplfhkahamaaGreatDoorQ17
import Derived.Test.YtfjcplfhkahamaaGreatDoorQ7
import Derived.Test.YtfjcplfhkahamaaGreatDoorQ1
import Derived.Test.YtfjcplfhkahamaaGreatDoorQ24
import Derived.Test.YtfjcplfhkahamaaGreatDoorQ31
import Derived.Test.YtfjcplfhkahamaaGreatDoorQ14
import Derived.Test.YtfjcplfhkahamaaGreatDoorQ23
import Derived.Test.YtfjcplfhkahamaaGreatDoorQ37
import Derived.Test.YtfjcplfhkahamaaGreatDoorQ35
set_option maxRecDepth 100000
set_option maxHeartbeats 64000000
namespace Go.Proofs.YtfjcplfhkahamaaGreatDoor
set_option linter.unusedVariables false
set_option linter.unusedSimpArgs false
open Go.RowKit
def bare1 (b : Bk) : Bk := ⟨b.hash,b.ahead,b.time,b.bits,.bool false⟩
def bare (L : List Bk) : List Bk := L.map bare1
theorem bare_len (L : List Bk) : (bare L).length = L.length := by simp [bare]
theorem bkT_bare (L : List Bk) (i : Nat) : bkT (bare L) i = bare1 (bkT L i) := by
 unfold bkT bare
 rw [List.getD_eq_getElem?_getD,List.getD_eq_getElem?_getD,List.getElem?_map]
 cases L[i]? <;> rfl
theorem path_bare (L : List Bk) : ∀ f i,path (bare L) f i = path L f i
 |0,i => rfl
 |f + 1,i => by
  rw [path,path,bkT_bare]
  show (if (bkT L i).ahead < 0 then [i] else i :: path (bare L) f (bkT L i).ahead.toNat) = _
  rw [path_bare L f]
theorem anc_bare (L : List Bk) (i : Nat) : anc (bare L) i = anc L i := path_bare L i i
theorem height_bare (L : List Bk) (i : Nat) : heightM (bare L) i = heightM L i := by unfold heightM; rw [anc_bare]
theorem line_bare (L : List Bk) (i : Nat) : lineM (bare L) i = lineM L i := by unfold lineM; rw [anc_bare]
theorem tip_bare (L : List Bk) (i : Nat) : isTip (bare L) i = isTip L i := by
 unfold isTip bare
 rw [List.all_map]; rfl
theorem tips_bare (L : List Bk) : tipsM (bare L) = tipsM L := by
 unfold tipsM tipsN
 rw [bare_len]
 congr 1
 funext i
 rw [tip_bare]
theorem work_bare (L : List Bk) (i : Nat) : workM (bare L) i = workM L i := by
 unfold workM
 rw [anc_bare]
 congr 2
 funext k
 rw [bkT_bare]; rfl
theorem bestN_bare (L : List Bk) : ∀ n,bestN (bare L) n = bestN L n
 |0 => rfl
 |n + 1 => by rw [bestN,bestN,bestN_bare L n,work_bare,work_bare]
theorem best_bare (L : List Bk) : bestM (bare L) = bestM L := by unfold bestM; rw [bare_len,bestN_bare]
theorem chn_bare (L : List Bk) : chn (bare L) = chn L := by
 unfold chn
 rw [best_bare,line_bare]
 congr 1
 funext k
 rw [bkT_bare]; rfl
theorem blkOf_bare (H : List Hd) (L : List Bk) (ps : List Nat) (i : Nat) : blkOf H (bare L) ps i = blkOf H L ps i := by
 unfold blkOf
 rw [bkT_bare,height_bare,work_bare,tip_bare]; rfl
theorem TM.bare {w : World} {p : Nat} {R : Array Value} {bm : Nat} {H : List Hd} {L : List Bk} {ps : List Nat} {v : Value} {ch : List (List UInt8)} : TM w p R bm H (bare L) ps v ch ↔ TM w p R bm H L ps v ch := by
 have e : (Go.Proofs.YtfjcplfhkahamaaGreatDoor.bare L).map (fun b => Value.agg (hc b.hash)) = L.map (fun b => Value.agg (hc b.hash)) := by
  unfold Go.Proofs.YtfjcplfhkahamaaGreatDoor.bare
  rw [List.map_map]; rfl
 constructor
 ·rintro ⟨t,⟨es,c,m1,m2,m3⟩,b,o⟩
  exact ⟨by rw [← tips_bare]; exact t,⟨es,c,m1,m2.trans e,m3⟩,fun i hi => by rw [← blkOf_bare]; exact b i (by rw [bare_len]; exact hi),o⟩
 ·rintro ⟨t,⟨es,c,m1,m2,m3⟩,b,o⟩
  exact ⟨by rw [tips_bare]; exact t,⟨es,c,m1,m2.trans e.symm,m3⟩,fun i hi => by rw [blkOf_bare]; exact b i (by rw [bare_len] at hi; exact hi),o⟩
theorem TM.swap {w : World} {p : Nat} {R : Array Value} {bm : Nat} {H : List Hd} {L L' : List Bk} {ps : List Nat} {v : Value} (T : TM w p R bm H L ps v (chn L)) (h : Go.Proofs.YtfjcplfhkahamaaGreatDoor.bare L = Go.Proofs.YtfjcplfhkahamaaGreatDoor.bare L') : TM w p R bm H L' ps v (chn L') := by
 have := TM.bare.2 T
 rw [h,← chn_bare,h,chn_bare] at this
 exact TM.bare.1 this
theorem bare_snoc (L : List Bk) (h : Hd) (v v' : Value) (i : Nat) : bare (L ++ [nbB h v i]) = bare (L ++ [nbB h v' i]) := by
 unfold bare
 rw [List.map_append,List.map_append]; rfl
theorem bare_b0 (v v' : Value) : bare [b0 v] = bare [b0 v'] := rfl
theorem NB.swap {H : List Hd} {L : List Bk} {ps : List Nat} {i : Nat} {h : Hd} {v v' : Value} {q : Nat} (N : NB H L ps i h (nbB h v i) q) (o : v'.oneCell' = true) : NB H L ps i h (nbB h v' i) q :=
 ⟨N.hi,N.oh,⟨N.ob.hash,N.ob.time,N.ob.bits,o⟩,rfl,rfl,rfl,rfl,N.new,N.apart,N.wk,N.room⟩
theorem own_appK {st et sz nb : Nat} (hu : Tryz.prog.underlying st = some (.slice et)) {z : Value} (hi3 : (Tryz.prog.info? et).map (fun i => (i.zero,i.size,i.bytes)) = some (some z,sz,nb)) (hzc : z.cells.size = sz) (h0 : 0 < sz) (hnb : nb ≤ 1000)
  {w : World} {v : Value} {n : Nat} {xs : List Value} (h : w.ownsRow 0 et sz v n xs) (X : Array Value) (hX : X.size = sz) (oX : rowOne X) (hl : n ≤ 100000) (ty : TypeId) :
  ∃ a c w',(Builtin.append_ #[st,st] ty #[v,.slice (some ⟨w.heap.size,0,none⟩) 1 1]).run Tryz.prog (w.alloc (.cells X et)) = .ok (.slice a (n + 1) c) w' ∧ w'.ownsRow 0 et sz (.slice a (n + 1) c) (n + 1) (xs ++ X.toList) ∧
   Fr (fun k => v.ownBlock = some k) w w' ∧ ∀ k,ablk a = some k → v.ownBlock = some k ∨ w.heap.size ≤ k := by
 obtain ⟨i0,hi,hz,hs,hb⟩ := info_parts hi3
 obtain ⟨W,hW⟩ : ∃ W,W = w.alloc (.cells X et) := ⟨_,rfl⟩
 have hnew := heap_alloc_new w (.cells X et)
 have fW : Fr F0 w W := by rw [hW]; exact (Fr.refl F0 w).alloc _
 have sW : W.heap.size = w.heap.size + 1 := by rw [hW]; simp
 rw [← hW] at hnew ⊢
 have hsl : Sl W sz (some ⟨w.heap.size,0,none⟩) 1 1 X.toList := ⟨by rw [Array.length_toList,hX,Nat.one_mul],Nat.le_refl _,by unfold maxLen; omega,(fun e => by cases e),fun j u hj => ⟨_,_,rfl,by rw [cell_at,hnew,cellAt_cells,Nat.zero_add]; simpa using hj⟩⟩
 have hone : ∀ u ∈ X.toList,u.oneCell' = true := fun u hu => by
  unfold rowOne at oX
  rw [Array.all_eq_true_iff_forall_mem] at oX
  exact oX u (by simpa using hu)
 obtain ⟨v',w',hrun,hown,hg,hnw⟩ := run_app (P := Tryz.prog) (w := W) st ty et i0 _ sz nb hu hi hz hs hb hzc h0 v n _ (own_frJ h fW fun _ _ f => f) (some ⟨w.heap.size,0,none⟩) 1 1 X.toList hsl
  hone (by unfold maxLen; omega) (by have := Nat.mul_le_mul (show n + 1 ≤ 100001 by omega) hnb; omega)
 obtain ⟨a,c,rfl⟩ := own_slice hown
 have F : Fr (fun k => v.ownBlock = some k) w w' := (fW.of0).grown hg fun k hk hl => hk
 refine ⟨a,c,w',hrun,hown,F,fun k hk => ?_⟩
 rcases hnw k (by rw [ablk_own]; exact hk) with e | e
 ·exact .inl e
 ·exact .inr (by omega)
structure OwnR (w : World) (v : Value) (L : List Bk) : Prop where
 own : w.ownsRow 0 38 36 v L.length (L.flatMap Bk.cells)
 ok : ∀ b ∈ L,b.Ok
theorem OwnR.frS {S : Nat → Prop} {w w' : World} {v : Value} {L : List Bk} (h : OwnR w v L) (f : Fr S w w') (h1 : ∀ k,v.ownBlock = some k → ¬ S k) : OwnR w' v L := ⟨own_frJ h.own f h1,h.ok⟩
theorem OwnR.fr {w w' : World} {v : Value} {L : List Bk} (h : OwnR w v L) (f : Fr F0 w w') : OwnR w' v L := h.frS f fun _ _ e => e
theorem OwnR.is {w : World} {v : Value} {L : List Bk} (h : OwnR w v L) : ∃ a c,v = .slice a L.length c ∧ Bks w a c L := by
 obtain ⟨a,c,rfl⟩ := own_slice h.own
 exact ⟨a,c,rfl,(Sl.of_own h.own).2,h.ok⟩
theorem OwnR.block {w : World} {v : Value} {L : List Bk} (h : OwnR w v L) {k : Nat} (hk : v.ownBlock = some k) : ∃ cur,w.heap[k]? = some (.cells cur 38 (0,0)) := by
 rcases h.own.2 with ⟨rfl,_⟩ | ⟨g,cap,cur,rfl,_,hg,_⟩
 ·cases hk
 ·cases hk
  exact ⟨cur,hg⟩
theorem Tryz.infoRBlock : (Tryz.prog.info? 38).map (fun i => (i.zero,i.size,i.bytes)) = some (some (.agg (z32.map B8 ++ [Value.int .i64 0,.int .u32 0,.int .u32 0,.slice none 0 0]).toArray),36,72) := by kernel_rfl
theorem Tryz.infoHeader : (Tryz.prog.info? 28).map (fun i => (i.zero,i.size,i.bytes)) = some (some (.agg (Value.int .u32 0 :: (z32.map B8 ++ (z32.map B8 ++ [Value.int .u32 0,.int .u32 0,.int .u32 0]))).toArray),68,80) := by kernel_rfl
def appR (t ty : TypeId) (args : Array Value) : Sem Value := Builtin.append_ #[t,t] ty args
@[go_sem ↓ high] theorem app_R1 (ty : TypeId) (args : Array Value) : Builtin.append_ #[41,41] ty args = appR 41 ty args := rfl
@[go_sem ↓ high] theorem app_R2 (ty : TypeId) (args : Array Value) : Builtin.append_ #[44,44] ty args = appR 44 ty args := rfl
theorem OwnR.app {w : World} {v : Value} {L : List Bk} (h : OwnR w v L) (b : Bk) (o : b.Ok) (hl : L.length ≤ 100000) (ty : TypeId) :
  ∃ a c w',(appR 41 ty #[v,.slice (some ⟨w.heap.size,0,none⟩) 1 1]).run Tryz.prog (w.alloc (.cells b.arr 38)) = .ok (.slice a (L.length + 1) c) w' ∧ OwnR w' (.slice a (L.length + 1) c) (L ++ [b]) ∧
   Fr (fun k => v.ownBlock = some k) w w' ∧ ∀ k,ablk a = some k → v.ownBlock = some k ∨ w.heap.size ≤ k := by
 obtain ⟨a,c,w',h1,h2,h3,h4⟩ := own_appK Tryz.underlying41 Tryz.infoRBlock rfl (by omega) (by omega) h.own b.arr (Bk.arr_size o) (Bk.arr_one o) hl ty
 refine ⟨a,c,w',h1,⟨?_,fun x hx => ?_⟩,h3,h4⟩
 ·rw [List.length_append,List.flatMap_append]
  simpa [Bk.arr] using h2
 ·rw [List.mem_append,List.mem_singleton] at hx
  rcases hx with hx | rfl
  ·exact h.ok x hx
  ·exact o
structure OwnHd (w : World) (v : Value) (l : List Hd) : Prop where
 own : w.ownsRow 0 28 68 v l.length (l.flatMap fun h => h.cells.toList)
 ok : ∀ h ∈ l,h.Ok
theorem OwnHd.frS {S : Nat → Prop} {w w' : World} {v : Value} {l : List Hd} (h : OwnHd w v l) (f : Fr S w w') (h1 : ∀ k,v.ownBlock = some k → ¬ S k) : OwnHd w' v l := ⟨own_frJ h.own f h1,h.ok⟩
theorem OwnHd.fr {w w' : World} {v : Value} {l : List Hd} (h : OwnHd w v l) (f : Fr F0 w w') : OwnHd w' v l := h.frS f fun _ _ e => e
theorem OwnHd.block {w : World} {v : Value} {l : List Hd} (h : OwnHd w v l) {k : Nat} (hk : v.ownBlock = some k) : ∃ cur,w.heap[k]? = some (.cells cur 28 (0,0)) := by
 rcases h.own.2 with ⟨rfl,_⟩ | ⟨g,cap,cur,rfl,_,hg,_⟩
 ·cases hk
 ·cases hk
  exact ⟨cur,hg⟩
theorem OwnHd.app {w : World} {v : Value} {l : List Hd} (h : OwnHd w v l) (b : Hd) (o : b.Ok) (hl : l.length ≤ 100000) (ty : TypeId) :
  ∃ a c w',(appR 44 ty #[v,.slice (some ⟨w.heap.size,0,none⟩) 1 1]).run Tryz.prog (w.alloc (.cells b.cells 28)) = .ok (.slice a (l.length + 1) c) w' ∧ OwnHd w' (.slice a (l.length + 1) c) (l ++ [b]) ∧
   Fr (fun k => v.ownBlock = some k) w w' ∧ ∀ k,ablk a = some k → v.ownBlock = some k ∨ w.heap.size ≤ k := by
 obtain ⟨a,c,w',h1,h2,h3,h4⟩ := own_appK Tryz.underlying44 Tryz.infoHeader rfl (by omega) (by omega) h.own b.cells (Hd.cells_size o) Hd.one hl ty
 refine ⟨a,c,w',h1,⟨?_,fun x hx => ?_⟩,h3,h4⟩
 ·rw [List.length_append,List.flatMap_append]
  simpa using h2
 ·rw [List.mem_append,List.mem_singleton] at hx
  rcases hx with hx | rfl
  ·exact h.ok x hx
  ·exact o
theorem flatHd_at : ∀ (l : List Hd),(∀ h ∈ l,h.Ok) → ∀ k,k < l.length → ∀ j,j < 68 → (l.flatMap fun h => h.cells.toList)[k * 68 + j]? = (hdT l k).cells[j]?
 |[],_,k,h,j,_ => absurd h (by simp)
 |x :: l,hl,0,_,j,hj => by
  rw [List.flatMap_cons,Nat.zero_mul,Nat.zero_add,List.getElem?_append_left (by rw [Array.length_toList,Hd.cells_size (hl x (by simp))]; exact hj),Array.getElem?_toList]
  rfl
 |x :: l,hl,k + 1,h,j,hj => by
  have e : x.cells.toList.length = 68 := by rw [Array.length_toList,Hd.cells_size (hl x (by simp))]
  rw [List.flatMap_cons,List.getElem?_append_right (by rw [e]; omega),e,show (k + 1) * 68 + j - 68 = k * 68 + j by omega,flatHd_at l (fun y hy => hl y (by simp [hy])) k (by simpa using h) j hj]
  rfl
theorem hdT_mem {l : List Hd} {k : Nat} (hk : k < l.length) : hdT l k ∈ l := by
 unfold hdT
 rw [List.getD_eq_getElem?_getD,List.getElem?_eq_getElem hk]
 exact List.getElem_mem hk
theorem OwnHd.load {w : World} {v : Value} {l : List Hd} (h : OwnHd w v l) {k : Nat} (hk : k < l.length) :
  ∃ b c,v = .slice (some ⟨b,0,none⟩) l.length c ∧ l.length ≤ c ∧ ∀ W,Fr F0 w W → (loadRowAt 28 (.pointer (some ⟨b,k * 68,none⟩))).run Tryz.prog W = .ok (.agg (hdT l k).cells) W := by
 obtain ⟨a,c,rfl⟩ := own_slice h.own
 have hs := (Sl.of_own h.own).2
 have o := h.ok _ (hdT_mem hk)
 obtain ⟨b,off,e,_⟩ := hs.cell (k * 68 + 0) _ ((flatHd_at l h.ok k hk 0 (by omega)).trans (Array.getElem?_eq_getElem (by rw [Hd.cells_size o]; omega)))
 subst e
 have hoff : off = 0 := by
  rcases h.own.2 with ⟨e,_⟩ | ⟨g,cap,cur,e,_⟩
  ·cases e
  ·cases e; rfl
 subst hoff
 refine ⟨b,c,rfl,hs.room,fun W f => ?_⟩
 have hs' := (Sl.of_own (h.fr f).own).2
 have := run_loadAt_mid (P := Tryz.prog) W b (k * 68) 28 (hdT l k).cells.toList _ (fun j u hj => by
  have hj' : j < 68 := by have := (List.getElem?_eq_some_iff.1 hj).1; rw [Array.length_toList,Hd.cells_size o] at this; exact this
  obtain ⟨b',off',e',hc⟩ := hs'.cell (k * 68 + j) u ((flatHd_at l h.ok k hk j hj').trans (by simpa using hj))
  cases e'
  rw [Nat.zero_add] at hc
  exact hc) Tryz.underlying28 rfl (by rw [Tryz.szHeader,Array.length_toList,Hd.cells_size o])
 rw [Array.toArray_toList] at this
 exact this
def buildLR (t : TypeId) (parts : Array (Nat × Value)) : Sem Value := Instr.buildSlice t 1 parts
@[go_sem ↓ high] theorem build_LR1 (p : Array (Nat × Value)) : Instr.buildSlice 41 1 p = buildLR 41 p := rfl
@[go_sem ↓ high] theorem build_LR2 (p : Array (Nat × Value)) : Instr.buildSlice 44 1 p = buildLR 44 p := rfl
theorem run_buildLR (w : World) (X : Array Value) (h : X.size = 36) : (buildLR 41 #[(0,.agg X)]).run Tryz.prog w = .ok (.slice (some ⟨w.heap.size,0,none⟩) 1 1) (w.alloc (.cells X 38)) := by
 obtain ⟨i0,hi,hz,hs,_⟩ := info_parts Tryz.infoRBlock
 exact run_slice1J w 41 38 X 36 i0 _ Tryz.underlying41 hi hz hs (by omega) (by omega) h
theorem run_buildLHd (w : World) (X : Array Value) (h : X.size = 68) : (buildLR 44 #[(0,.agg X)]).run Tryz.prog w = .ok (.slice (some ⟨w.heap.size,0,none⟩) 1 1) (w.alloc (.cells X 28)) := by
 obtain ⟨i0,hi,hz,hs,_⟩ := info_parts Tryz.infoHeader
 exact run_slice1J w 44 28 X 68 i0 _ Tryz.underlying44 hi hz hs (by omega) (by omega) h
theorem OwnR.new1 {w : World} {g : Nat} (b : Bk) (o : b.Ok) (h : w.heap[g]? = some (.cells b.arr 38 (0,0))) : OwnR w (.slice (some ⟨g,0,none⟩) 1 1) [b] :=
 ⟨⟨by simp [Bk.cells_len o],.inr ⟨g,1,_,rfl,Nat.zero_le _,h,Nat.le_refl _,by unfold maxLen; omega,by rw [Bk.arr_size o],by
  simp only [Bk.arr,List.length_singleton,Nat.one_mul,List.flatMap_cons,List.flatMap_nil,List.append_nil]
  rw [List.take_of_length_le (by rw [Bk.cells_len o]; exact Nat.le_refl _)]⟩⟩,fun x hx => by rw [List.mem_singleton] at hx; rw [hx]; exact o⟩
theorem OwnHd.new1 {w : World} {g : Nat} (b : Hd) (o : b.Ok) (h : w.heap[g]? = some (.cells b.cells 28 (0,0))) : OwnHd w (.slice (some ⟨g,0,none⟩) 1 1) [b] :=
 ⟨⟨by simp [Hd.cells_size o],.inr ⟨g,1,_,rfl,Nat.zero_le _,h,Nat.le_refl _,by unfold maxLen; omega,by rw [Hd.cells_size o],by
  simp only [List.length_singleton,Nat.one_mul,List.flatMap_cons,List.flatMap_nil,List.append_nil]
  rw [List.take_of_length_le (by rw [Array.length_toList,Hd.cells_size o]; exact Nat.le_refl _)]⟩⟩,fun x hx => by rw [List.mem_singleton] at hx; rw [hx]; exact o⟩
theorem hashF_not0 : sha2 Fh.bytes ≠ List.replicate 32 0 := by
 rw [Fh.sum]
 decide +kernel
theorem lives12_any (w : World) (hcub : Cub w) :
  Calls Tryz.prog 5 #[] w fun e w' => e = .returned (.bool true) ∧ Fr F0 w w' := by
 have HC := Lib.hid hcub
 have HR := Lib.hid (fun W (hc : Cub W) => show Calls Tryz.prog 6 #[.int .i64 2,.int .u32 99,.int .i64 2] W fun e w' => e = .returned (.agg (ruC 4 100 3)) ∧ Fr F0 W w' from by
  have := Rules12_any hMineC 2 2 99 (by omega) (by omega) (by omega) W hc
  exact this)
 have HN := Lib.hid (fun W (hc : Cub W) => kNew_any decC hCheckC hHashC workC 4 100 3 (by omega) (by omega) (by omega) (by omega) (by omega) (by omega) (.bool false) rfl W hc)
 have l32 : (sha2 Fh.bytes).length = 32 := by simp [sha2,sha_length]
 have HHs := Lib.hid (hHashC Fh Fh.ok)
 change Hid (∀ w,Cub w → Calls Tryz.prog 19 #[.agg Fh.cells] w fun e w' => e = .returned (.agg (hc (sha2 Fh.bytes))) ∧ Fr F0 w w') at HHs
 have HZ := Lib.hid (fun W => show Calls Tryz.prog 20 #[.agg (hc (sha2 Fh.bytes))] W fun e w' => e = .returned (.bool false) ∧ Fr F0 W w' from by
  have := Zero_any (sha2 Fh.bytes) l32 W
  rw [decide_eq_false hashF_not0] at this
  exact this)
 have HLD := Lib.hid (fun W g (h : W.heap[g]? = some (.cells (ruC 4 100 3) 30 (0,0))) => first_load 4 100 3 W g h)
 have hru := ruC_of 4 100 3 (by omega)
 have hR := hru.size
 have oR := hru.one
 have sF : Fh.cells.size = 68 := rfl
 have heq := fun w => run_equalIn_hashJ w (sha2 Fh.bytes) (sha2 Fh.bytes) l32 l32
 rw [decide_eq_true rfl] at heq
 have HT := Lib.hid (fun W w0 p bm q v (T : TM w0 p (ruC 4 100 3) bm [Fh] [b0 (.bool false)] [q] v (chn [b0 (.bool false)])) (f : Fr F0 w0 W) => show
   (Calls Tryz.prog 11 #[.pointer (some ⟨p,0,none⟩)] W fun e w' => e = .returned (.agg (hc (sha2 Fh.bytes))) ∧ Fr F0 W w') ∧
   (Calls Tryz.prog 17 #[.pointer (some ⟨p,0,none⟩)] W fun e w' => e = .returned (.int .i64 1) ∧ Fr F0 W w') ∧
   (Calls Tryz.prog 18 #[.pointer (some ⟨p,0,none⟩),.agg (hc (sha2 Fh.bytes))] W fun e w' => e = .returned (.tuple #[.int .i64 0,.bool true]) ∧ Fr F0 W w') from by
  refine ⟨?_,?_,?_⟩
  ·have := kBest_any hR (T.fr f) (by rw [chn_b0]; simp) (by rw [chn_b0]; simp)
   rw [chn_b0] at this
   exact this
  ·exact (kLen_any hR (T.fr f)).mono (by rintro e w' ⟨rfl,rfl⟩; exact ⟨rfl,Fr.refl _ _⟩)
  ·have := kHeight_any hR (TI_first rfl q) (T.fr f) 0 (by simp)
   rw [bk_b0,b0_hash] at this
   exact this)
 obtain ⟨R,hRR⟩ : ∃ R,ruC 4 100 3 = R := ⟨_,rfl⟩
 rw [hRR] at HR HN HLD hR oR HT
 generalize Fh.cells = FC at *
 generalize hc (sha2 Fh.bytes) = X at *
 clear hcub l32 hru hRR
 have F := Fr.refl F0 w
 go_enter Tryz.func5,Tryz.ntmps5
 go_wp2_with fail
 (with_reducible refine (HR.out _ HC.out).mono ?_); rintro e1 w1 ⟨rfl,f⟩
 replace F := F.trans' f
 clear f
 go_upto_region 2 with fail
 refine wp_put fun W2 N => ?_
 have r1 := N.new
 replace F := F.trans' N.fr
 clear N
 generalize w1.heap.size = g1 at *
 go_wp2_with fail
 (with_reducible refine (HN.out _ (HC.out.fr F fun f => f)).mono ?_); rintro e1 w3 ⟨⟨p,bm,q,sl,rfl,T,_⟩,f⟩
 replace r1 := keep_fr f r1
 replace F := F.trans' f
 clear f
 have HT2 := Lib.hid (fun W (f : Fr F0 w3 W) => HT.out W w3 p bm q _ T f)
 clear T
 have F3 := Fr.refl F0 w3
 go_wp2_with fail
 (with_reducible refine (HT2.out _ F3).1.mono ?_); rintro e1 w4 ⟨rfl,f⟩
 replace F3 := F3.trans' f
 clear f
 go_wp2_with fail
 (with_reducible refine (HT2.out _ F3).2.2.mono ?_); rintro e1 w5 ⟨rfl,f⟩
 replace F3 := F3.trans' f
 replace r1 := keep_fr F3 r1
 replace F := F.trans' F3
 clear f
 have r4 := HLD.out _ _ r1
 go_upto_region 4 with fail
 refine rbegin (S := (fun w' => (w'.heap[g1]? = some (.cells R 30 (0,0)) ∧ (loadRowAt 28 (.pointer (some ⟨g1,4,none⟩))).run Tryz.prog w' = .ok (.agg FC) w') ∧ Fr F0 w3 w' ∧ Fr F0 w w')) ?_ fun hHeld => ?_
 ·((try dsimp only) <;> (exact ⟨⟨r1,HLD.out _ _ r1⟩,F3.drew,F.drew⟩))
 refine rtake 0 ?_
 refine rtake 1 ?_
 refine rtake 2 ?_
 refine rtake 3 ?_
 refine rtake 4 ?_
 refine rtake 5 ?_
 refine rtake 6 ?_
 refine rtake 7 ?_
 refine rtake 8 ?_
 refine rtake 9 ?_
 refine rtake 10 ?_
 refine rone 11 fun K hK => ?_
 go_simp
 ((with_reducible refine (HT2.out _ hHeld.2.1).2.1.mono ?_); rintro e w5 ⟨rfl,f5⟩)
 refine hK.out _ _ ?_ (fun hHeld => ?_)
 ·((try dsimp only) <;> (first | exact hHeld | exact ⟨⟨keep_fr f5 hHeld.1.1,HLD.out _ _ (keep_fr f5 hHeld.1.1)⟩,hHeld.2.1.trans' f5,hHeld.2.2.trans' f5⟩))
 clear hK K
 try (simp only [Act.put,aST]; dsimp only [aS0,aS1])
 refine rtake 12 ?_
 refine rtake 13 ?_
 refine rtake 14 ?_
 refine rtake 15 ?_
 refine rtake 17 ?_
 refine rtake 18 ?_
 refine rone 16 fun K hK => ?_
 go_simp
 ((with_reducible refine (HT2.out _ hHeld.2.1).1.mono ?_); rintro e w5 ⟨rfl,f5⟩)
 refine hK.out _ _ ?_ (fun hHeld => ?_)
 ·((try dsimp only) <;> (first | exact hHeld | exact ⟨⟨keep_fr f5 hHeld.1.1,HLD.out _ _ (keep_fr f5 hHeld.1.1)⟩,hHeld.2.1.trans' f5,hHeld.2.2.trans' f5⟩))
 clear hK K
 try (simp only [Act.put,aST]; dsimp only [aS0,aS1])
 refine rone 19 fun K hK => ?_
 go_simp
 ((with_reducible refine (HHs.out _ (HC.out.fr hHeld.2.2 fun f => f)).mono ?_); rintro e w5 ⟨rfl,f5⟩)
 refine hK.out _ _ ?_ (fun hHeld => ?_)
 ·((try dsimp only) <;> (first | exact hHeld | exact ⟨⟨keep_fr f5 hHeld.1.1,HLD.out _ _ (keep_fr f5 hHeld.1.1)⟩,hHeld.2.1.trans' f5,hHeld.2.2.trans' f5⟩))
 clear hK K
 try (simp only [Act.put,aST]; dsimp only [aS0,aS1])
 refine rtake 20 ?_
 refine rtake 21 ?_
 refine rtake 22 ?_
 refine rtake 23 ?_
 refine rone 24 fun K hK => ?_
 go_simp
 ((with_reducible refine (HT2.out _ hHeld.2.1).1.mono ?_); rintro e w5 ⟨rfl,f5⟩)
 refine hK.out _ _ ?_ (fun hHeld => ?_)
 ·((try dsimp only) <;> (first | exact hHeld | exact ⟨⟨keep_fr f5 hHeld.1.1,HLD.out _ _ (keep_fr f5 hHeld.1.1)⟩,hHeld.2.1.trans' f5,hHeld.2.2.trans' f5⟩))
 clear hK K
 try (simp only [Act.put,aST]; dsimp only [aS0,aS1])
 refine rone 25 fun K hK => ?_
 go_simp
 ((with_reducible refine (HZ.out _).mono ?_); rintro e w5 ⟨rfl,f5⟩)
 refine hK.out _ _ ?_ (fun hHeld => ?_)
 ·((try dsimp only) <;> (first | exact hHeld | exact ⟨⟨keep_fr f5 hHeld.1.1,HLD.out _ _ (keep_fr f5 hHeld.1.1)⟩,hHeld.2.1.trans' f5,hHeld.2.2.trans' f5⟩))
 clear hK K
 try (simp only [Act.put,aST]; dsimp only [aS0,aS1])
 refine rtake 26 ?_
 refine rtake 27 ?_
 refine rtake 28 ?_
 refine rdone ?_
 all_goals
  have F9 := hHeld.2.2
  go_wp2_with fail
  go_ret
  exact ⟨by first | rfl | simp,F9⟩
theorem TM.apart {w : World} {p : Nat} {R : Array Value} {bm : Nat} {H : List Hd} {L : List Bk} {ps : List Nat} {v : Value} {ch : List (List UInt8)} (T : TM w p R bm H L ps v ch) (hp : ps.length = L.length) {k : Nat} {A : Array Value} {t : TypeId} {f : Nat × Nat} (h : w.heap[k]? = some (.cells A t f))
  (h1 : t ≠ 75) (h2 : t ≠ 71) (h3 : t ≠ 26) : ¬ TS p bm ps v k := by
 rintro (rfl | rfl | hk | hk)
 ·exact cells_apart T.top h (fun e => h1 e.symm) rfl
 ·exact map_apart h T.map rfl
 ·obtain ⟨j,hj,rfl⟩ := List.getElem_of_mem hk
  have := T.blk j (by omega)
  rw [List.getD_eq_getElem?_getD,List.getElem?_eq_getElem hj] at this
  exact cells_apart this h (fun e => h2 e.symm) rfl
 ·obtain ⟨cur,hc⟩ := own_block T.own hk
  exact cells_apart hc h (fun e => h3 e.symm) rfl
theorem TM.keepS {S : Nat → Prop} {w w' : World} {p : Nat} {R : Array Value} {bm : Nat} {H : List Hd} {L : List Bk} {ps : List Nat} {v : Value} {ch : List (List UInt8)} (T : TM w p R bm H L ps v ch) (hp : ps.length = L.length) (f : Fr S w w') (hs : ∀ k,TS p bm ps v k → ¬ S k) : TM w' p R bm H L ps v ch :=
 ⟨f.keeps (hs p (.inl rfl)) T.top,T.map.keep (f.block _ T.map.lt (hs bm (.inr (.inl rfl)))),fun i hi => f.keeps (hs _ (.inr (.inr (.inl (getD_mem (by omega)))))) (T.blk i hi),T.own.frS f fun k hk => hs k (.inr (.inr (.inr hk)))⟩
structure StM (w W : World) (R : Array Value) (e span p bm p2 : Nat) (H : List Hd) (L : List Bk) (ps : List Nat) (v : Value) (lv : Value) (LD : List Bk) (tv : Value) (tl : List Hd) : Prop where
 plen : ps.length = L.length
 T : TM W p R bm H L ps v (chn L)
 D1 : W.heap[p2]? = some (.cells #[lv,.int .i64 (e : Int),.int .u32 (span : Int),.int .u32 (lim0 : Int)] 43 (0,0))
 D2 : OwnR W lv LD
 Q : OwnHd W tv tl
 F : Fr F0 w W
 lo : ∀ k,TS p bm ps v k ∨ k = p2 ∨ lv.ownBlock = some k ∨ tv.ownBlock = some k → w.heap.size ≤ k
section
variable {w W W' : World} {R : Array Value} {e span p bm p2 : Nat} {H : List Hd} {L : List Bk} {ps : List Nat} {v : Value} {lv : Value} {LD : List Bk} {tv : Value} {tl : List Hd}
theorem StM.fr (S : StM w W R e span p bm p2 H L ps v lv LD tv tl) (f : Fr F0 W W') : StM w W' R e span p bm p2 H L ps v lv LD tv tl :=
 ⟨S.plen,S.T.fr f,keep_fr f S.D1,S.D2.fr f,S.Q.fr f,S.F.trans' f,S.lo⟩
theorem StM.tr (S : StM w W R e span p bm p2 H L ps v lv LD tv tl) : TR W p2 LD (e : Int) span lim0 := by
 obtain ⟨a,c,rfl,h⟩ := S.D2.is
 exact ⟨a,c,S.D1,h⟩
theorem StM.apartT (S : StM w W R e span p bm p2 H L ps v lv LD tv tl) : ¬ TS p bm ps v p2 ∧ (∀ k,lv.ownBlock = some k → ¬ TS p bm ps v k) ∧ (∀ k,tv.ownBlock = some k → ¬ TS p bm ps v k) := by
 refine ⟨S.T.apart S.plen S.D1 (by decide) (by decide) (by decide),fun k hk => ?_,fun k hk => ?_⟩
 ·obtain ⟨cur,hc⟩ := S.D2.block hk
  exact S.T.apart S.plen hc (by decide) (by decide) (by decide)
 ·obtain ⟨cur,hc⟩ := S.Q.block hk
  exact S.T.apart S.plen hc (by decide) (by decide) (by decide)
theorem StM.trans_low {S0 : Nat → Prop} (F : Fr F0 w W) (f : Fr S0 W W') (h : ∀ k,S0 k → w.heap.size ≤ k) : Fr F0 w W' := F.trans f fun k hk e => absurd (h k e) (by omega)
theorem StM.add (S : StM w W R e span p bm p2 H L ps v lv LD tv tl) (f : Fr (TS p bm ps v) W W') {H' : List Hd} {L' : List Bk} {q : Nat} {v' : Value} (T' : TM W' p R bm H' L' (ps ++ [q]) v' (chn L')) (hl : L'.length = L.length + 1) (hq : W.heap.size ≤ q) (hv : ∀ k,v'.ownBlock = some k → v.ownBlock = some k ∨ W.heap.size ≤ k) :
  StM w W' R e span p bm p2 H' L' (ps ++ [q]) v' lv LD tv tl := by
 obtain ⟨a1,a2,a3⟩ := S.apartT
 have hs := S.F.size
 refine ⟨by rw [List.length_append,List.length_singleton,hl,S.plen],T',f.keeps a1 S.D1,S.D2.frS f a2,S.Q.frS f a3,StM.trans_low S.F f fun k hk => S.lo k (.inl hk),fun k hk => ?_⟩
 rcases hk with (hk | hk | hk | hk) | hk | hk | hk
 ·exact S.lo k (.inl (.inl hk))
 ·exact S.lo k (.inl (.inr (.inl hk)))
 ·rw [List.mem_append,List.mem_singleton] at hk
  rcases hk with hk | rfl
  ·exact S.lo k (.inl (.inr (.inr (.inl hk))))
  ·exact Nat.le_trans hs hq
 ·rcases hv k hk with hk | hk
  ·exact S.lo k (.inl (.inr (.inr (.inr hk))))
  ·exact Nat.le_trans hs hk
 ·exact S.lo k (.inr (.inl hk))
 ·exact S.lo k (.inr (.inr (.inl hk)))
 ·exact S.lo k (.inr (.inr (.inr hk)))
theorem StM.swap (S : StM w W R e span p bm p2 H L ps v lv LD tv tl) {L' : List Bk} (h : bare L = bare L') : StM w W R e span p bm p2 H L' ps v lv LD tv tl :=
 ⟨by rw [S.plen,← bare_len L,h,bare_len],S.T.swap h,S.D1,S.D2,S.Q,S.F,S.lo⟩
theorem StM.app (S : StM w W R e span p bm p2 H L ps v lv LD tv tl) (f : Fr (fun k => lv.ownBlock = some k) W W') {lv2 : Value} {LD2 : List Bk} (o : OwnR W' lv2 LD2) (hv : ∀ k,lv2.ownBlock = some k → lv.ownBlock = some k ∨ W.heap.size ≤ k) :
  StM w (W'.setCell ⟨p2,0,none⟩ lv2) R e span p bm p2 H L ps v lv2 LD2 tv tl := by
 obtain ⟨a1,a2,a3⟩ := S.apartT
 have hs := S.F.size
 have d1 : ∀ k,lv.ownBlock = some k → k ≠ p2 := fun k hk => by
  obtain ⟨cur,hc⟩ := S.D2.block hk
  exact cells_apart hc S.D1 (by decide)
 have d2 : ∀ k,tv.ownBlock = some k → ¬ lv.ownBlock = some k ∧ k ≠ p2 := fun k hk => by
  obtain ⟨cur,hc⟩ := S.Q.block hk
  refine ⟨fun e => ?_,cells_apart hc S.D1 (by decide)⟩
  obtain ⟨cur2,hc2⟩ := S.D2.block e
  exact cells_apart hc hc2 (by decide) rfl
 have t1 := S.T.keepS S.plen f fun k hk e => a2 k e hk
 have q1 := S.Q.frS f fun k hk => (d2 k hk).1
 have e1 : W'.heap[p2]? = some (.cells #[lv,.int .i64 (e : Int),.int .u32 (span : Int),.int .u32 (lim0 : Int)] 43 (0,0)) := f.keeps (fun e => d1 p2 e rfl) S.D1
 have F1 : Fr F0 w W' := StM.trans_low S.F f fun k hk => S.lo k (.inr (.inr (.inl hk)))
 have fs : Fr (fun k => k = p2) W' (W'.setCell ⟨p2,0,none⟩ lv2) := Fr.setCell (S := fun k => k = p2) (Fr.refl _ _) (p := ⟨p2,0,none⟩) (fun _ => rfl) _
 refine ⟨S.plen,t1.keepS S.plen fs fun k hk e => a1 (by rw [← e]; exact hk),?_,o.frS fs fun k hk e => ?_,q1.frS fs fun k hk => (d2 k hk).2,StM.trans_low F1 fs fun k hk => S.lo k (.inr (.inl hk)),fun k hk => ?_⟩
 ·rw [heap_setCell_at,e1,withCell_cells]; rfl
 ·obtain ⟨cur,hc⟩ := o.block hk
  exact cells_apart hc e1 (by decide) e
 ·rcases hk with hk | hk | hk | hk
  ·exact S.lo k (.inl hk)
  ·exact S.lo k (.inr (.inl hk))
  ·rcases hv k hk with hk | hk
   ·exact S.lo k (.inr (.inr (.inl hk)))
   ·exact Nat.le_trans hs hk
  ·exact S.lo k (.inr (.inr (.inr hk)))
theorem StM.try (S : StM w W R e span p bm p2 H L ps v lv LD tv tl) (f : Fr (fun k => tv.ownBlock = some k) W W') {tv2 : Value} {tl2 : List Hd} (o : OwnHd W' tv2 tl2) (hv : ∀ k,tv2.ownBlock = some k → tv.ownBlock = some k ∨ W.heap.size ≤ k) :
  StM w W' R e span p bm p2 H L ps v lv LD tv2 tl2 := by
 obtain ⟨a1,a2,a3⟩ := S.apartT
 have hs := S.F.size
 refine ⟨S.plen,S.T.keepS S.plen f fun k hk e => a3 k e hk,f.keeps (fun e => ?_) S.D1,S.D2.frS f fun k hk e => ?_,o,StM.trans_low S.F f fun k hk => S.lo k (.inr (.inr (.inr hk))),fun k hk => ?_⟩
 ·obtain ⟨cur,hc⟩ := S.Q.block e
  exact cells_apart hc S.D1 (by decide) rfl
 ·obtain ⟨cur,hc⟩ := S.Q.block e
  obtain ⟨cur2,hc2⟩ := S.D2.block hk
  exact cells_apart hc hc2 (by decide) rfl
 ·rcases hk with hk | hk | hk | hk
  ·exact S.lo k (.inl hk)
  ·exact S.lo k (.inr (.inl hk))
  ·exact S.lo k (.inr (.inr (.inl hk)))
  ·rcases hv k hk with hk | hk
   ·exact S.lo k (.inr (.inr (.inr hk)))
   ·exact Nat.le_trans hs hk
end
def mkH (tl : List Hd) (B : List UInt8 → Nat) (kind : Int) (late : Int) (rt : UInt8) (j n : Nat) : Hd := (mkM (mkK kind (mk0 (hdT tl j) late rt (B (sha2 (hdT tl j).bytes))))).with n
theorem mkH_ok {tl : List Hd} {B : List UInt8 → Nat} {kind late : Int} {rt : UInt8} {j n : Nat} (hB : B (sha2 (hdT tl j).bytes) < 4294967296) (hn : n < 4294967296) (o : (hdT tl j).Ok) : (mkH tl B kind late rt j n).Ok := by
 have o0 := mk0_ok (h := hdT tl j) late rt hB
 have o1 := mkK_ok (kind := kind) o0
 have o2 := mkM_ok o1
 exact ⟨o2.ver,o2.ahead,o2.root,o2.time,o2.bits,hn⟩
theorem best_more {L : List Bk} (h : WFt L) (h0 : 0 < L.length) {b : Bk} (o : b.Ok) {i : Nat} (hi : i < L.length) (hb : b.ahead = (i : Int)) : workM L (bestM L) ≤ workM (L ++ [b]) (bestM (L ++ [b])) := by
 rw [best_snoc h o hi hb]
 split
 ·rename_i hlt
  rw [work_new h o hi hb]; omega
 ·rw [work_old h b (best_lt h0)]
  exact Nat.le_refl _
theorem kg25 {s0 s1 s2 s3 s4 s5 s6 s7 s8 s9 s10 s12 s13 s14 s15 s16 s17 s19 s20 s21 s22 s23 s24 s25 s26 s27 s28 s29 s30 s31 s32 s33 s34 s35 s36 s37 s38 s39 s40 s41 s42 s43 s44 s45 s46 s47 s48 s49 s50 s51 s52 s53 s54 s55 s56 s57 s58 s59 s60 s61 s62 s63 s64 s65 s66 s67 s68 s69 s70 s71 s72 s73 s74 s75 s76 s77 s78 s79 s80 s81 s82 s83 s84 s85 s86 s87 s88 s89 s90 s91 s92 s93 s94 s95 s96 s97 s98 s99 s100 s101 s102 s103 s104 s105 s106 s107 s108 s109 s110 s111 s112 s113 s114 s115 s116 s117 s118 s119 s120 s121 s122 s123 s124 s125 s126 s127 s128 s129 s130 s131 s132 s133 s134 s135 s136 : Value} {K : Act → World → Prop} {Q : Exit → Act → World → Prop} (w3 : World) (lv : Value) (L : List Bk) (b : Bk) (p2 g18 : Nat) (e1 e2 e3 : Value) (o : b.Ok) (hl : L.length ≤ 100000) (D1 : w3.heap[p2]? = some (.cells #[lv,e1,e2,e3] 43 (0,0))) (D2 : OwnR w3 lv L) (r18 : w3.heap[g18]? = some (.cells b.arr 38 (0,0)))
  (hK : RowKit.Hid (∀ {u109 u110 u111 u112 u113 u114 u115 u116 u117 u118 : Value} {w' : World},(∃ (W1 : World) (lv2 : Value),w' = W1.setCell ⟨p2,0,none⟩ lv2 ∧ OwnR W1 lv2 (L ++ [b]) ∧ Fr (fun k => lv.ownBlock = some k) w3 W1 ∧ ∀ k,lv2.ownBlock = some k → lv.ownBlock = some k ∨ w3.heap.size ≤ k) → K ⟨#[s0,s1,s2,s3,s4,s5,s6,s7,s8,s9,s10,.pointer (some ⟨p2,0,none⟩),s12,s13,s14,s15,s16,s17,.pointer (some ⟨g18,0,none⟩),s19,s20,s21,s22,s23,s24,s25,s26,s27,s28,s29,s30,s31,s32,s33,s34,s35,s36,s37,s38,s39,s40,s41,s42,s43,s44,s45,s46,s47,s48,s49,s50,s51,s52,s53,s54,s55,s56,s57,s58,s59,s60,s61,s62,s63,s64,s65,s66,s67,s68,s69,s70,s71,s72,s73,s74,s75,s76,s77,s78,s79,s80,s81,s82,s83,s84,s85,s86,s87,s88,s89,s90,s91,s92,s93,s94,s95,s96,s97,s98,s99,s100,s101,s102,s103,s104,s105,s106,s107,s108,u109,u110,u111,u112,u113,u114,u115,u116,u117,u118,s119,s120,s121,s122,s123,s124,s125,s126,s127,s128,s129,s130,s131,s132,s133,s134,s135,s136],[]⟩ w')) :
  Code.wp Tryz.prog ((Tryz.f3.body.bind (findRegion 25)).getD .skip) (Exit.then K Q) ⟨#[s0,s1,s2,s3,s4,s5,s6,s7,s8,s9,s10,.pointer (some ⟨p2,0,none⟩),s12,s13,s14,s15,s16,s17,.pointer (some ⟨g18,0,none⟩),s19,s20,s21,s22,s23,s24,s25,s26,s27,s28,s29,s30,s31,s32,s33,s34,s35,s36,s37,s38,s39,s40,s41,s42,s43,s44,s45,s46,s47,s48,s49,s50,s51,s52,s53,s54,s55,s56,s57,s58,s59,s60,s61,s62,s63,s64,s65,s66,s67,s68,s69,s70,s71,s72,s73,s74,s75,s76,s77,s78,s79,s80,s81,s82,s83,s84,s85,s86,s87,s88,s89,s90,s91,s92,s93,s94,s95,s96,s97,s98,s99,s100,s101,s102,s103,s104,s105,s106,s107,s108,s109,s110,s111,s112,s113,s114,s115,s116,s117,s118,s119,s120,s121,s122,s123,s124,s125,s126,s127,s128,s129,s130,s131,s132,s133,s134,s135,s136],[]⟩ w3 := by
 conv => arg 2; whnf
 have D1' : w3.drew.heap[p2]? = some (.cells #[lv,e1,e2,e3] 43 (0,0)) := D1
 have r18' : w3.drew.heap[g18]? = some (.cells b.arr 38 (0,0)) := r18
 obtain ⟨a1,c1,W1,hap,o1,f1,hb1⟩ := (D2.fr (Fr.refl F0 w3).drew).app b o hl 41
 have hap2 : (appR 41 41 #[lv,.slice (some ⟨w3.heap.size,0,none⟩) 1 1]).run Tryz.prog (w3.alloc (.cells b.arr 38)).drew = .ok (.slice a1 (L.length + 1) c1) W1 := hap
 have f2 : Fr (fun k => lv.ownBlock = some k) w3 W1 := ((Fr.refl F0 w3).drew.of0).trans f1 fun k hk e => e
 have hne : ¬ lv.ownBlock = some p2 := fun e => by
  obtain ⟨cur,hc⟩ := D2.block e
  exact cells_apart hc D1 (by decide) rfl
 have r1' : W1.heap[p2]? = some (.cells #[lv,e1,e2,e3] 43 (0,0)) := f2.keeps hne D1
 have ob : ∀ k,(Value.slice a1 (L.length + 1) c1).ownBlock = some k → lv.ownBlock = some k ∨ w3.heap.size ≤ k := fun k hk => by
  rw [ablk_own] at hk
  exact hb1 k hk
 have HF := Lib.hid (And.intro o1 (And.intro f2 ob))
 have s := Bk.arr_size o
 have on := Bk.arr_one o
 have D3 : (w3.alloc (.cells b.arr 38)).heap[p2]? = some (.cells #[lv,e1,e2,e3] 43 (0,0)) := keep_alloc D1
 have hbl := fun W => run_buildLR W b.arr s
 generalize b.arr = B at *
 clear o1 f1 hb1 f2 hne ob D2 o hl
 refine rbegin (S := (fun w' => True)) ?_ fun hHeld => ?_
 ·((try dsimp only) <;> (exact trivial))
 refine rtake 0 ?_
 refine rtake 1 ?_
 refine rtake 2 ?_
 refine rtake 3 ?_
 refine wpAnyH_ready (rs := [4,5]) (by kernel_rfl) (by simp) ?_
 refine AllReadyH.cons (o := ⟨_,_,_,_,_,_⟩) rfl (fun K hK => ?_) (AllReadyH.cons (o := ⟨_,_,_,_,_,_⟩) rfl (fun K hK => ?_) AllReadyH.nil)
 go_simp
 refine hK.out _ _ ?_ (fun hHeld => ?_)
 ·((try dsimp only) <;> (exact trivial))
 clear hK K
 try (simp only [Act.put,aST]; dsimp only [aS0,aS1])
 refine rone 5 fun K hK => ?_
 go_simp
 refine hK.out _ _ ?_ (fun hHeld => ?_)
 ·((try dsimp only) <;> (exact trivial))
 clear hK K
 try (simp only [Act.put,aST]; dsimp only [aS0,aS1])
 refine rone 6 fun K hK => ?_
 go_simp
 refine hK.out _ _ ?_ (fun hHeld => ?_)
 ·((try dsimp only) <;> (exact trivial))
 clear hK K
 try (simp only [Act.put,aST]; dsimp only [aS0,aS1])
 refine rone 7 fun K hK => ?_
 go_simp
 refine hK.out _ _ ?_ (fun hHeld => ?_)
 ·((try dsimp only) <;> (exact trivial))
 clear hK K
 try (simp only [Act.put,aST]; dsimp only [aS0,aS1])
 refine rtake 8 ?_
 refine rtake 9 ?_
 refine rone 10 fun K hK => ?_
 go_simp
 refine hK.out _ _ ?_ (fun hHeld => ?_)
 ·((try dsimp only) <;> (exact trivial))
 clear hK K
 try (simp only [Act.put,aST]; dsimp only [aS0,aS1])
 refine rdone ?_
 rotate_left
 go_simp
 refine hK.out _ _ ?_ (fun hHeld => ?_)
 ·((try dsimp only) <;> (exact trivial))
 clear hK K
 try (simp only [Act.put,aST]; dsimp only [aS0,aS1])
 refine wpAnyH_ready (rs := [4,6]) (by kernel_rfl) (by simp) ?_
 refine AllReadyH.cons (o := ⟨_,_,_,_,_,_⟩) rfl (fun K hK => ?_) (AllReadyH.cons (o := ⟨_,_,_,_,_,_⟩) rfl (fun K hK => ?_) AllReadyH.nil)
 go_simp
 refine hK.out _ _ ?_ (fun hHeld => ?_)
 ·((try dsimp only) <;> (exact trivial))
 clear hK K
 try (simp only [Act.put,aST]; dsimp only [aS0,aS1])
 refine rone 6 fun K hK => ?_
 go_simp
 refine hK.out _ _ ?_ (fun hHeld => ?_)
 ·((try dsimp only) <;> (exact trivial))
 clear hK K
 try (simp only [Act.put,aST]; dsimp only [aS0,aS1])
 refine rone 7 fun K hK => ?_
 go_simp
 refine hK.out _ _ ?_ (fun hHeld => ?_)
 ·((try dsimp only) <;> (exact trivial))
 clear hK K
 try (simp only [Act.put,aST]; dsimp only [aS0,aS1])
 refine rtake 8 ?_
 refine rtake 9 ?_
 refine rone 10 fun K hK => ?_
 go_simp
 refine hK.out _ _ ?_ (fun hHeld => ?_)
 ·((try dsimp only) <;> (exact trivial))
 clear hK K
 try (simp only [Act.put,aST]; dsimp only [aS0,aS1])
 refine rdone ?_
 rotate_left
 go_simp
 refine hK.out _ _ ?_ (fun hHeld => ?_)
 ·((try dsimp only) <;> (exact trivial))
 clear hK K
 try (simp only [Act.put,aST]; dsimp only [aS0,aS1])
 refine rone 4 fun K hK => ?_
 go_simp
 refine hK.out _ _ ?_ (fun hHeld => ?_)
 ·((try dsimp only) <;> (exact trivial))
 clear hK K
 try (simp only [Act.put,aST]; dsimp only [aS0,aS1])
 refine rone 7 fun K hK => ?_
 go_simp
 refine hK.out _ _ ?_ (fun hHeld => ?_)
 ·((try dsimp only) <;> (exact trivial))
 clear hK K
 try (simp only [Act.put,aST]; dsimp only [aS0,aS1])
 refine rtake 8 ?_
 refine rtake 9 ?_
 refine rone 10 fun K hK => ?_
 go_simp
 refine hK.out _ _ ?_ (fun hHeld => ?_)
 ·((try dsimp only) <;> (exact trivial))
 clear hK K
 try (simp only [Act.put,aST]; dsimp only [aS0,aS1])
 refine rdone ?_
 rotate_left
 all_goals exact hK.out ⟨W1,_,rfl,HF.out.1,HF.out.2.1,HF.out.2.2⟩
end Go.Proofs.YtfjcplfhkahamaaGreatDoor
