import Derived.Test.YtedffdlkmpmdlaaGreatDoorFz3
import Derived.Test.YtedffdlkmpmdlaaGreatDoorFz11
set_option maxRecDepth 100000
set_option maxHeartbeats 64000000
namespace Go.Proofs.YtedffdlkmpmdlaaGreatDoor
set_option maxRecDepth 100000
set_option linter.unusedVariables false
set_option linter.unusedSimpArgs false
open Go.RowKit Go.Shelf
attribute [local go_sem] Oper.semAt_some
def runF (bs : List UInt8) (s : List Wd) {m : Nat} (l : List (Fin m)) : List Wd := l.foldl (fun s k => compress (blk bs k.val) s) s
theorem runF_snoc (bs : List UInt8) (s : List Wd) {m : Nat} (l : List (Fin m)) (x : Fin m) : runF bs s (l ++ [x]) = compress (blk bs x.val) (runF bs s l) := by simp [runF]
theorem runF_length (bs : List UInt8) (s : List Wd) {m : Nat} (l : List (Fin m)) : (runF bs s l).length = s.length := by
 obtain ⟨r,rfl⟩ : ∃ r,l = List.reverse r := ⟨l.reverse,by simp⟩
 induction r with
 |nil => rfl
 |cons x r ih => rw [List.reverse_cons,runF_snoc,compress_length,ih]
theorem runF_fins (bs : List UInt8) (s : List Wd) (m : Nat) : ∀ k,k ≤ m → runF bs s (fins m k) = runB bs s k
 |0,_ => by simp [runF,fins,runB]
 |k + 1,h => by rw [fins_succ m k (by omega),runF_snoc,runF_fins bs s m k (by omega)]; rfl
theorem blk_length (bs : List UInt8) (k m : Nat) (h : k < m) (hb : 64 * m ≤ bs.length) : (blk bs k).length = 64 := by simp [blk]; omega
theorem Bs.blk {w : World} {b off c : Nat} {bs : List UInt8} (h : Bs w (some ⟨b,off,none⟩) c bs) (k m : Nat) (hk : k < m) (hb : 64 * m ≤ bs.length) : Bs w (some ⟨b,off + 64 * k,none⟩) 64 (blk bs k) := by
 have hl := blk_length bs k m hk hb
 refine ⟨by simp,by omega,by unfold maxLen; omega,(fun e => by cases e),fun j u hj => ⟨b,off + 64 * k,rfl,?_⟩⟩
 have hj' : j < 64 := by
  have := (List.getElem?_eq_some_iff.1 hj).1
  simp [hl] at this
  exact this
 have hc := h.cell (64 * k + j) u (by
  rw [← hj]
  simp only [List.getElem?_map,Go.Proofs.YtedffdlkmpmdlaaGreatDoor.blk,List.getElem?_take,hj',if_true,List.getElem?_drop])
 obtain ⟨b',off',e,hc⟩ := hc
 cases e
 rw [← hc]
 congr 2
 omega
theorem Own.block {β : Type} (g : Nat) (f : β → Array Value) (t : TypeId) (fr : Nat × Nat) (B : Nat) : OwnFrom B (fun (s : β) W => W.heap[g]? = some (.cells (f s) t fr)) := by
 intro s A A' row hs hg hr
 rw [hg.block g (Array.getElem?_eq_some_iff.1 hs).1 fun e => ?_]
 ·exact hs
 ·obtain ⟨_,o,ho,hc⟩ := hr g e.symm
  rw [hs] at ho
  cases ho
  cases hc
theorem ownFrom_fr {β : Type} {S : Nat → Prop} {B : Nat} {w₀ : World} (hB : w₀.heap.size ≤ B) : OwnFrom B (fun (_ : β) W => Fr S w₀ W) :=
 fun _ _ _ _ hs hg hr => hs.grown hg fun k e hk => by have := (hr k e).1; omega
theorem heap_putObj_ne (w : World) (l k : Nat) (o : Obj) (h : k ≠ l) : (w.putObj l o).heap[k]? = w.heap[k]? := by
 simp only [World.putObj]
 rw [Array.getElem?_setIfInBounds_ne (by omega)]
theorem Fr.putObj {S : Nat → Prop} {a w : World} (h : Fr S a w) {l : Nat} (hp : l < a.heap.size → S l) (o : Obj) : Fr S a (w.putObj l o) :=
 h.trans (T := fun k => k = l) ⟨rfl,rfl,rfl,by simp [World.putObj],fun k _ hk => heap_putObj_ne w l k o hk⟩ fun i hi e => by subst e; exact hp hi
theorem Bs.tail {w : World} {a : Option Addr} {c : Nat} {bs : List UInt8} (h : Bs w a c bs) (q : Nat) (hq : q ≤ bs.length) : Bs w (a.map fun x => x.add q) (c - q) (bs.drop q) := by
 refine ⟨by simp,by have := h.room; simp; omega,by have := h.most; omega,fun e => ?_,fun j u hj => ?_⟩
 ·have : a = none := by simpa using e
  rw [h.nil this]; omega
 ·obtain ⟨b,off,e,hc⟩ := h.cell (q + j) u (by rw [← hj]; simp)
  subst e
  exact ⟨b,off + q,by simp [Addr.add],by rw [← hc]; congr 2; omega⟩
theorem Bs.none_left {w : World} {a : Option Addr} {bs : List UInt8} (q : Nat) (hq : bs.length = q) : Bs w a 0 (bs.drop q) := by
 rw [List.drop_eq_nil_of_le (by omega)]
 exact ⟨rfl,Nat.le_refl _,by unfold maxLen; omega,fun _ => rfl,fun j u hj => by simp at hj⟩
theorem KeepsOthers.row {W W' : World} {g : Nat} {cs : Array Value} {t : TypeId} {fr : Nat × Nat} (hg : W.heap[g]? = some (.cells cs t fr)) (h : Fr (fun k => k = g) W W') : KeepsOthers W W' := by
 refine ⟨h.size,fun l o ho hc => (h.block l (Array.getElem?_eq_some_iff.1 ho).1 fun e => ?_).trans ho⟩
 subst e
 rw [hg] at ho
 cases ho
 cases hc
theorem Sum_any (a : Option Addr) (n c : Nat) (bs : List UInt8) (hn : n = bs.length) (hl : bs.length ≤ 140737488355000) (w : World) (h : Bs w a c bs) (hcub : Cub w) :
  Calls Tryz.prog 73 #[.slice a n c] w fun e w' => e = .returned (.agg ((sha bs).map B8).toArray) ∧ Fr F0 w w' := by
 subst hn
 have HB := Lib.hid h
 have HC := Lib.hid hcub
 clear h hcub
 refine callsIn_wide (n := 6) |>.1 ?_
 refine callsIn_of_wp_marks Tryz.func73 rfl trivial ?_ rfl
 simp only [Tryz.ntmps73,List.size_toArray,List.length_cons,List.length_nil,Nat.reduceAdd,Nat.reduceSub,Array.replicate_succ,Array.replicate_zero,List.push_toArray,List.append_toArray,List.nil_append,List.cons_append]
 obtain ⟨m,hm⟩ : ∃ m,m = bs.length / 64 := ⟨_,rfl⟩
 obtain ⟨q,hq0⟩ : ∃ q,q = 64 * m := ⟨_,rfl⟩
 have hq : (bs.length : Int) - (bs.length : Int) % 64 = (q : Int) := by omega
 have hqc : (q : Int) ≤ c := by have := HB.out.room; omega
 have hql : q ≤ bs.length := by omega
 have HQ := Lib.hid (And.intro hm hq0)
 clear hm hq0
 gi_wp2_with (first | ((with_reducible apply And.intro); (exact trivial); gi_at_call 92; refine (callsIn_wide.2 (begin_any _)).mono ?_; rintro e w1 ⟨rfl,h1⟩) | (refine wpListIn_store_row rfl 153 (.tmp 3) (.tmp 7) rfl w1.heap.size _ rfl rfl 153 _ (heap_alloc_new w1 _) (by rw [Tryz.sz8]; rfl) rfl (oneW_map _) ?_) | ((with_reducible apply And.intro); (exact trivial); gi_at_call 93; refine (Chunk_in _ _ trivial rfl _ _ _ _).mono ?_; rintro e w2 ⟨rfl,rfl⟩))
 generalize hSt : w1.heap.size = St at *
 have h1s := h1.size
 have hlt : w.heap.size < St := by simp at h1s; omega
 have hF0 : Fr F0 w ((w1.alloc (.cells #[.int .u32 0,.int .u32 0,.int .u32 0,.int .u32 0,.int .u32 0,.int .u32 0,.int .u32 0,.int .u32 0] 153)).setRow St (List.map W32 H0).toArray) := ((((Fr.refl F0 w).alloc _).trans' h1).alloc _).setRow (fun h => by omega) _
 have hSt0 : ((w1.alloc (.cells #[.int .u32 0,.int .u32 0,.int .u32 0,.int .u32 0,.int .u32 0,.int .u32 0,.int .u32 0,.int .u32 0] 153)).setRow St (List.map W32 H0).toArray).heap[St]? = some (.cells (List.map W32 H0).toArray 153 (0,0)) := setRow_heap _ _ _ _ _ _ (by rw [← hSt]; exact heap_alloc_new w1 _)
 have hR0 : ∃ cs,((w1.alloc (.cells #[.int .u32 0,.int .u32 0,.int .u32 0,.int .u32 0,.int .u32 0,.int .u32 0,.int .u32 0,.int .u32 0] 153)).setRow St (List.map W32 H0).toArray).heap[w.heap.size]? = some (.cells cs 25 (0,0)) ∧ cs.size = 32 := ⟨_,by rw [setRow_other _ _ _ _ (by omega),heap_alloc_old _ _ (by omega)]; exact h1.keeps (fun f => f) (heap_alloc_new w _),rfl⟩
 have hw3 : ((w1.alloc (.cells #[.int .u32 0,.int .u32 0,.int .u32 0,.int .u32 0,.int .u32 0,.int .u32 0,.int .u32 0,.int .u32 0] 153)).setRow St (List.map W32 H0).toArray).heap.size = St + 1 := by simp [hSt]
 generalize ((w1.alloc (.cells #[.int .u32 0,.int .u32 0,.int .u32 0,.int .u32 0,.int .u32 0,.int .u32 0,.int .u32 0,.int .u32 0] 153)).setRow St (List.map W32 H0).toArray) = w3 at *
 have hB3 : Bs w3 a c bs := Sl.fr HB.out hF0 fun _ _ f => f
 have hC3 : Cub w3 := HC.out.fr hF0 fun f => f
 have hal : ∀ b,bs ≠ [] → ablk a = some b → b < w.heap.size := fun b hne e => by
  obtain ⟨b',off,rfl,hc⟩ := HB.out.cells hne
  cases e
  exact World.block_lt_of_cell? w _ (hc 0 (List.length_pos_iff.2 hne))
 have hcl : 0 < w.heap.size := HC.out.lt
 obtain ⟨hm,hq0⟩ := HQ.out
 have hb4 : ((w3.alloc (.cells #[.slice a q c] 52)).alloc (.cells #[.int .i64 64] 3)).cell? ⟨St + 1,0,none⟩ = some (.slice a q c) := by rw [← hw3]; exact cell_of_one (heap_alloc2_old w3 _ _)
 have hn4 : ((w3.alloc (.cells #[.slice a q c] 52)).alloc (.cells #[.int .i64 64] 3)).cell? ⟨St + 1 + 1,0,none⟩ = some (.int .i64 64) := by rw [← hw3]; exact cell_of_one (heap_alloc2_new w3 _ _)
 have hF4 : Fr F0 w3 ((w3.alloc (.cells #[.slice a q c] 52)).alloc (.cells #[.int .i64 64] 3)) := ((Fr.refl F0 w3).alloc _).alloc _
 have hsz4 : ((w3.alloc (.cells #[.slice a q c] 52)).alloc (.cells #[.int .i64 64] 3)).heap.size = St + 3 := by simp [hw3]
 generalize (w3.alloc (.cells #[.slice a q c] 52)).alloc (.cells #[.int .i64 64] 3) = w4 at *
 refine wpIn_rangeFunc_ownG rfl (by omega) (gf := 112) (lb := #[.pointer (some ⟨St + 1,0,none⟩),.pointer (some ⟨St + 1 + 1,0,none⟩)]) rfl trivial (enters_of Tryz.func112 (by kernel_rfl) rfl)
  (Chunk_stops Fence.wide 5 trivial rfl (by omega) (St + 1) (St + 1 + 1) St a c m (by omega) (by omega) w4 (by omega) (by omega) (by rw [hb4,hq0]) hn4 (fun h0 => by
   obtain ⟨b,off,e,_⟩ := HB.out.cells (by intro e; simp [e] at hm; omega)
   exact ⟨b,off,e⟩))
  (fun h k => Kc.trans h k) (fun W l o o' _ h hc _ => Kc.putObj W l o o' h hc) (Below.refl _ _) (fun _ => rfl)
  (fun pre W => W.heap[St]? = some (.cells ((runF bs H0 pre).map W32).toArray 153 (0,0)) ∧ Below St w4 W)
  (fun _ _ _ => False)
  (OwnFrom.and (Own.block _ _ _ _ _) (ownFrom_below (by omega) (by omega)))
  (fun _ _ _ _ _ hs _ _ => hs)
  ⟨hF4.keeps (fun f => f) hSt0,Below.refl _ _⟩
  (fun x => { tmps := #[.slice a bs.length c,undef,.pointer (some ⟨w.heap.size,0,none⟩),.pointer (some ⟨St,0,none⟩),.int .i64 q,.slice (a.map fun y => ⟨y.block,y.off + 64 * x.val,none⟩) 64 64,undef,
   .agg (List.map W32 H0).toArray,.slice a bs.length c,.int .i64 bs.length,.slice a bs.length c,.int .i64 bs.length,.int .i64 ((bs.length : Int) % 64),.int .i64 q,.slice a bs.length c,.int .i64 q,.slice a q c,
   .func (.func 112) #[] #[.pointer (some ⟨St + 1,0,none⟩),.pointer (some ⟨St + 1 + 1,0,none⟩)],.slice (a.map fun y => ⟨y.block,y.off + 64 * x.val,none⟩) 64 64,
   undef,undef,undef,undef,undef,undef,undef,undef,undef,undef,undef,undef,undef,undef,undef,undef,undef],defers := [] }) ?assign ?body ?done ?stop
 case assign =>
  intro l x W K hK
  clear hm hq0
  gi_wp2
  exact hK
 case body =>
  rintro l pre x W ⟨hst,hB⟩ hlen
  obtain ⟨b,off,rfl,_⟩ := HB.out.cells (by have := x.isLt; intro e; simp [e] at hm; omega)
  have hb := hal b (by have := x.isLt; intro e; simp [e] at hm; omega) rfl
  have hx : Bs W (some ⟨b,off + 64 * x.val,none⟩) 64 (blk bs x.val) := Bs.blk (Sl.kept (Sl.fr hB3 hF4 fun _ _ f => f) fun k e hk => hB.block k (by have := Option.some.inj e; simp only at this; omega)) x.val m x.isLt (by omega)
  have hC : Cub W := fun j hj => (hB.cell (p := ⟨0,j,none⟩) (by simp only; omega)).trans (hC3.fr hF4 (fun f => f) j hj)
  have hz : (runF bs H0 pre).length = 8 := by rw [runF_length]; rfl
  have hb64 := blk_length bs x.val m x.isLt (by omega)
  have hsn := Lib.hid (runF_snoc bs H0 pre x)
  generalize runF bs H0 pre = s at *
  dsimp only [Option.map]
  clear hm hq0
  have hsz : (s.map W32).toArray.size = 8 := by simp [hz]
  gi_wp2_with (first | (refine wpListIn_load_row rfl 153 (.tmp 3) rfl St rfl 153 _ (0,0) _ hst Tryz.underlying153 rfl (by rw [Tryz.sz8,hsz]) ?_) | ((with_reducible apply And.intro); (exact trivial); gi_at_call 94; refine (CallsIn.inRound l (callsIn_wide.2 (after_any s hz _ 64 64 _ rfl hb64 _ hx hC))).mono ?_; rintro e w5 ⟨rfl,h5⟩) | (refine wpListIn_store_row rfl 153 (.tmp 3) (.tmp 21) rfl St _ rfl rfl 153 _ (h5.keeps (fun f => f) hst) (by rw [Tryz.sz8]; simp [compress_length,hz]) (by simp [compress_length,hz]) (oneW_map _) ?_))
  have hF5 : Fr (fun k => k = St) W (w5.setRow St ((compress (blk bs x.val) s).map W32).toArray) := Fr.setRow (S := fun k => k = St) (Fr.of0 h5) (fun _ => rfl) _
  refine ⟨(KeepsOthers.row hst hF5).from _,Kc.fr hF5,?_,hB.trans (hF5.below (by have := hB.size; omega) fun k hk => by omega)⟩
  rw [hsn.out]
  exact setRow_heap _ _ _ _ _ _ (h5.keeps (fun f => f) hst)
 case done =>
  rintro D ys W hD rfl ⟨hst,hB⟩ hK
  rw [runF_fins bs H0 m m (Nat.le_refl _)] at hst
  clear hm hq0
  have hSth : St < W.heap.size := (Array.getElem?_eq_some_iff.1 hst).1
  have HCW : Cub W := fun j hj => (hB.cell (p := ⟨0,j,none⟩) (by simp only; omega)).trans (hC3.fr hF4 (fun f => f) j hj)
  have hBs := Bs.tail (Sl.frn (S := fun k => St ≤ k) (Sl.fr hB3 hF4 fun _ _ f => f) (Fr.of_below' hB) fun hne k e h => by
   have := hal k (fun e => hne (by rw [e]; rfl)) e
   omega) q hql
  have hd : (bs.drop q).length < 64 := by have := HQ.out; simp; omega
  have hlb : bs.length ≤ 140737488355328 := by omega
  gi_wp2_with (first | ((with_reducible apply And.intro); (exact trivial); gi_at_call 95; refine (callsIn_wide.2 (filled_any _ _ _ (bs.drop q) (by simp) hd bs.length hlb _ (by first | exact hBs | exact Bs.none_left _ (by have := HB.out.room; omega)))).mono ?_; rintro e w6 ⟨b6,rfl,hb6,h6,hg6⟩) | ((with_reducible apply And.intro); (exact trivial); gi_at_call 93; refine (Chunk_in _ _ trivial rfl _ _ _ _).mono ?_; rintro e w7 ⟨rfl,rfl⟩))
  ·try generalize a.map (fun x => x.add q) = a2 at *
   have hfl := fil_length (bs.drop q) bs.length hd
   obtain ⟨m2,hm2⟩ : ∃ m2,fsize (bs.length - q) = 64 * m2 := ⟨fsize (bs.length - q) / 64,by unfold fsize; split <;> omega⟩
   have hm2s : m2 ≤ 2 := by have : fsize (bs.length - q) ≤ 128 := (by unfold fsize; split <;> omega); omega
   have hfl2 : (fil (bs.drop q) bs.length).length = 64 * m2 := by rw [hfl,List.length_drop,hm2]
   have hdl : (bs.drop q).length = bs.length - q := List.length_drop
   rw [hdl] at hb6
   rw [hm2] at hb6 ⊢
   have hst6 := h6.keeps (fun f => f) hst
   have hF7 : Fr F0 w6 ((w6.alloc (.cells #[.slice (some ⟨b6,0,none⟩) (64 * m2) (64 * m2)] 52)).alloc (.cells #[.int .i64 64] 3)) := ((Fr.refl F0 w6).alloc _).alloc _
   have hb7 : ((w6.alloc (.cells #[.slice (some ⟨b6,0,none⟩) (64 * m2) (64 * m2)] 52)).alloc (.cells #[.int .i64 64] 3)).cell? ⟨w6.heap.size,0,none⟩ = some (.slice (some ⟨b6,0,none⟩) (64 * m2) (64 * m2)) := cell_of_one (heap_alloc2_old w6 _ _)
   have hn7 : ((w6.alloc (.cells #[.slice (some ⟨b6,0,none⟩) (64 * m2) (64 * m2)] 52)).alloc (.cells #[.int .i64 64] 3)).cell? ⟨w6.heap.size + 1,0,none⟩ = some (.int .i64 64) := cell_of_one (heap_alloc2_new w6 _ _)
   generalize (w6.alloc (.cells #[.slice (some ⟨b6,0,none⟩) (64 * m2) (64 * m2)] 52)).alloc (.cells #[.int .i64 64] 3) = w7 at *
   have hSt6 : St < w6.heap.size := (Array.getElem?_eq_some_iff.1 hst6).1
   have hSb : St ≠ b6 := by have := (Array.getElem?_eq_some_iff.1 hst).1; omega
   refine wpIn_rangeFunc_ownG rfl (by omega) (gf := 112) (lb := #[.pointer (some ⟨w6.heap.size,0,none⟩),.pointer (some ⟨w6.heap.size + 1,0,none⟩)]) rfl trivial (enters_of Tryz.func112 (by kernel_rfl) rfl)
    (Chunk_stops Fence.wide 5 trivial rfl (by omega) (w6.heap.size) (w6.heap.size + 1) St (some ⟨b6,0,none⟩) (64 * m2) m2 (by omega) (by omega) w7 (by omega) (by omega) hb7 hn7 (fun h0 => ⟨b6,0,rfl⟩))
    (fun h k => Kc.trans h k) (fun W l o o' _ h hc _ => Kc.putObj W l o o' h hc) (Below.refl _ _) (fun _ => rfl)
    (fun pre W' => W'.heap[St]? = some (.cells ((runF (fil (bs.drop q) bs.length) (runB bs H0 m) pre).map W32).toArray 153 (0,0)) ∧ Fr (fun k => k = St) w7 W')
    (fun _ _ _ => False)
    (OwnFrom.and (Own.block _ _ _ _ _) (ownFrom_fr (Nat.le_refl _)))
    (fun _ _ _ _ _ hs _ _ => hs)
    ⟨hF7.keeps (fun f => f) hst6,Fr.refl _ _⟩
    ?a1a ?assign2a ?body2a ?done2a ?stop2a
   case assign2a =>
    intro l x W' K hK
    gi_wp2
    exact hK
   case body2a =>
    rintro l pre x W' ⟨hst',hF'⟩ hlen
    have hxl := x.isLt
    have hB' : Bs W' (some ⟨b6,0,none⟩) (64 * m2) (fil (bs.drop q) bs.length) := Sl.fr (Sl.fr hb6 hF7 fun _ _ f => f) hF' fun k e h => by
     cases e
     exact hSb h.symm
    have hx := Bs.blk hB' x.val m2 hxl (by omega)
    rw [Nat.zero_add] at hx
    have hC : Cub W' := (HCW.fr h6 fun f => f).fr (hF7.of0.trans' hF') fun h => by omega
    have hz : (runF (fil (bs.drop q) bs.length) (runB bs H0 m) pre).length = 8 := by rw [runF_length,runB_length]; rfl
    have hb64 := blk_length (fil (bs.drop q) bs.length) x.val m2 hxl (by omega)
    have hsn := Lib.hid (runF_snoc (fil (bs.drop q) bs.length) (runB bs H0 m) pre x)
    generalize runF (fil (bs.drop q) bs.length) (runB bs H0 m) pre = s at *
    try dsimp only [Option.map]
    have hsz : (s.map W32).toArray.size = 8 := by simp [hz]
    gi_wp2_with (first | (refine wpListIn_load_row rfl 153 (.tmp 3) rfl St rfl 153 _ (0,0) _ hst' Tryz.underlying153 rfl (by rw [Tryz.sz8,hsz]) ?_) | ((with_reducible apply And.intro); (exact trivial); gi_at_call 94; refine (CallsIn.inRound l (callsIn_wide.2 (after_any s hz _ 64 64 _ rfl hb64 _ hx hC))).mono ?_; rintro e w8 ⟨rfl,h8⟩) | (refine wpListIn_store_row rfl 153 (.tmp 3) (.tmp 33) rfl St _ rfl rfl 153 _ (h8.keeps (fun f => f) hst') (by rw [Tryz.sz8]; simp [compress_length,hz]) (by simp [compress_length,hz]) (oneW_map _) ?_))
    have hF8 : Fr (fun k => k = St) W' (w8.setRow St ((compress (blk (fil (bs.drop q) bs.length) x.val) s).map W32).toArray) := Fr.setRow (S := fun k => k = St) (Fr.of0 h8) (fun _ => rfl) _
    refine ⟨(KeepsOthers.row hst' hF8).from _,Kc.fr hF8,?_,hF'.trans' hF8⟩
    rw [hsn.out]
    exact setRow_heap _ _ _ _ _ _ (h8.keeps (fun f => f) hst')
   case done2a =>
    rintro D2 ys W' hD2 rfl ⟨hst',hF'⟩ hK2
    rw [runF_fins _ _ m2 m2 (Nat.le_refl _)] at hst'
    have hlen8 : (runB (fil (bs.drop q) bs.length) (runB bs H0 m) m2).length = 8 := by rw [runB_length,runB_length]; rfl
    have hsha : sha bs = bytesOf (runB (fil (bs.drop q) bs.length) (runB bs H0 m) m2) := by
     have hq' := HQ.out
     rw [sha_cut,← hq'.1,← hq'.2]
     have e1 : bs.length % 64 = bs.length - q := by omega
     have e2 : runB (bs.take q) H0 m = runB bs H0 m := by
      have := runB_left (bs.take q) (bs.drop q) H0 m (by simp; omega)
      rw [List.take_append_drop] at this
      exact this.symm
     rw [e1,e2,hm2,Nat.mul_div_cancel_left _ (by omega)]
    have HS := Lib.hid hsha
    generalize runB (fil (bs.drop q) bs.length) (runB bs H0 m) m2 = sF at *
    obtain ⟨csR,hR3,hRz⟩ := hR0
    have hR' := hF'.keeps (k := w.heap.size) (fun h => by omega) (hF7.keeps (fun f => f) (h6.keeps (fun f => f) ((hB.block w.heap.size hlt).trans (hF4.keeps (fun f => f) hR3))))
    have hsz : (sF.map W32).toArray.size = 8 := by simp [hlen8]
    have hbz : ((bytesOf sF).map B8).toArray.size = 32 := by simp [bytesOf_length,hlen8]
    have hWs := hB.size
    have hW6 := h6.size
    have hW7 := hF7.size
    have hDW := (Array.getElem?_eq_some_iff.1 hK).1
    have HF := Lib.hid ((((((hF0.trans' hF4).trans (Fr.of_below' hB) fun i hi h => by omega).trans' h6).trans' hF7).trans hF' fun i hi h => by omega))
    have HD := Lib.hid (hF'.keeps (k := D) (fun h => by subst h; rw [hst] at hK; cases hK) (hF7.keeps (fun f => f) (h6.keeps (fun f => f) hK)))
    have HD2 := Lib.hid hK2
    clear hK hK2
    clear hB hB3 hC3 hF0 hSt0 hR3 hb4 hn4 hst hBs hb6 hst6 hb7 hn7 HCW
    gi_wp2_with (first | (refine wpListIn_load_row rfl 153 (.tmp 3) rfl St rfl 153 _ (0,0) _ hst' Tryz.underlying153 rfl (by rw [Tryz.sz8,hsz]) ?_) | ((with_reducible apply And.intro); (exact trivial); gi_at_call 96; refine (callsIn_wide.2 (hash_any sF hlen8 _)).mono ?_; rintro e w9 ⟨rfl,h9⟩) | (refine wpListIn_store_row rfl 25 (.tmp 2) (.tmp 35) rfl w.heap.size _ rfl rfl 25 csR (h9.keeps (fun f => f) hR') (by rw [Tryz.sz32,hbz]) (by rw [hRz,hbz]) (oneB_map _) ?_))
    have g2 : (w9.setRow w.heap.size ((bytesOf sF).map B8).toArray).heap[D2]? = some (.deferred (some [])) := by
     rw [setRow_other _ _ _ _ (by omega)]
     exact h9.keeps (fun f => f) HD2.out
    have g1 : ((w9.setRow w.heap.size ((bytesOf sF).map B8).toArray).putObj D2 (.deferred none)).heap[D]? = some (.deferred (some [])) := by
     rw [heap_putObj_ne _ _ _ _ (by omega),setRow_other _ _ _ _ (by omega)]
     exact h9.keeps (fun f => f) HD.out
    have g0 : (((w9.setRow w.heap.size ((bytesOf sF).map B8).toArray).putObj D2 (.deferred none)).putObj D (.deferred none)).heap[w.heap.size]? = some (.cells ((bytesOf sF).map B8).toArray 25 (0,0)) := by
     rw [heap_putObj_ne _ _ _ _ (by omega),heap_putObj_ne _ _ _ _ (by omega)]
     exact setRow_heap _ _ _ _ _ _ (h9.keeps (fun f => f) hR')
    refine ⟨by simp,.inl ⟨_,_,rfl,run_takeDeferred g2,by simp,.inl ⟨_,_,rfl,run_takeDeferred g1,?_⟩⟩⟩
    refine ⟨_,results_cell_row rfl _ _ w.heap.size _ _ _ _ rfl g0 Tryz.underlying25 rfl (by rw [Tryz.sz32,hbz]),?_⟩
    exact ⟨by rw [HS.out],(((HF.out.trans' h9).setRow (fun h => by omega) _).putObj (fun h => by omega) _).putObj (fun h => by omega) _⟩
   case stop2a =>
    rintro D c pre W _ _ h _
    exact h.elim
  ·try generalize a.map (fun x => x.add q) = a2 at *
   have hfl := fil_length (bs.drop q) bs.length hd
   obtain ⟨m2,hm2⟩ : ∃ m2,fsize (bs.length - q) = 64 * m2 := ⟨fsize (bs.length - q) / 64,by unfold fsize; split <;> omega⟩
   have hm2s : m2 ≤ 2 := by have : fsize (bs.length - q) ≤ 128 := (by unfold fsize; split <;> omega); omega
   have hfl2 : (fil (bs.drop q) bs.length).length = 64 * m2 := by rw [hfl,List.length_drop,hm2]
   have hdl : (bs.drop q).length = bs.length - q := List.length_drop
   rw [hdl] at hb6
   rw [hm2] at hb6 ⊢
   have hst6 := h6.keeps (fun f => f) hst
   have hF7 : Fr F0 w6 ((w6.alloc (.cells #[.slice (some ⟨b6,0,none⟩) (64 * m2) (64 * m2)] 52)).alloc (.cells #[.int .i64 64] 3)) := ((Fr.refl F0 w6).alloc _).alloc _
   have hb7 : ((w6.alloc (.cells #[.slice (some ⟨b6,0,none⟩) (64 * m2) (64 * m2)] 52)).alloc (.cells #[.int .i64 64] 3)).cell? ⟨w6.heap.size,0,none⟩ = some (.slice (some ⟨b6,0,none⟩) (64 * m2) (64 * m2)) := cell_of_one (heap_alloc2_old w6 _ _)
   have hn7 : ((w6.alloc (.cells #[.slice (some ⟨b6,0,none⟩) (64 * m2) (64 * m2)] 52)).alloc (.cells #[.int .i64 64] 3)).cell? ⟨w6.heap.size + 1,0,none⟩ = some (.int .i64 64) := cell_of_one (heap_alloc2_new w6 _ _)
   generalize (w6.alloc (.cells #[.slice (some ⟨b6,0,none⟩) (64 * m2) (64 * m2)] 52)).alloc (.cells #[.int .i64 64] 3) = w7 at *
   have hSt6 : St < w6.heap.size := (Array.getElem?_eq_some_iff.1 hst6).1
   have hSb : St ≠ b6 := by have := (Array.getElem?_eq_some_iff.1 hst).1; omega
   refine wpIn_rangeFunc_ownG rfl (by omega) (gf := 112) (lb := #[.pointer (some ⟨w6.heap.size,0,none⟩),.pointer (some ⟨w6.heap.size + 1,0,none⟩)]) rfl trivial (enters_of Tryz.func112 (by kernel_rfl) rfl)
    (Chunk_stops Fence.wide 5 trivial rfl (by omega) (w6.heap.size) (w6.heap.size + 1) St (some ⟨b6,0,none⟩) (64 * m2) m2 (by omega) (by omega) w7 (by omega) (by omega) hb7 hn7 (fun h0 => ⟨b6,0,rfl⟩))
    (fun h k => Kc.trans h k) (fun W l o o' _ h hc _ => Kc.putObj W l o o' h hc) (Below.refl _ _) (fun _ => rfl)
    (fun pre W' => W'.heap[St]? = some (.cells ((runF (fil (bs.drop q) bs.length) (runB bs H0 m) pre).map W32).toArray 153 (0,0)) ∧ Fr (fun k => k = St) w7 W')
    (fun _ _ _ => False)
    (OwnFrom.and (Own.block _ _ _ _ _) (ownFrom_fr (Nat.le_refl _)))
    (fun _ _ _ _ _ hs _ _ => hs)
    ⟨hF7.keeps (fun f => f) hst6,Fr.refl _ _⟩
    ?a1b ?assign2b ?body2b ?done2b ?stop2b
   case assign2b =>
    intro l x W' K hK
    gi_wp2
    exact hK
   case body2b =>
    rintro l pre x W' ⟨hst',hF'⟩ hlen
    have hxl := x.isLt
    have hB' : Bs W' (some ⟨b6,0,none⟩) (64 * m2) (fil (bs.drop q) bs.length) := Sl.fr (Sl.fr hb6 hF7 fun _ _ f => f) hF' fun k e h => by
     cases e
     exact hSb h.symm
    have hx := Bs.blk hB' x.val m2 hxl (by omega)
    rw [Nat.zero_add] at hx
    have hC : Cub W' := (HCW.fr h6 fun f => f).fr (hF7.of0.trans' hF') fun h => by omega
    have hz : (runF (fil (bs.drop q) bs.length) (runB bs H0 m) pre).length = 8 := by rw [runF_length,runB_length]; rfl
    have hb64 := blk_length (fil (bs.drop q) bs.length) x.val m2 hxl (by omega)
    have hsn := Lib.hid (runF_snoc (fil (bs.drop q) bs.length) (runB bs H0 m) pre x)
    generalize runF (fil (bs.drop q) bs.length) (runB bs H0 m) pre = s at *
    try dsimp only [Option.map]
    have hsz : (s.map W32).toArray.size = 8 := by simp [hz]
    gi_wp2_with (first | (refine wpListIn_load_row rfl 153 (.tmp 3) rfl St rfl 153 _ (0,0) _ hst' Tryz.underlying153 rfl (by rw [Tryz.sz8,hsz]) ?_) | ((with_reducible apply And.intro); (exact trivial); gi_at_call 94; refine (CallsIn.inRound l (callsIn_wide.2 (after_any s hz _ 64 64 _ rfl hb64 _ hx hC))).mono ?_; rintro e w8 ⟨rfl,h8⟩) | (refine wpListIn_store_row rfl 153 (.tmp 3) (.tmp 33) rfl St _ rfl rfl 153 _ (h8.keeps (fun f => f) hst') (by rw [Tryz.sz8]; simp [compress_length,hz]) (by simp [compress_length,hz]) (oneW_map _) ?_))
    have hF8 : Fr (fun k => k = St) W' (w8.setRow St ((compress (blk (fil (bs.drop q) bs.length) x.val) s).map W32).toArray) := Fr.setRow (S := fun k => k = St) (Fr.of0 h8) (fun _ => rfl) _
    refine ⟨(KeepsOthers.row hst' hF8).from _,Kc.fr hF8,?_,hF'.trans' hF8⟩
    rw [hsn.out]
    exact setRow_heap _ _ _ _ _ _ (h8.keeps (fun f => f) hst')
   case done2b =>
    rintro D2 ys W' hD2 rfl ⟨hst',hF'⟩ hK2
    rw [runF_fins _ _ m2 m2 (Nat.le_refl _)] at hst'
    have hlen8 : (runB (fil (bs.drop q) bs.length) (runB bs H0 m) m2).length = 8 := by rw [runB_length,runB_length]; rfl
    have hsha : sha bs = bytesOf (runB (fil (bs.drop q) bs.length) (runB bs H0 m) m2) := by
     have hq' := HQ.out
     rw [sha_cut,← hq'.1,← hq'.2]
     have e1 : bs.length % 64 = bs.length - q := by omega
     have e2 : runB (bs.take q) H0 m = runB bs H0 m := by
      have := runB_left (bs.take q) (bs.drop q) H0 m (by simp; omega)
      rw [List.take_append_drop] at this
      exact this.symm
     rw [e1,e2,hm2,Nat.mul_div_cancel_left _ (by omega)]
    have HS := Lib.hid hsha
    generalize runB (fil (bs.drop q) bs.length) (runB bs H0 m) m2 = sF at *
    obtain ⟨csR,hR3,hRz⟩ := hR0
    have hR' := hF'.keeps (k := w.heap.size) (fun h => by omega) (hF7.keeps (fun f => f) (h6.keeps (fun f => f) ((hB.block w.heap.size hlt).trans (hF4.keeps (fun f => f) hR3))))
    have hsz : (sF.map W32).toArray.size = 8 := by simp [hlen8]
    have hbz : ((bytesOf sF).map B8).toArray.size = 32 := by simp [bytesOf_length,hlen8]
    have hWs := hB.size
    have hW6 := h6.size
    have hW7 := hF7.size
    have hDW := (Array.getElem?_eq_some_iff.1 hK).1
    have HF := Lib.hid ((((((hF0.trans' hF4).trans (Fr.of_below' hB) fun i hi h => by omega).trans' h6).trans' hF7).trans hF' fun i hi h => by omega))
    have HD := Lib.hid (hF'.keeps (k := D) (fun h => by subst h; rw [hst] at hK; cases hK) (hF7.keeps (fun f => f) (h6.keeps (fun f => f) hK)))
    have HD2 := Lib.hid hK2
    clear hK hK2
    clear hB hB3 hC3 hF0 hSt0 hR3 hb4 hn4 hst hBs hb6 hst6 hb7 hn7 HCW
    gi_wp2_with (first | (refine wpListIn_load_row rfl 153 (.tmp 3) rfl St rfl 153 _ (0,0) _ hst' Tryz.underlying153 rfl (by rw [Tryz.sz8,hsz]) ?_) | ((with_reducible apply And.intro); (exact trivial); gi_at_call 96; refine (callsIn_wide.2 (hash_any sF hlen8 _)).mono ?_; rintro e w9 ⟨rfl,h9⟩) | (refine wpListIn_store_row rfl 25 (.tmp 2) (.tmp 35) rfl w.heap.size _ rfl rfl 25 csR (h9.keeps (fun f => f) hR') (by rw [Tryz.sz32,hbz]) (by rw [hRz,hbz]) (oneB_map _) ?_))
    have g2 : (w9.setRow w.heap.size ((bytesOf sF).map B8).toArray).heap[D2]? = some (.deferred (some [])) := by
     rw [setRow_other _ _ _ _ (by omega)]
     exact h9.keeps (fun f => f) HD2.out
    have g1 : ((w9.setRow w.heap.size ((bytesOf sF).map B8).toArray).putObj D2 (.deferred none)).heap[D]? = some (.deferred (some [])) := by
     rw [heap_putObj_ne _ _ _ _ (by omega),setRow_other _ _ _ _ (by omega)]
     exact h9.keeps (fun f => f) HD.out
    have g0 : (((w9.setRow w.heap.size ((bytesOf sF).map B8).toArray).putObj D2 (.deferred none)).putObj D (.deferred none)).heap[w.heap.size]? = some (.cells ((bytesOf sF).map B8).toArray 25 (0,0)) := by
     rw [heap_putObj_ne _ _ _ _ (by omega),heap_putObj_ne _ _ _ _ (by omega)]
     exact setRow_heap _ _ _ _ _ _ (h9.keeps (fun f => f) hR')
    refine ⟨by simp,.inl ⟨_,_,rfl,run_takeDeferred g2,by simp,.inl ⟨_,_,rfl,run_takeDeferred g1,?_⟩⟩⟩
    refine ⟨_,results_cell_row rfl _ _ w.heap.size _ _ _ _ rfl g0 Tryz.underlying25 rfl (by rw [Tryz.sz32,hbz]),?_⟩
    exact ⟨by rw [HS.out],(((HF.out.trans' h9).setRow (fun h => by omega) _).putObj (fun h => by omega) _).putObj (fun h => by omega) _⟩
   case stop2b =>
    rintro D c pre W _ _ h _
    exact h.elim
 case stop =>
  rintro D c pre W _ _ h _
  exact h.elim
end Go.Proofs.YtedffdlkmpmdlaaGreatDoor
