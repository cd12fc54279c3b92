import Derived.Test.YtedffdlkmpmdlaaGreatDoorQ35
import Derived.Test.YtedffdlkmpmdlaaGreatDoorQ33
import Derived.Test.YtedffdlkmpmdlaaGreatDoorQ4
import Derived.Test.YtedffdlkmpmdlaaGreatDoorQ34
import Derived.Test.YtedffdlkmpmdlaaGreatDoorQ29
import Derived.Test.YtedffdlkmpmdlaaGreatDoorQ24
import Derived.Test.YtedffdlkmpmdlaaGreatDoorQ2
import Derived.Test.YtedffdlkmpmdlaaGreatDoorQ6
import Derived.Test.YtedffdlkmpmdlaaGreatDoorQ9
import Derived.Test.YtedffdlkmpmdlaaGreatDoorQ17
import Derived.Test.YtedffdlkmpmdlaaGreatDoorQ1
import Derived.Test.YtedffdlkmpmdlaaGreatDoorQ22
import Derived.Test.YtedffdlkmpmdlaaGreatDoorQ28
set_option maxRecDepth 100000
set_option maxHeartbeats 64000000
namespace Go.Proofs.YtedffdlkmpmdlaaGreatDoor
set_option maxRecDepth 100000
set_option linter.unusedVariables false
set_option linter.unusedSimpArgs false
open Go.RowKit
theorem Tryz.szStep12 : (Tryz.prog.info? 38).map (·.size) = some 4 := by kernel_rfl
@[go_sem ↓ high] theorem load_step12 (p : Value) : Instr.loadAt 38 p = loadRowAt 38 p := rfl
@[go_sem ↓ high] theorem store_step12 (p v : Value) : Instr.storeAt 38 p v = storeRowAt 38 p v := rfl
@[go_sem] theorem run_load_step12 (w : World) (g : Nat) : (loadRowAt 38 (.pointer (some ⟨g,0,none⟩))).run Tryz.prog w = rowOut Tryz.prog 38 (.pointer (some ⟨g,0,none⟩)) w 4 w.heap[g]? :=
 run_loadRowAt w _ g 4 _ Tryz.underlying38 rfl Tryz.szStep12
@[go_sem] theorem run_store_step12 (w : World) (g : Nat) (cells : Array Value) : (storeRowAt 38 (.pointer (some ⟨g,0,none⟩)) (.agg cells)).run Tryz.prog w = rowIn Tryz.prog 38 (.pointer (some ⟨g,0,none⟩)) cells g w 4 w.heap[g]? :=
 run_storeRowAt w _ g 4 cells Tryz.szStep12
theorem zHd_size : Tryz.zeroCells27.size = 68 := by kernel_rfl
end Go.Proofs.YtedffdlkmpmdlaaGreatDoor
namespace Go.Proofs.YtedffdlkmpmdlaaGreatDoor
set_option maxRecDepth 100000
set_option linter.unusedVariables false
set_option linter.unusedSimpArgs false
open Go.RowKit
structure Stp (w : World) (a : Option Addr) (n c : Nat) : Prop where
 at_ : ∀ k,k < n → ∃ b off kind ah late rt,a = some ⟨b,off,none⟩ ∧ ∀ W,Fr F0 w W → (loadRowAt 38 (.pointer (some ⟨b,off + k * 4,none⟩))).run Tryz.prog W = .ok (.agg #[.int .i64 kind,.int .i64 ah,.int .i32 late,B8 rt]) W
theorem GB_b0 (v : Value) : GB [b0 v] := by
 intro i hi
 obtain rfl : i = 0 := by simpa using hi
 have e : (bkT [b0 v] 0).bits = lim0 := by rw [bk_b0,b0_bits]; rfl
 refine ⟨by rw [e]; exact lim0_P,by rw [e]; exact Nat.le_refl _,?_⟩
 rw [e]
 exact lim0_ge
theorem bits_lt12 {L : List Bk} (hw : WFt L) {e s i : Nat} (hi : i < L.length) : bitsM L e s lim0 i < 4294967296 := by
 unfold bitsM
 split
 ·exact enB_lt (Nat.lt_of_le_of_lt (sc_top lim0_P.2.1).1 lim0_P.2.2)
 ·exact (hw.at hi).bits
theorem bitA_lt {L : List Bk} (hw : WFt L) {e s : Nat} (A : List UInt8) : bitA L e s lim0 A < 4294967296 := by
 unfold bitA
 split
 ·omega
 ·rcases findM_lt A L with h | ⟨i,h,hi⟩
  ·omega
  ·rw [h,Int.toNat_natCast]
   exact bits_lt12 hw hi
structure Cts (w wr : World) (R : Array Value) (E s p bm p2 : Nat) (L : List Bk) : Prop where
 made : ∀ W,Fr F0 wr W → ∀ (h : Hd),h.Ok → ∀ (kind ah late : Int) (rt : UInt8),Calls Tryz.prog 11 #[.pointer (some ⟨p,0,none⟩),.agg h.cells,.agg #[.int .i64 kind,.int .i64 ah,.int .i32 late,B8 rt]] W fun e w' => (∃ n : Nat,n < 4294967296 ∧ e = .returned (.agg ((mkM (mkK kind (mk0 h late rt (bitA L E s lim0 (sha2 h.bytes))))).with n).cells)) ∧ Fr F0 W w'
 best : ∀ W,Fr F0 wr W → Calls Tryz.prog 24 #[.pointer (some ⟨p,0,none⟩)] W fun e w' => e = .returned (.agg (hc (bkT L (bestM L)).hash)) ∧ Fr F0 W w'
 work : ∀ W,Fr F0 wr W → Calls Tryz.prog 64 #[.pointer (some ⟨p,0,none⟩),.agg (hc (bkT L (bestM L)).hash)] W fun e w' => e = .returned (.agg (rowN .u64 64 4 (workM L (bestM L)))) ∧ Fr F0 W w'
theorem chk_bits {L : List Bk} {E s : Nat} {h : Hd} {v : Value} {mt : Bool} (h0 : chkE L E s lim0 (plainB h v) h.ahead mt = 0) {i : Nat} (hi : findM L h.ahead = (i : Int)) : h.bits = bitsM L E s lim0 i := by
 unfold chkE at h0
 rw [hi] at h0
 by_cases h1 : 0 ≤ findM L (plainB h v).hash
 ·rw [if_pos h1] at h0; cases h0
 ·rw [if_neg h1,if_neg (show ¬ ((i : Int) < 0) by omega),Int.toNat_natCast] at h0
  unfold mayE at h0
  by_cases h2 : bitsM L E s lim0 i = (plainB h v).bits ∧ btP (plainB h v).bits ∧ btT (plainB h v).bits ≤ btT lim0
  ·exact h2.1.symm
  ·rw [if_pos h2] at h0; cases h0
end Go.Proofs.YtedffdlkmpmdlaaGreatDoor
namespace Go.Proofs.YtedffdlkmpmdlaaGreatDoor
set_option maxRecDepth 100000
set_option linter.unusedVariables false
set_option linter.unusedSimpArgs false
open Go.RowKit Go.ChangeShapes Go.WideShapes Go.Deep
theorem split4 (cs : List Value) (h : cs.length = 4) : cs = (cs.drop 0).take 1 ++ ((cs.drop 1).take 1 ++ ((cs.drop 2).take 1 ++ (cs.drop 3).take 1)) := by
 match cs,h with
 |[a,b,c,d],_ => rfl
section
variable {H : Type} {enc : TypeId × Value → H} {w : World} {base : Nat} {spare : Nat → Bool} {held : Bool}
theorem cells_step {fuel : Nat} {cs : List Value} {y : DataW H × List MemPlace} (hf : DataW.trod enc Tryz.prog w base spare held fuel 38 cs = some y) : ∃ (kind ah late : Int) (rt : UInt8),cs = [.int .i64 kind,.int .i64 ah,.int .i32 late,B8 rt] := by
 obtain ⟨xs,n,_,_,hl,hlen,hc⟩ := DataW.trod_struct Tryz.underlying38 hf
 have h4 : Tryz.prog.cellsOf 38 = 4 := by kernel_rfl
 have h1 : Tryz.prog.cellsOf 3 = 1 := by kernel_rfl
 have h2 : Tryz.prog.cellsOf 21 = 1 := by kernel_rfl
 have h3 : Tryz.prog.cellsOf 5 = 1 := by kernel_rfl
 match xs,hlen with
 |[y0,y1,y2,y3],_ =>
  have k0 : DataW.trod enc Tryz.prog w base spare held n 3 ((cs.drop 0).take (Tryz.prog.cellsOf 3)) = some y0 := hc 0 _ rfl
  have k1 : DataW.trod enc Tryz.prog w base spare held n 3 ((cs.drop 1).take (Tryz.prog.cellsOf 3)) = some y1 := hc 1 _ rfl
  have k2 : DataW.trod enc Tryz.prog w base spare held n 21 ((cs.drop 2).take (Tryz.prog.cellsOf 21)) = some y2 := hc 2 _ rfl
  have k3 : DataW.trod enc Tryz.prog w base spare held n 5 ((cs.drop 3).take (Tryz.prog.cellsOf 5)) = some y3 := hc 3 _ rfl
  rw [h1] at k0 k1
  rw [h2] at k2
  rw [h3] at k3
  have hl' : cs.length = 4 := by rw [← h4,← hl]
  obtain ⟨x0,_,e0⟩ := cells_int k0
  obtain ⟨x1,_,e1⟩ := cells_int k1
  obtain ⟨x2,e2,_,_⟩ := DataW.trod_int Tryz.underlying21 k2
  obtain ⟨x3,e3,_,wf⟩ := DataW.trod_int Tryz.underlying5 k3
  have hb : 0 ≤ x3 ∧ x3 ≤ 255 := bounds_u8 wf
  refine ⟨x0,x1,x2,UInt8.ofNat x3.toNat,?_⟩
  have := split4 cs hl'
  rw [e0,e1,e2,e3] at this
  rw [this]
  have e : B8 (UInt8.ofNat x3.toNat) = .int .u8 x3 := by
   simp only [B8,UInt8.toNat_ofNat']
   congr 1
   omega
  rw [e]
  rfl
theorem open_steps {fuel : Nat} {a : Option Addr} {n c : Nat} {x : DataW H × List MemPlace} (h : DataW.trod enc Tryz.prog w base spare held fuel 42 [.slice a n c] = some x) : Stp w a n c := by
 rcases open_slice Tryz.underlying42 h with ⟨hcs,_⟩ | ⟨ad,len,cap,m,k,D,Pl,hcs,_,hl,hm,hmm,_,hi⟩
 ·simp only [List.cons.injEq,Value.slice.injEq,and_true] at hcs
  obtain ⟨rfl,rfl,rfl⟩ := hcs
  exact ⟨fun k hk => absurd hk (by omega)⟩
 ·simp only [List.cons.injEq,Value.slice.injEq,and_true] at hcs
  obtain ⟨rfl,rfl,rfl⟩ := hcs
  have hnm : n ≤ m := by rw [hmm]; split <;> omega
  have hC : Tryz.prog.cellsOf 38 = 4 := by kernel_rfl
  refine ⟨fun k hk => ?_⟩
  obtain ⟨cs,h1,h2⟩ := hi k (by omega)
  rw [hC] at h1
  obtain ⟨_,hlen,hat⟩ := World.cells?_some h1
  obtain ⟨kind,ah,late,rt,rfl⟩ := cells_step h2
  obtain ⟨cs0,g1,g2⟩ := hi 0 (by omega)
  rw [hC] at g1
  obtain ⟨_,glen,gat⟩ := World.cells?_some g1
  have hs0 := World.cell?_spot ((gat 0 (by omega)).trans (List.getElem?_eq_getElem (show 0 < cs0.length by omega)))
  obtain ⟨b,off,spot⟩ := ad
  simp [Addr.add] at hs0
  subst hs0
  refine ⟨b,off,kind,ah,late,rt,rfl,fun W f => ?_⟩
  exact run_loadAt_mid (P := Tryz.prog) W b (off + k * 4) 38 [.int .i64 kind,.int .i64 ah,.int .i32 late,B8 rt] _ (fun j u hj => by
   have hj' : j < 4 := by have := (List.getElem?_eq_some_iff.1 hj).1; simpa using this
   have := (hat j hj').trans hj
   rw [Addr.add_lit,Addr.add_lit] at this
   exact f.cell (fun e => e) this) Tryz.underlying38 rfl (by rw [Tryz.szStep12]; rfl)
theorem open_int12 {r : Reach} {b0 : Nat} {v : Value} {d : DataW H} {ps : List MemPlace} (hd : DataW.Trod enc Tryz.prog w base spare held 3 v d ps) (hv : Value.okWide Tryz.prog w r b0 3 v) :
  ∃ n : Int,(-9223372036854775808 ≤ n ∧ n ≤ 9223372036854775807) ∧ v = .int .i64 n := by
 obtain ⟨n,rfl⟩ := okWide_int Tryz.underlying3 hv
 obtain ⟨fuel,hf⟩ := hd
 obtain ⟨x,hx,e⟩ := cells_int (by simpa [Value.cells] using hf)
 simp at e
 subst e
 exact ⟨_,hx,rfl⟩
end
end Go.Proofs.YtedffdlkmpmdlaaGreatDoor
namespace Go.Proofs.YtedffdlkmpmdlaaGreatDoor
set_option maxRecDepth 100000
set_option linter.unusedVariables false
set_option linter.unusedSimpArgs false
open Go.RowKit
def depM (L : List Bk) (h : List UInt8) : Nat := if findM L h < 0 then 0 else if (findM L h).toNat ∈ anc L (bestM L) then heightM L (bestM L) + 1 - heightM L (findM L h).toNat else 0
def htA (L : List Bk) (h : List UInt8) : Nat := if findM L h < 0 then 0 else heightM L (findM L h).toNat
theorem mem_line {L : List Bk} {i j : Nat} : j ∈ lineM L i ↔ j ∈ anc L i := List.mem_reverse
theorem height_lt {L : List Bk} (h : WFt L) {i j : Nat} (hi : i < L.length) (hj : j ∈ anc L i) : heightM L j ≤ heightM L i := by
 have h1 := (line_at h hi hj).2.2
 rw [line_len h hi] at h1
 omega
theorem depM_at {L : List Bk} (h : WFt L) (nh : NH L) (h0 : 0 < L.length) {i : Nat} (hi : i ∈ anc L (bestM L)) : depM L (bkT L i).hash = heightM L (bestM L) + 1 - heightM L i := by
 have hb := best_lt h0
 have hl : i < L.length := Nat.lt_of_le_of_lt (anc_lt h _ hb i hi) hb
 unfold depM
 rw [findM_at nh hl,if_neg (by omega),Int.toNat_natCast,if_pos hi]
theorem depM_pos {L : List Bk} {x : List UInt8} (h : 0 < depM L x) : ∃ i : Nat,findM L x = (i : Int) ∧ i < L.length ∧ (bkT L i).hash = x ∧ i ∈ anc L (bestM L) ∧ depM L x = heightM L (bestM L) + 1 - heightM L i := by
 rcases findM_lt x L with e | ⟨i,e,hi⟩
 ·unfold depM at h
  rw [if_pos (by omega)] at h
  omega
 ·have h2 := findM_is e
  unfold depM at h ⊢
  rw [e,if_neg (by omega),Int.toNat_natCast] at h ⊢
  by_cases h3 : i ∈ anc L (bestM L)
  ·exact ⟨i,rfl,hi,h2.2,h3,by rw [if_pos h3]⟩
  ·rw [if_neg h3] at h; omega
theorem chn_at {L : List Bk} (h : WFt L) {j i : Nat} (hj : j < L.length) (hi : i ∈ anc L j) : (hsL L (lineM L j))[heightM L i]? = some (bkT L i).hash := by
 rw [hsL,List.getElem?_map,(line_at h hj hi).1]; rfl
theorem line_height {L : List Bk} (h : WFt L) {j i k : Nat} (hj : j < L.length) (e : (lineM L j)[k]? = some i) : heightM L i = k := by
 have hl := line_len h hj
 have hk : k < (lineM L j).length := by
  rcases Nat.lt_or_ge k (lineM L j).length with h1 | h1
  ·exact h1
  ·rw [List.getElem?_eq_none h1] at e; cases e
 have ha : (anc L j).length = (lineM L j).length := by rw [lineM,List.length_reverse]
 rw [lineM,List.getElem?_reverse (by omega)] at e
 have hd := (anc_drop h j hj _ i e).1
 have := congrArg List.length hd
 rw [List.length_drop] at this
 unfold heightM
 omega
theorem chn_get {L : List Bk} (h : WFt L) {j k : Nat} (hj : j < L.length) (hk : k < heightM L j + 1) : ∃ i,i ∈ anc L j ∧ heightM L i = k ∧ (hsL L (lineM L j))[k]? = some (bkT L i).hash ∧ i < L.length := by
 have hl := line_len h hj
 have e : (lineM L j)[k]? = some ((lineM L j)[k]'(by omega)) := List.getElem?_eq_getElem (by omega)
 obtain ⟨h1,h2⟩ := line_mem h hj e
 exact ⟨_,h1,line_height h hj e,by rw [hsL,List.getElem?_map,e]; rfl,h2⟩
theorem chn_mem {L : List Bk} (h : WFt L) (nh : NH L) {j i : Nat} (hj : j < L.length) (hi : i < L.length) : (bkT L i).hash ∈ hsL L (lineM L j) ↔ i ∈ anc L j := by
 constructor
 ·intro hm
  obtain ⟨k,hk,e⟩ := List.mem_map.1 hm
  have hk' := mem_line.1 hk
  have := nh k i (Nat.lt_of_le_of_lt (anc_lt h j hj k hk') hj) hi e
  rw [← this]; exact hk'
 ·intro hm
  exact List.mem_map.2 ⟨i,mem_line.2 hm,rfl⟩
def dpN (l : List (List UInt8)) (x : List UInt8) : Nat → Nat
 |0 => 0
 |k + 1 => if x = l.getD k [] then l.length - k else dpN l x k
theorem dpN_not {L : List Bk} (h : WFt L) {x : List UInt8} {j : Nat} (hj : j < L.length) (hx : ∀ i,i ∈ anc L j → (bkT L i).hash ≠ x) : ∀ k,k ≤ heightM L j + 1 → dpN (hsL L (lineM L j)) x k = 0
 |0,_ => rfl
 |k + 1,hk => by
  obtain ⟨i,h1,_,h3,_⟩ := chn_get h hj (show k < heightM L j + 1 by omega)
  rw [dpN,if_neg,dpN_not h hj hx k (by omega)]
  rw [List.getD_eq_getElem?_getD,h3]
  exact fun e => hx i h1 e.symm
theorem dpN_is {L : List Bk} (h : WFt L) (nh : NH L) {i j : Nat} (hj : j < L.length) (hi : i ∈ anc L j) : ∀ k,k ≤ heightM L j + 1 → dpN (hsL L (lineM L j)) (bkT L i).hash k = if heightM L i < k then heightM L j + 1 - heightM L i else 0
 |0,_ => by rw [if_neg (by omega)]; rfl
 |k + 1,hk => by
  obtain ⟨m,h1,h2,h3,h4⟩ := chn_get h hj (show k < heightM L j + 1 by omega)
  have hil : i < L.length := Nat.lt_of_le_of_lt (anc_lt h j hj i hi) hj
  have hll : (hsL L (lineM L j)).length = heightM L j + 1 := by rw [hsL_len,line_len h hj]
  rw [dpN,List.getD_eq_getElem?_getD,h3,Option.getD_some,dpN_is h nh hj hi k (by omega),hll]
  by_cases e : (bkT L i).hash = (bkT L m).hash
  ·have := nh i m hil h4 e
   subst this
   rw [if_pos rfl,if_pos (by omega),h2]
  ·have hne : heightM L i ≠ k := by
    intro hik
    have a1 := chn_at h hj hi
    rw [hik,h3] at a1
    exact e (Option.some.inj a1).symm
   rw [if_neg e]
   by_cases h5 : heightM L i < k
   ·rw [if_pos h5,if_pos (by omega)]
   ·rw [if_neg h5,if_neg (by omega)]
theorem dpN_chn {L : List Bk} (h : WFt L) (nh : NH L) (h0 : 0 < L.length) (x : List UInt8) : dpN (chn L) x (chn L).length = depM L x := by
 have hb := best_lt h0
 have hl : (chn L).length = heightM L (bestM L) + 1 := by rw [chn_is,hsL_len,line_len h hb]
 rw [hl,chn_is]
 rcases findM_lt x L with e | ⟨i,e,hi⟩
 ·rw [dpN_not h hb (fun i hi => findM_none (by omega) i (Nat.lt_of_le_of_lt (anc_lt h _ hb i hi) hb)) _ (Nat.le_refl _)]
  unfold depM
  rw [if_pos (by omega)]
 ·obtain ⟨_,h2⟩ := findM_is e
  subst h2
  unfold depM
  rw [e,if_neg (by omega),Int.toNat_natCast]
  by_cases h3 : i ∈ anc L (bestM L)
  ·rw [dpN_is h nh hb h3 _ (Nat.le_refl _),if_pos h3,if_pos (by have := height_lt h hb h3; omega)]
  ·rw [if_neg h3,dpN_not h hb (fun k hk e2 => ?_) _ (Nat.le_refl _)]
   have := nh k i (Nat.lt_of_le_of_lt (anc_lt h _ hb k hk) hb) hi e2
   rw [this] at hk
   exact h3 hk
theorem common_ge : ∀ (n : Nat) (x y : List Nat),n ≤ x.length → n ≤ y.length → x.take n = y.take n → n ≤ common x y
 |0,_,_,_,_,_ => Nat.zero_le _
 |n + 1,[],_,h,_,_ => absurd h (by simp)
 |n + 1,_ :: _,[],_,h,_ => absurd h (by simp)
 |n + 1,a :: x,b :: y,h1,h2,e => by
  rw [List.take_succ_cons,List.take_succ_cons,List.cons.injEq] at e
  rw [common,if_pos e.1]
  have := common_ge n x y (by simpa using h1) (by simpa using h2) e.2
  omega
theorem common_take : ∀ x y : List Nat,x.take (common x y) = y.take (common x y) ∧ common x y ≤ x.length ∧ common x y ≤ y.length
 |[],_ => by simp [common]
 |_ :: _,[] => by simp [common]
 |a :: x,b :: y => by
  rw [common]
  obtain ⟨h1,h2,h3⟩ := common_take x y
  by_cases e : a = b
  ·rw [if_pos e,List.take_succ_cons,List.take_succ_cons,h1,e]
   simp [h2,h3]
  ·rw [if_neg e]; simp
theorem anc_both {L : List Bk} (h : WFt L) (o : OneR L) {i j k : Nat} (hi : i < L.length) (hj : j < L.length) (hk : k ∈ anc L i) : k ∈ anc L j ↔ heightM L k ≤ forkM L i j := by
 have hc := forkM_cm h o hi hj
 unfold cmM at hc
 have a1 := line_at h hi hk
 constructor
 ·intro hk2
  have a2 := line_at h hj hk2
  have := common_ge (heightM L k + 1) (lineM L i) (lineM L j) (by omega) (by omega) (by rw [a1.2.1,a2.2.1])
  omega
 ·intro hle
  obtain ⟨h1,h2,h3⟩ := common_take (lineM L i) (lineM L j)
  have e : (lineM L j)[heightM L k]? = some k := by
   have := congrArg (fun z : List Nat => z[heightM L k]?) h1
   rw [List.getElem?_take_of_lt (by omega),List.getElem?_take_of_lt (by omega),a1.1] at this
   exact this.symm
  exact (line_mem h hj e).1
theorem fork_le {L : List Bk} (h : WFt L) (o : OneR L) {i j : Nat} (hi : i < L.length) (hj : j < L.length) : forkM L i j ≤ heightM L i ∧ forkM L i j ≤ heightM L j := by
 have hc := forkM_cm h o hi hj
 unfold cmM at hc
 obtain ⟨_,h2,h3⟩ := common_take (lineM L i) (lineM L j)
 rw [line_len h hi] at h2
 rw [line_len h hj] at h3
 omega
def trN (a b : List (List UInt8)) : Nat → Nat
 |0 => 0
 |k + 1 => trN a b k + if a.getD k [] ∈ b then 0 else 1
theorem trN_is {L : List Bk} (h : WFt L) (o : OneR L) (nh : NH L) {i j : Nat} (hi : i < L.length) (hj : j < L.length) : ∀ k,k ≤ heightM L i + 1 → trN (hsL L (lineM L i)) (hsL L (lineM L j)) k = k - (forkM L i j + 1)
 |0,_ => by rw [trN]; omega
 |k + 1,hk => by
  obtain ⟨m,h1,h2,h3,h4⟩ := chn_get h hi (show k < heightM L i + 1 by omega)
  rw [trN,trN_is h o nh hi hj k (by omega),List.getD_eq_getElem?_getD,h3,Option.getD_some]
  have hb := anc_both h o hi hj h1
  have hm := chn_mem h nh hj h4
  by_cases hx : heightM L m ≤ forkM L i j
  ·rw [if_pos (hm.2 (hb.2 hx))]; omega
  ·rw [if_neg (fun hy => hx (hb.1 (hm.1 hy)))]; omega
theorem trN_all {L : List Bk} (h : WFt L) (o : OneR L) (nh : NH L) {i j : Nat} (hi : i < L.length) (hj : j < L.length) : trN (hsL L (lineM L i)) (hsL L (lineM L j)) (hsL L (lineM L i)).length = heightM L i - forkM L i j := by
 rw [hsL_len,line_len h hi,trN_is h o nh hi hj _ (Nat.le_refl _)]
 omega
def tnM (L L' : List Bk) : Nat := heightM L' (bestM L) - forkM L' (bestM L) (bestM L')
theorem turn_snoc {L : List Bk} (h : WFt L) (o : OneR L) (nh : NH L) {b : Bk} (ob : b.Ok) {i : Nat} (hi : i < L.length) (hb : b.ahead = (i : Int)) (hn : findM L b.hash < 0) (h0 : 0 < L.length) :
  trN (chn L) (chn (L ++ [b])) (chn L).length = tnM L (L ++ [b]) := by
 have hbl := best_lt h0
 have e : chn L = hsL (L ++ [b]) (lineM (L ++ [b]) (bestM L)) := by
  rw [chn_is,line_old h b hbl]
  unfold hsL
  refine List.map_congr_left fun x hx => ?_
  have := anc_lt h _ hbl x (mem_line.1 hx)
  rw [bkT_old (by omega)]
 rw [chn_is (L ++ [b]),e]
 exact trN_all (h.snoc ob hi hb) (o.snoc hb) (nh.snoc hn) (by rw [len_snoc]; omega) (best_lt (by rw [len_snoc]; omega))
def EQ (L : List Bk) : Prop := ∀ i,i < L.length → (bkT L i).bits = lim0
theorem EQ.snoc {L : List Bk} (e : EQ L) {b : Bk} (hb : b.bits = lim0) : EQ (L ++ [b]) := by
 intro k hk
 rw [len_snoc] at hk
 by_cases h1 : k < L.length
 ·rw [bkT_old h1]; exact e k h1
 ·obtain rfl : k = L.length := by omega
  rw [bkT_new,hb]
theorem EQ.bits {L : List Bk} (e : EQ L) (h : WFt L) (hl : L.length ≤ 2015) {s i : Nat} (hi : i < L.length) : bitsM L 2016 s lim0 i = lim0 := by
 have h1 := anc_len h i hi
 have h2 : (lineM L i).length = (anc L i).length := by rw [lineM,List.length_reverse]
 unfold bitsM
 rw [if_neg (by rw [Nat.mod_eq_of_lt (by omega)]; omega)]
 exact e i hi
theorem EQ.work {L : List Bk} (e : EQ L) (h : WFt L) {i : Nat} (hi : i < L.length) : workM L i = (heightM L i + 1) * wkN (btT lim0) := by
 have h1 := anc_len h i hi
 have h2 : (anc L i).map (fun k => wkN (btT (bkT L k).bits)) = List.replicate (anc L i).length (wkN (btT lim0)) := by
  rw [List.eq_replicate_iff]
  refine ⟨List.length_map _,fun x hx => ?_⟩
  obtain ⟨k,hk,rfl⟩ := List.mem_map.1 hx
  rw [e k (Nat.lt_of_le_of_lt (anc_lt h i hi k hk) hi)]
 unfold workM heightM
 rw [h2,List.sum_replicate_nat]
 congr 1
 omega
theorem dep_stays {L : List Bk} (e : EQ L) (h : WFt L) (o : OneR L) (nh : NH L) {b : Bk} (ob : b.Ok) {i : Nat} (hi : i < L.length) (hb : b.ahead = (i : Int)) (hn : findM L b.hash < 0) (hbits : b.bits = lim0) (h0 : 0 < L.length)
  {c : Nat} (hc : 1 ≤ c) (ht : tnM L (L ++ [b]) < c) {x : List UInt8} (hx : c ≤ depM L x) : c ≤ depM (L ++ [b]) x := by
 obtain ⟨m,_,hm,rfl,hma,hd⟩ := depM_pos (show 0 < depM L x by omega)
 have hbl := best_lt h0
 have h' := h.snoc ob hi hb
 have o' := o.snoc hb
 have nh' := nh.snoc hn
 have h0' : 0 < (L ++ [b]).length := by rw [len_snoc]; omega
 have hbl' := best_lt h0'
 have hml' : m < (L ++ [b]).length := by rw [len_snoc]; omega
 have ho : heightM (L ++ [b]) (bestM L) = heightM L (bestM L) := height_old h b hbl
 have hmo : heightM (L ++ [b]) m = heightM L m := height_old h b hm
 have hhm := height_lt h hbl hma
 have hmx : (bkT (L ++ [b]) m).hash = (bkT L m).hash := by rw [bkT_old hm]
 have hma' : m ∈ anc (L ++ [b]) (bestM L) := by rw [anc_old h b hbl]; exact hma
 have key : m ∈ anc (L ++ [b]) (bestM (L ++ [b])) ∧ heightM L (bestM L) ≤ heightM (L ++ [b]) (bestM (L ++ [b])) := by
  by_cases hlt : workM L (bestM L) < workM L i + wkN (btT b.bits)
  ·have hbe : bestM (L ++ [b]) = L.length := by rw [best_snoc h ob hi hb,if_pos hlt]
   have hhn := height_new h ob hi hb
   rw [e.work h hbl,e.work h hi,hbits] at hlt
   have hgt : heightM L (bestM L) < heightM L i + 1 := by
    have : (heightM L (bestM L) + 1) * wkN (btT lim0) < (heightM L i + 1 + 1) * wkN (btT lim0) := by rw [Nat.succ_mul (heightM L i + 1)]; exact hlt
    have := Nat.lt_of_mul_lt_mul_right this
    omega
   refine ⟨(anc_both h' o' (by rw [len_snoc]; omega) hbl' hma').2 ?_,by rw [hbe,hhn]; omega⟩
   unfold tnM at ht
   rw [ho] at ht
   rw [hmo]
   omega
  ·have hbe : bestM (L ++ [b]) = bestM L := by rw [best_snoc h ob hi hb,if_neg hlt]
   rw [hbe,ho]
   exact ⟨hma',Nat.le_refl _⟩
 have := depM_at h' nh' h0' key.1
 rw [hmx,hmo] at this
 omega
end Go.Proofs.YtedffdlkmpmdlaaGreatDoor
namespace Go.Proofs.YtedffdlkmpmdlaaGreatDoor
set_option maxRecDepth 100000
set_option linter.unusedVariables false
set_option linter.unusedSimpArgs false
open Go.RowKit
def ryC (p k d : Nat) : Array Value := #[.pointer (some ⟨p,0,none⟩),.int .i64 (k : Int),.int .i64 (d : Int)]
theorem low_trans {w W W' : World} {S0 : Nat → Prop} (F : Fr F0 w W) (f : Fr S0 W W') (h : ∀ k,S0 k → w.heap.size ≤ k) : Fr F0 w W' := F.trans f fun k hk e => absurd (h k e) (by omega)
theorem lTree_any {w : World} {q p k d : Nat} (r1 : w.heap[q]? = some (.cells (ryC p k d) 93 (0,0))) :
  Calls Tryz.prog 17 #[.pointer (some ⟨q,0,none⟩)] w fun e w' => e = .returned (.pointer (some ⟨p,0,none⟩)) ∧ w' = w := by
 unfold ryC at r1
 go_enter Tryz.func17,Tryz.ntmps17
 go_wp2_with fail
 go_ret
 exact ⟨rfl,rfl⟩
theorem lDeepest_any {w : World} {q p k d : Nat} (r1 : w.heap[q]? = some (.cells (ryC p k d) 93 (0,0))) :
  Calls Tryz.prog 27 #[.pointer (some ⟨q,0,none⟩)] w fun e w' => e = .returned (.int .i64 (d : Int)) ∧ w' = w := by
 unfold ryC at r1
 go_enter Tryz.func27,Tryz.ntmps27
 go_wp2_with fail
 go_ret
 exact ⟨rfl,rfl⟩
theorem kHeightA_any {w : World} {p : Nat} {R : Array Value} {bm : Nat} {H : List Hd} {L : List Bk} {ps : List Nat} {v : Value} {ch : List (List UInt8)} (hR : R.size = 72) (I : TI H L ps) (T : TM w p R bm H L ps v ch) (h : List UInt8) (hh : h.length = 32) :
  Calls Tryz.prog 25 #[.pointer (some ⟨p,0,none⟩),.agg (hc h)] w fun e w' => e = .returned (.tuple #[.int .i64 (htA L h : Int),.bool (decide (0 ≤ findM L h))]) ∧ Fr F0 w w' := by
 rcases findM_lt h L with e | ⟨i,e,hi⟩
 ·have HB := Lib.hid (fun W (f : Fr F0 w W) => kBlock_any hR I (T.fr f) h hh)
  rw [e,ptV_none ps (by omega)] at HB
  rw [show htA L h = 0 from by unfold htA; rw [if_pos (by omega)],e,decide_eq_false (by omega)]
  have sA := hc_size hh
  have oA := hc_one h
  generalize hc h = A at *
  clear T I hR hh e
  go_enter Tryz.func25,Tryz.ntmps25
  go_wp2_with fail
  refine calls_new fun W1 N1 => ?_
  have F := N1.fr
  clear N1
  (with_reducible refine (HB.out _ F).mono ?_); rintro e w2 ⟨rfl,f⟩
  replace F := F.trans' f
  clear f
  go_wp2_with fail
  go_ret2
  exact ⟨rfl,F⟩
 ·obtain ⟨_,h2⟩ := findM_is e
  have := kHeight_any hR I T i hi
  rw [h2] at this
  rw [show htA L h = heightM L i from by unfold htA; rw [e,if_neg (by omega),Int.toNat_natCast],e,decide_eq_true (by omega)]
  exact this
theorem lTurned_any {w : World} {q k d p : Nat} {R : Array Value} {bm : Nat} {H : List Hd} {L : List Bk} {ps : List Nat} {v : Value} (hR : R.size = 72) (I : TI H L ps) (T : TM w p R bm H L ps v (chn L)) (r1 : w.heap[q]? = some (.cells (ryC p k d) 93 (0,0))) (i : Nat) (hi : i < L.length) :
  Calls Tryz.prog 44 #[.pointer (some ⟨q,0,none⟩),.agg (hc (bkT L i).hash)] w fun e w' => e = .returned (.int .i64 ((heightM L i - forkM L i (bestM L) : Nat) : Int)) ∧ Fr F0 w w' := by
 have hcl := I.chn_len
 have HH := Lib.hid (fun W (f : Fr F0 w W) => kHeight_any hR I (T.fr f) i hi)
 have HB := Lib.hid (fun W (f : Fr F0 w W) => kBest_any hR (T.fr f) (by rw [hcl.1]; omega) (by omega))
 rw [I.at_best] at HB
 have HF := Lib.hid (fun W (f : Fr F0 w W) => kFork_any hR I (T.fr f) i (bestM L) hi I.best)
 have hf := fork_le I.wf I.one hi I.best
 have hh := I.height hi
 have sA := hc_size (I.at32 hi)
 have oA := hc_one (bkT L i).hash
 have hs : IntKind.i64.wrap ((heightM L i : Int) - (forkM L i (bestM L) : Int)) = ((heightM L i - forkM L i (bestM L) : Nat) : Int) := by rw [IntWalk.i64_in _ (by omega)]; omega
 generalize heightM L i - forkM L i (bestM L) = tn at *
 generalize forkM L i (bestM L) = fk at *
 generalize heightM L i = ht at *
 generalize hc (bkT L i).hash = A at *
 generalize hc (bkT L (bestM L)).hash = B at *
 unfold ryC at r1
 replace r1 := keep_alloc (o := .cells A 25) r1
 have r0 := heap_alloc_new w (.cells A 25)
 have F := (Fr.refl F0 w).alloc (.cells A 25)
 clear T I hR hi hcl hf hh
 go_enter Tryz.func44,Tryz.ntmps44
 go_wp2_with fail
 generalize hW : w.alloc (.cells A 25) = W at *
 generalize w.heap.size = g0 at *
 clear hW
 refine rbegin (S := (fun w' => (w'.heap[q]? = some (.cells #[.pointer (some ⟨p,0,none⟩),.int .i64 (k : Int),.int .i64 (d : Int)] 93 (0,0)) ∧ w'.heap[g0]? = some (.cells A 25 (0,0))) ∧ Fr F0 w w')) ?_ fun hHeld => ?_
 ·((try dsimp only) <;> (exact ⟨⟨r1,r0⟩,F.drew⟩))
 refine rtake 0 ?_
 refine rtake 1 ?_
 refine rtake 2 ?_
 refine rtake 3 ?_
 refine rtake 4 ?_
 refine rone 5 fun K hK => ?_
 go_simp
 ((with_reducible refine (HH.out _ hHeld.2).mono ?_); rintro e w5 ⟨rfl,f5⟩)
 refine hK.out _ _ ?_ (fun hHeld => ?_)
 ·((try dsimp only) <;> (first | exact hHeld | exact ⟨⟨keep_fr f5 hHeld.1.1,keep_fr f5 hHeld.1.2⟩,hHeld.2.trans' f5⟩))
 clear hK K
 try (simp only [Act.put,aST]; dsimp only [aS0,aS1])
 refine rtake 6 ?_
 refine rtake 7 ?_
 refine rtake 8 ?_
 refine rtake 9 ?_
 refine rtake 10 ?_
 refine rdone ?_
 all_goals
  clear r1 r0 F
  obtain ⟨⟨r1,r0⟩,F⟩ := hHeld
  go_upto_region 2 with fail
  refine rbegin (S := (fun w' => (w'.heap[q]? = some (.cells #[.pointer (some ⟨p,0,none⟩),.int .i64 (k : Int),.int .i64 (d : Int)] 93 (0,0)) ∧ w'.heap[g0]? = some (.cells A 25 (0,0))) ∧ Fr F0 w w')) ?_ fun hHeld => ?_
  ·((try dsimp only) <;> (exact ⟨⟨r1,r0⟩,F.drew⟩))
  refine rtake 0 ?_
  refine rtake 1 ?_
  refine rtake 2 ?_
  refine rtake 3 ?_
  refine rtake 4 ?_
  refine rtake 5 ?_
  refine rtake 6 ?_
  refine rtake 7 ?_
  refine rtake 8 ?_
  refine rone 9 fun K hK => ?_
  go_simp
  ((with_reducible refine (HB.out _ hHeld.2).mono ?_); rintro e w5 ⟨rfl,f5⟩)
  refine hK.out _ _ ?_ (fun hHeld => ?_)
  ·((try dsimp only) <;> (first | exact hHeld | exact ⟨⟨keep_fr f5 hHeld.1.1,keep_fr f5 hHeld.1.2⟩,hHeld.2.trans' f5⟩))
  clear hK K
  try (simp only [Act.put,aST]; dsimp only [aS0,aS1])
  refine rone 10 fun K hK => ?_
  go_simp
  ((with_reducible refine (HF.out _ hHeld.2).mono ?_); rintro e w5 ⟨rfl,f5⟩)
  refine hK.out _ _ ?_ (fun hHeld => ?_)
  ·((try dsimp only) <;> (first | exact hHeld | exact ⟨⟨keep_fr f5 hHeld.1.1,keep_fr f5 hHeld.1.2⟩,hHeld.2.trans' f5⟩))
  clear hK K
  try (simp only [Act.put,aST]; dsimp only [aS0,aS1])
  refine rtake 11 ?_
  refine rtake 12 ?_
  refine rtake 13 ?_
  refine rtake 14 ?_
  refine rtake 15 ?_
  refine rdone ?_
  all_goals
   have F := hHeld.2
   clear hHeld r1 r0
   go_wp2_with fail
   go_ret
   exact ⟨rfl,F⟩
theorem dep_core {H : List Hd} {L : List Bk} {ps : List Nat} (I : TI H L ps) (h : List UInt8) (hh : h.length = 32) :
  atM (chn L) (htA L h : Int) = h ∧ (0 ≤ (htA L h : Int) ∧ (htA L h : Int) < ((chn L).length : Int)) ∧ htA L h ≤ heightM L (bestM L) ∧ depM L h = heightM L (bestM L) - htA L h + 1 ∨
  ¬ (atM (chn L) (htA L h : Int) = h ∧ (0 ≤ (htA L h : Int) ∧ (htA L h : Int) < ((chn L).length : Int))) ∧ depM L h = 0 := by
 have hcl := I.chn_len
 have hb := I.best
 have key : ∀ j : Nat,j < heightM L (bestM L) + 1 → ∀ k,k ∈ anc L (bestM L) → heightM L k = j → atM (chn L) (j : Int) = (bkT L k).hash := by
  intro j hj k hk e
  unfold atM
  rw [if_pos (by omega),Int.toNat_natCast,List.getD_eq_getElem?_getD,chn_is]
  have := chn_at I.wf hb hk
  rw [e] at this
  rw [this]; rfl
 rcases findM_lt h L with e | ⟨i,e,hi⟩
 ·right
  have h1 : htA L h = 0 := by unfold htA; rw [if_pos (by omega)]
  have h2 : depM L h = 0 := by unfold depM; rw [if_pos (by omega)]
  refine ⟨fun hx => ?_,h2⟩
  have hz := zero_mem I.wf I.one _ hb
  have h0 : heightM L 0 = 0 := by
   have := I.wf.up 0 I.pos
   rw [heightM,anc_root I.wf I.pos (by omega)]
   rfl
  rw [h1,key 0 (by omega) 0 hz h0] at hx
  exact findM_none (by omega) 0 I.pos hx.1
 ·obtain ⟨_,h2⟩ := findM_is e
  have h1 : htA L h = heightM L i := by unfold htA; rw [e,if_neg (by omega),Int.toNat_natCast]
  by_cases hm : i ∈ anc L (bestM L)
  ·left
   have hle := height_lt I.wf hb hm
   have hd := depM_at I.wf I.nh I.pos hm
   rw [h2] at hd
   rw [h1,key _ (by omega) i hm rfl]
   exact ⟨h2,by omega,hle,by omega⟩
  ·right
   have hd : depM L h = 0 := by unfold depM; rw [e,if_neg (by omega),Int.toNat_natCast,if_neg hm]
   refine ⟨fun hx => ?_,hd⟩
   rw [h1] at hx
   obtain ⟨k,k1,k2,k3,k4⟩ := chn_get I.wf hb (show heightM L i < heightM L (bestM L) + 1 by omega)
   rw [key _ (by omega) k k1 k2,← h2] at hx
   have := I.nh k i k4 hi hx.1
   rw [this] at k1
   exact hm k1
theorem lDepth_any {w : World} {q k d p : Nat} {R : Array Value} {bm : Nat} {H : List Hd} {L : List Bk} {ps : List Nat} {v : Value} (hR : R.size = 72) (I : TI H L ps) (T : TM w p R bm H L ps v (chn L)) (r1 : w.heap[q]? = some (.cells (ryC p k d) 93 (0,0))) (h : List UInt8) (hh : h.length = 32) :
  Calls Tryz.prog 21 #[.pointer (some ⟨q,0,none⟩),.agg (hc h)] w fun e w' => e = .returned (.int .i64 ((depM L h : Nat) : Int)) ∧ Fr F0 w w' := by
 have hcl := I.chn_len
 have hD := dep_core I h hh
 have HT := Lib.hid (fun W (f : Fr F0 w W) => lTree_any (keep_fr f r1))
 have HH := Lib.hid (fun W (f : Fr F0 w W) => kHeightA_any hR I (T.fr f) h hh)
 have HA := Lib.hid (fun W (f : Fr F0 w W) => kAt_any hR (T.fr f) (htA L h : Int))
 have HB := Lib.hid (fun W (f : Fr F0 w W) => kBest_any hR (T.fr f) (by rw [hcl.1]; omega) (by omega))
 rw [I.at_best] at HB
 have HX := Lib.hid (fun W (f : Fr F0 w W) => kHeight_any hR I (T.fr f) (bestM L) I.best)
 have h32 : (atM (chn L) (htA L h : Int)).length = 32 := by
  unfold atM
  split
  ·exact I.chn32.get (by omega)
  ·exact z32_length
 have hhb := I.height I.best
 have heq := fun W => run_equalIn_hashJ W (atM (chn L) (htA L h : Int)) h h32 hh
 have sA := hc_size hh
 have oA := hc_one h
 have sB := hc_size h32
 have oB := hc_one (atM (chn L) (htA L h : Int))
 obtain ⟨eqv,hE⟩ : ∃ c : Bool,decide (atM (chn L) (htA L h : Int) = h) = c := ⟨_,rfl⟩
 obtain ⟨okv,hO⟩ : ∃ c : Bool,decide (0 ≤ (htA L h : Int) ∧ (htA L h : Int) < ((chn L).length : Int)) = c := ⟨_,rfl⟩
 rw [hE] at heq
 rw [hO] at HA
 have hD2 : (eqv = true ∧ okv = true ∧ htA L h ≤ heightM L (bestM L) ∧ depM L h = heightM L (bestM L) - htA L h + 1) ∨ (¬ (eqv = true ∧ okv = true) ∧ depM L h = 0) := by
  rcases hD with ⟨a,b,c,e⟩ | ⟨a,b⟩
  ·exact .inl ⟨by rw [← hE]; exact decide_eq_true a,by rw [← hO]; exact decide_eq_true b,c,e⟩
  ·exact .inr ⟨fun ⟨x,y⟩ => a ⟨of_decide_eq_true (hE.trans x),of_decide_eq_true (hO.trans y)⟩,b⟩
 generalize depM L h = dp at *
 generalize hc (atM (chn L) (htA L h : Int)) = B at *
 generalize htA L h = ht at *
 generalize heightM L (bestM L) = hb at *
 generalize hc (bkT L (bestM L)).hash = X at *
 generalize decide (0 ≤ findM L h) = fb at *
 generalize hc h = A at *
 have r0 := heap_alloc_new w (.cells A 25)
 have F := (Fr.refl F0 w).alloc (.cells A 25)
 have HD := Lib.hid hD2
 have hl := hcl.2
 clear T I hR hh hcl hD hE hO h32 hD2 r1
 go_enter Tryz.func21,Tryz.ntmps21
 go_wp2_with fail
 generalize hW : w.alloc (.cells A 25) = W at *
 generalize w.heap.size = g0 at *
 clear hW
 (with_reducible refine (HT.out _ F).mono ?_); rintro e w2 ⟨rfl,hw⟩; replace hw := hw.symm; subst hw
 go_wp2_with fail
 (with_reducible refine (HH.out _ F).mono ?_); rintro e w3 ⟨rfl,f⟩
 replace r0 := keep_fr f r0
 replace F := F.trans' f
 clear f
 go_wp2_with fail
 (with_reducible refine (HA.out _ F).mono ?_); rintro e w4 ⟨rfl,f⟩
 replace r0 := keep_fr f r0
 replace F := F.trans' f
 clear f
 go_upto_region 4 with fail
 refine wp_put fun W4 N4 => ?_
 have r8 := N4.new
 replace r0 := N4.old r0
 replace F := F.trans' N4.fr
 clear N4
 generalize w4.heap.size = g8 at *
 rcases HD.out with ⟨rfl,rfl,hle,hdp⟩ | ⟨hn,hdp⟩
 ·have m1 : IntKind.i64.wrap ((hb : Int) - (ht : Int)) = ((hb - ht : Nat) : Int) := by rw [IntWalk.i64_in _ (by omega)]; omega
  have m2 : IntKind.i64.wrap (((hb - ht : Nat) : Int) + 1) = (dp : Int) := by rw [IntWalk.i64_in _ (by omega)]; omega
  clear hdp HD
  generalize hb - ht = y at *
  go_wp2_with fail
  (with_reducible refine (HB.out _ F).mono ?_); rintro e w5 ⟨rfl,f⟩
  replace F := F.trans' f
  clear f
  go_wp2_with fail
  (with_reducible refine (HX.out _ F).mono ?_); rintro e w5 ⟨rfl,f⟩
  replace F := F.trans' f
  clear f
  go_wp2_with fail
  go_ret
  exact ⟨rfl,F⟩
 ·subst hdp
  cases eqv <;> cases okv
  case true.true => exact absurd ⟨rfl,rfl⟩ hn
  all_goals
   clear hn HD
   go_wp2_with fail
   go_ret
   exact ⟨rfl,F⟩
def cfE (L : List Bk) (k : Nat) (h : List UInt8) : Int := if findM L h < 0 then 12 else if depM L h < k then 13 else 0
theorem lConfirmed_any {w : World} {q k d p : Nat} {R : Array Value} {bm : Nat} {H : List Hd} {L : List Bk} {ps : List Nat} {v : Value} (hR : R.size = 72) (I : TI H L ps) (T : TM w p R bm H L ps v (chn L)) (r1 : w.heap[q]? = some (.cells (ryC p k d) 93 (0,0))) (h : List UInt8) (hh : h.length = 32) :
  Calls Tryz.prog 28 #[.pointer (some ⟨q,0,none⟩),.agg (hc h)] w fun e w' => e = .returned (.int .i64 (cfE L k h)) ∧ Fr F0 w w' := by
 have HH := Lib.hid (fun W (f : Fr F0 w W) => kHeightA_any hR I (T.fr f) h hh)
 have HD := Lib.hid (fun W (f : Fr F0 w W) => lDepth_any hR I (T.fr f) (keep_fr f r1) h hh)
 have hC : (cfE L k h = 12 ∧ decide (0 ≤ findM L h) = false) ∨ (decide (0 ≤ findM L h) = true ∧ (depM L h < k ∧ cfE L k h = 13 ∨ ¬ depM L h < k ∧ cfE L k h = 0)) := by
  unfold cfE
  by_cases h1 : findM L h < 0
  ·rw [if_pos h1]; exact .inl ⟨rfl,decide_eq_false (by omega)⟩
  ·rw [if_neg h1]
   refine .inr ⟨decide_eq_true (by omega),?_⟩
   by_cases h2 : depM L h < k
   ·rw [if_pos h2]; exact .inl ⟨h2,rfl⟩
   ·rw [if_neg h2]; exact .inr ⟨h2,rfl⟩
 have sA := hc_size hh
 have oA := hc_one h
 generalize cfE L k h = z at *
 generalize depM L h = dp at *
 generalize htA L h = ht at *
 generalize decide (0 ≤ findM L h) = fb at *
 generalize hc h = A at *
 unfold ryC at r1
 replace r1 := keep_alloc (o := .cells A 25) r1
 have r0 := heap_alloc_new w (.cells A 25)
 have F := (Fr.refl F0 w).alloc (.cells A 25)
 have HC := Lib.hid hC
 clear T I hR hh hC
 go_enter Tryz.func28,Tryz.ntmps28
 go_upto_region 3 with fail
 generalize hW : w.alloc (.cells A 25) = W at *
 generalize w.heap.size = g0 at *
 clear hW
 refine rbegin (S := (fun w' => (w'.heap[q]? = some (.cells #[.pointer (some ⟨p,0,none⟩),.int .i64 (k : Int),.int .i64 (d : Int)] 93 (0,0)) ∧ w'.heap[g0]? = some (.cells A 25 (0,0))) ∧ Fr F0 w w')) ?_ fun hHeld => ?_
 ·((try dsimp only) <;> (exact ⟨⟨r1,r0⟩,F.drew⟩))
 refine rtake 0 ?_
 refine rtake 1 ?_
 refine rtake 2 ?_
 refine rtake 3 ?_
 refine rtake 4 ?_
 refine rone 5 fun K hK => ?_
 go_simp
 ((with_reducible refine (HH.out _ hHeld.2).mono ?_); rintro e w5 ⟨rfl,f5⟩)
 refine hK.out _ _ ?_ (fun hHeld => ?_)
 ·((try dsimp only) <;> (first | exact hHeld | exact ⟨⟨keep_fr f5 hHeld.1.1,keep_fr f5 hHeld.1.2⟩,hHeld.2.trans' f5⟩))
 clear hK K
 try (simp only [Act.put,aST]; dsimp only [aS0,aS1])
 refine rtake 6 ?_
 refine rtake 7 ?_
 refine rtake 8 ?_
 refine rtake 9 ?_
 refine rtake 10 ?_
 refine rdone ?_
 all_goals
  clear r1 r0 F
  obtain ⟨⟨r1,r0⟩,F⟩ := hHeld
  rcases HC.out with ⟨rfl,rfl⟩ | ⟨rfl,hz⟩
  ·go_wp2_with fail
   go_ret
   exact ⟨rfl,F⟩
  ·have HZ := Lib.hid hz
   clear hz
   go_upto_region 6 with fail
   refine rbegin (S := (fun w' => (w'.heap[q]? = some (.cells #[.pointer (some ⟨p,0,none⟩),.int .i64 (k : Int),.int .i64 (d : Int)] 93 (0,0)) ∧ w'.heap[g0]? = some (.cells A 25 (0,0))) ∧ Fr F0 w w')) ?_ fun hHeld => ?_
   ·((try dsimp only) <;> (exact ⟨⟨r1,r0⟩,F.drew⟩))
   refine rtake 0 ?_
   refine rtake 1 ?_
   refine rtake 3 ?_
   refine rtake 4 ?_
   refine rtake 5 ?_
   refine rtake 6 ?_
   refine rone 2 fun K hK => ?_
   go_simp
   ((with_reducible refine (HD.out _ hHeld.2).mono ?_); rintro e w5 ⟨rfl,f5⟩)
   refine hK.out _ _ ?_ (fun hHeld => ?_)
   ·((try dsimp only) <;> (first | exact hHeld | exact ⟨⟨keep_fr f5 hHeld.1.1,keep_fr f5 hHeld.1.2⟩,hHeld.2.trans' f5⟩))
   clear hK K
   try (simp only [Act.put,aST]; dsimp only [aS0,aS1])
   refine rtake 7 ?_
   refine rtake 8 ?_
   refine rdone ?_
   all_goals
    have F := hHeld.2
    rcases HZ.out with ⟨h1,rfl⟩ | ⟨h1,rfl⟩
    ·have l1 : (dp : Int) < (k : Int) := by omega
     have l2 : decide ((dp : Int) < (k : Int)) = true := decide_eq_true l1
     go_wp2_with fail
     go_ret
     exact ⟨rfl,F⟩
    ·have l1 : ¬ (dp : Int) < (k : Int) := by omega
     have l2 : decide ((dp : Int) < (k : Int)) = false := decide_eq_false l1
     go_wp2_with fail
     go_ret
     exact ⟨rfl,F⟩
end Go.Proofs.YtedffdlkmpmdlaaGreatDoor
namespace Go.Proofs.YtedffdlkmpmdlaaGreatDoor
set_option maxRecDepth 100000
set_option linter.unusedVariables false
set_option linter.unusedSimpArgs false
open Go.RowKit Go.Shelf
attribute [local go_sem] Oper.semAt_some
theorem line13_any {w : World} {p : Nat} {R : Array Value} {bm : Nat} {H : List Hd} {L : List Bk} {ps : List Nat} {v : Value} {ch : List (List UInt8)} (hR : R.size = 72) (T : TM w p R bm H L ps v ch) (hl : ch.length ≤ 5000) (h0 : 0 < ch.length) :
  Calls Tryz.prog 20 #[.pointer (some ⟨p,0,none⟩)] w fun e w' => (∃ a c,e = .returned (.slice a ch.length c) ∧ Hs w' a c ch ∧ ∀ k,ablk a = some k → w.heap.size ≤ k) ∧ Fr F0 w w' := by
 have HCH := Lib.hid (fun W (f : Fr F0 w W) => kChain_any hR (T.fr f))
 have HQ := Lib.hid (fun bx a c => allH_seq bx a c ch ch.length rfl (by omega))
 obtain ⟨n,hn⟩ : ∃ n,ch.length = n := ⟨_,rfl⟩
 rw [hn] at HCH HQ ⊢
 have HN := Lib.hid (show 0 < ch.length ∧ ch.length = n ∧ n ≤ 5000 from ⟨h0,hn,by omega⟩)
 generalize ch = l at *
 clear T hR hn hl h0
 refine callsIn_wide (n := 6) |>.1 ?_
 refine callsIn_of_wp_marks Tryz.func20 rfl trivial ?_ rfl
 simp only [Tryz.ntmps20,List.size_toArray,List.length_cons,List.length_nil,Nat.reduceAdd,Nat.reduceSub,Array.replicate_succ,Array.replicate_zero,List.push_toArray,List.append_toArray,List.nil_append,List.cons_append]
 gi_upto_region 2 with fail
 refine wpIn_newJ fun W1 N1 => ?_
 have r3 := N1.new
 have F := N1.fr
 clear N1
 obtain ⟨gs,hgs⟩ : ∃ g,g = w.heap.size := ⟨_,rfl⟩
 rw [← hgs] at r3 ⊢
 replace hgs := Lib.hid hgs
 gi_wp2_with ((with_reducible apply And.intro); (exact trivial); gi_at_call 48; refine (callsIn_wide.2 (HCH.out _ F)).mono ?_; rintro e w2 ⟨⟨bx,av,cv,rfl,hb,hs⟩,f⟩; replace r3 := keep_fr f r3; replace F := F.trans' f; clear f)
 have hsl := Lib.hid (Array.getElem?_eq_some_iff.1 r3).1
 have hwz := Lib.hid F.size
 have HS := Lib.hid hs
 have HB := Lib.hid hb
 have HQ2 := Lib.hid (HQ.out bx av cv)
 clear hs hb HQ HCH
 have hne : bx ≠ gs ∧ ∀ k,ablk av = some k → k ≠ gs := by
  obtain ⟨h0,hl⟩ := HN.out
  refine ⟨fun e => ?_,fun k hk e => ?_⟩
  ·rw [← e,HB.out] at r3
   simp only [Option.some.injEq,Obj.cells.injEq,Array.mk.injEq,List.cons.injEq,Value.slice.injEq] at r3
   omega
  ·obtain ⟨b,off,ea,hg⟩ := HS.out.get 0 (by omega)
   rw [ea] at hk
   cases hk
   have h32 := HS.out.ok.get (show 0 < l.length by omega)
   have h1 : ((l.getD 0 []).map B8)[0]? = some (((l.getD 0 []).map B8)[0]'(by rw [List.length_map,h32]; omega)) := List.getElem?_eq_getElem _
   have h2 := hg 0 _ h1
   have h3 : ((l.getD 0 []).map B8)[1]? = some (((l.getD 0 []).map B8)[1]'(by rw [List.length_map,h32]; omega)) := List.getElem?_eq_getElem _
   have h4 := hg 1 _ h3
   replace e : b = gs := e
   rw [cell_at,e,r3,cellAt_cells] at h4
   have h5 := (Array.getElem?_eq_some_iff.1 h4).1
   simp at h5
 have HNE := Lib.hid hne
 clear hne
 have hOI : OwnFrom w2.heap.size (fun (pre : List Nat) W' => (∃ s,W'.heap[gs]? = some (.cells #[s] 54 (0,0)) ∧ OwnL 25 w2.heap.size W' s (l.take pre.length)) ∧ Fr (fun k => k = gs) w2 W') :=
  fun sx A D row h hgr hr => by
   obtain ⟨⟨s,h1,h2⟩,h3⟩ := h
   exact ⟨⟨s,own_csJ h1 hgr hr,h2.grown hgr hr⟩,h3.grown hgr fun k hk hlt => by have := (hr k hk).1; omega⟩
 have hFr := Lib.hid (show ∀ W',Fr (fun k => k = gs) w2 W' → Fr F0 w W' from fun W' f => F.trans f fun k hk e => by have := hgs.out; omega)
 refine range_lawO (gf := 91) (lb := #[.pointer (some ⟨bx,0,none⟩)]) rfl (enters_of Tryz.func91 (by kernel_rfl) rfl) HQ2.out (fun _ => rfl) (fun _ _ => trivial) (fun _ _ => trivial)
  (fun (pre : List Nat) W' => (∃ s,W'.heap[gs]? = some (.cells #[s] 54 (0,0)) ∧ OwnL 25 w2.heap.size W' s (l.take pre.length)) ∧ Fr (fun k => k = gs) w2 W')
  (fun _ _ _ => False)
  hOI (fun cc => own_pure _ _)
  (fun pre W' h => ⟨h.2.keeps HNE.out.1 HB.out,HS.out.frx h.2 HNE.out.2⟩)
  ⟨⟨_,r3,OwnL.nil _ _ _⟩,Fr.refl _ _⟩
  (fun pre x a' W' => x = pre.length ∧ x < n ∧ ∃ g5,a' = { tmps := #[.pointer (some ⟨p,0,none⟩),undef,.slice none 0 0,.pointer (some ⟨gs,0,none⟩),undef,.pointer (some ⟨g5,0,none⟩),.pointer (some ⟨p,0,none⟩),.func (.func 91) #[] #[.pointer (some ⟨bx,0,none⟩)],.int .i64 (x : Int),.agg (hc (l.getD x [])),undef,undef,undef,undef,undef],defers := [] } ∧ W'.heap[g5]? = some (.cells (hc (l.getD x [])) 25 (0,0)) ∧ g5 ≠ gs)
  (fun pre x a' sx A D row h hgr hr => by
   obtain ⟨hx,hx2,g5,e,h5,r⟩ := h
   exact ⟨hx,hx2,g5,e,own_csJ h5 hgr hr,r⟩) ?assign ?body ?done ?stop
 case assign =>
  intro l2 pre x W0 W' K hi0 f0 hnx hK
  obtain ⟨hx1,hx2,hx3⟩ := hnx
  have h32 := HS.out.ok.get (show x < l.length by have := HN.out; omega)
  have sX := hc_size h32
  have oX := hc_one (l.getD x [])
  simp only [encH]
  obtain ⟨X,hX⟩ : ∃ X,hc (l.getD x []) = X := ⟨_,rfl⟩
  rw [hX] at hK sX oX ⊢
  have hi4 := own_frI hOI hi0 f0
  have HX1 := Lib.hid (And.intro hx1 hx3)
  clear hX h32 hx1 hx2 hx3
  gi_wp2
  refine any_putJ (P := K _) fun W4 N4 => ?_
  have hi5 := own_frI hOI hi0 (f0.trans' N4.fr)
  obtain ⟨s,h3,_⟩ := hi4.1
  have z3 := (Array.getElem?_eq_some_iff.1 h3).1
  refine hK _ _ ⟨N4.fr.size,fun k o _ ho2 _ => N4.old ho2⟩ trivial hi5 ?_
  exact ⟨HX1.out.1,HX1.out.2,_,rfl,N4.new,by omega⟩
 case body =>
  rintro l2 pre x a' W' hi ⟨hx1,hx2,g5,rfl,q5,n5⟩
  obtain ⟨⟨s,q3,ho⟩,fJ⟩ := hi
  have hxl : x < l.length := by have := HN.out; omega
  have h32 := HS.out.ok.get hxl
  have sX := hc_size h32
  have oX := hc_one (l.getD x [])
  have hlen : (l.take pre.length).length = x := by rw [List.length_take,← hx1]; omega
  obtain ⟨a5,c5,w5,happ,ho5,f6,hs5,hb5⟩ := ho.appH (l.getD x []) h32 fJ.size (by rw [hlen]; have := HN.out; omega) 54
  rw [hlen] at happ ho5
  have htk : l.take pre.length ++ [l.getD x []] = l.take (pre ++ [x]).length := by
   rw [List.length_append,List.length_singleton,← hx1,List.take_add_one,List.getD_eq_getElem?_getD,List.getElem?_eq_getElem hxl]
   rfl
  rw [htk] at ho5
  have hsn : ∀ k,s.ownBlock = some k → k ≠ gs := fun k hk e => by have := ho.blk k hk; have := hsl.out; omega
  have q35 := f6.keeps (fun e => hsn _ e rfl) q3
  have q3a := keep_alloc (o := .cells (hc (l.getD x [])) 25) q3
  have hblr := fun W => run_buildLh W (hc (l.getD x [])) sX
  have f9 : Fr (fun k => k = gs) w5 (w5.setCell ⟨gs,0,none⟩ (.slice a5 (x + 1) c5)) := Fr.setCell (S := fun k => k = gs) (Fr.refl _ _) (p := ⟨gs,0,none⟩) (fun _ => rfl) _
  have hd5 : ∀ k,(Value.slice a5 (x + 1) c5).ownBlock = some k → k ≠ gs := fun k hk e => by
   have := ho5.blk k hk; have := hsl.out; omega
  have f10 : Fr (fun k => k = gs) w2 (w5.setCell ⟨gs,0,none⟩ (.slice a5 (x + 1) c5)) := (fJ.trans f6 fun k hk e => by have := ho.blk k e; omega).trans' f9
  have kp : KeepsFrom w2.heap.size W' (w5.setCell ⟨gs,0,none⟩ (.slice a5 (x + 1) c5)) :=
   (show KeepsFrom w2.heap.size W' w5 from ⟨f6.size,fun k o hk ho2 hc2 => f6.keeps (fun e => row_notJ (A := W') (row := some k) (B := 0) (fun r e9 => by cases e9; exact ⟨Nat.zero_le _,o,ho2,hc2⟩) ho.own k e rfl) ho2⟩).trans ((KeepsOthers.setCell w5 ⟨gs,0,none⟩ _).from _)
  have HPo := Lib.hid (show KeepsFrom w2.heap.size W' (w5.setCell ⟨gs,0,none⟩ (.slice a5 (x + 1) c5)) ∧ True ∧ (∃ s,(w5.setCell ⟨gs,0,none⟩ (.slice a5 (x + 1) c5)).heap[gs]? = some (.cells #[s] 54 (0,0)) ∧ OwnL 25 w2.heap.size (w5.setCell ⟨gs,0,none⟩ (.slice a5 (x + 1) c5)) s (l.take (pre ++ [x]).length)) ∧ Fr (fun k => k = gs) w2 (w5.setCell ⟨gs,0,none⟩ (.slice a5 (x + 1) c5)) from
   ⟨kp,trivial,⟨_,by rw [heap_setCell_at,q35]; rfl,ho5.frS f9 fun k hk e => hd5 k hk e⟩,f10⟩)
  have HX1 := Lib.hid hx1
  clear hx1
  generalize hc (l.getD x []) = X at *
  clear f10 hd5 f9 ho5 f6 hs5 hb5 ho kp h32 hxl htk hsn fJ
  gi_wp2
  exact HPo.out
 case done =>
  rintro D ys W' hD hy hi hK
  have h9 := hOI.putObj (.deferred none) hi hD hK rfl
  have hyl : ys.length = l.length := by rw [hy,List.length_range]; have := HN.out; omega
  obtain ⟨⟨s,q3,ho⟩,fJ⟩ := hi
  obtain ⟨⟨s',q3',ho'⟩,fJ'⟩ := h9
  have es : s' = s := by
   have hDg : D ≠ gs := fun e => by have := hsl.out; omega
   rw [World.putObj_heap_other (fun e => hDg e.symm),q3] at q3'
   simpa using q3'.symm
  subst es
  rw [hyl,List.take_length] at ho'
  obtain ⟨a9,c9,rfl,hs9⟩ := ho'.is
  have hnl : l.length = n := by have := HN.out; omega
  rw [hnl] at q3 q3' ho'
  have HE := Lib.hid (show Hs (W'.putObj D (.deferred none)) a9 c9 l ∧ ∀ k,ablk a9 = some k → w.heap.size ≤ k from ⟨hs9,fun k hk => Nat.le_trans hwz.out (ho'.blk k (by rw [ablk_own]; exact hk))⟩)
  have HF := Lib.hid (hFr.out _ fJ')
  clear ho hs9 ho' fJ fJ' hOI hyl hy
  gi_wp2
  refine ⟨by simp,.inl ⟨_,_,rfl,run_takeDeferred hK,?_⟩⟩
  refine ⟨_,results_tmp rfl _ _ _,⟨a9,c9,by first | rfl | (rw [hnl]; rfl),HE.out.1,HE.out.2⟩,HF.out⟩
 case stop =>
  rintro D cc pre W' hD h hK
  exact h.elim
theorem in13_any {w : World} {a : Option Addr} {c : Nat} {l : List (List UInt8)} (hs : Hs w a c l) (hl : l.length ≤ 100000) (x : List UInt8) (hx : x.length = 32) :
  Calls Tryz.prog 23 #[.slice a l.length c,.agg (hc x)] w fun e w' => e = .returned (.bool (decide (x ∈ l))) ∧ Fr F0 w w' := by
 have HS := Lib.hid hs
 have HX := Lib.hid hx
 have HL := Lib.hid hl
 obtain ⟨V,hV⟩ : ∃ V,decide (x ∈ l) = V := ⟨_,rfl⟩
 rw [hV]
 have HV := Lib.hid hV
 have sA := hc_size hx
 have oA := hc_one x
 obtain ⟨A,hA⟩ : ∃ A,hc x = A := ⟨_,rfl⟩
 rw [hA] at sA oA ⊢
 have HA := Lib.hid hA
 obtain ⟨n,hn⟩ : ∃ n,l.length = n := ⟨_,rfl⟩
 rw [hn] at hl ⊢
 have HN := Lib.hid hn
 have r3 := heap_alloc_new w (.cells A 25)
 have F := (Fr.refl F0 w).alloc (.cells A 25)
 clear hs hx hV hA hn
 go_enter Tryz.func23,Tryz.ntmps23
 go_upto_region 2 with fail
 generalize hW : w.alloc (.cells A 25) = W at *
 generalize w.heap.size = g3 at *
 clear hW
 go_loopw [9] (fun iv wr => ∃ k : Nat,iv = .int .i64 (k : Int) ∧ k ≤ n ∧ (∀ j,j < k → l.getD j [] ≠ x) ∧ wr.heap[g3]? = some (.cells A 25 (0,0)) ∧ Fr F0 w wr) (fun iv _ => n - (intOf iv).toNat)
 case atStart => exact ⟨0,rfl,Nat.zero_le _,fun j hj => by omega,r3,F⟩
 case round =>
  clear r3 F
  obtain ⟨k,rfl,hk,hj,r3,F⟩ := hrel
  by_cases h1 : k < n
  ·have l1 : (k : Int) < (n : Int) := by omega
   have h32 := HS.out.ok.get (show k < l.length by rw [HN.out]; exact h1)
   obtain ⟨b,off,ea,hld,_⟩ := HS.out.load k (by rw [HN.out]; exact h1)
   subst ea
   have ld := hld _ F
   have heq := fun W => run_equalIn_hashJ W (l.getD k []) x h32 HX.out
   have sY := hc_size h32
   have oY := hc_one (l.getD k [])
   rw [HA.out] at heq
   have HK := Lib.hid (And.intro h1 hj)
   have k1 : IntKind.i64.wrap ((k : Int) + 1) = ((k + 1 : Nat) : Int) := by rw [IntWalk.i64_in _ (by omega)]; rfl
   generalize hc (l.getD k []) = Y at *
   clear hj h32 hld
   go_upto_region 4 with fail
   refine wp_put fun W4 N4 => ?_
   have r6 := N4.new
   replace r3 := N4.old r3
   replace F := F.trans' N4.fr
   clear N4 ld
   generalize wr.heap.size = g6 at *
   by_cases he : l.getD k [] = x
   ·rw [decide_eq_true he] at heq
    have hV : V = true := by rw [← HV.out]; exact decide_eq_true (by rw [← he,List.getD_eq_getElem?_getD,List.getElem?_eq_getElem (by rw [HN.out]; exact h1)]; exact List.getElem_mem _)
    subst hV
    go_wp2_with fail
    go_ret
    exact ⟨rfl,F⟩
   ·rw [decide_eq_false he] at heq
    have HE := Lib.hid he
    clear he
    go_wp2_with fail
    go_roundw
    case rel => exact ⟨k + 1,by go_num,by have := HK.out.1; omega,fun j hj => by
     by_cases hjk : j = k
     ·subst hjk; exact HE.out
     ·exact HK.out.2 j (by omega),r3,F⟩
    case measure => have := HK.out.1; simp [intOf]; omega
  ·have l1 : ¬ (k : Int) < (n : Int) := by omega
   have hV : V = false := by
    rw [← HV.out]
    refine decide_eq_false fun hm => ?_
    obtain ⟨j,hj2,e⟩ := List.getElem_of_mem hm
    refine hj j (by have := HN.out; omega) ?_
    rw [List.getD_eq_getElem?_getD,List.getElem?_eq_getElem hj2]; exact e
   subst hV
   clear hj
   go_wp2_with fail
   go_ret
   exact ⟨rfl,F⟩
theorem turned13_any {w : World} {a a2 : Option Addr} {c c2 : Nat} {l m : List (List UInt8)} (hs : Hs w a c l) (hl : l.length ≤ 100000) (hs2 : Hs w a2 c2 m) (hm : m.length ≤ 100000) :
  Calls Tryz.prog 26 #[.slice a l.length c,.slice a2 m.length c2] w fun e w' => e = .returned (.int .i64 ((trN l m l.length : Nat) : Int)) ∧ Fr F0 w w' := by
 have HS := Lib.hid hs
 have HI := Lib.hid (fun W (f : Fr F0 w W) x (hx : x.length = 32) => in13_any (hs2.fr f) hm x hx)
 have HTR := Lib.hid (fun k => show trN l m (k + 1) = trN l m k + if decide (l.getD k [] ∈ m) = true then 0 else 1 from by rw [trN]; simp)
 have HT0 := Lib.hid (show trN l m 0 = 0 from rfl)
 have hle : ∀ k,trN l m k ≤ k := by
  intro k
  induction k with
  |zero => exact Nat.le_refl _
  |succ k ih => rw [trN]; split <;> omega
 have HLE := Lib.hid hle
 obtain ⟨TN,hTN⟩ : ∃ TN,trN l m = TN := ⟨_,rfl⟩
 rw [hTN] at HTR HT0 HLE ⊢
 obtain ⟨n,hn⟩ : ∃ n,l.length = n := ⟨_,rfl⟩
 obtain ⟨n2,hn2⟩ : ∃ n,m.length = n := ⟨_,rfl⟩
 rw [hn] at hl ⊢
 rw [hn2] at HI ⊢
 have HN := Lib.hid hn
 have F := Fr.refl F0 w
 clear hs hs2 hn hn2 hTN hle hm
 go_enter Tryz.func26,Tryz.ntmps26
 go_upto_region 3 with fail
 go_loopw [5,10] (fun nv iv wr => ∃ k : Nat,nv = .int .i64 ((TN k : Nat) : Int) ∧ iv = .int .i64 (k : Int) ∧ k ≤ n ∧ Fr F0 w wr) (fun _ iv _ => n - (intOf iv).toNat)
 case atStart => exact ⟨0,by rw [HT0.out]; rfl,rfl,Nat.zero_le _,F⟩
 case round =>
  clear F
  obtain ⟨k,rfl,rfl,hk,F⟩ := hrel
  by_cases h1 : k < n
  ·have l1 : (k : Int) < (n : Int) := by omega
   have h32 := HS.out.ok.get (show k < l.length by rw [HN.out]; exact h1)
   obtain ⟨b,off,ea,hld,_⟩ := HS.out.load k (by rw [HN.out]; exact h1)
   subst ea
   have ld := hld _ F
   have HI2 := Lib.hid (fun W (f : Fr F0 w W) => HI.out W f (l.getD k []) h32)
   have sY := hc_size h32
   have oY := hc_one (l.getD k [])
   have k1 : IntKind.i64.wrap ((k : Int) + 1) = ((k + 1 : Nat) : Int) := by rw [IntWalk.i64_in _ (by omega)]; rfl
   have htk := HLE.out k
   have hts := HTR.out k
   generalize hc (l.getD k []) = Y at *
   obtain ⟨V,hV⟩ : ∃ V,decide (l.getD k [] ∈ m) = V := ⟨_,rfl⟩
   rw [hV] at HI2 hts
   have HK := Lib.hid h1
   clear h32 hld hV
   go_upto_region 5 with fail
   refine wp_put fun W4 N4 => ?_
   have r6 := N4.new
   replace F := F.trans' N4.fr
   clear N4 ld
   generalize wr.heap.size = g6 at *
   go_wp2_with fail
   (with_reducible refine (HI2.out _ F).mono ?_); rintro e w5 ⟨rfl,f⟩
   replace F := F.trans' f
   clear f
   cases V
   ·have hts2 : TN (k + 1) = TN k + 1 := by rw [hts]; simp
    have HT2 := Lib.hid hts2
    have t1 : IntKind.i64.wrap ((TN k : Int) + 1) = ((TN k + 1 : Nat) : Int) := by rw [IntWalk.i64_in _ (by omega)]; rfl
    generalize TN k = tk at *
    clear hts hts2 htk
    go_wp2_with fail
    go_roundw
    case rel => exact ⟨k + 1,by rw [HT2.out]; rfl,by go_num,by have := HK.out; omega,F⟩
    case measure => have := HK.out; simp [intOf]; omega
   ·have hts2 : TN (k + 1) = TN k := by rw [hts]; simp
    have HT2 := Lib.hid hts2
    generalize TN k = tk at *
    clear hts hts2 htk
    go_wp2_with fail
    go_roundw
    case rel => exact ⟨k + 1,by rw [HT2.out],by go_num,by have := HK.out; omega,F⟩
    case measure => have := HK.out; simp [intOf]; omega
  ·have l1 : ¬ (k : Int) < (n : Int) := by omega
   obtain rfl : k = n := by omega
   go_wp2_with fail
   go_ret
   exact ⟨rfl,F⟩
end Go.Proofs.YtedffdlkmpmdlaaGreatDoor
