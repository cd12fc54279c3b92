import Derived.Test.YtedffdlkmpmdlaaGreatDoorFz18
import Derived.Test.YtedffdlkmpmdlaaGreatDoorFz29
import Derived.Test.YtedffdlkmpmdlaaGreatDoorFz30
import Derived.Test.YtedffdlkmpmdlaaGreatDoorFz28
namespace Go.Proofs.YtedffdlkmpmdlaaGreatDoor
set_option maxRecDepth 100000
set_option linter.unusedVariables false
set_option linter.unusedSimpArgs false
open Go.RowKit
theorem findFrom_lt (h : List UInt8) : ∀ (L : List Bk) (k : Nat),findFrom h L k = -1 ∨ ∃ i : Nat,findFrom h L k = (i : Int) ∧ k ≤ i ∧ i < k + L.length
 |[],k => .inl rfl
 |b :: L,k => by
  rw [findFrom]
  split
  ·exact .inr ⟨k,rfl,Nat.le_refl _,by simp⟩
  ·rcases findFrom_lt h L (k + 1) with h1 | ⟨i,h1,h2,h3⟩
   ·exact .inl h1
   ·exact .inr ⟨i,h1,by omega,by simp only [List.length_cons]; omega⟩
theorem findM_lt (h : List UInt8) (L : List Bk) : findM L h = -1 ∨ ∃ i : Nat,findM L h = (i : Int) ∧ i < L.length := by
 rcases findFrom_lt h L 0 with h1 | ⟨i,h1,_,h3⟩
 ·exact .inl h1
 ·exact .inr ⟨i,h1,by omega⟩
end Go.Proofs.YtedffdlkmpmdlaaGreatDoor
namespace Go.Proofs.YtedffdlkmpmdlaaGreatDoor
set_option maxRecDepth 100000
set_option linter.unusedVariables false
set_option linter.unusedSimpArgs false
open Go.RowKit
def OneR (L : List Bk) : Prop := ∀ i,0 < i → i < L.length → 0 ≤ (bkT L i).ahead
def NH (L : List Bk) : Prop := ∀ i j,i < L.length → j < L.length → (bkT L i).hash = (bkT L j).hash → i = j
theorem bkT_old {L : List Bk} {b : Bk} {k : Nat} (h : k < L.length) : bkT (L ++ [b]) k = bkT L k := by
 unfold bkT
 rw [List.getD_eq_getElem?_getD,List.getD_eq_getElem?_getD,List.getElem?_append_left h]
theorem bkT_new {L : List Bk} {b : Bk} : bkT (L ++ [b]) L.length = b := by
 unfold bkT
 rw [List.getD_eq_getElem?_getD,List.getElem?_append_right (Nat.le_refl _),Nat.sub_self]
 rfl
theorem len_snoc (L : List Bk) (b : Bk) : (L ++ [b]).length = L.length + 1 := by simp
theorem WFt.snoc {L : List Bk} (h : WFt L) {b : Bk} (o : b.Ok) {i : Nat} (hi : i < L.length) (hb : b.ahead = (i : Int)) : WFt (L ++ [b]) := by
 refine ⟨fun x hx => ?_,fun k hk => ?_⟩
 ·rw [List.mem_append,List.mem_singleton] at hx
  rcases hx with hx | rfl
  ·exact h.ok x hx
  ·exact o
 ·rw [len_snoc] at hk
  by_cases h1 : k < L.length
  ·rw [bkT_old h1]; exact h.up k h1
  ·obtain rfl : k = L.length := by omega
   rw [bkT_new,hb]; omega
theorem OneR.snoc {L : List Bk} (h : OneR L) {b : Bk} {i : Nat} (hb : b.ahead = (i : Int)) : OneR (L ++ [b]) := by
 intro k h0 hk
 rw [len_snoc] at hk
 by_cases h1 : k < L.length
 ·rw [bkT_old h1]; exact h k h0 h1
 ·obtain rfl : k = L.length := by omega
  rw [bkT_new,hb]; omega
theorem path_old {L : List Bk} (h : WFt L) (b : Bk) : ∀ f k,k < L.length → path (L ++ [b]) f k = path L f k := by
 intro f
 induction f with
 |zero => intro k hk; rfl
 |succ f ih =>
  intro k hk
  rw [path,path,bkT_old hk]
  have := h.up k hk
  split
  ·rfl
  ·rw [ih _ (by omega)]
theorem anc_old {L : List Bk} (h : WFt L) (b : Bk) {k : Nat} (hk : k < L.length) : anc (L ++ [b]) k = anc L k := path_old h b k k hk
theorem anc_new {L : List Bk} (h : WFt L) {b : Bk} (o : b.Ok) {i : Nat} (hi : i < L.length) (hb : b.ahead = (i : Int)) : anc (L ++ [b]) L.length = L.length :: anc L i := by
 have := (anc_step (h.snoc o hi hb) (i := L.length) (j := i) (by simp) (by rw [bkT_new,hb])).2
 rw [this,anc_old h b hi]
theorem height_old {L : List Bk} (h : WFt L) (b : Bk) {k : Nat} (hk : k < L.length) : heightM (L ++ [b]) k = heightM L k := by rw [heightM,anc_old h b hk]; rfl
theorem line_old {L : List Bk} (h : WFt L) (b : Bk) {k : Nat} (hk : k < L.length) : lineM (L ++ [b]) k = lineM L k := by rw [lineM,anc_old h b hk]; rfl
theorem height_new {L : List Bk} (h : WFt L) {b : Bk} (o : b.Ok) {i : Nat} (hi : i < L.length) (hb : b.ahead = (i : Int)) : heightM (L ++ [b]) L.length = heightM L i + 1 := by
 rw [heightM,anc_new h o hi hb,heightM,List.length_cons]
 have := anc_len h i hi
 omega
theorem work_old {L : List Bk} (h : WFt L) (b : Bk) {k : Nat} (hk : k < L.length) : workM (L ++ [b]) k = workM L k := by
 rw [workM,workM,anc_old h b hk]
 congr 1
 refine List.map_congr_left fun x hx => ?_
 have := anc_lt h k hk x hx
 rw [bkT_old (by omega)]
theorem work_new {L : List Bk} (h : WFt L) {b : Bk} (o : b.Ok) {i : Nat} (hi : i < L.length) (hb : b.ahead = (i : Int)) : workM (L ++ [b]) L.length = workM L i + wkN (btT b.bits) := by
 have := workM_step (h.snoc o hi hb) (i := L.length) (j := i) (by simp) (by rw [bkT_new,hb])
 rw [this,work_old h b hi,bkT_new]
theorem isTip_old (L : List Bk) {b : Bk} {i : Nat} (hb : b.ahead = (i : Int)) (k : Nat) : isTip (L ++ [b]) k = (isTip L k && !decide (i = k)) := by
 unfold isTip
 rw [List.all_append,List.all_cons,List.all_nil,Bool.and_true,hb]
 congr 2
 exact decide_eq_decide.2 ⟨fun h => by omega,fun h => by omega⟩
theorem isTip_new {L : List Bk} (h : WFt L) {b : Bk} {i : Nat} (hi : i < L.length) (hb : b.ahead = (i : Int)) : isTip (L ++ [b]) L.length = true := by
 rw [isTip_old L hb,Bool.and_eq_true]
 refine ⟨?_,by simp; omega⟩
 unfold isTip
 rw [List.all_eq_true]
 intro x hx
 obtain ⟨k,hk,rfl⟩ := List.getElem_of_mem hx
 have := h.up k hk
 have e : bkT L k = L[k] := by unfold bkT; rw [List.getD,List.getElem?_eq_getElem hk]; rfl
 rw [e] at this
 simp
 omega
theorem countP_range_flip (f g : Nat → Bool) (i : Nat) : ∀ n,i < n → (∀ k,k < n → k ≠ i → f k = g k) → f i = false → (List.range n).countP g = (List.range n).countP f + if g i then 1 else 0
 |0,h,_,_ => absurd h (by omega)
 |n + 1,h,he,hf => by
  rw [List.range_succ,List.countP_append,List.countP_append,List.countP_singleton,List.countP_singleton]
  by_cases h1 : i < n
  ·rw [countP_range_flip f g i n h1 (fun k hk => he k (by omega)) hf,he n (by omega) (by omega)]
   omega
  ·obtain rfl : i = n := by omega
   have e : (List.range i).countP g = (List.range i).countP f := List.countP_congr fun x hx => by
    have hx' := List.mem_range.1 hx
    rw [he x (by omega) (by omega)]
   rw [e,hf]
   simp
theorem tips_snoc {L : List Bk} (h : WFt L) {b : Bk} {i : Nat} (hi : i < L.length) (hb : b.ahead = (i : Int)) : tipsM (L ++ [b]) = tipsM L + if isTip L i then 0 else 1 := by
 unfold tipsM
 rw [len_snoc,tipsN_succ,isTip_new h hi hb,if_pos rfl]
 have := countP_range_flip (fun k => isTip (L ++ [b]) k) (fun k => isTip L k) i L.length hi (fun k hk hne => by
  show isTip (L ++ [b]) k = isTip L k
  rw [isTip_old L hb,decide_eq_false (fun e => hne e.symm)]; simp) (by
  show isTip (L ++ [b]) i = false
  rw [isTip_old L hb,decide_eq_true rfl]; simp)
 unfold tipsN
 rw [this]
 cases isTip L i <;> simp
theorem best_old {L : List Bk} (h : WFt L) (b : Bk) : ∀ n,n ≤ L.length → bestN (L ++ [b]) n = bestN L n
 |0,_ => rfl
 |n + 1,hn => by
  have h1 := bestN_le L n
  rw [bestN,bestN,best_old h b n (by omega),work_old h b (by omega),work_old h b (by omega)]
theorem best_snoc {L : List Bk} (h : WFt L) {b : Bk} (o : b.Ok) {i : Nat} (hi : i < L.length) (hb : b.ahead = (i : Int)) : bestM (L ++ [b]) = if workM L (bestM L) < workM L i + wkN (btT b.bits) then L.length else bestM L := by
 unfold bestM
 rw [len_snoc,bestN,best_old h b _ (Nat.le_refl _),work_new h o hi hb,work_old h b (by have := bestN_le L L.length; omega)]
theorem best_lt {L : List Bk} (h : 0 < L.length) : bestM L < L.length := by
 have := bestN_le L L.length
 unfold bestM
 omega
theorem findFrom_is (h : List UInt8) : ∀ (L : List Bk) (k i : Nat),findFrom h L k = (i : Int) → k ≤ i ∧ i < k + L.length ∧ (bkT L (i - k)).hash = h
 |[],k,i,e => by rw [findFrom] at e; omega
 |x :: L,k,i,e => by
  rw [findFrom] at e
  by_cases hx : x.hash = h
  ·rw [if_pos hx] at e
   obtain rfl : k = i := by omega
   refine ⟨Nat.le_refl _,by rw [List.length_cons]; omega,?_⟩
   rw [Nat.sub_self]; exact hx
  ·rw [if_neg hx] at e
   obtain ⟨h1,h2,h3⟩ := findFrom_is h L (k + 1) i e
   refine ⟨by omega,by rw [List.length_cons]; omega,?_⟩
   rw [show i - k = (i - (k + 1)) + 1 by omega]
   exact h3
theorem findM_is {L : List Bk} {h : List UInt8} {i : Nat} (e : findM L h = (i : Int)) : i < L.length ∧ (bkT L i).hash = h := by
 have := findFrom_is h L 0 i e
 exact ⟨by omega,this.2.2⟩
theorem findM_none {L : List Bk} {h : List UInt8} (e : findM L h < 0) : ∀ i,i < L.length → (bkT L i).hash ≠ h := by
 intro i hi hh
 have key : ∀ (L : List Bk) (k i : Nat),i < L.length → (bkT L i).hash = h → 0 ≤ findFrom h L k := by
  intro L
  induction L with
  |nil => intro k i hi; simp at hi
  |cons x L ih =>
   intro k i hi hh
   rw [findFrom]
   by_cases hx : x.hash = h
   ·rw [if_pos hx]; omega
   ·rw [if_neg hx]
    cases i with
    |zero => exact absurd hh hx
    |succ i => exact ih (k + 1) i (by simpa using hi) hh
 have := key L 0 i hi hh
 unfold findM at e
 omega
theorem findM_at {L : List Bk} (nh : NH L) {i : Nat} (hi : i < L.length) : findM L (bkT L i).hash = (i : Int) := by
 rcases findM_lt (bkT L i).hash L with h | ⟨j,h,hj⟩
 ·exact absurd rfl (findM_none (by omega) i hi)
 ·have := findM_is h
  rw [h]
  exact congrArg _ (nh i j hi hj this.2.symm).symm
theorem NH.snoc {L : List Bk} (h : NH L) {b : Bk} (hb : findM L b.hash < 0) : NH (L ++ [b]) := by
 intro i j hi hj e
 rw [len_snoc] at hi hj
 by_cases h1 : i < L.length
 ·by_cases h2 : j < L.length
  ·rw [bkT_old h1,bkT_old h2] at e
   exact h i j h1 h2 e
  ·obtain rfl : j = L.length := by omega
   rw [bkT_old h1,bkT_new] at e
   exact absurd e (findM_none hb i h1)
 ·obtain rfl : i = L.length := by omega
  by_cases h2 : j < L.length
  ·rw [bkT_old h2,bkT_new] at e
   exact absurd e.symm (findM_none hb j h2)
  ·omega
theorem anc_head {L : List Bk} (h : WFt L) {i : Nat} (hi : i < L.length) : ∃ r,anc L i = i :: r := by
 have hu := h.up i hi
 by_cases h0 : (bkT L i).ahead < 0
 ·exact ⟨[],anc_root h hi h0⟩
 ·obtain ⟨j,hj⟩ := Int.eq_ofNat_of_zero_le (show 0 ≤ (bkT L i).ahead by omega)
  exact ⟨_,(anc_step h hi hj).2⟩
theorem anc_self {L : List Bk} (h : WFt L) {i : Nat} (hi : i < L.length) : i ∈ anc L i := by
 obtain ⟨r,e⟩ := anc_head h hi
 rw [e]; simp
theorem anc_pre {L : List Bk} (h : WFt L) : ∀ i,i < L.length → ∀ j ∈ anc L i,∃ pre,anc L i = pre ++ anc L j := by
 intro i
 induction i using Nat.strongRecOn with
 |_ i ih =>
  intro hi j hj
  have hu := h.up i hi
  by_cases h0 : (bkT L i).ahead < 0
  ·rw [anc_root h hi h0] at hj
   simp at hj
   subst hj
   exact ⟨[],rfl⟩
  ·obtain ⟨k,hk⟩ := Int.eq_ofNat_of_zero_le (show 0 ≤ (bkT L i).ahead by omega)
   obtain ⟨h1,h2⟩ := anc_step h hi hk
   rw [h2,List.mem_cons] at hj
   rcases hj with rfl | hj
   ·exact ⟨[],rfl⟩
   ·obtain ⟨pre,hp⟩ := ih k h1 (by omega) j hj
    exact ⟨i :: pre,by rw [h2,hp]; rfl⟩
theorem zero_mem {L : List Bk} (h : WFt L) (o : OneR L) : ∀ i,i < L.length → 0 ∈ anc L i := by
 intro i
 induction i using Nat.strongRecOn with
 |_ i ih =>
  intro hi
  by_cases h0 : i = 0
  ·subst h0; exact anc_self h hi
  ·have := o i (by omega) hi
   obtain ⟨k,hk⟩ := Int.eq_ofNat_of_zero_le this
   obtain ⟨h1,h2⟩ := anc_step h hi hk
   rw [h2,List.mem_cons]
   exact .inr (ih k h1 (by omega))
theorem line_len {L : List Bk} (h : WFt L) {i : Nat} (hi : i < L.length) : (lineM L i).length = heightM L i + 1 := by
 have := anc_len h i hi
 rw [lineM,List.length_reverse,heightM]
 omega
theorem line_pre {L : List Bk} (h : WFt L) {i j : Nat} (hi : i < L.length) (hj : j ∈ anc L i) : ∃ r,lineM L i = lineM L j ++ r := by
 obtain ⟨pre,e⟩ := anc_pre h i hi j hj
 exact ⟨pre.reverse,by rw [lineM,e,List.reverse_append,lineM]⟩
theorem line_last {L : List Bk} (h : WFt L) {i : Nat} (hi : i < L.length) : (lineM L i)[heightM L i]? = some i := by
 have hl := line_len h hi
 obtain ⟨r,e⟩ := anc_head h hi
 have : heightM L i = r.length := by rw [heightM,e]; simp
 rw [lineM,e,List.reverse_cons,this,List.getElem?_append_right (by simp)]
 simp
theorem line_at {L : List Bk} (h : WFt L) {i j : Nat} (hi : i < L.length) (hj : j ∈ anc L i) : (lineM L i)[heightM L j]? = some j ∧ (lineM L i).take (heightM L j + 1) = lineM L j ∧ heightM L j < (lineM L i).length := by
 have hjl : j < L.length := Nat.lt_of_le_of_lt (anc_lt h i hi j hj) hi
 obtain ⟨r,e⟩ := line_pre h hi hj
 have h1 := line_len h hjl
 have h2 := line_last h hjl
 refine ⟨?_,?_,?_⟩
 ·rw [e,List.getElem?_append_left (by omega),h2]
 ·rw [e,← h1,List.take_left']; rfl
 ·rw [e,List.length_append]; omega
theorem line_mem {L : List Bk} (h : WFt L) {i j k : Nat} (hi : i < L.length) (he : (lineM L i)[k]? = some j) : j ∈ anc L i ∧ j < L.length := by
 have : j ∈ lineM L i := List.mem_of_getElem? he
 have hm := List.mem_reverse.1 this
 exact ⟨hm,Nat.lt_of_le_of_lt (anc_lt h i hi j hm) hi⟩
end Go.Proofs.YtedffdlkmpmdlaaGreatDoor
namespace Go.Proofs.YtedffdlkmpmdlaaGreatDoor
set_option maxRecDepth 100000
set_option linter.unusedVariables false
set_option linter.unusedSimpArgs false
open Go.RowKit
def mayE (L : List Bk) (e span limit : Nat) (b : Bk) (i : Nat) (mt : Bool) : Int :=
 if ¬ (bitsM L e span limit i = b.bits ∧ btP b.bits ∧ btT b.bits ≤ btT limit) then 6
 else if mt = false then 7
 else if b.time ≤ medianM L i then 11
 else if 4096 ≤ L.length ∨ (isTip L i = false ∧ 16 ≤ tipsM L) then 10
 else 0
def chkE (L : List Bk) (e span limit : Nat) (b : Bk) (h : List UInt8) (mt : Bool) : Int :=
 if 0 ≤ findM L b.hash then 9 else if findM L h < 0 then 8 else mayE L e span limit b (findM L h).toNat mt
end Go.Proofs.YtedffdlkmpmdlaaGreatDoor
