import Derived.Test.YtohckefafbhooaaGreatR14
import Derived.Test.YtohckefafbhooaaGreatR8
import Derived.Test.YtohckefafbhooaaGreatR6
import Derived.Test.YtohckefafbhooaaGreatR38
import Derived.Test.YtohckefafbhooaaGreatR1
import Derived.Shelf.SlSortCmp.WholeK
import Derived.RangeFuncFrom
import Derived.Test.YtohckefafbhooaaGreatR2
import Derived.Sort.CutIn
set_option maxRecDepth 100000
set_option maxHeartbeats 64000000
namespace Go.Proofs.YtohckefafbhooaaGreat
set_option linter.unusedVariables false
set_option linter.unusedSimpArgs false
open Go.RowKit Go.Sort
attribute [-go_sem] gq
instance : Inhabited Vlt := ⟨v0⟩
def cpw (x y : Nat) : Int := if x < y then -1 else if y < x then 1 else 0
theorem aKi {x y : Nat} (h : x < y) : cpw x y = -1 := if_pos h
theorem aKk (x : Nat) : cpw x x = 0 := by unfold cpw; simp
theorem aKj {x y : Nat} (h : y < x) : cpw x y = 1 := by unfold cpw; rw [if_neg (by omega),if_pos h]
def cfV (a b : Vlt) : Int := cpw a.who b.who
theorem aB8 (a b : Vlt) : ltOf cfV a b = true ↔ a.who < b.who := by
 unfold ltOf cfV cpw
 rw [decide_eq_true_iff]
 split
 ·omega
 ·split <;> omega
theorem ao2 (a b : Vlt) : ltOf cfV a b = false ↔ ¬ a.who < b.who := by
 rw [← aB8]
 cases ltOf cfV a b <;> simp
theorem aFg : SWO (ltOf cfV) where
 irrefl x := by rw [ao2]; omega
 trans x y z h1 h2 := by rw [aB8] at *; omega
 ntrans x y z h1 h2 := by rw [ao2] at *; omega
theorem afv (x : Nat) (w : World) : Calls Tryz.prog 129 #[.int .u8 (x : Int)] w fun e w' => e = .returned (.bool false) ∧ w' = w := by
 go_enter Tryz.func129,Tryz.ntmps129
 go_wp2_with fail
 go_ret
 exact ⟨rfl,rfl⟩
theorem atr (x y : Nat) (w : World) : Calls Tryz.prog 98 #[.int .u8 (x : Int),.int .u8 (y : Int)] w fun e w' => e = .returned (.int .i64 (cpw x y)) ∧ w' = w := by
 have H1 := Lib.hid (afv x)
 have H2 := Lib.hid (afv y)
 rcases Nat.lt_trichotomy x y with h | h | h
 ·rw [aKi h]
  have l1 : (x : Int) < (y : Int) := by omega
  go_enter Tryz.func98,Tryz.ntmps98
  go_wp2_with fail
  (with_reducible refine (H1.out _).mono ?_); rintro e w1 ⟨rfl,hw⟩; replace hw := hw.symm; subst hw
  go_wp2_with fail
  (with_reducible refine (H2.out _).mono ?_); rintro e w1 ⟨rfl,hw⟩; replace hw := hw.symm; subst hw
  go_wp2_with fail
  go_ret
  exact ⟨rfl,rfl⟩
 ·subst h
  rw [aKk]
  have l1 : ¬ (x : Int) < (x : Int) := by omega
  go_enter Tryz.func98,Tryz.ntmps98
  go_wp2_with fail
  (with_reducible refine (H1.out _).mono ?_); rintro e w1 ⟨rfl,hw⟩; replace hw := hw.symm; subst hw
  go_wp2_with fail
  (with_reducible refine (H1.out _).mono ?_); rintro e w1 ⟨rfl,hw⟩; replace hw := hw.symm; subst hw
  go_wp2_with fail
  go_ret
  exact ⟨rfl,rfl⟩
 ·rw [aKj h]
  have l1 : ¬ (x : Int) < (y : Int) := by omega
  have l2 : (y : Int) < (x : Int) := by omega
  have l3 : ¬ x < y := by omega
  go_enter Tryz.func98,Tryz.ntmps98
  go_wp2_with fail
  (with_reducible refine (H1.out _).mono ?_); rintro e w1 ⟨rfl,hw⟩; replace hw := hw.symm; subst hw
  go_wp2_with fail
  (with_reducible refine (H2.out _).mono ?_); rintro e w1 ⟨rfl,hw⟩; replace hw := hw.symm; subst hw
  go_wp2_with fail
  go_ret
  exact ⟨rfl,rfl⟩
theorem akt (x y : Vlt) (W : World) :
  Calls Tryz.prog 97 #[vBv x,vBv y] W fun e w' => e = .returned (.int .i64 (cpw x.who y.who)) ∧ ∃ q os',w' = grow (W.drewN q) os' := by
 have H1 := Lib.hid (atr x.who y.who)
 generalize cpw x.who y.who = z at *
 have r0 := heap_alloc_new W (.cells (cB x) 72)
 have r1 := oh (o := .cells (cB y) 72) r0
 have r2 := heap_alloc_new (W.alloc (.cells (cB x) 72)) (.cells (cB y) 72)
 have c1 := VX.cell0 (x := x) r1
 have c2 := VX.cell0 (x := y) r2
 rw [show (W.alloc (.cells (cB x) 72)).heap.size = W.heap.size + 1 by simp] at c2
 have G1 : Hid (∃ q os',(W.alloc (.cells (cB x) 72)).alloc (.cells (cB y) 72) = grow (W.drewN q) os') := Lib.hid ⟨0,_,by rw [alloc_eq_grow,alloc_eq_grow,grow_grow]; rfl⟩
 rw [iq,iq]
 generalize x.who = a at *
 generalize y.who = b at *
 generalize cB x = X at *
 generalize cB y = Y at *
 clear r0 r1 r2
 go_enter Tryz.func97,Tryz.ntmps97
 go_wp2_with fail
 (with_reducible refine (H1.out _).mono ?_); rintro e w5 ⟨rfl,hw⟩; replace hw := hw.symm; subst hw
 go_wp2_with fail
 go_ret
 exact ⟨rfl,G1.out⟩
theorem ax4 (blk off size : Nat) (w : World) : CmpLays Tryz.prog 97 #[] ad9 27 cfV blk off size w :=
 fun m os dk hs x y => akt x y _
theorem ajc {α : Type} [Inhabited α] (l : List α) (i : Nat) (h : i < l.length) : l[i]? = some (l.toArray[i]!) := by
 rw [List.getElem?_eq_getElem h]
 congr 1
 simp [h]
theorem ajb (l : List Value) (i : Nat) (h : i < l.length) : l[i]? = some (l[i]!) := by
 rw [List.getElem?_eq_getElem h]
 congr 1
 simp [h]
abbrev aa0 (B : Nat) (w : World) (v : Value) (l : List Vlt) : Prop := uj 72 27 ad9 B w v l
theorem aa0.aJ3 {B : Nat} {w : World} {g n c : Nat} {l : List Vlt} (h : aa0 B w (.slice (some ⟨g,0,none⟩) n c) l) : HoldsK ad9 27 w g 0 l.toArray := by
 intro j hj
 rw [size_flatK] at hj
 have hj' : j < l.length * 27 := by simpa using hj
 rw [get_flatK _ _ _ _ hj]
 have h1 : j / 27 < l.length := by omega
 have hr := ajc l (j / 27) h1
 have hu : (ad9 l.toArray[j / 27]!)[j % 27]? = some ((ad9 l.toArray[j / 27]!)[j % 27]!) := ajb _ _ (by rw [zh]; exact Nat.mod_lt _ (by decide))
 have hc := uj.aDc zh h (j / 27) (j % 27) _ _ hr hu
 rw [show j / 27 * 27 + j % 27 = j by omega] at hc
 obtain ⟨g',c',hv,-,-,-,-,cur,hg,-,-⟩ := (uj.row h).resolve_left (fun e => by cases e.1)
 cases hv
 refine ⟨?_,?_⟩
 ·rw [gq,Nat.zero_add]; exact hc
 ·rw [aex,hg]; rfl
theorem ax0 (l : List Vlt) (j : Nat) (hj : j < l.length * 27) : (l.flatMap ad9)[j]? = some ((ad9 l.toArray[j / 27]!)[j % 27]!) := by
 have h1 : j / 27 < l.length := by omega
 have hm : j % 27 < 27 := Nat.mod_lt _ (by decide)
 have := ag4 zh l (j / 27) (j % 27) _ (ajc l (j / 27) h1) hm
 rw [show j / 27 * 27 + j % 27 = j by omega] at this
 rw [this]
 exact ajb _ _ (by rw [zh]; exact hm)
theorem ah8 (w : World) (g : Nat) (f : Array Value → Array Value) (cs : Array Value) (t : TypeId) (fr : Nat × Nat) (h : w.heap[g]? = some (.cells cs t fr)) : (mapBlock w g f).heap[g]? = some (.cells (f cs) t fr) := by
 unfold mapBlock
 simp only [Array.getElem?_modify,if_true,h]
 rfl
theorem afl (w : World) (g k : Nat) (f : Array Value → Array Value) (h : g ≠ k) : (mapBlock w g f).heap[k]? = w.heap[k]? := by
 unfold mapBlock
 simp only [Array.getElem?_modify,h,if_false]
theorem adq (w : World) (os : Array Obj) (k : Nat) (h : k < w.heap.size) : (grow w os).heap[k]? = w.heap[k]? := by
 unfold grow
 simp only [Array.getElem?_append,h,if_true]
theorem aa0.aqu {B : Nat} {w : World} {g c : Nat} {l : List Vlt} {cur : Array Value} (h1 : w.heap[g]? = some (.cells cur 72 (0,0))) (hB : B ≤ g) (hl : l.length ≤ c) (hc : c ≤ maxLen) (hs : cur.size = c * 27) (ht : cur.toList.take (l.length * 27) = l.flatMap ad9) :
  aa0 B w (.slice (some ⟨g,0,none⟩) l.length c) l :=
 ⟨⟨abj zh l,.inr ⟨g,c,cur,rfl,Nat.zero_le _,h1,hl,hc,hs,ht⟩⟩,fun k hk => by cases hk; exact hB⟩
theorem aa0.sorted {B : Nat} {w : World} {g n c m : Nat} {l : List Vlt} {d : Array Vlt} {os : Array Obj} (h : aa0 B w (.slice (some ⟨g,0,none⟩) n c) l) (hs : d.size = l.length) :
  aa0 B (sortWorldK ad9 27 w g 0 m d os) (.slice (some ⟨g,0,none⟩) n c) d.toList ∧ Fr (fun k => k = g) w (sortWorldK ad9 27 w g 0 m d os) := by
 obtain ⟨g',c',hv,hB,hlt,hlc,hcm,cur,hg,hcs,ht⟩ := (uj.row h).resolve_left (fun e => by cases e.1)
 cases hv
 have hl : d.toList.length = l.length := by simpa using hs
 have hsz : (putRowK ad9 27 (Sort.ahead w m) g 0 d).heap.size = w.heap.size := size_putRowK _ _ _ _ _ _
 have hgn : (sortWorldK ad9 27 w g 0 m d os).heap[g]? = some (.cells (putCells id 0 (flatK ad9 27 d) cur) 72 (0,0)) := by
  unfold sortWorldK
  rw [adq _ _ _ (by rw [hsz]; exact hlt)]
  exact ah8 _ _ _ _ _ _ hg
 refine ⟨?_,?_⟩
 ·rw [← hl]
  refine aa0.aqu hgn hB (by omega) hcm (by rw [← hcs]; unfold putCells; simp) ?_
  refine List.ext_getElem? fun j => ?_
  rw [List.getElem?_take]
  by_cases hj : j < d.toList.length * 27
  ·rw [if_pos hj,ax0 _ _ hj,Array.getElem?_toList]
   unfold putCells
   have hjd : j < d.size * 27 := by omega
   rw [Array.getElem?_mapIdx,Array.getElem?_eq_getElem (by omega)]
   simp only [Option.map_some,size_flatK,Nat.zero_le,Nat.zero_add,hjd,and_self,if_true,id,Nat.sub_zero]
   rw [get_flatK _ _ _ _ hjd,Array.toArray_toList]
  ·rw [if_neg hj]
   exact (List.getElem?_eq_none (by rw [abj zh]; omega)).symm
 ·refine ⟨rfl,rfl,rfl,?_,fun k hk hne => ?_⟩
  ·unfold sortWorldK
   rw [size_grow,hsz]
   omega
  ·unfold sortWorldK
   rw [adq _ _ _ (by rw [hsz]; exact hk)]
   exact afl _ _ _ _ (fun e => hne e.symm)
theorem aI9 {l : List Vlt} {d : Array Vlt} (hp : PermIn 0 l.toArray.size l.toArray d) (hs : SortedIn (ltOf cfV) 0 l.toArray.size d) (hn : (l.map Vlt.who).Nodup) : d.size = l.length ∧ d.toList.Perm l ∧ d.toList.Pairwise fun a b => a.who < b.who := by
 obtain ⟨h1,-,h2⟩ := hp
 have hsz : d.size = l.length := by simpa using h1
 have hp : d.toList.Perm l := by
  rw [← h1] at h2
  conv at h2 => lhs; rw [Array.extract_size]
  rw [h1] at h2
  simpa using h2
 refine ⟨hsz,hp,?_⟩
 rw [List.pairwise_iff_getElem]
 intro i j hi hj hij
 have hj' : j < l.toArray.size := by simp at hj ⊢; omega
 have := hs i j (Nat.zero_le _) hij hj'
 rw [ao2] at this
 simp only [Array.length_toList] at hi hj
 rw [getElem!_pos d j hj,getElem!_pos d i hi] at this
 have hnd : (d.toList.map Vlt.who).Nodup := (hp.map Vlt.who).nodup_iff.2 hn
 have hne : d[i].who ≠ d[j].who := by
  have := List.pairwise_iff_getElem.1 hnd i j (by simpa using hi) (by simpa using hj) hij
  simpa using this
 simp only [Array.getElem_toList]
 omega
theorem ayc (fv : Value) (w : World) : Calls Tryz.prog 162 #[.slice none 0 0,.int .i64 0,.int .i64 0,fv] w fun e w' => e = .returned (.tuple #[]) ∧ w' = w := by
 go_enter Tryz.func162,Tryz.ntmps162
 go_wp2
 refine wp_loop_rounds 1 ?_
 rw [rounds_succ]
 go_wp2
 go_end0
 exact ⟨rfl,rfl⟩
theorem ax8 (fv : Value) (lim : Int) (w : World) : Calls Tryz.prog 149 #[.slice none 0 0,.int .i64 0,.int .i64 0,.int .i64 lim,fv] w fun e w' => e = .returned (.tuple #[]) ∧ w' = w := by
 have H := Lib.hid (ayc fv)
 go_enter Tryz.func149,Tryz.ntmps149
 go_wp2
 refine wp_loop_rounds 1 ?_
 rw [rounds_succ]
 go_wp2_with fail
 (with_reducible refine (H.out _).mono ?_); rintro e w1 ⟨rfl,hw⟩; replace hw := hw.symm; subst hw
 go_wp2_with fail
 (try simp only [Exit.inBlock,Exit.then]); refine bodyPost_ret (results_none rfl _ _ _) rfl ?_
 exact ⟨rfl,rfl⟩
theorem at1 (fv : Value) (w : World) : Calls Tryz.prog 131 #[.slice none 0 0,fv] w fun e w' => e = .returned (.tuple #[]) ∧ w' = w := by
 have H1 := Lib.hid (show ∀ w,Calls Tryz.prog 150 #[.int .u64 0] w fun e w' => e = .returned (.int .i64 (Lib.bitLen 0 : Nat)) ∧ w' = w from fun w => aBi 0 (by decide) w)
 have H2 := Lib.hid (ax8 fv)
 generalize (Lib.bitLen 0 : Nat) = z at *
 go_enter Tryz.func131,Tryz.ntmps131
 go_wp2_with fail
 (with_reducible refine (H1.out _).mono ?_); rintro e w1 ⟨rfl,hw⟩; replace hw := hw.symm; subst hw
 go_wp2_with fail
 (with_reducible refine (H2.out _ _).mono ?_); rintro e w1 ⟨rfl,hw⟩; replace hw := hw.symm; subst hw
 go_wp2_with fail
 go_end0
 exact ⟨rfl,rfl⟩
theorem at6 {B : Nat} {w : World} {v : Value} {l : List Vlt} (h : aa0 B w v l) (hl : l.length ≤ 100000) (hn : (l.map Vlt.who).Nodup) :
  Calls Tryz.prog 131 #[v,.func (.func 97) #[] #[]] w fun e w' => e = .returned (.tuple #[]) ∧ ∃ s,aa0 B w' v s ∧ (s.Perm l ∧ s.Pairwise fun a b => a.who < b.who) ∧ Fr (fun k => v.ownBlock = some k) w w' := by
 rcases uj.row h with ⟨rfl,rfl⟩ | ⟨g,c,rfl,-,hlt,-,-,-⟩
 ·exact (at1 _ w).mono fun e w' ⟨he,hw⟩ => ⟨he,[],by rw [hw]; exact h,⟨List.Perm.refl _,List.Pairwise.nil⟩,by rw [hw]; exact Fr.refl _ _⟩
 ·have hcon := AnyQ.slices_SortFunc Tryz.laysbkSortFunc 27 Tryz.isAgg72 Tryz.sizeOf72 ad9 zh akh cfV aFg 97 #[] g 0 c l.toArray w (enters_of Tryz.func97 (by kernel_rfl) rfl) (ax4 g 0 _ w) (aa0.aJ3 h) hlt (by simp; omega)
  have aI6 : Calls Tryz.prog 131 #[.slice (some ⟨g,0,none⟩) l.toArray.size c,.func (.func 97) #[] #[]] w _ := hcon
  rw [show l.toArray.size = l.length by simp] at aI6
  refine aI6.mono ?_
  rintro e w' ⟨he,d',n,os,hp,hs,rfl⟩
  obtain ⟨hsz,ho⟩ := aI9 hp hs hn
  obtain ⟨h1,h2⟩ := aa0.sorted (m := n) (os := os) h hsz
  exact ⟨he,_,h1,ho,h2.mono fun k _ e => by subst e; rfl⟩
end Go.Proofs.YtohckefafbhooaaGreat
namespace Go.Proofs.YtohckefafbhooaaGreat
set_option linter.unusedVariables false
set_option linter.unusedSimpArgs false
open Go.RowKit Go.Shelf
attribute [local go_sem] Oper.semAt_some
theorem Tryz.infoBVault : (Tryz.prog.info? 72).map (fun i => (i.zero,i.size,i.bytes)) = some (some (vBv v0),27,72) := by kernel_rfl
def aI7 (ty : TypeId) (args : Array Value) : Sem Value := Builtin.append_ #[84,84] ty args
@[go_sem ↓ high] theorem app_BV (ty : TypeId) (args : Array Value) : Builtin.append_ #[84,84] ty args = aI7 ty args := rfl
theorem aa0.app {B : Nat} {w : World} {v : Value} {l : List Vlt} (h : aa0 B w v l) (x : Vlt) (hB : B ≤ w.heap.size) (hl : l.length ≤ 100000) (ty : TypeId) :
  ∃ a c w',(aI7 ty #[v,.slice (some ⟨w.heap.size,0,none⟩) 1 1]).run Tryz.prog (w.alloc (.cells (cB x) 72)) = .ok (.slice a (l.length + 1) c) w' ∧ aa0 B w' (.slice a (l.length + 1) c) (l ++ [x]) ∧
   Fr (fun k => v.ownBlock = some k) w w' ∧ w.heap.size < w'.heap.size := by
 obtain ⟨i0,hi,hz,hs,hb⟩ := info_parts Tryz.infoBVault
 exact uj.app Tryz.underlying84 hi hz hs hb (lu v0) (by decide) (by decide) (by decide) h x (zh x) (akh x) hB hl
def awj (parts : Array (Nat × Value)) : Sem Value := Instr.buildSlice 84 1 parts
@[go_sem ↓ high] theorem build_LV (p : Array (Nat × Value)) : Instr.buildSlice 84 1 p = awj p := rfl
theorem ahe (w : World) (X : Array Value) (h : X.size = 27) : (awj #[(0,.agg X)]).run Tryz.prog w = .ok (.slice (some ⟨w.heap.size,0,none⟩) 1 1) (w.alloc (.cells X 72)) := by
 obtain ⟨i0,hi,hz,hs,_⟩ := info_parts Tryz.infoBVault
 exact aha w 84 72 X 27 i0 _ Tryz.underlying84 hi hz hs (by omega) (by omega) h
theorem aoh (gf : Nat) (lb : Array Value) (C : List Vlt → World → Prop) (Nx : List Vlt → Vlt → World → World → Prop) (S : List Vlt → Prop) (w : World) (eg : ∀ args w,(callFunc gf args).run Tryz.prog w = .ok (.enter gf args) w)
  (hseq : au5 Tryz.prog gf lb ah1 Kbm C Nx S) (hC : ∀ pre W,Fr F0 w W → C pre W) (hlen : ∀ pre x W0 W1,Nx pre x W0 W1 → pre.length ≤ 100000) :
  Calls Tryz.prog 148 #[.slice none 0 0,.func (.func gf) #[] lb] w fun e w' => ∃ s xs,e = .returned s ∧ aa0 w.heap.size w' s xs ∧ S xs ∧ Fr F0 w w' := by
 have hmf : ∀ (fn : Fn) (first cap : Array Value) (w : World),(Instr.makeFunc fn first cap).run Tryz.prog w = .ok (.func fn first cap) w := fun _ _ _ _ => rfl
 have HC := Lib.hid (And.intro hC hlen)
 clear hC hlen
 refine callsIn_wide (n := 6) |>.1 ?_
 refine callsIn_of_wp_marks Tryz.func148 rfl trivial ?_ rfl
 simp only [Tryz.ntmps148,List.size_toArray,List.length_cons,List.length_nil,Nat.reduceAdd,Nat.reduceSub,Array.replicate_succ,Array.replicate_zero,List.push_toArray,List.append_toArray,List.nil_append,List.cons_append]
 gi_upto_region 1 with fail
 refine agv fun W1 N1 => ?_
 have r3 := N1.new
 have F := N1.fr
 clear N1
 obtain ⟨gs,hgs⟩ : ∃ g,g = w.heap.size := ⟨_,rfl⟩
 rw [← hgs] at r3 ⊢
 replace hgs := Lib.hid hgs
 have hsl := Lib.hid (Array.getElem?_eq_some_iff.1 r3).1
 have hwz := Lib.hid F.size
 gi_wp2
 have hOI : OwnFrom W1.heap.size (fun (pre : List Vlt) W' => (∃ s,W'.heap[gs]? = some (.cells #[s] 84 (0,0)) ∧ aa0 (W1.heap.size + 3) W' s pre) ∧ Below w.heap.size W1 W') :=
  OwnFrom.and (fun sx A D row h hgr hr => by
   obtain ⟨s,h1,h2⟩ := h
   exact ⟨s,abg h1 hgr hr,h2.grown hgr hr⟩) (own_below (β := List Vlt) W1.heap.size w.heap.size W1 (Nat.le_refl _) hwz.out)
 have hFr := Lib.hid (show ∀ W',Below w.heap.size W1 W' → Fr F0 w W' from fun W' b => F.trans (Fr.aag b) fun i hi hk => by omega)
 refine ai2 (gf := gf) (lb := lb) rfl eg hseq (fun _ => rfl) Kbm.trans (fun W o => Kbm.put (by omega))
  (fun (pre : List Vlt) W' => (∃ s,W'.heap[gs]? = some (.cells #[s] 84 (0,0)) ∧ aa0 (W1.heap.size + 3) W' s pre) ∧ Below w.heap.size W1 W')
  (fun _ _ _ => False)
  hOI (fun cc => yu _ _)
  (fun pre W' h => HC.out.1 _ _ (hFr.out _ h.2))
  ?map
  ⟨⟨_,r3,uj.nil _ _⟩,Below.refl _ _⟩
  (fun pre x a' W' => ∃ s g5,a' = { tmps := #[.slice none 0 0,.func (.func gf) #[] lb,.pointer (some ⟨gs,0,none⟩),undef,.slice none 0 0,.pointer (some ⟨g5,0,none⟩),.func (.func gf) #[] lb,.agg (cB x),undef,undef,undef,undef,undef],defers := [] } ∧ W'.heap[gs]? = some (.cells #[s] 84 (0,0)) ∧ aa0 (W1.heap.size + 3) W' s pre ∧ pre.length ≤ 100000 ∧ W1.heap.size + 2 < W'.heap.size ∧ W'.heap[g5]? = some (.cells (cB x) 72 (0,0)))
  (fun pre x a' sx A D row h hgr hr => by
   obtain ⟨s,g5,e,h3,ho,hl,hz,h5⟩ := h
   exact ⟨s,g5,e,abg h3 hgr hr,ho.grown hgr hr,hl,Nat.lt_of_lt_of_le hz hgr.size,abg h5 hgr hr⟩) ?assign ?body ?done ?stop
 case map =>
  rintro pre A A' ⟨⟨s,h1,h2⟩,hB⟩ hf hA
  exact ⟨⟨s,hf.keeps (fun e => by have := hsl.out; omega) h1,h2.frS hf fun k hk e => by have := h2.blk k hk; omega⟩,hB.trans (hf.below (Nat.le_trans hwz.out hB.size) (fun k hk e => by have := hwz.out; omega))⟩
 case assign =>
  intro l2 pre x W0 W' K hi0 f0 hsz hn hK
  have sz := lu x
  have oS := ru x
  have hi4 := aa7 hOI hi0 f0
  have HN := Lib.hid (HC.out.2 _ _ _ _ hn)
  replace hK := Lib.hid hK
  rw [show (ah1 x) = #[.agg (cB x)] from rfl]
  obtain ⟨C2,hC2⟩ : ∃ C2,C2 = cB x := ⟨_,rfl⟩
  rw [← hC2] at sz oS hK ⊢
  clear hC2
  gi_wp2
  have N := afc W' #[.int .u8 0,.int .u8 0,.int .u8 0,.int .u8 0,.int .u8 0,.int .u8 0,.int .u8 0,.int .u8 0,.int .u8 0,.int .u8 0,.int .u8 0,.int .u8 0,.int .u8 0,.int .u8 0,.int .u8 0,.int .u8 0,.int .u8 0,.int .u8 0,.int .u8 0,.int .u8 0,.int .u8 0,.int .u64 0,.int .u64 0,.int .u64 0,.int .u64 0,.int .u64 0,.bool false] C2 72
  have hi5 := aa7 hOI hi4 N.fr
  obtain ⟨s,q3,ho⟩ := hi5.1
  exact hK.out _ _ ⟨N.fr.size,fun k o hk ho hc => N.fr.keeps (fun e => e) ho⟩ (Kbm.fr N.fr fun e => e) hi5 ⟨s,_,rfl,q3,ho,HN.out,Nat.lt_of_lt_of_le hsz N.fr.size,N.new⟩
 case body =>
  rintro l2 pre x a' W' hi ⟨s,g5,rfl,q3,ho,hl,hz,h5⟩
  obtain ⟨a5,c5,w5,happ,ho5,f5,hs5⟩ := ho.app x hz hl 84
  have hgn : s.ownBlock ≠ some gs := fun e => by have := ho.blk gs e; have := hsl.out; omega
  have q35 := f5.keeps (fun e => hgn e) q3
  have sz := lu x
  have hbl := ahe W' (cB x) sz
  obtain ⟨C2,hC2⟩ : ∃ C2,C2 = cB x := ⟨_,rfl⟩
  rw [← hC2] at sz happ hbl h5 ⊢
  clear hC2
  gi_wp2
  have f6 : Fr (fun k => k = gs) w5 (w5.setCell ⟨gs,0,none⟩ (.slice a5 (pre.length + 1) c5)) := (Fr.refl (fun k => k = gs) w5).setCell (p := ⟨gs,0,none⟩) (fun _ => rfl) _
  have kp : KeepsFrom W1.heap.size W' w5 := ⟨f5.size,fun k o hk ho2 hc2 => f5.keeps (fun e => aj8 (row := some k) (B := W1.heap.size) (fun r e => by cases e; exact ⟨hk,o,ho2,hc2⟩) ho.own k e rfl) ho2⟩
  have kb : Kbm (W1.heap.size + 2) W' (w5.setCell ⟨gs,0,none⟩ (.slice a5 (pre.length + 1) c5)) := fun o ho2 => f6.keeps (fun e => by have := hsl.out; omega) (f5.keeps (fun e => by have := ho.blk _ e; omega) ho2)
  refine ⟨kp.trans ((KeepsOthers.setCell w5 ⟨gs,0,none⟩ _).from _),kb,⟨.slice a5 (pre.length + 1) c5,?_,?_⟩,?_⟩
  ·rw [cu,q35]; rfl
  ·refine ho5.frS f6 (fun k hk e => ?_)
   have := ho5.blk k hk; have := hsl.out; omega
  ·exact (hi.2.trans (f5.below (Nat.le_trans hwz.out hi.2.size) fun k hk e => by have := ho.blk k e; have := hwz.out; omega)).trans (f6.below (by have := hi.2.size; have := f5.size; have := hwz.out; omega) fun k hk e => by have := hgs.out; omega)
 case done =>
  rintro D ys W' hD hy hi hK
  have h9 := hOI.putObj (.deferred none) hi hD hK rfl
  obtain ⟨s,q3,ho⟩ := hi.1
  gi_wp2
  refine ⟨by simp,.inl ⟨_,_,rfl,run_takeDeferred hK,?_⟩⟩
  refine ⟨_,results_tmp rfl _ _ _,s,ys,rfl,?_,hy,hFr.out _ h9.2⟩
  obtain ⟨s',q3',ho'⟩ := h9.1
  have es : s' = s := by
   have hDg : D ≠ gs := fun e => by have := hsl.out; omega
   rw [World.putObj_heap_other (fun e => hDg e.symm),q3] at q3'
   simpa using q3'.symm
  subst es
  exact ho'.mono (by have := hwz.out; omega)
 case stop =>
  rintro D cc pre W' hD h hK
  exact h.elim
theorem ak8 (gf : Nat) (lb : Array Value) (C : List Vlt → World → Prop) (Nx : List Vlt → Vlt → World → World → Prop) (S : List Vlt → Prop) (w : World) (eg : ∀ args w,(callFunc gf args).run Tryz.prog w = .ok (.enter gf args) w)
  (hseq : au5 Tryz.prog gf lb ah1 Kbm C Nx S) (hC : ∀ pre W,Fr F0 w W → C pre W) (hlen : ∀ pre x W0 W1,Nx pre x W0 W1 → pre.length ≤ 100000) :
  Calls Tryz.prog 130 #[.func (.func gf) #[] lb] w fun e w' => ∃ s xs,e = .returned s ∧ aa0 w.heap.size w' s xs ∧ S xs ∧ Fr F0 w w' := by
 have H := Lib.hid (aoh gf lb C Nx S w eg hseq hC hlen)
 clear hseq hC hlen eg
 go_enter Tryz.func130,Tryz.ntmps130
 go_wp2_with fail
 (with_reducible refine H.out.mono ?_); rintro e w1 ⟨s,xs,rfl,h1,h2,h3⟩
 have H1 := Lib.hid (And.intro h1 (And.intro h2 h3))
 clear h1 h2 h3 H
 go_wp2_with fail
 go_ret
 exact ⟨s,xs,rfl,H1.out⟩
theorem aku {l : List Vlt} (hl : VLs l) (gf : Nat) (lb : Array Value) (C : List Vlt → World → Prop) (Nx : List Vlt → Vlt → World → World → Prop) (n : Nat) (w : World) (eg : ∀ args w,(callFunc gf args).run Tryz.prog w = .ok (.enter gf args) w)
  (hseq : au5 Tryz.prog gf lb ah1 Kbm C Nx (fun xs => LsG (gOf l) xs ∧ xs.length ≤ n)) (hC : ∀ pre W,Fr F0 w W → C pre W) (hlen : ∀ pre x W0 W1,Nx pre x W0 W1 → pre.length ≤ 100000) :
  Calls Tryz.prog 99 #[.func (.func gf) #[] lb,.func (.func 97) #[] #[]] w fun e w' => ∃ a c,e = .returned (.slice a l.length c) ∧ aa0 w.heap.size w' (.slice a l.length c) l ∧ Fr F0 w w' := by
 have H := Lib.hid (ak8 gf lb C Nx _ w eg hseq hC hlen)
 have HN := Lib.hid hl
 clear hseq hC hlen eg hl
 go_enter Tryz.func99,Tryz.ntmps99
 go_wp2_with fail
 (with_reducible refine H.out.mono ?_); rintro e w1 ⟨s,xs,rfl,h1,⟨h2,h2b⟩,h3⟩
 have HF := Lib.hid h3
 have hp := aAv HN.out.asc HN.out.who h2
 have HS := Lib.hid (at6 h1 (by rw [hp.length_eq]; have := HN.out.len; omega) ((hp.map Vlt.who).nodup_iff.2 (agw HN.out.asc)))
 have HP := Lib.hid (And.intro hp h1.blk)
 clear H h3 h2 h2b hp h1
 go_wp2_with fail
 (with_reducible refine HS.out.mono ?_); rintro e w2 ⟨rfl,t,o2,⟨p2,q2⟩,f2⟩
 obtain rfl := ag8 (p2.trans HP.out.1) q2 HN.out.asc
 obtain ⟨a,c,rfl,hs⟩ := o2.is
 have H2 := Lib.hid (And.intro o2 (HF.out.trans f2 fun i hi e => absurd hi (Nat.not_lt.2 (HP.out.2 i e))))
 clear o2 p2 q2 f2 hs HS
 go_wp2_with fail
 go_ret
 exact ⟨a,c,rfl,H2.out⟩
end Go.Proofs.YtohckefafbhooaaGreat
namespace Go.Proofs.YtohckefafbhooaaGreat
set_option linter.unusedVariables false
set_option linter.unusedSimpArgs false
open Go.RowKit Go.Shelf
attribute [local go_sem] Oper.semAt_some
def aCz (B gb : Nat) (v : Value) (l : List Vlt) (w : World) : Prop := w.heap[gb]? = some (.cells #[v] 84 (0,0)) ∧ aa0 B w v l
theorem aCz.fr {B gb : Nat} {v : Value} {l : List Vlt} {w w' : World} (h : aCz B gb v l w) (f : Fr F0 w w') : aCz B gb v l w' := ⟨f.keeps (fun x => x) h.1,h.2.fr0 f⟩
def NxV (l : List Vlt) (pre : List Vlt) (x : Vlt) (_ _ : World) : Prop := ∃ k,pre = l.take k ∧ l[k]? = some x
def VsQ (w : World) (l : List Vlt) (e : Ending) (w' : World) : Prop := ∃ gb v,e = .returned (.func (.func 128) #[] #[.pointer (some ⟨gb,0,none⟩)]) ∧ aCz w.heap.size gb v l w' ∧ Fr F0 w w'
theorem aqb (a : Option Addr) (n c : Nat) (w : World) :
  Calls Tryz.prog 96 #[.slice a n c] w fun e w' => e = .returned (.func (.func 128) #[] #[.pointer (some ⟨w.heap.size,0,none⟩)]) ∧ w' = w.alloc (.cells #[.slice a n c] 84) := by
 have hmf : ∀ (fn : Fn) (first cap : Array Value) (w : World),(Instr.makeFunc fn first cap).run Tryz.prog w = .ok (.func fn first cap) w := fun _ _ _ _ => rfl
 go_enter Tryz.func96,Tryz.ntmps96
 go_wp2
 go_ret
 exact ⟨rfl,rfl⟩
theorem afw {w : World} {p : Nat} {M : Bok} {tp : Nat} {tob : Option Nat} {q qp : Nat} {qob : Option Nat} {fp vb : Nat} (b : BK w p tp tob q qp qob fp vb M) (hl : VLs M.vs) : Calls Tryz.prog 34 #[.pointer (some ⟨p,0,none⟩)] w (VsQ w M.vs) := by
 have e0 := b.at_
 have HM := Lib.hid (aqg vb w)
 obtain ⟨O,hO⟩ : ∃ O,w.heap[vb]? = some O := ⟨_,Array.getElem?_eq_getElem b.vm.lt⟩
 have F1 : Fr F0 w (w.alloc (.cells #[.map (some vb)] 95)) := (Fr.refl F0 w).alloc _
 have HS := Lib.hid (aku hl 132 #[.pointer (some ⟨w.heap.size,0,none⟩)] _ _ 256 (w.alloc (.cells #[.map (some vb)] 95)) (enters_of Tryz.func132 (by kernel_rfl) rfl) (aI8 w.heap.size vb 256 (gOf M.vs) O)
  (fun pre W f => ⟨f.keeps (fun x => x) (heap_alloc_new _ _),(b.vm.fr F1 fun x => x).fr f fun x => x,f.keeps (fun x => x) (oh hO)⟩) (fun pre x W0 W1 h => by unfold aCf at h; omega))
 have HV := Lib.hid aqb
 replace F1 := Lib.hid F1
 unfold bkC at e0
 generalize (M.now : Int) = now at *
 generalize (M.pc : Int) = pc at *
 generalize (M.pn : Int) = pn at *
 generalize (M.dep : Int) = dep at *
 clear b hl hO
 unfold VsQ
 go_enter Tryz.func34,Tryz.ntmps34
 go_wp2_with fail
 (with_reducible refine HM.out.mono ?_); rintro e w1 ⟨rfl,rfl⟩
 go_wp2_with fail
 refine HS.out.mono ?_; rintro e w2 ⟨a,c,rfl,o2,f2⟩
 have H2 := Lib.hid (And.intro o2 f2)
 clear o2 f2 HS HM
 go_wp2_with fail
 (with_reducible refine (HV.out _ _ _ _).mono ?_); rintro e w3 ⟨rfl,rfl⟩
 go_wp2_with fail
 go_ret
 have f3 : Fr F0 w2 (w2.alloc (.cells #[.slice a M.vs.length c] 84)) := (Fr.refl F0 w2).alloc _
 exact ⟨_,_,rfl,⟨heap_alloc_new _ _,(H2.out.1.fr0 f3).mono F1.out.size⟩,(F1.out.trans' H2.out.2).trans' f3⟩
theorem aBx (B gb : Nat) (v : Value) (l : List Vlt) (hl : l.length ≤ 100000) :
  SeqO Tryz.prog 128 #[.pointer (some ⟨gb,0,none⟩)] ah1 (fun _ _ _ => True) (fun _ W => aCz B gb v l W) (NxV l) (fun xs => xs = l) := by
 intro lp J Jx W oJ oX hC hY h0
 refine (callsIn_wide (n := 6)).1 ?_
 refine callsIn_of_wp Tryz.func128 rfl trivial ?_ rfl
 simp only [Tryz.ntmps128,List.size_toArray,List.length_cons,List.length_nil,Nat.reduceAdd,Nat.reduceSub,Array.replicate_succ,Array.replicate_zero,List.push_toArray,List.append_toArray,List.nil_append,List.cons_append]
 obtain ⟨r1,ho⟩ := hC _ _ h0
 have HH := Lib.hid (And.intro hY (And.intro hC oJ))
 clear oX hY hC oJ
 rcases uj.row ho with ⟨rfl,rfl⟩ | ⟨g,c,rfl,-,-,-,-,-⟩
 ·replace h0 := Lib.hid h0
  clear ho
  gi_wp2
  gi_loopw [7] (fun iv wr => iv = .int .i64 0 ∧ wr = W) (fun _ _ => 0)
  case atStart => exact ⟨rfl,rfl⟩
  case round =>
   obtain ⟨rfl,hw⟩ := hrel
   replace hw := hw.symm
   subst hw
   gi_wp2
   go_end0
   exact ⟨⟨_,rfl⟩,.inl ⟨[],rfl,h0.out⟩⟩
 ·clear ho
  obtain ⟨n,hn⟩ : ∃ n,l.length = n := ⟨_,rfl⟩
  rw [hn] at r1 HH hl
  replace hn := Lib.hid hn
  gi_wp2
  gi_loopw [7] (fun iv wr => ∃ k : Nat,iv = .int .i64 (k : Int) ∧ k ≤ n ∧ J (l.take k) wr) (fun iv _ => n - (intOf iv).toNat)
  case atStart => exact ⟨0,rfl,Nat.zero_le _,h0⟩
  case round =>
   clear h0 r1
   obtain ⟨k,rfl,hk,hJ⟩ := hrel
   by_cases hlt : k < n
   ·have l1 : (k : Int) < (n : Int) := Int.ofNat_lt.2 hlt
    have hr := List.getElem?_eq_getElem (show k < l.length by have := hn.out; omega)
    have hld := uj.ar5 (P := Tryz.prog) zh Tryz.underlying72 rfl Tryz.szBVault (HH.out.2.1 _ _ hJ).2 k _ hr
    obtain ⟨r,hre⟩ : ∃ r,l[k]'(by have := hn.out; omega) = r := ⟨_,rfl⟩
    rw [hre] at hr hld
    have hY := Lib.hid (fun W1 (f : Fr F0 wr W1) => (HH.out.1 (l.take k) r wr W1 hJ f ⟨k,rfl,hr⟩).plain (m := 5))
    have ht : l.take k ++ [r] = l.take (k + 1) := by rw [List.take_add_one,hr]; rfl
    rw [ht] at hY
    obtain ⟨k1,hk1⟩ : ∃ x,k + 1 = x := ⟨_,rfl⟩
    have m1 : IntKind.i64.wrap ((k : Int) + 1) = (k1 : Int) := by rw [IntWalk.i64_in _ (by omega)]; omega
    rw [hk1] at hY
    have HQ := Lib.hid (And.intro hlt hk1)
    have sz := lu r
    have oS := ru r
    dsimp only [ah1] at hY
    rw [iq] at hY
    rw [show (ad9 r).toArray = cB r from rfl] at hld
    generalize cB r = C at *
    clear ht hJ hr hre hk hlt hk1
    gi_upto_region 3 with fail
    refine alo fun W3 N => ?_
    have r4 := N.new
    obtain ⟨fn,tmps,assign,body,hy,hYY⟩ := hY.out W3 N.fr
    clear N hld hY
    obtain ⟨g4,hg4⟩ : ∃ g,wr.heap.size = g := ⟨_,rfl⟩
    rw [hg4] at r4 ⊢
    clear hg4
    have HY := Lib.hid hYY
    clear hYY
    gi_wp2
    refine HY.out.mono ?_
    rintro e W5 (⟨rfl,hJ5,-⟩ | ⟨rfl,hJx,-⟩)
    ·replace hJ5 := Lib.hid hJ5
     clear r4
     gi_wp2
     go_roundw
     case rel => exact ⟨k1,rfl,by have := HQ.out; omega,hJ5.out⟩
     case measure => have := HQ.out; clear m1; simp [intOf]; omega
    ·gi_wp2
     refine bodyPost_ret (results_none rfl _ _ _) rfl ?_
     exact ⟨⟨_,rfl⟩,.inr ⟨_,hJx⟩⟩
   ·obtain rfl : k = n := by omega
    rw [List.take_of_length_le (Nat.le_of_eq hn.out)] at hJ
    replace hJ := Lib.hid hJ
    gi_wp2
    go_end0
    exact ⟨⟨_,rfl⟩,.inl ⟨_,rfl,hJ.out⟩⟩
theorem asz (f : Fn) (x y : Array Value) (w : World) : (binOp .eql 87 (.func f x y) .nilFunc).run Tryz.prog w = .ok (.bool false) w := by kernel_rfl
theorem ajl {B gb : Nat} {w : World} {v : Value} {l : List Vlt} (h : aCz B gb v l w) (hl : l.length ≤ 100000) :
  Calls Tryz.prog 33 #[.func (.func 128) #[] #[.pointer (some ⟨gb,0,none⟩)]] w fun e w' => ∃ a c,e = .returned (.slice a l.length c) ∧ aa0 w.heap.size w' (.slice a l.length c) l ∧ Fr F0 w w' := by
 have hmf : ∀ (fn : Fn) (first cap : Array Value) (w : World),(Instr.makeFunc fn first cap).run Tryz.prog w = .ok (.func fn first cap) w := fun _ _ _ _ => rfl
 have hfn := asz (.func 128) #[] #[.pointer (some ⟨gb,0,none⟩)]
 have HC := Lib.hid (show ∀ (pre : List Vlt) W,Fr F0 w W → aCz B gb v l W from fun pre W f => h.fr f)
 have HQ := Lib.hid (aBx B gb v l hl)
 have HL := Lib.hid hl
 clear h hl
 refine callsIn_wide (n := 6) |>.1 ?_
 refine callsIn_of_wp_marks Tryz.func33 rfl trivial ?_ rfl
 simp only [Tryz.ntmps33,List.size_toArray,List.length_cons,List.length_nil,Nat.reduceAdd,Nat.reduceSub,Array.replicate_succ,Array.replicate_zero,List.push_toArray,List.append_toArray,List.nil_append,List.cons_append]
 gi_upto_region 2 with fail
 refine agv fun W1 N1 => ?_
 have r3 := N1.new
 have F := N1.fr
 clear N1
 obtain ⟨gs,hgs⟩ : ∃ g,g = w.heap.size := ⟨_,rfl⟩
 rw [← hgs] at r3 ⊢
 replace hgs := Lib.hid hgs
 have hsl := Lib.hid (Array.getElem?_eq_some_iff.1 r3).1
 have hwz := Lib.hid F.size
 gi_wp2
 have hOI : OwnFrom W1.heap.size (fun (pre : List Vlt) W' => (∃ s,W'.heap[gs]? = some (.cells #[s] 84 (0,0)) ∧ aa0 W1.heap.size W' s pre) ∧ Below w.heap.size W1 W') :=
  OwnFrom.and (fun sx A D row h hgr hr => by
   obtain ⟨s,h1,h2⟩ := h
   exact ⟨s,abg h1 hgr hr,h2.grown hgr hr⟩) (own_below (β := List Vlt) W1.heap.size w.heap.size W1 (Nat.le_refl _) hwz.out)
 have hFr := Lib.hid (show ∀ W',Below w.heap.size W1 W' → Fr F0 w W' from fun W' b => F.trans (Fr.aag b) fun i hi hk => by omega)
 refine ai1 (gf := 128) (lb := #[.pointer (some ⟨gb,0,none⟩)]) rfl (enters_of Tryz.func128 (by kernel_rfl) rfl) HQ.out (fun _ => rfl) (fun _ _ => trivial) (fun W o => trivial)
  (fun (pre : List Vlt) W' => (∃ s,W'.heap[gs]? = some (.cells #[s] 84 (0,0)) ∧ aa0 W1.heap.size W' s pre) ∧ Below w.heap.size W1 W')
  (fun _ _ _ => False)
  hOI (fun cc => yu _ _)
  (fun pre W' h => HC.out pre _ (hFr.out _ h.2))
  ⟨⟨_,r3,uj.nil _ _⟩,Below.refl _ _⟩
  (fun pre x a' W' => ∃ s g5,a' = { tmps := #[.func (.func 128) #[] #[.pointer (some ⟨gb,0,none⟩)],undef,.slice none 0 0,.pointer (some ⟨gs,0,none⟩),.pointer (some ⟨g5,0,none⟩),.func (.func 128) #[] #[.pointer (some ⟨gb,0,none⟩)],.bool false,undef,.func (.func 128) #[] #[.pointer (some ⟨gb,0,none⟩)],.agg (cB x),undef,undef,undef,undef,undef],defers := [] } ∧ W'.heap[gs]? = some (.cells #[s] 84 (0,0)) ∧ aa0 W1.heap.size W' s pre ∧ pre.length ≤ 100000 ∧ W'.heap[g5]? = some (.cells (cB x) 72 (0,0)))
  (fun pre x a' sx A D row h hgr hr => by
   obtain ⟨s,g5,e,h3,ho,hl,h5⟩ := h
   exact ⟨s,g5,e,abg h3 hgr hr,ho.grown hgr hr,hl,abg h5 hgr hr⟩) ?assign ?body ?done ?stop
 case assign =>
  intro l2 pre x W0 W' K hi0 f0 hn hK
  have sz := lu x
  have oS := ru x
  have hi4 := aa7 hOI hi0 f0
  have HN : Hid (pre.length ≤ 100000) := Lib.hid (by
   obtain ⟨k,hp,hx⟩ := hn
   rw [hp,List.length_take]
   have := HL.out; omega)
  replace hK := Lib.hid hK
  rw [show (ah1 x) = #[.agg (cB x)] from rfl]
  obtain ⟨C2,hC2⟩ : ∃ C2,C2 = cB x := ⟨_,rfl⟩
  rw [← hC2] at sz oS hK ⊢
  clear hC2 hn
  gi_wp2
  have N := afc W' #[.int .u8 0,.int .u8 0,.int .u8 0,.int .u8 0,.int .u8 0,.int .u8 0,.int .u8 0,.int .u8 0,.int .u8 0,.int .u8 0,.int .u8 0,.int .u8 0,.int .u8 0,.int .u8 0,.int .u8 0,.int .u8 0,.int .u8 0,.int .u8 0,.int .u8 0,.int .u8 0,.int .u8 0,.int .u64 0,.int .u64 0,.int .u64 0,.int .u64 0,.int .u64 0,.bool false] C2 72
  have hi5 := aa7 hOI hi4 N.fr
  obtain ⟨s,q3,ho⟩ := hi5.1
  exact hK.out _ _ ⟨N.fr.size,fun k o hk ho hc => N.fr.keeps (fun e => e) ho⟩ trivial hi5 ⟨s,_,rfl,q3,ho,HN.out,N.new⟩
 case body =>
  rintro l2 pre x a' W' hi ⟨s,g5,rfl,q3,ho,hl,h5⟩
  obtain ⟨a5,c5,w5,happ,ho5,f5,hs5⟩ := ho.app x hi.2.size hl 84
  have hgn : s.ownBlock ≠ some gs := fun e => by have := ho.blk gs e; have := hsl.out; omega
  have q35 := f5.keeps (fun e => hgn e) q3
  have sz := lu x
  have hbl := ahe W' (cB x) sz
  obtain ⟨C2,hC2⟩ : ∃ C2,C2 = cB x := ⟨_,rfl⟩
  rw [← hC2] at sz happ hbl h5 ⊢
  clear hC2
  gi_wp2
  have f6 : Fr (fun k => k = gs) w5 (w5.setCell ⟨gs,0,none⟩ (.slice a5 (pre.length + 1) c5)) := (Fr.refl (fun k => k = gs) w5).setCell (p := ⟨gs,0,none⟩) (fun _ => rfl) _
  have kp : KeepsFrom W1.heap.size W' w5 := ⟨f5.size,fun k o hk ho2 hc2 => f5.keeps (fun e => aj8 (row := some k) (B := W1.heap.size) (fun r e => by cases e; exact ⟨hk,o,ho2,hc2⟩) ho.own k e rfl) ho2⟩
  refine ⟨kp.trans ((KeepsOthers.setCell w5 ⟨gs,0,none⟩ _).from _),trivial,⟨.slice a5 (pre.length + 1) c5,?_,?_⟩,?_⟩
  ·rw [cu,q35]; rfl
  ·refine ho5.frS f6 (fun k hk e => ?_)
   have := ho5.blk k hk; have := hsl.out; omega
  ·exact (hi.2.trans (f5.below (Nat.le_trans hwz.out hi.2.size) fun k hk e => by have := ho.blk k e; have := hwz.out; omega)).trans (f6.below (by have := hi.2.size; have := f5.size; have := hwz.out; omega) fun k hk e => by have := hgs.out; omega)
 case done =>
  rintro D ys W' hD rfl hi hK
  have h9 := hOI.putObj (.deferred none) hi hD hK rfl
  obtain ⟨s,q3,ho⟩ := hi.1
  gi_wp2
  refine ⟨by simp,.inl ⟨_,_,rfl,run_takeDeferred hK,?_⟩⟩
  obtain ⟨s',q3',ho'⟩ := h9.1
  have es : s' = s := by
   have hDg : D ≠ gs := fun e => by have := hsl.out; omega
   rw [World.putObj_heap_other (fun e => hDg e.symm),q3] at q3'
   simpa using q3'.symm
  subst es
  obtain ⟨a,c,rfl,hs⟩ := ho'.is
  exact ⟨_,results_tmp rfl _ _ _,a,c,rfl,ho'.mono hwz.out,hFr.out _ h9.2⟩
 case stop =>
  rintro D cc pre W' hD h hK
  exact h.elim
end Go.Proofs.YtohckefafbhooaaGreat
