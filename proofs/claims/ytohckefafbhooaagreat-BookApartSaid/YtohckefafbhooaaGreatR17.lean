import Derived.Test.YtohckefafbhooaaGreatR16
import Derived.Test.YtohckefafbhooaaGreatR8
import Derived.Test.YtohckefafbhooaaGreatR1
set_option maxRecDepth 100000
set_option maxHeartbeats 64000000
namespace Go.Proofs.YtohckefafbhooaaGreat
set_option linter.unusedVariables false
set_option linter.unusedSimpArgs false
open Go.RowKit
attribute [-go_sem] gq
theorem atm (l : List Vlt) (i : Nat) : (l.flatMap aao).take (i * 27) = (l.take i).flatMap aao := by
 induction l generalizing i with
 |nil => simp
 |cons r l ih =>
  cases i with
  |zero => simp
  |succ i =>
   rw [List.flatMap_cons,List.take_succ_cons,List.flatMap_cons,show (i + 1) * 27 = (aao r).length + i * 27 by rw [qo]; omega,List.take_length_add_append,ih]
theorem atn (l : List Vlt) (i : Nat) : (l.flatMap aao).drop (i * 27) = (l.drop i).flatMap aao := by
 induction l generalizing i with
 |nil => simp
 |cons r l ih =>
  cases i with
  |zero => simp
  |succ i =>
   rw [List.flatMap_cons,List.drop_succ_cons,show (i + 1) * 27 = (aao r).length + i * 27 by rw [qo]; omega,List.drop_length_add_append,ih]
theorem Sl.headV {w : World} {a : Option Addr} {n c i : Nat} {l : List Vlt} (h : Sl w 27 a c n (l.flatMap aao)) (hn : n = l.length) (hi : i ≤ n) : Sl w 27 a c i ((l.take i).flatMap aao) := by
 refine ⟨by rw [abj qo,List.length_take]; omega,Nat.le_trans hi h.room,h.most,(fun e => by have := h.nil e; omega),fun j u hj => h.cell j u ?_⟩
 rw [← atm,List.getElem?_take] at hj
 split at hj
 ·exact hj
 ·cases hj
theorem Sl.tailV {w : World} {g n c i o : Nat} {l : List Vlt} (h : Sl w 27 (some ⟨g,0,none⟩) c n (l.flatMap aao)) (hn : n = l.length) (hi : i ≤ n) (ho : o = i * 27 ∨ n = i) : Sl w 27 (some ⟨g,o,none⟩) (c - i) (n - i) ((l.drop i).flatMap aao) := by
 have hr := h.room
 have hm := h.most
 refine ⟨by rw [abj qo,List.length_drop]; omega,by omega,by omega,(fun e => by cases e),fun j u hj => ?_⟩
 have hj' : j < (n - i) * 27 := by have := (List.getElem?_eq_some_iff.1 hj).1; rw [abj qo,List.length_drop] at this; omega
 obtain rfl : o = i * 27 := ho.resolve_right (by omega)
 rw [← atn,List.getElem?_drop] at hj
 obtain ⟨b,off,e,hc⟩ := h.cell _ u hj
 simp only [Option.some.injEq,Addr.mk.injEq,and_true] at e
 obtain ⟨rfl,rfl⟩ := e
 exact ⟨_,_,rfl,by rw [Nat.zero_add] at hc; exact hc⟩
def arw (parts : Array (Nat × Value)) : Sem Value := Instr.buildSlice 45 1 parts
@[go_sem ↓ high] theorem aKv (p : Array (Nat × Value)) : Instr.buildSlice 45 1 p = arw p := rfl
theorem ac3 (w : World) (X : Array Value) (h : X.size = 27) : (arw #[(0,.agg X)]).run Tryz.prog w = .ok (.slice (some ⟨w.heap.size,0,none⟩) 1 1) (w.alloc (.cells X 111)) := by
 obtain ⟨i,z,hi,hz,hs,-,-⟩ := aow
 exact aha w 45 111 X 27 i z Tryz.underlying45 hi hz hs (by decide) (by decide) h
section
variable {B : Nat} {w w' : World} {m : Nat} {R : Nat → Nat} {M : Bok} {sv : Value}
theorem ins1 {w W E : World} {k : Nat} {B : Nat} {a : Option Addr} {n c t : Nat} {l : List Vlt} (h : uj 111 27 aao B w (.slice a n c) l) (f : Fr F0 w W) (o : uj 111 27 aao k W (.slice (some ⟨k,0,none⟩) 0 0) []) (hk : w.heap.size ≤ k) (hkW : k < W.heap.size) (ht : t ≤ n) (hl : n ≤ 1000) :
  ∃ a' n' c' w',(ava 45 #[.slice (some ⟨k,0,none⟩) 0 0,.slice a t c]).run Tryz.prog W = .ok (.slice a' n' c') w' ∧ uj 111 27 aao k w' (.slice a' n' c') (l.take t) ∧ Fr F0 w w' ∧ Fr (fun i => i = k) W w' := by
 have hn := uj.len h
 have hs := (Sl.aef (h.fr0 f).own).2
 obtain ⟨a',n',c',w',hr,-,ho,hf⟩ := acd (m := l.take t) o (Nat.le_of_lt hkW) (by rw [List.length_take]; simp only [List.length_nil]; omega) a t c (by rw [List.length_take]; omega) (Sl.headV hs hn ht) 45
 rw [List.nil_append] at ho
 have hf2 : Fr (fun i => i = k) W w' := hf.mono fun i _ e => by
  have := o.blk i e
  have : (Value.slice (some ⟨k,0,none⟩) 0 0).ownBlock = some k ∨ (Value.slice (some ⟨k,0,none⟩) 0 0).ownBlock = none := by unfold Value.ownBlock; simp
  rcases this with h | h <;> rw [h] at e <;> cases e
  rfl
 exact ⟨a',n',c',w',hr,ho,f.trans hf2 fun i hi e => absurd (show i = k from e) (by omega),hf2⟩
end
theorem oA (w : World) : uj 111 27 aao w.heap.size (w.alloc (.cells #[] 111)).drew (.slice (some ⟨w.heap.size,0,none⟩) 0 0) [] := (uj.made w).fr0 (Fr.refl F0 _).drew
theorem oB (w : World) (X : Obj) : uj 111 27 aao w.heap.size ((w.alloc (.cells #[] 111)).alloc X).drew (.slice (some ⟨w.heap.size,0,none⟩) 0 0) [] := (uj.made w).fr0 ((Fr.refl F0 _).alloc _).drew
theorem oC (w : World) (X : Obj) : uj 111 27 aao (w.heap.size + 1) ((w.alloc X).alloc (.cells #[] 111)).drew (.slice (some ⟨w.heap.size + 1,0,none⟩) 0 0) [] := by
 have := uj.made (e := 111) (size := 27) (enc := aao) (w.alloc X)
 rw [World.size_alloc] at this
 exact this.fr0 (Fr.refl F0 _).drew
theorem vB (w : World) (E : Obj) (X : Array Value) (t : TypeId) : ((w.alloc E).alloc (.cells X t)).drew.heap[w.heap.size + 1]? = some (.cells X t (0,0)) := by
 have := heap_alloc_new (w.alloc E) (.cells X t)
 rw [World.size_alloc] at this
 exact this
theorem vC (w : World) (E : Obj) (X : Array Value) (t : TypeId) : ((w.alloc (.cells X t)).alloc E).drew.heap[w.heap.size]? = some (.cells X t (0,0)) := oh (heap_alloc_new w (.cells X t))
theorem szE (w : World) (E : Obj) : w.heap.size < (w.alloc E).drew.heap.size := by show w.heap.size < (w.alloc E).heap.size; rw [World.size_alloc]; omega
theorem acr (w : World) (E X : Obj) : w.heap.size < ((w.alloc E).alloc X).drew.heap.size ∧ w.heap.size + 1 < ((w.alloc E).alloc X).drew.heap.size := by show w.heap.size < ((w.alloc E).alloc X).heap.size ∧ w.heap.size + 1 < ((w.alloc E).alloc X).heap.size; rw [World.size_alloc,World.size_alloc]; omega
theorem ak9 {w W : World} {k b : Nat} {a : Option Addr} {n c : Nat} {l : List Vlt} {y : Vlt} (o : uj 111 27 aao k W (.slice a n c) l) (f : Fr F0 w W) (hk : w.heap.size ≤ k) (hkW : k ≤ W.heap.size) (hb : W.heap[b]? = some (.cells (aao y).toArray 111 (0,0))) (hl : l.length ≤ 1000) :
  ∃ a' n' c' w',(ava 45 #[.slice a n c,.slice (some ⟨b,0,none⟩) 1 1]).run Tryz.prog W = .ok (.slice a' n' c') w' ∧ uj 111 27 aao k w' (.slice a' n' c') (l ++ [y]) ∧ Fr F0 w w' ∧ W.heap.size ≤ w'.heap.size := by
 obtain ⟨a',n',c',w',hr,-,ho,hf⟩ := acd (m := [y]) o hkW (by simp; omega) (some ⟨b,0,none⟩) 1 1 rfl (by simpa using sl_at (size := 27) (qo y) hb) 45
 exact ⟨a',n',c',w',hr,ho,f.trans hf fun i hi e => by have := o.blk i e; omega,hf.size⟩
theorem aF5 {B : Nat} {w W : World} {k g n c t p : Nat} {a : Option Addr} {n1 c1 : Nat} {l m : List Vlt} (h : uj 111 27 aao B w (.slice (some ⟨g,0,none⟩) n c) m) (o : uj 111 27 aao k W (.slice a n1 c1) l) (f : Fr F0 w W) (hk : w.heap.size ≤ k) (hkW : k ≤ W.heap.size) (ht : t ≤ n) (hn : n ≤ 1000) (hl : l.length ≤ 1000) (hp : p = t * 27 ∨ n = t) :
  ∃ a' n' c' w',(ava 45 #[.slice a n1 c1,.slice (some ⟨g,p,none⟩) (n - t) (c - t)]).run Tryz.prog W = .ok (.slice a' n' c') w' ∧ uj 111 27 aao k w' (.slice a' n' c') (l ++ m.drop t) ∧ Fr F0 w w' := by
 have hm := uj.len h
 have hs := (Sl.aef (h.fr0 f).own).2
 obtain ⟨a',n',c',w',hr,-,ho,hf⟩ := acd (m := m.drop t) o hkW (by rw [List.length_drop]; omega) (some ⟨g,p,none⟩) (n - t) (c - t) (by rw [List.length_drop]; omega) (Sl.tailV hs hm ht hp) 45
 exact ⟨a',n',c',w',hr,ho,f.trans hf fun i hi e => by have := o.blk i e; omega⟩
section
variable {B : Nat} {w w' : World} {m : Nat} {R : Nat → Nat} {M : Bok} {sv : Value}
theorem rg19a {s1 s2 s3 s4 s6 s7 s9 s10 s11 s12 s13 s14 s15 s16 s17 s18 s19 s20 s21 s22 s23 s24 s25 s26 s27 s28 s29 s30 s31 s32 s33 s34 s35 s36 s37 s38 s39 s40 s41 s42 s43 s44 s45 s46 s47 s48 s49 s50 s51 s52 s53 s54 s55 s56 s57 s58 s59 s60 s61 s62 s63 s64 s65 s66 s67 s68 s69 s70 s71 s72 s73 s74 s75 s76 s77 s78 s79 s80 s81 s82 s83 s84 s85 s86 s87 s88 s89 s90 s91 s92 s93 s94 s95 s96 s97 s98 s99 ay2 ay1 ay0 ayz ayy ayx ayw ayv : Value} {K : Act → World → Prop} {Q : Exit → Act → World → Prop} (B m bv g n c t : Nat) (R : Nat → Nat) (M : Bok) (y : Vlt) (w : World) (h : RB B w m R M (.slice (some ⟨g,0,none⟩) n c)) (hB : B ≤ w.heap.size) (ht : t ≤ n) (hl : n ≤ 64) (hct : ¬ c = t) (hv : w.heap[bv]? = some (.cells (aao y).toArray 111 (0,0)))
  (hK : RowKit.Hid (∀ {u87 u88 u89 u90 u91 u92 u93 u94 u95 u96 u97 u98 u99 aCw aCv aCu aCt aCs u105 aCr aCq : Value} {w' : World},(∃ sv',RB B w' m R { M with vs := M.vs.take t ++ y :: M.vs.drop t } sv' ∧ Fr (fun k => k = m) w w') → K ⟨#[.pointer (some ⟨m,0,none⟩),s1,s2,s3,s4,.int .i64 (t : Int),s6,s7,.pointer (some ⟨bv,0,none⟩),s9,s10,s11,s12,s13,s14,s15,s16,s17,s18,s19,s20,s21,s22,s23,s24,s25,s26,s27,s28,s29,s30,s31,s32,s33,s34,s35,s36,s37,s38,s39,s40,s41,s42,s43,s44,s45,s46,s47,s48,s49,s50,s51,s52,s53,s54,s55,s56,s57,s58,s59,s60,s61,s62,s63,s64,s65,s66,s67,s68,s69,s70,s71,s72,s73,s74,s75,s76,s77,s78,s79,s80,s81,s82,s83,s84,s85,s86,u87,u88,u89,u90,u91,u92,u93,u94,u95,u96,u97,u98,u99,aCw,aCv,aCu,aCt,aCs,u105,aCr,aCq],[]⟩ w')) :
  Code.wp Tryz.prog ((((Tryz.f106.body.bind (qc 19)).getD .skip))) (Exit.then K Q) ⟨#[.pointer (some ⟨m,0,none⟩),s1,s2,s3,s4,.int .i64 (t : Int),s6,s7,.pointer (some ⟨bv,0,none⟩),s9,s10,s11,s12,s13,s14,s15,s16,s17,s18,s19,s20,s21,s22,s23,s24,s25,s26,s27,s28,s29,s30,s31,s32,s33,s34,s35,s36,s37,s38,s39,s40,s41,s42,s43,s44,s45,s46,s47,s48,s49,s50,s51,s52,s53,s54,s55,s56,s57,s58,s59,s60,s61,s62,s63,s64,s65,s66,s67,s68,s69,s70,s71,s72,s73,s74,s75,s76,s77,s78,s79,s80,s81,s82,s83,s84,s85,s86,s87,s88,s89,s90,s91,s92,s93,s94,s95,s96,s97,s98,s99,ay2,ay1,ay0,ayz,ayy,ayx,ayw,ayv],[]⟩ w := by
 conv => arg 2; whnf
 have hcn := (Sl.aef h.vs.own).2.room
 have hnl := uj.len h.vs
 have H1 := Lib.hid (fun (W : World) (f : Fr F0 w W) => show (W.cell? ⟨m,531,none⟩ = some (.slice (some ⟨g,0,none⟩) n c) ∧ (gu 111 (.pointer (some ⟨bv,0,none⟩))).run Tryz.prog W = .ok (.agg (aao y).toArray) W) ∧ Fr F0 w W from
  ⟨⟨(h.fr0 f).svc,(ku W _ bv 27 _ Tryz.underlying111 rfl Tryz.szRVault).trans (agz (f.keeps (fun x => x) hv) (by rw [List.size_toArray,qo]))⟩,f⟩)
 have g1 : (t : Int) ≤ (c : Int) := by omega
 have g2 : (t : Int) ≤ (n : Int) := by omega
 have g3 : t ≤ c := by omega
 have g4 : t ≤ 64 := by omega
 have b0 := abw
 have b1 := fun W => ac3 W (aao y).toArray (by rw [List.size_toArray,qo])
 have HH := Lib.hid (And.intro h (And.intro hB (And.intro ht (And.intro hl hnl))))
 have E1 := Lib.hid (fun (k : Nat) (W : World) f o hk hkW => ins1 (W := W) (k := k) (t := t) (E := W) h.vs f o hk hkW ht (by omega))
 clear h hv hB hnl hcn ht hl
 refine avb 21 (F := (fun w' => (w'.cell? ⟨m,531,none⟩ = some (.slice (some ⟨g,0,none⟩) n c) ∧ (gu 111 (.pointer (some ⟨bv,0,none⟩))).run Tryz.prog w' = .ok (.agg (aao y).toArray) w') ∧ Fr F0 w w')) ?_ fun aj => ?_
 ·exact(by ((try dsimp only) <;> (exact H1.out _ (Fr.refl F0 w).drew)))
 refine tu 0 ?_
 refine tu 2 ?_
 refine tu 3 ?_
 refine tu 4 ?_
 refine tu 5 ?_
 refine tu 6 ?_
 refine tu 7 ?_
 refine tu 9 ?_
 refine tu 12 ?_
 refine tu 13 ?_
 refine tu 14 ?_
 refine tu 15 ?_
 refine tu 16 ?_
 refine tu 17 ?_
 refine aik (rs := [1,10]) (by kernel_rfl) (by simp) ?_
 refine af5.cons (o := ⟨_,_,_,_,_,_⟩) rfl (fun K hK => ?_) (af5.cons (o := ⟨_,_,_,_,_,_⟩) rfl (fun K hK => ?_) af5.nil)
 go_simp
 refine hK.out _ _ ?_ (fun aj => ?_)
 ·exact(by ((try dsimp only) <;> (first | exact H1.out _ fA | exact H1.out _ aj.2 | exact H1.out _ (aj.2.alloc _))))
 clear hK K
 try (simp only [Act.put,aST]; dsimp only [aS0,aS1])
 refine aik (rs := [8,10]) (by kernel_rfl) (by simp) ?_
 refine af5.cons (o := ⟨_,_,_,_,_,_⟩) rfl (fun K hK => ?_) (af5.cons (o := ⟨_,_,_,_,_,_⟩) rfl (fun K hK => ?_) af5.nil)
 go_simp
 (first | (obtain ⟨a1,n1,c1,w5,happ,o1,fA,f5⟩ := E1.out _ _ aj.2 (oA w) (Nat.le_refl _) (szE w _); have hk1 : w.heap.size ≤ w.heap.size := Nat.le_refl _; have hk2 : w.heap.size ≤ w5.heap.size := Nat.le_of_lt (Nat.lt_of_lt_of_le (szE w _) f5.size); rw [happ]) | (obtain ⟨a1,n1,c1,w5,happ,o1,fA,f5⟩ := E1.out _ _ aj.2 (oB w _) (Nat.le_refl _) (acr w _ _).1; have hk1 : w.heap.size ≤ w.heap.size := Nat.le_refl _; have hk2 : w.heap.size ≤ w5.heap.size := Nat.le_of_lt (Nat.lt_of_lt_of_le (acr w _ _).1 f5.size); have hb := f5.keeps (show ¬ w.heap.size + 1 = w.heap.size by omega) (vB w _ _ _); rw [happ]) | (obtain ⟨a1,n1,c1,w5,happ,o1,fA,f5⟩ := E1.out _ _ aj.2 (oC w _) (Nat.le_succ _) (acr w _ _).2; have hk1 : w.heap.size ≤ w.heap.size + 1 := Nat.le_succ _; have hk2 : w.heap.size + 1 ≤ w5.heap.size := Nat.le_of_lt (Nat.lt_of_lt_of_le (acr w _ _).2 f5.size); have hb := f5.keeps (show ¬ w.heap.size = w.heap.size + 1 by omega) (vC w _ _ _); rw [happ]); go_simp)
 refine hK.out _ _ ?_ (fun aj => ?_)
 ·exact(by ((try dsimp only) <;> (first | exact H1.out _ fA | exact H1.out _ aj.2 | exact H1.out _ (aj.2.alloc _))))
 clear hK K
 try (simp only [Act.put,aST]; dsimp only [aS0,aS1])
 refine zone 10 fun K hK => ?_
 go_simp
 refine hK.out _ _ ?_ (fun aj => ?_)
 ·exact(by ((try dsimp only) <;> (first | exact H1.out _ fA | exact H1.out _ aj.2 | exact H1.out _ (aj.2.alloc _))))
 clear hK K
 try (simp only [Act.put,aST]; dsimp only [aS0,aS1])
 refine zone 11 fun K hK => ?_
 go_simp
 (first | (obtain ⟨a2,n2,c2,w6,acs,o2,fA,s6⟩ := ak9 (y := y) o1 fA hk1 hk2 hb (by rw [List.length_take]; omega); have hk3 := Nat.le_trans hk2 s6; rw [acs]) | (obtain ⟨a2,n2,c2,w6,acs,o2,fA,s6⟩ := ak9 (y := y) (o1.fr0 ((Fr.refl F0 w5).alloc _)) (fA.alloc _) hk1 (by rw [World.size_alloc]; exact Nat.le_succ_of_le hk2) (heap_alloc_new w5 _) (by rw [List.length_take]; omega); have hk3 := Nat.le_trans hk2 (Nat.le_trans (by rw [World.size_alloc]; exact Nat.le_succ _) s6); rw [acs]); go_simp)
 refine hK.out _ _ ?_ (fun aj => ?_)
 ·exact(by ((try dsimp only) <;> (first | exact H1.out _ fA | exact H1.out _ aj.2 | exact H1.out _ (aj.2.alloc _))))
 clear hK K
 try (simp only [Act.put,aST]; dsimp only [aS0,aS1])
 refine zone 18 fun K hK => ?_
 go_simp
 (obtain ⟨a3,n3,c3,w7,aij,o3,fA⟩ := aF5 HH.out.1.vs o2 fA hk1 hk3 HH.out.2.2.1 (by have := HH.out.2.2.2.1; omega) (by rw [List.length_append,List.length_take]; simp only [List.length_singleton]; omega) (.inl rfl); rw [show (M.vs.take t ++ [y]) ++ M.vs.drop t = M.vs.take t ++ y :: M.vs.drop t by simp] at o3; have e31 := (HH.out.1.fr0 fA).svc; have z31 := (HH.out.1.fr0 fA).blk.frozen 531; rw [aij]; go_simp)
 refine hK.out _ _ ?_ (fun aj => ?_)
 ·exact(by ((try dsimp only) <;> (first | exact H1.out _ fA | exact H1.out _ aj.2 | exact H1.out _ (aj.2.alloc _))))
 clear hK K
 try (simp only [Act.put,aST]; dsimp only [aS0,aS1])
 refine zone 19 fun K hK => ?_
 go_simp
 refine hK.out _ _ ?_ (fun aj => ?_)
 ·exact(by ((try dsimp only) <;> (first | exact H1.out _ fA | exact H1.out _ aj.2 | exact H1.out _ (aj.2.alloc _))))
 clear hK K
 try (simp only [Act.put,aST]; dsimp only [aS0,aS1])
 refine tu 20 ?_
 refine ajn fun K hK => ?_
 go_simp
 refine hK.out _ _ ?_
 clear hK K
 try (simp only [Act.put,aST]; dsimp only [aS0,aS1])
 refine ajo ?_
 rotate_left
 go_simp
 refine hK.out _ _ ?_ (fun aj => ?_)
 ·exact(by ((try dsimp only) <;> (first | exact H1.out _ fA | exact H1.out _ aj.2 | exact H1.out _ (aj.2.alloc _))))
 clear hK K
 try (simp only [Act.put,aST]; dsimp only [aS0,aS1])
 refine zone 8 fun K hK => ?_
 go_simp
 (first | (obtain ⟨a1,n1,c1,w5,happ,o1,fA,f5⟩ := E1.out _ _ aj.2 (oA w) (Nat.le_refl _) (szE w _); have hk1 : w.heap.size ≤ w.heap.size := Nat.le_refl _; have hk2 : w.heap.size ≤ w5.heap.size := Nat.le_of_lt (Nat.lt_of_lt_of_le (szE w _) f5.size); rw [happ]) | (obtain ⟨a1,n1,c1,w5,happ,o1,fA,f5⟩ := E1.out _ _ aj.2 (oB w _) (Nat.le_refl _) (acr w _ _).1; have hk1 : w.heap.size ≤ w.heap.size := Nat.le_refl _; have hk2 : w.heap.size ≤ w5.heap.size := Nat.le_of_lt (Nat.lt_of_lt_of_le (acr w _ _).1 f5.size); have hb := f5.keeps (show ¬ w.heap.size + 1 = w.heap.size by omega) (vB w _ _ _); rw [happ]) | (obtain ⟨a1,n1,c1,w5,happ,o1,fA,f5⟩ := E1.out _ _ aj.2 (oC w _) (Nat.le_succ _) (acr w _ _).2; have hk1 : w.heap.size ≤ w.heap.size + 1 := Nat.le_succ _; have hk2 : w.heap.size + 1 ≤ w5.heap.size := Nat.le_of_lt (Nat.lt_of_lt_of_le (acr w _ _).2 f5.size); have hb := f5.keeps (show ¬ w.heap.size = w.heap.size + 1 by omega) (vC w _ _ _); rw [happ]); go_simp)
 refine hK.out _ _ ?_ (fun aj => ?_)
 ·exact(by ((try dsimp only) <;> (first | exact H1.out _ fA | exact H1.out _ aj.2 | exact H1.out _ (aj.2.alloc _))))
 clear hK K
 try (simp only [Act.put,aST]; dsimp only [aS0,aS1])
 refine zone 11 fun K hK => ?_
 go_simp
 (first | (obtain ⟨a2,n2,c2,w6,acs,o2,fA,s6⟩ := ak9 (y := y) o1 fA hk1 hk2 hb (by rw [List.length_take]; omega); have hk3 := Nat.le_trans hk2 s6; rw [acs]) | (obtain ⟨a2,n2,c2,w6,acs,o2,fA,s6⟩ := ak9 (y := y) (o1.fr0 ((Fr.refl F0 w5).alloc _)) (fA.alloc _) hk1 (by rw [World.size_alloc]; exact Nat.le_succ_of_le hk2) (heap_alloc_new w5 _) (by rw [List.length_take]; omega); have hk3 := Nat.le_trans hk2 (Nat.le_trans (by rw [World.size_alloc]; exact Nat.le_succ _) s6); rw [acs]); go_simp)
 refine hK.out _ _ ?_ (fun aj => ?_)
 ·exact(by ((try dsimp only) <;> (first | exact H1.out _ fA | exact H1.out _ aj.2 | exact H1.out _ (aj.2.alloc _))))
 clear hK K
 try (simp only [Act.put,aST]; dsimp only [aS0,aS1])
 refine zone 18 fun K hK => ?_
 go_simp
 (obtain ⟨a3,n3,c3,w7,aij,o3,fA⟩ := aF5 HH.out.1.vs o2 fA hk1 hk3 HH.out.2.2.1 (by have := HH.out.2.2.2.1; omega) (by rw [List.length_append,List.length_take]; simp only [List.length_singleton]; omega) (.inl rfl); rw [show (M.vs.take t ++ [y]) ++ M.vs.drop t = M.vs.take t ++ y :: M.vs.drop t by simp] at o3; have e31 := (HH.out.1.fr0 fA).svc; have z31 := (HH.out.1.fr0 fA).blk.frozen 531; rw [aij]; go_simp)
 refine hK.out _ _ ?_ (fun aj => ?_)
 ·exact(by ((try dsimp only) <;> (first | exact H1.out _ fA | exact H1.out _ aj.2 | exact H1.out _ (aj.2.alloc _))))
 clear hK K
 try (simp only [Act.put,aST]; dsimp only [aS0,aS1])
 refine zone 19 fun K hK => ?_
 go_simp
 refine hK.out _ _ ?_ (fun aj => ?_)
 ·exact(by ((try dsimp only) <;> (first | exact H1.out _ fA | exact H1.out _ aj.2 | exact H1.out _ (aj.2.alloc _))))
 clear hK K
 try (simp only [Act.put,aST]; dsimp only [aS0,aS1])
 refine tu 20 ?_
 refine ajn fun K hK => ?_
 go_simp
 refine hK.out _ _ ?_
 clear hK K
 try (simp only [Act.put,aST]; dsimp only [aS0,aS1])
 refine ajo ?_
 rotate_left
 go_simp
 refine hK.out _ _ ?_ (fun aj => ?_)
 ·exact(by ((try dsimp only) <;> (first | exact H1.out _ fA | exact H1.out _ aj.2 | exact H1.out _ (aj.2.alloc _))))
 clear hK K
 try (simp only [Act.put,aST]; dsimp only [aS0,aS1])
 refine zone 1 fun K hK => ?_
 go_simp
 refine hK.out _ _ ?_ (fun aj => ?_)
 ·exact(by ((try dsimp only) <;> (first | exact H1.out _ fA | exact H1.out _ aj.2 | exact H1.out _ (aj.2.alloc _))))
 clear hK K
 try (simp only [Act.put,aST]; dsimp only [aS0,aS1])
 refine zone 8 fun K hK => ?_
 go_simp
 (first | (obtain ⟨a1,n1,c1,w5,happ,o1,fA,f5⟩ := E1.out _ _ aj.2 (oA w) (Nat.le_refl _) (szE w _); have hk1 : w.heap.size ≤ w.heap.size := Nat.le_refl _; have hk2 : w.heap.size ≤ w5.heap.size := Nat.le_of_lt (Nat.lt_of_lt_of_le (szE w _) f5.size); rw [happ]) | (obtain ⟨a1,n1,c1,w5,happ,o1,fA,f5⟩ := E1.out _ _ aj.2 (oB w _) (Nat.le_refl _) (acr w _ _).1; have hk1 : w.heap.size ≤ w.heap.size := Nat.le_refl _; have hk2 : w.heap.size ≤ w5.heap.size := Nat.le_of_lt (Nat.lt_of_lt_of_le (acr w _ _).1 f5.size); have hb := f5.keeps (show ¬ w.heap.size + 1 = w.heap.size by omega) (vB w _ _ _); rw [happ]) | (obtain ⟨a1,n1,c1,w5,happ,o1,fA,f5⟩ := E1.out _ _ aj.2 (oC w _) (Nat.le_succ _) (acr w _ _).2; have hk1 : w.heap.size ≤ w.heap.size + 1 := Nat.le_succ _; have hk2 : w.heap.size + 1 ≤ w5.heap.size := Nat.le_of_lt (Nat.lt_of_lt_of_le (acr w _ _).2 f5.size); have hb := f5.keeps (show ¬ w.heap.size = w.heap.size + 1 by omega) (vC w _ _ _); rw [happ]); go_simp)
 refine hK.out _ _ ?_ (fun aj => ?_)
 ·exact(by ((try dsimp only) <;> (first | exact H1.out _ fA | exact H1.out _ aj.2 | exact H1.out _ (aj.2.alloc _))))
 clear hK K
 try (simp only [Act.put,aST]; dsimp only [aS0,aS1])
 refine zone 11 fun K hK => ?_
 go_simp
 (first | (obtain ⟨a2,n2,c2,w6,acs,o2,fA,s6⟩ := ak9 (y := y) o1 fA hk1 hk2 hb (by rw [List.length_take]; omega); have hk3 := Nat.le_trans hk2 s6; rw [acs]) | (obtain ⟨a2,n2,c2,w6,acs,o2,fA,s6⟩ := ak9 (y := y) (o1.fr0 ((Fr.refl F0 w5).alloc _)) (fA.alloc _) hk1 (by rw [World.size_alloc]; exact Nat.le_succ_of_le hk2) (heap_alloc_new w5 _) (by rw [List.length_take]; omega); have hk3 := Nat.le_trans hk2 (Nat.le_trans (by rw [World.size_alloc]; exact Nat.le_succ _) s6); rw [acs]); go_simp)
 refine hK.out _ _ ?_ (fun aj => ?_)
 ·exact(by ((try dsimp only) <;> (first | exact H1.out _ fA | exact H1.out _ aj.2 | exact H1.out _ (aj.2.alloc _))))
 clear hK K
 try (simp only [Act.put,aST]; dsimp only [aS0,aS1])
 refine zone 18 fun K hK => ?_
 go_simp
 (obtain ⟨a3,n3,c3,w7,aij,o3,fA⟩ := aF5 HH.out.1.vs o2 fA hk1 hk3 HH.out.2.2.1 (by have := HH.out.2.2.2.1; omega) (by rw [List.length_append,List.length_take]; simp only [List.length_singleton]; omega) (.inl rfl); rw [show (M.vs.take t ++ [y]) ++ M.vs.drop t = M.vs.take t ++ y :: M.vs.drop t by simp] at o3; have e31 := (HH.out.1.fr0 fA).svc; have z31 := (HH.out.1.fr0 fA).blk.frozen 531; rw [aij]; go_simp)
 refine hK.out _ _ ?_ (fun aj => ?_)
 ·exact(by ((try dsimp only) <;> (first | exact H1.out _ fA | exact H1.out _ aj.2 | exact H1.out _ (aj.2.alloc _))))
 clear hK K
 try (simp only [Act.put,aST]; dsimp only [aS0,aS1])
 refine zone 19 fun K hK => ?_
 go_simp
 refine hK.out _ _ ?_ (fun aj => ?_)
 ·exact(by ((try dsimp only) <;> (first | exact H1.out _ fA | exact H1.out _ aj.2 | exact H1.out _ (aj.2.alloc _))))
 clear hK K
 try (simp only [Act.put,aST]; dsimp only [aS0,aS1])
 refine tu 20 ?_
 refine ajn fun K hK => ?_
 go_simp
 refine hK.out _ _ ?_
 clear hK K
 try (simp only [Act.put,aST]; dsimp only [aS0,aS1])
 refine ajo ?_
 rotate_left
 all_goals exact hK.out ⟨_,(HH.out.1.fr0 fA).aC7 (o3.mono (Nat.le_trans HH.out.2.1 hk1)),fA.of0.trans' BF.put⟩
theorem rg19b {s1 s2 s3 s4 s6 s7 s9 s10 s11 s12 s13 s14 s15 s16 s17 s18 s19 s20 s21 s22 s23 s24 s25 s26 s27 s28 s29 s30 s31 s32 s33 s34 s35 s36 s37 s38 s39 s40 s41 s42 s43 s44 s45 s46 s47 s48 s49 s50 s51 s52 s53 s54 s55 s56 s57 s58 s59 s60 s61 s62 s63 s64 s65 s66 s67 s68 s69 s70 s71 s72 s73 s74 s75 s76 s77 s78 s79 s80 s81 s82 s83 s84 s85 s86 s87 s88 s89 s90 s91 s92 s93 s94 s95 s96 s97 s98 s99 ay2 ay1 ay0 ayz ayy ayx ayw ayv : Value} {K : Act → World → Prop} {Q : Exit → Act → World → Prop} (B m bv g n : Nat) (R : Nat → Nat) (M : Bok) (y : Vlt) (w : World) (h : RB B w m R M (.slice (some ⟨g,0,none⟩) n n)) (hB : B ≤ w.heap.size) (ht : n ≤ n) (hl : n ≤ 64) (hv : w.heap[bv]? = some (.cells (aao y).toArray 111 (0,0)))
  (hK : RowKit.Hid (∀ {u87 u88 u89 u90 u91 u92 u93 u94 u95 u96 u97 u98 u99 aCw aCv aCu aCt aCs u105 aCr aCq : Value} {w' : World},(∃ sv',RB B w' m R { M with vs := M.vs.take n ++ y :: M.vs.drop n } sv' ∧ Fr (fun k => k = m) w w') → K ⟨#[.pointer (some ⟨m,0,none⟩),s1,s2,s3,s4,.int .i64 (n : Int),s6,s7,.pointer (some ⟨bv,0,none⟩),s9,s10,s11,s12,s13,s14,s15,s16,s17,s18,s19,s20,s21,s22,s23,s24,s25,s26,s27,s28,s29,s30,s31,s32,s33,s34,s35,s36,s37,s38,s39,s40,s41,s42,s43,s44,s45,s46,s47,s48,s49,s50,s51,s52,s53,s54,s55,s56,s57,s58,s59,s60,s61,s62,s63,s64,s65,s66,s67,s68,s69,s70,s71,s72,s73,s74,s75,s76,s77,s78,s79,s80,s81,s82,s83,s84,s85,s86,u87,u88,u89,u90,u91,u92,u93,u94,u95,u96,u97,u98,u99,aCw,aCv,aCu,aCt,aCs,u105,aCr,aCq],[]⟩ w')) :
  Code.wp Tryz.prog ((((Tryz.f106.body.bind (qc 19)).getD .skip))) (Exit.then K Q) ⟨#[.pointer (some ⟨m,0,none⟩),s1,s2,s3,s4,.int .i64 (n : Int),s6,s7,.pointer (some ⟨bv,0,none⟩),s9,s10,s11,s12,s13,s14,s15,s16,s17,s18,s19,s20,s21,s22,s23,s24,s25,s26,s27,s28,s29,s30,s31,s32,s33,s34,s35,s36,s37,s38,s39,s40,s41,s42,s43,s44,s45,s46,s47,s48,s49,s50,s51,s52,s53,s54,s55,s56,s57,s58,s59,s60,s61,s62,s63,s64,s65,s66,s67,s68,s69,s70,s71,s72,s73,s74,s75,s76,s77,s78,s79,s80,s81,s82,s83,s84,s85,s86,s87,s88,s89,s90,s91,s92,s93,s94,s95,s96,s97,s98,s99,ay2,ay1,ay0,ayz,ayy,ayx,ayw,ayv],[]⟩ w := by
 conv => arg 2; whnf
 have hcn := (Sl.aef h.vs.own).2.room
 have hnl := uj.len h.vs
 have H1 := Lib.hid (fun (W : World) (f : Fr F0 w W) => show (W.cell? ⟨m,531,none⟩ = some (.slice (some ⟨g,0,none⟩) n n) ∧ (gu 111 (.pointer (some ⟨bv,0,none⟩))).run Tryz.prog W = .ok (.agg (aao y).toArray) W) ∧ Fr F0 w W from
  ⟨⟨(h.fr0 f).svc,(ku W _ bv 27 _ Tryz.underlying111 rfl Tryz.szRVault).trans (agz (f.keeps (fun x => x) hv) (by rw [List.size_toArray,qo]))⟩,f⟩)
 have g1 : (n : Int) ≤ (n : Int) := by omega
 have g2 : (n : Int) ≤ (n : Int) := by omega
 have g3 : n ≤ n := by omega
 have g4 : n ≤ 64 := by omega
 have b0 := abw
 have b1 := fun W => ac3 W (aao y).toArray (by rw [List.size_toArray,qo])
 have HH := Lib.hid (And.intro h (And.intro hB (And.intro ht (And.intro hl hnl))))
 have E1 := Lib.hid (fun (k : Nat) (W : World) f o hk hkW => ins1 (W := W) (k := k) (n := n) (E := W) h.vs f o hk hkW ht (by omega))
 clear h hv hB hnl hcn ht hl
 refine avb 21 (F := (fun w' => (w'.cell? ⟨m,531,none⟩ = some (.slice (some ⟨g,0,none⟩) n n) ∧ (gu 111 (.pointer (some ⟨bv,0,none⟩))).run Tryz.prog w' = .ok (.agg (aao y).toArray) w') ∧ Fr F0 w w')) ?_ fun aj => ?_
 ·exact(by ((try dsimp only) <;> (exact H1.out _ (Fr.refl F0 w).drew)))
 refine tu 0 ?_
 refine tu 2 ?_
 refine tu 3 ?_
 refine tu 4 ?_
 refine tu 5 ?_
 refine tu 6 ?_
 refine tu 7 ?_
 refine tu 9 ?_
 refine tu 12 ?_
 refine tu 13 ?_
 refine tu 14 ?_
 refine tu 15 ?_
 refine tu 16 ?_
 refine tu 17 ?_
 refine aik (rs := [1,10]) (by kernel_rfl) (by simp) ?_
 refine af5.cons (o := ⟨_,_,_,_,_,_⟩) rfl (fun K hK => ?_) (af5.cons (o := ⟨_,_,_,_,_,_⟩) rfl (fun K hK => ?_) af5.nil)
 go_simp
 refine hK.out _ _ ?_ (fun aj => ?_)
 ·exact(by ((try dsimp only) <;> (first | exact H1.out _ fA | exact H1.out _ aj.2 | exact H1.out _ (aj.2.alloc _))))
 clear hK K
 try (simp only [Act.put,aST]; dsimp only [aS0,aS1])
 refine aik (rs := [8,10]) (by kernel_rfl) (by simp) ?_
 refine af5.cons (o := ⟨_,_,_,_,_,_⟩) rfl (fun K hK => ?_) (af5.cons (o := ⟨_,_,_,_,_,_⟩) rfl (fun K hK => ?_) af5.nil)
 go_simp
 (first | (obtain ⟨a1,n1,c1,w5,happ,o1,fA,f5⟩ := E1.out _ _ aj.2 (oA w) (Nat.le_refl _) (szE w _); have hk1 : w.heap.size ≤ w.heap.size := Nat.le_refl _; have hk2 : w.heap.size ≤ w5.heap.size := Nat.le_of_lt (Nat.lt_of_lt_of_le (szE w _) f5.size); rw [happ]) | (obtain ⟨a1,n1,c1,w5,happ,o1,fA,f5⟩ := E1.out _ _ aj.2 (oB w _) (Nat.le_refl _) (acr w _ _).1; have hk1 : w.heap.size ≤ w.heap.size := Nat.le_refl _; have hk2 : w.heap.size ≤ w5.heap.size := Nat.le_of_lt (Nat.lt_of_lt_of_le (acr w _ _).1 f5.size); have hb := f5.keeps (show ¬ w.heap.size + 1 = w.heap.size by omega) (vB w _ _ _); rw [happ]) | (obtain ⟨a1,n1,c1,w5,happ,o1,fA,f5⟩ := E1.out _ _ aj.2 (oC w _) (Nat.le_succ _) (acr w _ _).2; have hk1 : w.heap.size ≤ w.heap.size + 1 := Nat.le_succ _; have hk2 : w.heap.size + 1 ≤ w5.heap.size := Nat.le_of_lt (Nat.lt_of_lt_of_le (acr w _ _).2 f5.size); have hb := f5.keeps (show ¬ w.heap.size = w.heap.size + 1 by omega) (vC w _ _ _); rw [happ]); go_simp)
 refine hK.out _ _ ?_ (fun aj => ?_)
 ·exact(by ((try dsimp only) <;> (first | exact H1.out _ fA | exact H1.out _ aj.2 | exact H1.out _ (aj.2.alloc _))))
 clear hK K
 try (simp only [Act.put,aST]; dsimp only [aS0,aS1])
 refine zone 10 fun K hK => ?_
 go_simp
 refine hK.out _ _ ?_ (fun aj => ?_)
 ·exact(by ((try dsimp only) <;> (first | exact H1.out _ fA | exact H1.out _ aj.2 | exact H1.out _ (aj.2.alloc _))))
 clear hK K
 try (simp only [Act.put,aST]; dsimp only [aS0,aS1])
 refine zone 11 fun K hK => ?_
 go_simp
 (first | (obtain ⟨a2,n2,c2,w6,acs,o2,fA,s6⟩ := ak9 (y := y) o1 fA hk1 hk2 hb (by rw [List.length_take]; omega); have hk3 := Nat.le_trans hk2 s6; rw [acs]) | (obtain ⟨a2,n2,c2,w6,acs,o2,fA,s6⟩ := ak9 (y := y) (o1.fr0 ((Fr.refl F0 w5).alloc _)) (fA.alloc _) hk1 (by rw [World.size_alloc]; exact Nat.le_succ_of_le hk2) (heap_alloc_new w5 _) (by rw [List.length_take]; omega); have hk3 := Nat.le_trans hk2 (Nat.le_trans (by rw [World.size_alloc]; exact Nat.le_succ _) s6); rw [acs]); go_simp)
 refine hK.out _ _ ?_ (fun aj => ?_)
 ·exact(by ((try dsimp only) <;> (first | exact H1.out _ fA | exact H1.out _ aj.2 | exact H1.out _ (aj.2.alloc _))))
 clear hK K
 try (simp only [Act.put,aST]; dsimp only [aS0,aS1])
 refine zone 18 fun K hK => ?_
 go_simp
 (obtain ⟨a3,n3,c3,w7,aij,o3,fA⟩ := aF5 (p := 0) HH.out.1.vs o2 fA hk1 hk3 HH.out.2.2.1 (by have := HH.out.2.2.2.1; omega) (by rw [List.length_append,List.length_take]; simp only [List.length_singleton]; omega) (.inr rfl); rw [Nat.sub_self] at aij; rw [show (M.vs.take n ++ [y]) ++ M.vs.drop n = M.vs.take n ++ y :: M.vs.drop n by simp] at o3; have e31 := (HH.out.1.fr0 fA).svc; have z31 := (HH.out.1.fr0 fA).blk.frozen 531; rw [aij]; go_simp)
 refine hK.out _ _ ?_ (fun aj => ?_)
 ·exact(by ((try dsimp only) <;> (first | exact H1.out _ fA | exact H1.out _ aj.2 | exact H1.out _ (aj.2.alloc _))))
 clear hK K
 try (simp only [Act.put,aST]; dsimp only [aS0,aS1])
 refine zone 19 fun K hK => ?_
 go_simp
 refine hK.out _ _ ?_ (fun aj => ?_)
 ·exact(by ((try dsimp only) <;> (first | exact H1.out _ fA | exact H1.out _ aj.2 | exact H1.out _ (aj.2.alloc _))))
 clear hK K
 try (simp only [Act.put,aST]; dsimp only [aS0,aS1])
 refine tu 20 ?_
 refine ajn fun K hK => ?_
 go_simp
 refine hK.out _ _ ?_
 clear hK K
 try (simp only [Act.put,aST]; dsimp only [aS0,aS1])
 refine ajo ?_
 rotate_left
 go_simp
 refine hK.out _ _ ?_ (fun aj => ?_)
 ·exact(by ((try dsimp only) <;> (first | exact H1.out _ fA | exact H1.out _ aj.2 | exact H1.out _ (aj.2.alloc _))))
 clear hK K
 try (simp only [Act.put,aST]; dsimp only [aS0,aS1])
 refine zone 8 fun K hK => ?_
 go_simp
 (first | (obtain ⟨a1,n1,c1,w5,happ,o1,fA,f5⟩ := E1.out _ _ aj.2 (oA w) (Nat.le_refl _) (szE w _); have hk1 : w.heap.size ≤ w.heap.size := Nat.le_refl _; have hk2 : w.heap.size ≤ w5.heap.size := Nat.le_of_lt (Nat.lt_of_lt_of_le (szE w _) f5.size); rw [happ]) | (obtain ⟨a1,n1,c1,w5,happ,o1,fA,f5⟩ := E1.out _ _ aj.2 (oB w _) (Nat.le_refl _) (acr w _ _).1; have hk1 : w.heap.size ≤ w.heap.size := Nat.le_refl _; have hk2 : w.heap.size ≤ w5.heap.size := Nat.le_of_lt (Nat.lt_of_lt_of_le (acr w _ _).1 f5.size); have hb := f5.keeps (show ¬ w.heap.size + 1 = w.heap.size by omega) (vB w _ _ _); rw [happ]) | (obtain ⟨a1,n1,c1,w5,happ,o1,fA,f5⟩ := E1.out _ _ aj.2 (oC w _) (Nat.le_succ _) (acr w _ _).2; have hk1 : w.heap.size ≤ w.heap.size + 1 := Nat.le_succ _; have hk2 : w.heap.size + 1 ≤ w5.heap.size := Nat.le_of_lt (Nat.lt_of_lt_of_le (acr w _ _).2 f5.size); have hb := f5.keeps (show ¬ w.heap.size = w.heap.size + 1 by omega) (vC w _ _ _); rw [happ]); go_simp)
 refine hK.out _ _ ?_ (fun aj => ?_)
 ·exact(by ((try dsimp only) <;> (first | exact H1.out _ fA | exact H1.out _ aj.2 | exact H1.out _ (aj.2.alloc _))))
 clear hK K
 try (simp only [Act.put,aST]; dsimp only [aS0,aS1])
 refine zone 11 fun K hK => ?_
 go_simp
 (first | (obtain ⟨a2,n2,c2,w6,acs,o2,fA,s6⟩ := ak9 (y := y) o1 fA hk1 hk2 hb (by rw [List.length_take]; omega); have hk3 := Nat.le_trans hk2 s6; rw [acs]) | (obtain ⟨a2,n2,c2,w6,acs,o2,fA,s6⟩ := ak9 (y := y) (o1.fr0 ((Fr.refl F0 w5).alloc _)) (fA.alloc _) hk1 (by rw [World.size_alloc]; exact Nat.le_succ_of_le hk2) (heap_alloc_new w5 _) (by rw [List.length_take]; omega); have hk3 := Nat.le_trans hk2 (Nat.le_trans (by rw [World.size_alloc]; exact Nat.le_succ _) s6); rw [acs]); go_simp)
 refine hK.out _ _ ?_ (fun aj => ?_)
 ·exact(by ((try dsimp only) <;> (first | exact H1.out _ fA | exact H1.out _ aj.2 | exact H1.out _ (aj.2.alloc _))))
 clear hK K
 try (simp only [Act.put,aST]; dsimp only [aS0,aS1])
 refine zone 18 fun K hK => ?_
 go_simp
 (obtain ⟨a3,n3,c3,w7,aij,o3,fA⟩ := aF5 (p := 0) HH.out.1.vs o2 fA hk1 hk3 HH.out.2.2.1 (by have := HH.out.2.2.2.1; omega) (by rw [List.length_append,List.length_take]; simp only [List.length_singleton]; omega) (.inr rfl); rw [Nat.sub_self] at aij; rw [show (M.vs.take n ++ [y]) ++ M.vs.drop n = M.vs.take n ++ y :: M.vs.drop n by simp] at o3; have e31 := (HH.out.1.fr0 fA).svc; have z31 := (HH.out.1.fr0 fA).blk.frozen 531; rw [aij]; go_simp)
 refine hK.out _ _ ?_ (fun aj => ?_)
 ·exact(by ((try dsimp only) <;> (first | exact H1.out _ fA | exact H1.out _ aj.2 | exact H1.out _ (aj.2.alloc _))))
 clear hK K
 try (simp only [Act.put,aST]; dsimp only [aS0,aS1])
 refine zone 19 fun K hK => ?_
 go_simp
 refine hK.out _ _ ?_ (fun aj => ?_)
 ·exact(by ((try dsimp only) <;> (first | exact H1.out _ fA | exact H1.out _ aj.2 | exact H1.out _ (aj.2.alloc _))))
 clear hK K
 try (simp only [Act.put,aST]; dsimp only [aS0,aS1])
 refine tu 20 ?_
 refine ajn fun K hK => ?_
 go_simp
 refine hK.out _ _ ?_
 clear hK K
 try (simp only [Act.put,aST]; dsimp only [aS0,aS1])
 refine ajo ?_
 rotate_left
 go_simp
 refine hK.out _ _ ?_ (fun aj => ?_)
 ·exact(by ((try dsimp only) <;> (first | exact H1.out _ fA | exact H1.out _ aj.2 | exact H1.out _ (aj.2.alloc _))))
 clear hK K
 try (simp only [Act.put,aST]; dsimp only [aS0,aS1])
 refine zone 1 fun K hK => ?_
 go_simp
 refine hK.out _ _ ?_ (fun aj => ?_)
 ·exact(by ((try dsimp only) <;> (first | exact H1.out _ fA | exact H1.out _ aj.2 | exact H1.out _ (aj.2.alloc _))))
 clear hK K
 try (simp only [Act.put,aST]; dsimp only [aS0,aS1])
 refine zone 8 fun K hK => ?_
 go_simp
 (first | (obtain ⟨a1,n1,c1,w5,happ,o1,fA,f5⟩ := E1.out _ _ aj.2 (oA w) (Nat.le_refl _) (szE w _); have hk1 : w.heap.size ≤ w.heap.size := Nat.le_refl _; have hk2 : w.heap.size ≤ w5.heap.size := Nat.le_of_lt (Nat.lt_of_lt_of_le (szE w _) f5.size); rw [happ]) | (obtain ⟨a1,n1,c1,w5,happ,o1,fA,f5⟩ := E1.out _ _ aj.2 (oB w _) (Nat.le_refl _) (acr w _ _).1; have hk1 : w.heap.size ≤ w.heap.size := Nat.le_refl _; have hk2 : w.heap.size ≤ w5.heap.size := Nat.le_of_lt (Nat.lt_of_lt_of_le (acr w _ _).1 f5.size); have hb := f5.keeps (show ¬ w.heap.size + 1 = w.heap.size by omega) (vB w _ _ _); rw [happ]) | (obtain ⟨a1,n1,c1,w5,happ,o1,fA,f5⟩ := E1.out _ _ aj.2 (oC w _) (Nat.le_succ _) (acr w _ _).2; have hk1 : w.heap.size ≤ w.heap.size + 1 := Nat.le_succ _; have hk2 : w.heap.size + 1 ≤ w5.heap.size := Nat.le_of_lt (Nat.lt_of_lt_of_le (acr w _ _).2 f5.size); have hb := f5.keeps (show ¬ w.heap.size = w.heap.size + 1 by omega) (vC w _ _ _); rw [happ]); go_simp)
 refine hK.out _ _ ?_ (fun aj => ?_)
 ·exact(by ((try dsimp only) <;> (first | exact H1.out _ fA | exact H1.out _ aj.2 | exact H1.out _ (aj.2.alloc _))))
 clear hK K
 try (simp only [Act.put,aST]; dsimp only [aS0,aS1])
 refine zone 11 fun K hK => ?_
 go_simp
 (first | (obtain ⟨a2,n2,c2,w6,acs,o2,fA,s6⟩ := ak9 (y := y) o1 fA hk1 hk2 hb (by rw [List.length_take]; omega); have hk3 := Nat.le_trans hk2 s6; rw [acs]) | (obtain ⟨a2,n2,c2,w6,acs,o2,fA,s6⟩ := ak9 (y := y) (o1.fr0 ((Fr.refl F0 w5).alloc _)) (fA.alloc _) hk1 (by rw [World.size_alloc]; exact Nat.le_succ_of_le hk2) (heap_alloc_new w5 _) (by rw [List.length_take]; omega); have hk3 := Nat.le_trans hk2 (Nat.le_trans (by rw [World.size_alloc]; exact Nat.le_succ _) s6); rw [acs]); go_simp)
 refine hK.out _ _ ?_ (fun aj => ?_)
 ·exact(by ((try dsimp only) <;> (first | exact H1.out _ fA | exact H1.out _ aj.2 | exact H1.out _ (aj.2.alloc _))))
 clear hK K
 try (simp only [Act.put,aST]; dsimp only [aS0,aS1])
 refine zone 18 fun K hK => ?_
 go_simp
 (obtain ⟨a3,n3,c3,w7,aij,o3,fA⟩ := aF5 (p := 0) HH.out.1.vs o2 fA hk1 hk3 HH.out.2.2.1 (by have := HH.out.2.2.2.1; omega) (by rw [List.length_append,List.length_take]; simp only [List.length_singleton]; omega) (.inr rfl); rw [Nat.sub_self] at aij; rw [show (M.vs.take n ++ [y]) ++ M.vs.drop n = M.vs.take n ++ y :: M.vs.drop n by simp] at o3; have e31 := (HH.out.1.fr0 fA).svc; have z31 := (HH.out.1.fr0 fA).blk.frozen 531; rw [aij]; go_simp)
 refine hK.out _ _ ?_ (fun aj => ?_)
 ·exact(by ((try dsimp only) <;> (first | exact H1.out _ fA | exact H1.out _ aj.2 | exact H1.out _ (aj.2.alloc _))))
 clear hK K
 try (simp only [Act.put,aST]; dsimp only [aS0,aS1])
 refine zone 19 fun K hK => ?_
 go_simp
 refine hK.out _ _ ?_ (fun aj => ?_)
 ·exact(by ((try dsimp only) <;> (first | exact H1.out _ fA | exact H1.out _ aj.2 | exact H1.out _ (aj.2.alloc _))))
 clear hK K
 try (simp only [Act.put,aST]; dsimp only [aS0,aS1])
 refine tu 20 ?_
 refine ajn fun K hK => ?_
 go_simp
 refine hK.out _ _ ?_
 clear hK K
 try (simp only [Act.put,aST]; dsimp only [aS0,aS1])
 refine ajo ?_
 rotate_left
 all_goals exact hK.out ⟨_,(HH.out.1.fr0 fA).aC7 (o3.mono (Nat.le_trans HH.out.2.1 hk1)),fA.of0.trans' BF.put⟩
end
end Go.Proofs.YtohckefafbhooaaGreat
namespace Go.Proofs.YtohckefafbhooaaGreat
set_option linter.unusedVariables false
set_option linter.unusedSimpArgs false
open Go.RowKit
attribute [-go_sem] gq
section
variable {B : Nat} {w w' : World} {m : Nat} {R : Nat → Nat} {M : Bok} {sv : Value}
theorem rg19c {s1 s2 s3 s4 s6 s7 s9 s10 s11 s12 s13 s14 s15 s16 s17 s18 s19 s20 s21 s22 s23 s24 s25 s26 s27 s28 s29 s30 s31 s32 s33 s34 s35 s36 s37 s38 s39 s40 s41 s42 s43 s44 s45 s46 s47 s48 s49 s50 s51 s52 s53 s54 s55 s56 s57 s58 s59 s60 s61 s62 s63 s64 s65 s66 s67 s68 s69 s70 s71 s72 s73 s74 s75 s76 s77 s78 s79 s80 s81 s82 s83 s84 s85 s86 s87 s88 s89 s90 s91 s92 s93 s94 s95 s96 s97 s98 s99 ay2 ay1 ay0 ayz ayy ayx ayw ayv : Value} {K : Act → World → Prop} {Q : Exit → Act → World → Prop} (B m bv : Nat) (R : Nat → Nat) (M : Bok) (y : Vlt) (w : World) (h : RB B w m R M (.slice none 0 0)) (hB : B ≤ w.heap.size) (hvs : M.vs = []) (hv : w.heap[bv]? = some (.cells (aao y).toArray 111 (0,0)))
  (hK : RowKit.Hid (∀ {u87 u88 u89 u90 u91 u92 u93 u94 u95 u96 u97 u98 u99 aCw aCv aCu aCt aCs u105 aCr aCq : Value} {w' : World},(∃ sv',RB B w' m R { M with vs := [y] } sv' ∧ Fr (fun k => k = m) w w') → K ⟨#[.pointer (some ⟨m,0,none⟩),s1,s2,s3,s4,.int .i64 0,s6,s7,.pointer (some ⟨bv,0,none⟩),s9,s10,s11,s12,s13,s14,s15,s16,s17,s18,s19,s20,s21,s22,s23,s24,s25,s26,s27,s28,s29,s30,s31,s32,s33,s34,s35,s36,s37,s38,s39,s40,s41,s42,s43,s44,s45,s46,s47,s48,s49,s50,s51,s52,s53,s54,s55,s56,s57,s58,s59,s60,s61,s62,s63,s64,s65,s66,s67,s68,s69,s70,s71,s72,s73,s74,s75,s76,s77,s78,s79,s80,s81,s82,s83,s84,s85,s86,u87,u88,u89,u90,u91,u92,u93,u94,u95,u96,u97,u98,u99,aCw,aCv,aCu,aCt,aCs,u105,aCr,aCq],[]⟩ w')) :
  Code.wp Tryz.prog ((((Tryz.f106.body.bind (qc 19)).getD .skip))) (Exit.then K Q) ⟨#[.pointer (some ⟨m,0,none⟩),s1,s2,s3,s4,.int .i64 0,s6,s7,.pointer (some ⟨bv,0,none⟩),s9,s10,s11,s12,s13,s14,s15,s16,s17,s18,s19,s20,s21,s22,s23,s24,s25,s26,s27,s28,s29,s30,s31,s32,s33,s34,s35,s36,s37,s38,s39,s40,s41,s42,s43,s44,s45,s46,s47,s48,s49,s50,s51,s52,s53,s54,s55,s56,s57,s58,s59,s60,s61,s62,s63,s64,s65,s66,s67,s68,s69,s70,s71,s72,s73,s74,s75,s76,s77,s78,s79,s80,s81,s82,s83,s84,s85,s86,s87,s88,s89,s90,s91,s92,s93,s94,s95,s96,s97,s98,s99,ay2,ay1,ay0,ayz,ayy,ayx,ayw,ayv],[]⟩ w := by
 conv => arg 2; whnf
 have H1 := Lib.hid (fun (W : World) (f : Fr F0 w W) => show (W.cell? ⟨m,531,none⟩ = some (.slice none 0 0) ∧ (gu 111 (.pointer (some ⟨bv,0,none⟩))).run Tryz.prog W = .ok (.agg (aao y).toArray) W) ∧ Fr F0 w W from
  ⟨⟨(h.fr0 f).svc,(ku W _ bv 27 _ Tryz.underlying111 rfl Tryz.szRVault).trans (agz (f.keeps (fun x => x) hv) (by rw [List.size_toArray,qo]))⟩,f⟩)
 have b0 := abw
 have b1 := fun W => ac3 W (aao y).toArray (by rw [List.size_toArray,qo])
 have HH := Lib.hid (And.intro h hB)
 have E1 := Lib.hid (fun (k : Nat) (W : World) f o hk hkW => ins1 (W := W) (k := k) (t := 0) (E := W) h.vs f o hk hkW (Nat.le_refl _) (by omega))
 have HVS := Lib.hid hvs
 clear h hv hB hvs
 refine avb 21 (F := (fun w' => (w'.cell? ⟨m,531,none⟩ = some (.slice none 0 0) ∧ (gu 111 (.pointer (some ⟨bv,0,none⟩))).run Tryz.prog w' = .ok (.agg (aao y).toArray) w') ∧ Fr F0 w w')) ?_ fun aj => ?_
 ·exact(by ((try dsimp only) <;> (exact H1.out _ (Fr.refl F0 w).drew)))
 refine tu 0 ?_
 refine tu 2 ?_
 refine tu 3 ?_
 refine tu 4 ?_
 refine tu 5 ?_
 refine tu 6 ?_
 refine tu 7 ?_
 refine tu 9 ?_
 refine tu 12 ?_
 refine tu 13 ?_
 refine tu 14 ?_
 refine tu 15 ?_
 refine tu 16 ?_
 refine tu 17 ?_
 refine aik (rs := [1,10]) (by kernel_rfl) (by simp) ?_
 refine af5.cons (o := ⟨_,_,_,_,_,_⟩) rfl (fun K hK => ?_) (af5.cons (o := ⟨_,_,_,_,_,_⟩) rfl (fun K hK => ?_) af5.nil)
 go_simp
 refine hK.out _ _ ?_ (fun aj => ?_)
 ·exact(by ((try dsimp only) <;> (first | exact H1.out _ fA | exact H1.out _ aj.2 | exact H1.out _ (aj.2.alloc _))))
 clear hK K
 try (simp only [Act.put,aST]; dsimp only [aS0,aS1])
 refine aik (rs := [8,10]) (by kernel_rfl) (by simp) ?_
 refine af5.cons (o := ⟨_,_,_,_,_,_⟩) rfl (fun K hK => ?_) (af5.cons (o := ⟨_,_,_,_,_,_⟩) rfl (fun K hK => ?_) af5.nil)
 go_simp
 (first | (obtain ⟨a1,n1,c1,w5,happ,o1,fA,f5⟩ := E1.out _ _ aj.2 (oA w) (Nat.le_refl _) (szE w _); have hk1 : w.heap.size ≤ w.heap.size := Nat.le_refl _; have hk2 : w.heap.size ≤ w5.heap.size := Nat.le_of_lt (Nat.lt_of_lt_of_le (szE w _) f5.size); rw [happ]) | (obtain ⟨a1,n1,c1,w5,happ,o1,fA,f5⟩ := E1.out _ _ aj.2 (oB w _) (Nat.le_refl _) (acr w _ _).1; have hk1 : w.heap.size ≤ w.heap.size := Nat.le_refl _; have hk2 : w.heap.size ≤ w5.heap.size := Nat.le_of_lt (Nat.lt_of_lt_of_le (acr w _ _).1 f5.size); have hb := f5.keeps (show ¬ w.heap.size + 1 = w.heap.size by omega) (vB w _ _ _); rw [happ]) | (obtain ⟨a1,n1,c1,w5,happ,o1,fA,f5⟩ := E1.out _ _ aj.2 (oC w _) (Nat.le_succ _) (acr w _ _).2; have hk1 : w.heap.size ≤ w.heap.size + 1 := Nat.le_succ _; have hk2 : w.heap.size + 1 ≤ w5.heap.size := Nat.le_of_lt (Nat.lt_of_lt_of_le (acr w _ _).2 f5.size); have hb := f5.keeps (show ¬ w.heap.size = w.heap.size + 1 by omega) (vC w _ _ _); rw [happ]); go_simp)
 refine hK.out _ _ ?_ (fun aj => ?_)
 ·exact(by ((try dsimp only) <;> (first | exact H1.out _ fA | exact H1.out _ aj.2 | exact H1.out _ (aj.2.alloc _))))
 clear hK K
 try (simp only [Act.put,aST]; dsimp only [aS0,aS1])
 refine zone 10 fun K hK => ?_
 go_simp
 refine hK.out _ _ ?_ (fun aj => ?_)
 ·exact(by ((try dsimp only) <;> (first | exact H1.out _ fA | exact H1.out _ aj.2 | exact H1.out _ (aj.2.alloc _))))
 clear hK K
 try (simp only [Act.put,aST]; dsimp only [aS0,aS1])
 refine zone 11 fun K hK => ?_
 go_simp
 (first | (obtain ⟨a2,n2,c2,w6,acs,o2,fA,s6⟩ := ak9 (y := y) o1 fA hk1 hk2 hb (by simp); have hk3 := Nat.le_trans hk2 s6; rw [acs]) | (obtain ⟨a2,n2,c2,w6,acs,o2,fA,s6⟩ := ak9 (y := y) (o1.fr0 ((Fr.refl F0 w5).alloc _)) (fA.alloc _) hk1 (by rw [World.size_alloc]; exact Nat.le_succ_of_le hk2) (heap_alloc_new w5 _) (by simp); have hk3 := Nat.le_trans hk2 (Nat.le_trans (by rw [World.size_alloc]; exact Nat.le_succ _) s6); rw [acs]); go_simp)
 refine hK.out _ _ ?_ (fun aj => ?_)
 ·exact(by ((try dsimp only) <;> (first | exact H1.out _ fA | exact H1.out _ aj.2 | exact H1.out _ (aj.2.alloc _))))
 clear hK K
 try (simp only [Act.put,aST]; dsimp only [aS0,aS1])
 refine zone 18 fun K hK => ?_
 go_simp
 (obtain ⟨a3,n3,c3,w7,aij,-,o3,hf3⟩ := acd (m := []) o2 hk3 (by simp) none 0 0 rfl (Sl.nothing _ 27) 45; replace fA := fA.trans hf3 (fun i hi e => by have := o2.blk i e; omega); rw [show (M.vs.take 0 ++ [y]) ++ [] = [y] by simp] at o3; have e31 := (HH.out.1.fr0 fA).svc; have z31 := (HH.out.1.fr0 fA).blk.frozen 531; rw [aij]; go_simp)
 refine hK.out _ _ ?_ (fun aj => ?_)
 ·exact(by ((try dsimp only) <;> (first | exact H1.out _ fA | exact H1.out _ aj.2 | exact H1.out _ (aj.2.alloc _))))
 clear hK K
 try (simp only [Act.put,aST]; dsimp only [aS0,aS1])
 refine zone 19 fun K hK => ?_
 go_simp
 refine hK.out _ _ ?_ (fun aj => ?_)
 ·exact(by ((try dsimp only) <;> (first | exact H1.out _ fA | exact H1.out _ aj.2 | exact H1.out _ (aj.2.alloc _))))
 clear hK K
 try (simp only [Act.put,aST]; dsimp only [aS0,aS1])
 refine tu 20 ?_
 refine ajn fun K hK => ?_
 go_simp
 refine hK.out _ _ ?_
 clear hK K
 try (simp only [Act.put,aST]; dsimp only [aS0,aS1])
 refine ajo ?_
 rotate_left
 go_simp
 refine hK.out _ _ ?_ (fun aj => ?_)
 ·exact(by ((try dsimp only) <;> (first | exact H1.out _ fA | exact H1.out _ aj.2 | exact H1.out _ (aj.2.alloc _))))
 clear hK K
 try (simp only [Act.put,aST]; dsimp only [aS0,aS1])
 refine zone 8 fun K hK => ?_
 go_simp
 (first | (obtain ⟨a1,n1,c1,w5,happ,o1,fA,f5⟩ := E1.out _ _ aj.2 (oA w) (Nat.le_refl _) (szE w _); have hk1 : w.heap.size ≤ w.heap.size := Nat.le_refl _; have hk2 : w.heap.size ≤ w5.heap.size := Nat.le_of_lt (Nat.lt_of_lt_of_le (szE w _) f5.size); rw [happ]) | (obtain ⟨a1,n1,c1,w5,happ,o1,fA,f5⟩ := E1.out _ _ aj.2 (oB w _) (Nat.le_refl _) (acr w _ _).1; have hk1 : w.heap.size ≤ w.heap.size := Nat.le_refl _; have hk2 : w.heap.size ≤ w5.heap.size := Nat.le_of_lt (Nat.lt_of_lt_of_le (acr w _ _).1 f5.size); have hb := f5.keeps (show ¬ w.heap.size + 1 = w.heap.size by omega) (vB w _ _ _); rw [happ]) | (obtain ⟨a1,n1,c1,w5,happ,o1,fA,f5⟩ := E1.out _ _ aj.2 (oC w _) (Nat.le_succ _) (acr w _ _).2; have hk1 : w.heap.size ≤ w.heap.size + 1 := Nat.le_succ _; have hk2 : w.heap.size + 1 ≤ w5.heap.size := Nat.le_of_lt (Nat.lt_of_lt_of_le (acr w _ _).2 f5.size); have hb := f5.keeps (show ¬ w.heap.size = w.heap.size + 1 by omega) (vC w _ _ _); rw [happ]); go_simp)
 refine hK.out _ _ ?_ (fun aj => ?_)
 ·exact(by ((try dsimp only) <;> (first | exact H1.out _ fA | exact H1.out _ aj.2 | exact H1.out _ (aj.2.alloc _))))
 clear hK K
 try (simp only [Act.put,aST]; dsimp only [aS0,aS1])
 refine zone 11 fun K hK => ?_
 go_simp
 (first | (obtain ⟨a2,n2,c2,w6,acs,o2,fA,s6⟩ := ak9 (y := y) o1 fA hk1 hk2 hb (by simp); have hk3 := Nat.le_trans hk2 s6; rw [acs]) | (obtain ⟨a2,n2,c2,w6,acs,o2,fA,s6⟩ := ak9 (y := y) (o1.fr0 ((Fr.refl F0 w5).alloc _)) (fA.alloc _) hk1 (by rw [World.size_alloc]; exact Nat.le_succ_of_le hk2) (heap_alloc_new w5 _) (by simp); have hk3 := Nat.le_trans hk2 (Nat.le_trans (by rw [World.size_alloc]; exact Nat.le_succ _) s6); rw [acs]); go_simp)
 refine hK.out _ _ ?_ (fun aj => ?_)
 ·exact(by ((try dsimp only) <;> (first | exact H1.out _ fA | exact H1.out _ aj.2 | exact H1.out _ (aj.2.alloc _))))
 clear hK K
 try (simp only [Act.put,aST]; dsimp only [aS0,aS1])
 refine zone 18 fun K hK => ?_
 go_simp
 (obtain ⟨a3,n3,c3,w7,aij,-,o3,hf3⟩ := acd (m := []) o2 hk3 (by simp) none 0 0 rfl (Sl.nothing _ 27) 45; replace fA := fA.trans hf3 (fun i hi e => by have := o2.blk i e; omega); rw [show (M.vs.take 0 ++ [y]) ++ [] = [y] by simp] at o3; have e31 := (HH.out.1.fr0 fA).svc; have z31 := (HH.out.1.fr0 fA).blk.frozen 531; rw [aij]; go_simp)
 refine hK.out _ _ ?_ (fun aj => ?_)
 ·exact(by ((try dsimp only) <;> (first | exact H1.out _ fA | exact H1.out _ aj.2 | exact H1.out _ (aj.2.alloc _))))
 clear hK K
 try (simp only [Act.put,aST]; dsimp only [aS0,aS1])
 refine zone 19 fun K hK => ?_
 go_simp
 refine hK.out _ _ ?_ (fun aj => ?_)
 ·exact(by ((try dsimp only) <;> (first | exact H1.out _ fA | exact H1.out _ aj.2 | exact H1.out _ (aj.2.alloc _))))
 clear hK K
 try (simp only [Act.put,aST]; dsimp only [aS0,aS1])
 refine tu 20 ?_
 refine ajn fun K hK => ?_
 go_simp
 refine hK.out _ _ ?_
 clear hK K
 try (simp only [Act.put,aST]; dsimp only [aS0,aS1])
 refine ajo ?_
 rotate_left
 go_simp
 refine hK.out _ _ ?_ (fun aj => ?_)
 ·exact(by ((try dsimp only) <;> (first | exact H1.out _ fA | exact H1.out _ aj.2 | exact H1.out _ (aj.2.alloc _))))
 clear hK K
 try (simp only [Act.put,aST]; dsimp only [aS0,aS1])
 refine zone 1 fun K hK => ?_
 go_simp
 refine hK.out _ _ ?_ (fun aj => ?_)
 ·exact(by ((try dsimp only) <;> (first | exact H1.out _ fA | exact H1.out _ aj.2 | exact H1.out _ (aj.2.alloc _))))
 clear hK K
 try (simp only [Act.put,aST]; dsimp only [aS0,aS1])
 refine zone 8 fun K hK => ?_
 go_simp
 (first | (obtain ⟨a1,n1,c1,w5,happ,o1,fA,f5⟩ := E1.out _ _ aj.2 (oA w) (Nat.le_refl _) (szE w _); have hk1 : w.heap.size ≤ w.heap.size := Nat.le_refl _; have hk2 : w.heap.size ≤ w5.heap.size := Nat.le_of_lt (Nat.lt_of_lt_of_le (szE w _) f5.size); rw [happ]) | (obtain ⟨a1,n1,c1,w5,happ,o1,fA,f5⟩ := E1.out _ _ aj.2 (oB w _) (Nat.le_refl _) (acr w _ _).1; have hk1 : w.heap.size ≤ w.heap.size := Nat.le_refl _; have hk2 : w.heap.size ≤ w5.heap.size := Nat.le_of_lt (Nat.lt_of_lt_of_le (acr w _ _).1 f5.size); have hb := f5.keeps (show ¬ w.heap.size + 1 = w.heap.size by omega) (vB w _ _ _); rw [happ]) | (obtain ⟨a1,n1,c1,w5,happ,o1,fA,f5⟩ := E1.out _ _ aj.2 (oC w _) (Nat.le_succ _) (acr w _ _).2; have hk1 : w.heap.size ≤ w.heap.size + 1 := Nat.le_succ _; have hk2 : w.heap.size + 1 ≤ w5.heap.size := Nat.le_of_lt (Nat.lt_of_lt_of_le (acr w _ _).2 f5.size); have hb := f5.keeps (show ¬ w.heap.size = w.heap.size + 1 by omega) (vC w _ _ _); rw [happ]); go_simp)
 refine hK.out _ _ ?_ (fun aj => ?_)
 ·exact(by ((try dsimp only) <;> (first | exact H1.out _ fA | exact H1.out _ aj.2 | exact H1.out _ (aj.2.alloc _))))
 clear hK K
 try (simp only [Act.put,aST]; dsimp only [aS0,aS1])
 refine zone 11 fun K hK => ?_
 go_simp
 (first | (obtain ⟨a2,n2,c2,w6,acs,o2,fA,s6⟩ := ak9 (y := y) o1 fA hk1 hk2 hb (by simp); have hk3 := Nat.le_trans hk2 s6; rw [acs]) | (obtain ⟨a2,n2,c2,w6,acs,o2,fA,s6⟩ := ak9 (y := y) (o1.fr0 ((Fr.refl F0 w5).alloc _)) (fA.alloc _) hk1 (by rw [World.size_alloc]; exact Nat.le_succ_of_le hk2) (heap_alloc_new w5 _) (by simp); have hk3 := Nat.le_trans hk2 (Nat.le_trans (by rw [World.size_alloc]; exact Nat.le_succ _) s6); rw [acs]); go_simp)
 refine hK.out _ _ ?_ (fun aj => ?_)
 ·exact(by ((try dsimp only) <;> (first | exact H1.out _ fA | exact H1.out _ aj.2 | exact H1.out _ (aj.2.alloc _))))
 clear hK K
 try (simp only [Act.put,aST]; dsimp only [aS0,aS1])
 refine zone 18 fun K hK => ?_
 go_simp
 (obtain ⟨a3,n3,c3,w7,aij,-,o3,hf3⟩ := acd (m := []) o2 hk3 (by simp) none 0 0 rfl (Sl.nothing _ 27) 45; replace fA := fA.trans hf3 (fun i hi e => by have := o2.blk i e; omega); rw [show (M.vs.take 0 ++ [y]) ++ [] = [y] by simp] at o3; have e31 := (HH.out.1.fr0 fA).svc; have z31 := (HH.out.1.fr0 fA).blk.frozen 531; rw [aij]; go_simp)
 refine hK.out _ _ ?_ (fun aj => ?_)
 ·exact(by ((try dsimp only) <;> (first | exact H1.out _ fA | exact H1.out _ aj.2 | exact H1.out _ (aj.2.alloc _))))
 clear hK K
 try (simp only [Act.put,aST]; dsimp only [aS0,aS1])
 refine zone 19 fun K hK => ?_
 go_simp
 refine hK.out _ _ ?_ (fun aj => ?_)
 ·exact(by ((try dsimp only) <;> (first | exact H1.out _ fA | exact H1.out _ aj.2 | exact H1.out _ (aj.2.alloc _))))
 clear hK K
 try (simp only [Act.put,aST]; dsimp only [aS0,aS1])
 refine tu 20 ?_
 refine ajn fun K hK => ?_
 go_simp
 refine hK.out _ _ ?_
 clear hK K
 try (simp only [Act.put,aST]; dsimp only [aS0,aS1])
 refine ajo ?_
 rotate_left
 all_goals exact hK.out ⟨_,(HH.out.1.fr0 fA).aC7 (o3.mono (Nat.le_trans HH.out.2 hk1)),fA.of0.trans' BF.put⟩
end
end Go.Proofs.YtohckefafbhooaaGreat
