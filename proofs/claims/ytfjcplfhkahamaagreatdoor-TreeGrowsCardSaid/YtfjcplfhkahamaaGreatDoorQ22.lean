import Derived.Test.YtfjcplfhkahamaaGreatDoorQ18
import Derived.Test.YtfjcplfhkahamaaGreatDoorQ5
import Derived.Test.YtfjcplfhkahamaaGreatDoorQ11
import Derived.Test.YtfjcplfhkahamaaGreatDoorQ1
import Derived.Deep.Cut
set_option maxRecDepth 100000
set_option maxHeartbeats 64000000
namespace Go.Proofs.YtfjcplfhkahamaaGreatDoor
set_option linter.unusedVariables false
set_option linter.unusedSimpArgs false
open Go.RowKit
structure OwnV (B : Nat) (w : World) (v : Value) (l : List Nat) : Prop where
 own : w.ownsRow 0 22 1 v l.length (l.map U32)
 blk : ∀ k,v.ownBlock = some k → B ≤ k
theorem OwnV.vs {B : Nat} {w : World} {a : Option Addr} {n c : Nat} {l : List Nat} (h : OwnV B w (.slice a n c) l) : n = l.length ∧ Vs w a c l := by
 obtain ⟨rfl,hs⟩ := Sl.of_own h.own
 exact ⟨rfl,hs⟩
theorem own_frV {S : Nat → Prop} {w w' : World} {base e size n : Nat} {v : Value} {xs : List Value} (h : w.ownsRow base e size v n xs) (hf : Fr S w w') (hs : ∀ k,v.ownBlock = some k → ¬ S k) : w'.ownsRow base e size v n xs := by
 refine ⟨h.1,?_⟩
 rcases h.2 with hn | ⟨g,cap,cur,rfl,hb,hg,r⟩
 ·exact .inl hn
 ·exact .inr ⟨g,cap,cur,rfl,hb,hf.keeps (hs g rfl) hg,r⟩
theorem OwnV.fr0 {B : Nat} {w w' : World} {v : Value} {l : List Nat} (h : OwnV B w v l) (f : Fr F0 w w') : OwnV B w' v l := ⟨own_frV h.own f fun _ _ e => e,h.blk⟩
theorem OwnV.mono {B B' : Nat} {w : World} {v : Value} {l : List Nat} (h : OwnV B w v l) (hb : B' ≤ B) : OwnV B' w v l := ⟨h.own,fun k hk => Nat.le_trans hb (h.blk k hk)⟩
theorem OwnV.new0 (w : World) : OwnV w.heap.size (w.alloc (.cells #[] 22)) (.slice (some ⟨w.heap.size,0,none⟩) 0 0) [] := ⟨World.ownsRow_made w #[] 0 (Nat.zero_le _) (Nat.zero_le _) rfl,fun k hk => by cases hk; exact Nat.le_refl _⟩
theorem Vs.frx {S : Nat → Prop} {w w' : World} {a : Option Addr} {c : Nat} {l : List Nat} (h : Vs w a c l) (f : Fr S w w') (hs : ∀ k,ablk a = some k → ¬ S k) : Vs w' a c l := Sl.fr h f hs
theorem Vs.sing (w : World) (x : Nat) : Vs (w.alloc (.cells #[.int .u32 (x : Int)] 22)) (some ⟨w.heap.size,0,none⟩) 1 [x] := Vs.of_list w [x] 22 (by simp)
theorem Vs.take {w : World} {a : Option Addr} {c : Nat} {l : List Nat} (h : Vs w a c l) (n : Nat) (hn : n ≤ l.length) : Vs w a c (l.take n) := by
 refine ⟨by simp,?_,h.most,h.nil,fun j u hj => ?_⟩
 ·have := h.room
  rw [List.length_take]; omega
 ·refine h.cell j u ?_
  rw [List.getElem?_map,List.getElem?_take] at hj
  split at hj
  ·rw [List.getElem?_map]; exact hj
  ·simp at hj
theorem Vs.dropC {w : World} {a : Option Addr} {c : Nat} {l : List Nat} (h : Vs w a c l) (n : Nat) (hn : n ≤ l.length) : Vs w (cutA a c n 1) (c - n) (l.drop n) := by
 have hr := h.room
 refine ⟨by simp,by rw [List.length_drop]; omega,by have := h.most; omega,fun e => ?_,fun j u hj => ?_⟩
 ·unfold cutA at e
  split at e
  ·omega
  ·cases a with
   |none => have := h.nil rfl; omega
   |some a => cases e
 ·rw [List.getElem?_map,List.getElem?_drop,← List.getElem?_map] at hj
  obtain ⟨b,off,rfl,hc⟩ := h.cell (n + j) u hj
  have hl := (List.getElem?_eq_some_iff.1 hj).1
  rw [List.length_map] at hl
  refine ⟨b,off + n,?_,by rw [Nat.add_assoc]; exact hc⟩
  unfold cutA
  rw [if_neg (by omega),Nat.mul_one]
  simp [Addr.add]
theorem Vs.get {w : World} {a : Option Addr} {c : Nat} {l : List Nat} (h : Vs w a c l) (j : Nat) (hj : j < l.length) : ∃ b off,a = some ⟨b,off,none⟩ ∧ Obj.cellAt (off + j) w.heap[b]? = some (.int .u32 ((l.getD j 0 : Nat) : Int)) := by
 obtain ⟨b,off,e,hc⟩ := h.cell j (U32 (l.getD j 0)) (by simp [List.getElem?_map,List.getElem?_eq_getElem hj,List.getD])
 exact ⟨b,off,e,by rw [← cell_at]; exact hc⟩
def appV (t ty : TypeId) (args : Array Value) : Sem Value := Builtin.append_ #[t,t] ty args
@[go_sem ↓ high] theorem app_V1 (ty : TypeId) (args : Array Value) : Builtin.append_ #[124,124] ty args = appV 124 ty args := rfl
theorem OwnV.appVs {B : Nat} {w : World} {v : Value} {l l2 : List Nat} (h : OwnV B w v l) {a2 : Option Addr} {c2 : Nat} (n2 : Nat) (h2 : Vs w a2 c2 l2) (hn : n2 = l2.length) (hB : B ≤ w.heap.size) (hl : l.length ≤ 100000) (hl2 : l2.length ≤ 100000) (ty : TypeId) :
  ∃ a c w',(appV 124 ty #[v,.slice a2 n2 c2]).run Tryz.prog w = .ok (.slice a (l.length + l2.length) c) w' ∧ OwnV B w' (.slice a (l.length + l2.length) c) (l ++ l2) ∧
   Fr (fun k => v.ownBlock = some k) w w' ∧ ∀ k,ablk a = some k → v.ownBlock = some k ∨ w.heap.size ≤ k := by
 subst hn
 obtain ⟨i0,hi,hz,hs,hb⟩ := info_parts Tryz.infoU32
 obtain ⟨v',w',hrun,hown,hg,hnw⟩ := run_app (P := Tryz.prog) (w := w) 124 ty 22 i0 _ 1 4 Tryz.underlying124 hi hz hs hb rfl (by omega) v l.length _ h.own a2 c2 l2.length (l2.map U32) h2
  Vs.one (by unfold maxLen; omega) (by omega)
 obtain ⟨a,c,rfl⟩ := own_slice hown
 have F : Fr (fun k => v.ownBlock = some k) w w' := ((Fr.refl F0 w).of0).grown hg fun k hk hl => hk
 have hnw' : ∀ k,ablk a = some k → v.ownBlock = some k ∨ w.heap.size ≤ k := fun k hk => hnw k (by rw [ablk_own]; exact hk)
 refine ⟨a,c,w',hrun,⟨by rw [List.length_append,List.map_append]; exact hown,fun k hk => ?_⟩,F,hnw'⟩
 rw [ablk_own] at hk
 rcases hnw' k hk with e | e
 ·exact h.blk k e
 ·omega
theorem nh_app {W W1 : World} {a : Option Addr} {c m n : Nat} {l l0 : List Nat} {v0 : Value} (F : Fr F0 W W1) (ho : OwnV W.heap.size W1 v0 l0) (hs : Vs W1 a c l) (hm : m = l.length) (hl : l.length ≤ 1000) (hl0 : l0.length ≤ 1000) (hn : n = l0.length + l.length) :
  ∃ a1 c1 w1,(appV 124 124 #[v0,.slice a m c]).run Tryz.prog W1 = .ok (.slice a1 n c1) w1 ∧ OwnV W.heap.size w1 (.slice a1 n c1) (l0 ++ l) ∧ Fr F0 W w1 ∧ Fr (fun k => v0.ownBlock = some k) W1 w1 := by
 obtain ⟨a1,c1,w1,h1,h2,h3,h4⟩ := ho.appVs m hs hm F.size (by omega) (by omega) 124
 rw [← hn] at h1 h2
 exact ⟨a1,c1,w1,h1,h2,F.trans h3 (fun i hi e => by have := ho.blk i e; omega),h3⟩
theorem nm7 {s2 s3 s4 s7 s8 s9 s10 s11 s12 s13 s14 s15 s16 s17 s18 s19 s20 s21 s22 s23 s24 s25 s26 s27 s28 s29 s30 s31 s32 s33 s34 s35 s36 s37 s38 s39 s40 s41 s42 s43 s44 s45 s46 s47 s48 s49 s50 s51 s52 s53 s54 s55 s56 s57 s58 s59 s60 s61 s62 s63 s64 s65 s66 s67 s68 : Value} {K : Act → World → Prop} {Q : Exit → Act → World → Prop} (w : World) (l : List Nat) (n k c g off p bi oi cL nL i x : Nat) (tree : Array Value) (hs : Vs w (some ⟨g,off,none⟩) c l) (hn : n = l.length) (hl : l.length ≤ 500) (hk : k ≤ n) (hi : (i : Int) < (nL : Int)) (hnL : nL ≤ 100000) (hT : RowKit.Hid (∀ W,Fr F0 w W → W.heap[p]? = some (.cells #[.slice (some ⟨bi,oi,none⟩) nL cL,tree[0]!,tree[1]!,tree[2]!] 43 (0,0)) ∧ Obj.cellAt (oi + i * 36 + 33) W.heap[bi]? = some (.int .u32 (x : Int))))
  (hK : RowKit.Hid (∀ {u5 u44 u45 u46 u47 u48 u49 u50 u51 u52 u53 u54 u55 u56 u57 u58 u59 u60 u61 u62 : Value} {w' : World},((∃ a' c',u5 = .slice a' (n + 1) c' ∧ Vs w' a' c' (l.take k ++ [x] ++ l.drop k)) ∧ Fr F0 w w') → K ⟨#[.pointer (some ⟨p,0,none⟩),.int .i64 (i : Int),s2,s3,s4,u5,.int .i64 (k : Int),s7,s8,s9,s10,s11,s12,s13,s14,s15,s16,s17,s18,s19,s20,s21,s22,s23,s24,s25,s26,s27,s28,s29,s30,s31,s32,s33,s34,s35,s36,s37,s38,s39,s40,s41,s42,s43,u44,u45,u46,u47,u48,u49,u50,u51,u52,u53,u54,u55,u56,u57,u58,u59,u60,u61,u62,s63,s64,s65,s66,s67,s68],[]⟩ w')) :
  Code.wp Tryz.prog ((Tryz.f43.body.bind (findRegion 7)).getD .skip) (Exit.then K Q) ⟨#[.pointer (some ⟨p,0,none⟩),.int .i64 (i : Int),s2,s3,s4,.slice (some ⟨g,off,none⟩) n c,.int .i64 (k : Int),s7,s8,s9,s10,s11,s12,s13,s14,s15,s16,s17,s18,s19,s20,s21,s22,s23,s24,s25,s26,s27,s28,s29,s30,s31,s32,s33,s34,s35,s36,s37,s38,s39,s40,s41,s42,s43,s44,s45,s46,s47,s48,s49,s50,s51,s52,s53,s54,s55,s56,s57,s58,s59,s60,s61,s62,s63,s64,s65,s66,s67,s68],[]⟩ w := by
 conv => arg 2; whnf
 have hkl : k ≤ l.length := by omega
 have hA := hs.take k hkl
 have hB := hs.dropC k hkl
 have e1 : k = (l.take k).length := by rw [List.length_take]; omega
 have e2 : n - k = (l.drop k).length := by rw [List.length_drop]; omega
 have e3 : (l.take k).length ≤ 500 := by omega
 have e4 : (l.drop k).length ≤ 500 := by omega
 have hroom := hs.room
 have f1 : Fr F0 w (w.alloc (.cells #[] 22)).drew := ((Fr.refl F0 w).alloc _).drew
 have f2 : Fr F0 w ((w.alloc (.cells #[] 22)).alloc (.cells #[.int .u32 (x : Int)] 22)).drew := (((Fr.refl F0 w).alloc _).alloc _).drew
 have f3 : Fr F0 w ((w.alloc (.cells #[.int .u32 (x : Int)] 22)).alloc (.cells #[] 22)).drew := (((Fr.refl F0 w).alloc _).alloc _).drew
 have o0 := OwnV.new0 w
 obtain ⟨a1,c1,w1,h1a,o1,g1,e5⟩ := nh_app (n := k) f1 (o0.fr0 (Fr.refl F0 _).drew) (hA.fr f1) e1 (by omega) (by simp) (by simpa using e1)
 obtain ⟨a1',c1',w1',h1b,s1,g1',e5'⟩ := nh_app (m := 1) (n := k + 1) (g1.alloc _) (o1.fr0 ((Fr.refl F0 _).alloc _)) (Vs.sing w1 x) rfl (by simp) (by simp; omega) (by simp; omega)
 obtain ⟨a1'',c1'',w1'',h1c,s1',g1'',_⟩ := nh_app (n := k + 1 + (n - k)) g1' s1 (hB.fr g1') e2 (by omega) (by simp; omega) (by simp; omega)
 obtain ⟨a2,c2,w2,h2a,o2,g2,e6⟩ := nh_app (n := k) f2 (o0.fr0 ((Fr.refl F0 _).alloc _).drew) (hA.fr f2) e1 (by omega) (by simp) (by simpa using e1)
 have x2 : Vs w2 (some ⟨w.heap.size + 1,0,none⟩) 1 [x] := by
  have := (Vs.sing (w.alloc (.cells #[] 22)) x).fr (Fr.refl F0 _).drew
  rw [World.size_alloc] at this
  exact this.frx e6 (fun k hk e => by have h1 : w.heap.size + 1 = k := Option.some.inj hk; have h2 : w.heap.size = k := Option.some.inj e; omega)
 obtain ⟨a2',c2',w2',h2b,s2,g2',_⟩ := nh_app (m := 1) (n := k + 1) g2 o2 x2 rfl (by simp) (by simp; omega) (by simp; omega)
 obtain ⟨a2'',c2'',w2'',h2c,s2',g2'',_⟩ := nh_app (n := k + 1 + (n - k)) g2' s2 (hB.fr g2') e2 (by omega) (by simp; omega) (by simp; omega)
 have o3 : OwnV w.heap.size (w.alloc (.cells #[.int .u32 (x : Int)] 22) |>.alloc (.cells #[] 22)).drew (.slice (some ⟨w.heap.size + 1,0,none⟩) 0 0) [] := by
  have := (OwnV.new0 (w.alloc (.cells #[.int .u32 (x : Int)] 22))).fr0 (Fr.refl F0 _).drew
  rw [World.size_alloc] at this
  exact this.mono (by omega)
 obtain ⟨a3,c3,w3,h3a,o3',g3,e7⟩ := nh_app (n := k) f3 o3 (hA.fr f3) e1 (by omega) (by simp) (by simpa using e1)
 have x3 : Vs w3 (some ⟨w.heap.size,0,none⟩) 1 [x] :=
  ((Vs.sing w x).fr ((Fr.refl F0 _).alloc _).drew).frx e7 (fun k hk e => by have h1 : w.heap.size = k := Option.some.inj hk; have h2 : w.heap.size + 1 = k := Option.some.inj e; omega)
 obtain ⟨a3',c3',w3',h3b,s3,g3',_⟩ := nh_app (m := 1) (n := k + 1) g3 o3' x3 rfl (by simp) (by simp; omega) (by simp; omega)
 obtain ⟨a3'',c3'',w3'',h3c,s3',g3'',_⟩ := nh_app (n := k + 1 + (n - k)) g3' s3 (hB.fr g3') e2 (by omega) (by simp; omega) (by simp; omega)
 have en : k + 1 + (n - k) = n + 1 := by omega
 rw [en] at h1c h2c h3c s1' s2' s3'
 have HR1 := Lib.hid (And.intro s1'.vs.2 g1'')
 have HR2 := Lib.hid (And.intro s2'.vs.2 g2'')
 have HR3 := Lib.hid (And.intro s3'.vs.2 g3'')
 have G1 := Lib.hid (And.intro g1 g1')
 have G2 := Lib.hid (And.intro g2 g2')
 have G3 := Lib.hid (And.intro g3 g3')
 have lk : (k : Int) ≤ (n : Int) := by omega
 have lk2 : (k : Int) ≤ (c : Int) := by omega
 have lk3 : k ≤ n := hk
 have lk4 : k ≤ c := by omega
 have li : i < nL := by omega
 clear e5 e6 e7 e5' o1 o2 o3 o3' x2 x3 s1 s2 s3 s1' s2' s3' o0 f1 f2 f3 hs hA hB e1 e2 e3 e4 hn hl hk en hkl hroom g1 g2 g3 g1' g2' g3' g1'' g2'' g3''
 refine rbegin (S := (fun w' => (w'.heap[p]? = some (.cells #[.slice (some ⟨bi,oi,none⟩) nL cL,tree[0]!,tree[1]!,tree[2]!] 43 (0,0)) ∧ Obj.cellAt (oi + i * 36 + 33) w'.heap[bi]? = some (.int .u32 (x : Int))) ∧ Fr F0 w w')) ?_ fun hHeld => ?_
 ·((try dsimp only) <;> (exact ⟨hT.out _ (Fr.refl F0 w).drew,(Fr.refl F0 w).drew⟩))
 refine rtake 1 ?_
 refine rtake 2 ?_
 refine rtake 3 ?_
 refine rtake 5 ?_
 refine rtake 6 ?_
 refine rtake 7 ?_
 refine rtake 8 ?_
 refine rtake 9 ?_
 refine rtake 10 ?_
 refine rtake 11 ?_
 refine rtake 12 ?_
 refine rtake 15 ?_
 refine rtake 16 ?_
 refine rtake 17 ?_
 refine wpAnyH_ready (rs := [0,13]) (by kernel_rfl) (by simp) ?_
 refine AllReadyH.cons (o := ⟨_,_,_,_,_,_⟩) rfl (fun K hK => ?_) (AllReadyH.cons (o := ⟨_,_,_,_,_,_⟩) rfl (fun K hK => ?_) AllReadyH.nil)
 go_simp
 refine hK.out _ _ ?_ (fun hHeld => ?_)
 ·((try dsimp only) <;> (first | exact hHeld | exact ⟨hT.out _ (hHeld.2.alloc _),hHeld.2.alloc _⟩ | exact ⟨hT.out _ G1.out.1,G1.out.1⟩ | exact ⟨hT.out _ G2.out.1,G2.out.1⟩ | exact ⟨hT.out _ G3.out.1,G3.out.1⟩ | exact ⟨hT.out _ G1.out.2,G1.out.2⟩ | exact ⟨hT.out _ G2.out.2,G2.out.2⟩ | exact ⟨hT.out _ G3.out.2,G3.out.2⟩ | exact ⟨hT.out _ HR1.out.2,HR1.out.2⟩ | exact ⟨hT.out _ HR2.out.2,HR2.out.2⟩ | exact ⟨hT.out _ HR3.out.2,HR3.out.2⟩))
 clear hK K
 try (simp only [Act.put,aST]; dsimp only [aS0,aS1])
 refine wpAnyH_ready (rs := [4,13]) (by kernel_rfl) (by simp) ?_
 refine AllReadyH.cons (o := ⟨_,_,_,_,_,_⟩) rfl (fun K hK => ?_) (AllReadyH.cons (o := ⟨_,_,_,_,_,_⟩) rfl (fun K hK => ?_) AllReadyH.nil)
 go_simp
 refine hK.out _ _ ?_ (fun hHeld => ?_)
 ·((try dsimp only) <;> (first | exact hHeld | exact ⟨hT.out _ (hHeld.2.alloc _),hHeld.2.alloc _⟩ | exact ⟨hT.out _ G1.out.1,G1.out.1⟩ | exact ⟨hT.out _ G2.out.1,G2.out.1⟩ | exact ⟨hT.out _ G3.out.1,G3.out.1⟩ | exact ⟨hT.out _ G1.out.2,G1.out.2⟩ | exact ⟨hT.out _ G2.out.2,G2.out.2⟩ | exact ⟨hT.out _ G3.out.2,G3.out.2⟩ | exact ⟨hT.out _ HR1.out.2,HR1.out.2⟩ | exact ⟨hT.out _ HR2.out.2,HR2.out.2⟩ | exact ⟨hT.out _ HR3.out.2,HR3.out.2⟩))
 clear hK K
 try (simp only [Act.put,aST]; dsimp only [aS0,aS1])
 refine rone 13 fun K hK => ?_
 go_simp
 refine hK.out _ _ ?_ (fun hHeld => ?_)
 ·((try dsimp only) <;> (first | exact hHeld | exact ⟨hT.out _ (hHeld.2.alloc _),hHeld.2.alloc _⟩ | exact ⟨hT.out _ G1.out.1,G1.out.1⟩ | exact ⟨hT.out _ G2.out.1,G2.out.1⟩ | exact ⟨hT.out _ G3.out.1,G3.out.1⟩ | exact ⟨hT.out _ G1.out.2,G1.out.2⟩ | exact ⟨hT.out _ G2.out.2,G2.out.2⟩ | exact ⟨hT.out _ G3.out.2,G3.out.2⟩ | exact ⟨hT.out _ HR1.out.2,HR1.out.2⟩ | exact ⟨hT.out _ HR2.out.2,HR2.out.2⟩ | exact ⟨hT.out _ HR3.out.2,HR3.out.2⟩))
 clear hK K
 try (simp only [Act.put,aST]; dsimp only [aS0,aS1])
 refine rone 14 fun K hK => ?_
 go_simp
 refine hK.out _ _ ?_ (fun hHeld => ?_)
 ·((try dsimp only) <;> (first | exact hHeld | exact ⟨hT.out _ (hHeld.2.alloc _),hHeld.2.alloc _⟩ | exact ⟨hT.out _ G1.out.1,G1.out.1⟩ | exact ⟨hT.out _ G2.out.1,G2.out.1⟩ | exact ⟨hT.out _ G3.out.1,G3.out.1⟩ | exact ⟨hT.out _ G1.out.2,G1.out.2⟩ | exact ⟨hT.out _ G2.out.2,G2.out.2⟩ | exact ⟨hT.out _ G3.out.2,G3.out.2⟩ | exact ⟨hT.out _ HR1.out.2,HR1.out.2⟩ | exact ⟨hT.out _ HR2.out.2,HR2.out.2⟩ | exact ⟨hT.out _ HR3.out.2,HR3.out.2⟩))
 clear hK K
 try (simp only [Act.put,aST]; dsimp only [aS0,aS1])
 refine rone 18 fun K hK => ?_
 go_simp
 refine hK.out _ _ ?_ (fun hHeld => ?_)
 ·((try dsimp only) <;> (first | exact hHeld | exact ⟨hT.out _ (hHeld.2.alloc _),hHeld.2.alloc _⟩ | exact ⟨hT.out _ G1.out.1,G1.out.1⟩ | exact ⟨hT.out _ G2.out.1,G2.out.1⟩ | exact ⟨hT.out _ G3.out.1,G3.out.1⟩ | exact ⟨hT.out _ G1.out.2,G1.out.2⟩ | exact ⟨hT.out _ G2.out.2,G2.out.2⟩ | exact ⟨hT.out _ G3.out.2,G3.out.2⟩ | exact ⟨hT.out _ HR1.out.2,HR1.out.2⟩ | exact ⟨hT.out _ HR2.out.2,HR2.out.2⟩ | exact ⟨hT.out _ HR3.out.2,HR3.out.2⟩))
 clear hK K
 try (simp only [Act.put,aST]; dsimp only [aS0,aS1])
 refine rtake 19 ?_
 refine rdone ?_
 rotate_left
 go_simp
 refine hK.out _ _ ?_ (fun hHeld => ?_)
 ·((try dsimp only) <;> (first | exact hHeld | exact ⟨hT.out _ (hHeld.2.alloc _),hHeld.2.alloc _⟩ | exact ⟨hT.out _ G1.out.1,G1.out.1⟩ | exact ⟨hT.out _ G2.out.1,G2.out.1⟩ | exact ⟨hT.out _ G3.out.1,G3.out.1⟩ | exact ⟨hT.out _ G1.out.2,G1.out.2⟩ | exact ⟨hT.out _ G2.out.2,G2.out.2⟩ | exact ⟨hT.out _ G3.out.2,G3.out.2⟩ | exact ⟨hT.out _ HR1.out.2,HR1.out.2⟩ | exact ⟨hT.out _ HR2.out.2,HR2.out.2⟩ | exact ⟨hT.out _ HR3.out.2,HR3.out.2⟩))
 clear hK K
 try (simp only [Act.put,aST]; dsimp only [aS0,aS1])
 refine rone 4 fun K hK => ?_
 go_simp
 refine hK.out _ _ ?_ (fun hHeld => ?_)
 ·((try dsimp only) <;> (first | exact hHeld | exact ⟨hT.out _ (hHeld.2.alloc _),hHeld.2.alloc _⟩ | exact ⟨hT.out _ G1.out.1,G1.out.1⟩ | exact ⟨hT.out _ G2.out.1,G2.out.1⟩ | exact ⟨hT.out _ G3.out.1,G3.out.1⟩ | exact ⟨hT.out _ G1.out.2,G1.out.2⟩ | exact ⟨hT.out _ G2.out.2,G2.out.2⟩ | exact ⟨hT.out _ G3.out.2,G3.out.2⟩ | exact ⟨hT.out _ HR1.out.2,HR1.out.2⟩ | exact ⟨hT.out _ HR2.out.2,HR2.out.2⟩ | exact ⟨hT.out _ HR3.out.2,HR3.out.2⟩))
 clear hK K
 try (simp only [Act.put,aST]; dsimp only [aS0,aS1])
 refine rone 14 fun K hK => ?_
 go_simp
 refine hK.out _ _ ?_ (fun hHeld => ?_)
 ·((try dsimp only) <;> (first | exact hHeld | exact ⟨hT.out _ (hHeld.2.alloc _),hHeld.2.alloc _⟩ | exact ⟨hT.out _ G1.out.1,G1.out.1⟩ | exact ⟨hT.out _ G2.out.1,G2.out.1⟩ | exact ⟨hT.out _ G3.out.1,G3.out.1⟩ | exact ⟨hT.out _ G1.out.2,G1.out.2⟩ | exact ⟨hT.out _ G2.out.2,G2.out.2⟩ | exact ⟨hT.out _ G3.out.2,G3.out.2⟩ | exact ⟨hT.out _ HR1.out.2,HR1.out.2⟩ | exact ⟨hT.out _ HR2.out.2,HR2.out.2⟩ | exact ⟨hT.out _ HR3.out.2,HR3.out.2⟩))
 clear hK K
 try (simp only [Act.put,aST]; dsimp only [aS0,aS1])
 refine rone 18 fun K hK => ?_
 go_simp
 refine hK.out _ _ ?_ (fun hHeld => ?_)
 ·((try dsimp only) <;> (first | exact hHeld | exact ⟨hT.out _ (hHeld.2.alloc _),hHeld.2.alloc _⟩ | exact ⟨hT.out _ G1.out.1,G1.out.1⟩ | exact ⟨hT.out _ G2.out.1,G2.out.1⟩ | exact ⟨hT.out _ G3.out.1,G3.out.1⟩ | exact ⟨hT.out _ G1.out.2,G1.out.2⟩ | exact ⟨hT.out _ G2.out.2,G2.out.2⟩ | exact ⟨hT.out _ G3.out.2,G3.out.2⟩ | exact ⟨hT.out _ HR1.out.2,HR1.out.2⟩ | exact ⟨hT.out _ HR2.out.2,HR2.out.2⟩ | exact ⟨hT.out _ HR3.out.2,HR3.out.2⟩))
 clear hK K
 try (simp only [Act.put,aST]; dsimp only [aS0,aS1])
 refine rtake 19 ?_
 refine rdone ?_
 rotate_left
 go_simp
 refine hK.out _ _ ?_ (fun hHeld => ?_)
 ·((try dsimp only) <;> (first | exact hHeld | exact ⟨hT.out _ (hHeld.2.alloc _),hHeld.2.alloc _⟩ | exact ⟨hT.out _ G1.out.1,G1.out.1⟩ | exact ⟨hT.out _ G2.out.1,G2.out.1⟩ | exact ⟨hT.out _ G3.out.1,G3.out.1⟩ | exact ⟨hT.out _ G1.out.2,G1.out.2⟩ | exact ⟨hT.out _ G2.out.2,G2.out.2⟩ | exact ⟨hT.out _ G3.out.2,G3.out.2⟩ | exact ⟨hT.out _ HR1.out.2,HR1.out.2⟩ | exact ⟨hT.out _ HR2.out.2,HR2.out.2⟩ | exact ⟨hT.out _ HR3.out.2,HR3.out.2⟩))
 clear hK K
 try (simp only [Act.put,aST]; dsimp only [aS0,aS1])
 refine rone 0 fun K hK => ?_
 go_simp
 refine hK.out _ _ ?_ (fun hHeld => ?_)
 ·((try dsimp only) <;> (first | exact hHeld | exact ⟨hT.out _ (hHeld.2.alloc _),hHeld.2.alloc _⟩ | exact ⟨hT.out _ G1.out.1,G1.out.1⟩ | exact ⟨hT.out _ G2.out.1,G2.out.1⟩ | exact ⟨hT.out _ G3.out.1,G3.out.1⟩ | exact ⟨hT.out _ G1.out.2,G1.out.2⟩ | exact ⟨hT.out _ G2.out.2,G2.out.2⟩ | exact ⟨hT.out _ G3.out.2,G3.out.2⟩ | exact ⟨hT.out _ HR1.out.2,HR1.out.2⟩ | exact ⟨hT.out _ HR2.out.2,HR2.out.2⟩ | exact ⟨hT.out _ HR3.out.2,HR3.out.2⟩))
 clear hK K
 try (simp only [Act.put,aST]; dsimp only [aS0,aS1])
 refine rone 4 fun K hK => ?_
 go_simp
 refine hK.out _ _ ?_ (fun hHeld => ?_)
 ·((try dsimp only) <;> (first | exact hHeld | exact ⟨hT.out _ (hHeld.2.alloc _),hHeld.2.alloc _⟩ | exact ⟨hT.out _ G1.out.1,G1.out.1⟩ | exact ⟨hT.out _ G2.out.1,G2.out.1⟩ | exact ⟨hT.out _ G3.out.1,G3.out.1⟩ | exact ⟨hT.out _ G1.out.2,G1.out.2⟩ | exact ⟨hT.out _ G2.out.2,G2.out.2⟩ | exact ⟨hT.out _ G3.out.2,G3.out.2⟩ | exact ⟨hT.out _ HR1.out.2,HR1.out.2⟩ | exact ⟨hT.out _ HR2.out.2,HR2.out.2⟩ | exact ⟨hT.out _ HR3.out.2,HR3.out.2⟩))
 clear hK K
 try (simp only [Act.put,aST]; dsimp only [aS0,aS1])
 refine rone 14 fun K hK => ?_
 go_simp
 refine hK.out _ _ ?_ (fun hHeld => ?_)
 ·((try dsimp only) <;> (first | exact hHeld | exact ⟨hT.out _ (hHeld.2.alloc _),hHeld.2.alloc _⟩ | exact ⟨hT.out _ G1.out.1,G1.out.1⟩ | exact ⟨hT.out _ G2.out.1,G2.out.1⟩ | exact ⟨hT.out _ G3.out.1,G3.out.1⟩ | exact ⟨hT.out _ G1.out.2,G1.out.2⟩ | exact ⟨hT.out _ G2.out.2,G2.out.2⟩ | exact ⟨hT.out _ G3.out.2,G3.out.2⟩ | exact ⟨hT.out _ HR1.out.2,HR1.out.2⟩ | exact ⟨hT.out _ HR2.out.2,HR2.out.2⟩ | exact ⟨hT.out _ HR3.out.2,HR3.out.2⟩))
 clear hK K
 try (simp only [Act.put,aST]; dsimp only [aS0,aS1])
 refine rone 18 fun K hK => ?_
 go_simp
 refine hK.out _ _ ?_ (fun hHeld => ?_)
 ·((try dsimp only) <;> (first | exact hHeld | exact ⟨hT.out _ (hHeld.2.alloc _),hHeld.2.alloc _⟩ | exact ⟨hT.out _ G1.out.1,G1.out.1⟩ | exact ⟨hT.out _ G2.out.1,G2.out.1⟩ | exact ⟨hT.out _ G3.out.1,G3.out.1⟩ | exact ⟨hT.out _ G1.out.2,G1.out.2⟩ | exact ⟨hT.out _ G2.out.2,G2.out.2⟩ | exact ⟨hT.out _ G3.out.2,G3.out.2⟩ | exact ⟨hT.out _ HR1.out.2,HR1.out.2⟩ | exact ⟨hT.out _ HR2.out.2,HR2.out.2⟩ | exact ⟨hT.out _ HR3.out.2,HR3.out.2⟩))
 clear hK K
 try (simp only [Act.put,aST]; dsimp only [aS0,aS1])
 refine rtake 19 ?_
 refine rdone ?_
 rotate_left
 all_goals
  first
  |exact hK.out ⟨⟨_,_,rfl,HR1.out.1⟩,HR1.out.2⟩
  |exact hK.out ⟨⟨_,_,rfl,HR2.out.1⟩,HR2.out.2⟩
  |exact hK.out ⟨⟨_,_,rfl,HR3.out.1⟩,HR3.out.2⟩
def twL (x : Nat) (l : List Nat) : Nat := (l.takeWhile fun y => decide (y < x)).length
def insL (x : Nat) (l : List Nat) : List Nat := l.take (twL x l) ++ [x] ++ l.drop (twL x l)
theorem twL_le (x : Nat) : ∀ l : List Nat,twL x l ≤ l.length
 |[] => Nat.le_refl _
 |y :: l => by
  unfold twL
  rw [List.takeWhile_cons]
  split
  ·have := twL_le x l
   unfold twL at this
   simp only [List.length_cons]
   omega
  ·simp
theorem twL_lt (x : Nat) : ∀ (l : List Nat) (k : Nat),k < twL x l → l.getD k 0 < x
 |[],k,h => by simp [twL] at h
 |y :: l,k,h => by
  unfold twL at h
  rw [List.takeWhile_cons] at h
  split at h
  ·rename_i hy
   cases k with
   |zero => simpa using hy
   |succ k => exact twL_lt x l k (by unfold twL; simpa using h)
  ·simp at h
theorem twL_stop (x : Nat) : ∀ (l : List Nat),twL x l < l.length → ¬ l.getD (twL x l) 0 < x
 |[],h => by simp at h
 |y :: l,h => by
  unfold twL at h ⊢
  rw [List.takeWhile_cons] at h ⊢
  split at h
  ·rename_i hy
   rw [if_pos hy]
   have := twL_stop x l (by unfold twL; simpa using h)
   unfold twL at this
   simpa using this
  ·rename_i hy
   rw [if_neg hy]
   simpa using hy
theorem insL_len (x : Nat) (l : List Nat) : (insL x l).length = l.length + 1 := by
 have := twL_le x l
 simp only [insL,List.length_append,List.length_take,List.length_drop,List.length_singleton]
 omega
def tms (L : List Bk) (v : List Nat) : List Nat := v.foldl (fun l k => insL (bkT L k).time l) []
theorem tms_snoc (L : List Bk) (v : List Nat) (k : Nat) : tms L (v ++ [k]) = insL (bkT L k).time (tms L v) := by simp [tms]
theorem tms_len0 (L : List Bk) : ∀ (v l0 : List Nat),(v.foldl (fun l k => insL (bkT L k).time l) l0).length = l0.length + v.length
 |[],l0 => by simp
 |k :: v,l0 => by rw [List.foldl_cons,tms_len0 L v,insL_len,List.length_cons]; omega
theorem tms_len (L : List Bk) (v : List Nat) : (tms L v).length = v.length := by rw [tms,tms_len0]; simp
def medianM (L : List Bk) (i : Nat) : Nat := (tms L ((anc L i).take 11)).getD ((tms L ((anc L i).take 11)).length / 2) 0
theorem wp_inBlock12 {P : Program} {c : Code} {n : Nat} {K : Act → World → Prop} {Q : Exit → Act → World → Prop} {a : Act} {w : World} (h : Code.wp P c (Exit.then K fun _ _ _ => False) a w) : Code.wp P c (Exit.inBlock n (Exit.then K Q)) a w :=
 Code.wp_mono (fun e a w k => by cases e <;> first | exact k | exact k.elim) h
theorem half_lt {n q : Nat} (h : 0 < n) (hn : n ≤ 11) (hq : n / 2 = q) : q < n ∧ (q : Int) < (n : Int) ∧ (n : Int) / 2 = (q : Int) ∧ IntKind.i64.wrap (q : Int) = (q : Int) ∧ wrap64 (q : Int) = (q : Int) :=
 ⟨by omega,by omega,by omega,IntWalk.i64_in _ (by omega),IntWalk.wrap64_in _ (by omega)⟩
theorem stop_or {z : Int} {n : Nat} (h : z < 0 ∨ n = 11) : (¬ 0 ≤ z) ∨ (0 ≤ z ∧ ¬ (n : Int) < 11 ∧ ¬ n < 11) := by omega
theorem r12Median_any (p : Nat) (L : List Bk) (every : Int) (span limit : Nat) (hw : WFt L) (i : Nat) (hi : i < L.length) (hl : L.length ≤ 100000) (w : World) (T : TR w p L every span limit) :
  Calls Tryz.prog 43 #[.pointer (some ⟨p,0,none⟩),.int .i64 (i : Int)] w fun e w' => e = .returned (.int .u32 ((medianM L i : Nat) : Int)) ∧ Fr F0 w w' := by
 have HP := Lib.hid (anc_len hw i hi)
 obtain ⟨nL,hn⟩ : ∃ n,L.length = n := ⟨_,rfl⟩
 obtain ⟨a,cL,r1,hb⟩ := T
 rw [hn] at r1 hl
 have HB := Lib.hid hb
 have HW := Lib.hid hw
 have HN := Lib.hid hn
 have HI := Lib.hid hi
 have HR := Lib.hid r1
 have h0 : Vs (w.alloc (.cells #[] 22)) (some ⟨w.heap.size,0,none⟩) 0 [] := Vs.of_list w [] 22 (by simp)
 have F := (Fr.refl F0 w).alloc (.cells #[] 22)
 clear hb hw hi hn r1
 go_enter Tryz.func43,Tryz.ntmps43
 go_wp2_with fail
 refine wp_of_world _ rfl ?_
 generalize hW : w.alloc (.cells #[] 22) = W at *
 generalize w.heap.size = g0 at *
 clear hW
 go_loopw [1,5] (fun iv ov wr => ∃ (done : List Nat) (n : Nat) (z : Int) (g off c : Nat),iv = .int .i64 z ∧ ov = .slice (some ⟨g,off,none⟩) n c ∧ n = done.length ∧ n ≤ 11 ∧ Vs wr (some ⟨g,off,none⟩) c (tms L done) ∧ Fr F0 w wr ∧ ((z < 0 ∧ anc L i = done) ∨ ∃ j : Nat,z = j ∧ j < nL ∧ anc L i = done ++ anc L j)) (fun iv _ _ => ((intOf iv) + 1).toNat)
 case atStart => exact ⟨[],0,i,g0,0,0,rfl,rfl,rfl,by omega,h0,F,.inr ⟨i,rfl,by have := HI.out; have := HN.out; omega,rfl⟩⟩
 case round =>
  clear h0 F
  obtain ⟨done,n,z,g,off,c,rfl,rfl,hnd,hn11,hv,F,hcase⟩ := hrel
  have hlen := tms_len L done
  have hstop : (z < 0 ∨ n = 11) → medianM L i = (tms L done).getD (n / 2) 0 ∧ 0 < n := by
   intro hs
   have e : (anc L i).take 11 = done := by
    rcases hs with hs | hs
    ·rcases hcase with ⟨_,h⟩ | ⟨j,h,_⟩
     ·rw [h]; exact List.take_of_length_le (by omega)
     ·omega
    ·rcases hcase with ⟨_,h⟩ | ⟨j,_,_,h⟩
     ·rw [h]; exact List.take_of_length_le (by omega)
     ·rw [h,List.take_append_of_le_length (by omega)]
      exact List.take_of_length_le (by omega)
   unfold medianM
   rw [e,hlen,← hnd]
   refine ⟨rfl,?_⟩
   have h1 := HP.out.1
   rw [hnd,← e,List.length_take]
   omega
  by_cases h1 : z < 0 ∨ n = 11
  ·obtain ⟨hm,hpos⟩ := hstop h1
   obtain ⟨q,hq⟩ : ∃ q,n / 2 = q := ⟨_,rfl⟩
   obtain ⟨lq,l2,m1,m2,m3⟩ := half_lt hpos hn11 hq
   obtain ⟨b1,o1,e1,g1⟩ := hv.get q (by rw [hlen,← hnd]; exact lq)
   cases e1
   obtain ⟨x,hx⟩ : ∃ x,(tms L done).getD q 0 = x := ⟨_,rfl⟩
   rw [hx] at g1
   have HX := Lib.hid (show medianM L i = x by rw [hm,hq,hx])
   have hc1 := stop_or h1
   clear hstop hcase hm hq hx hlen hnd hn11 hv h1 hpos
   rcases hc1 with l1 | ⟨l1,l3,l5⟩
   ·have l4 : decide (0 ≤ z) = false := decide_eq_false l1
    go_wp2_with fail
    go_ret
    exact ⟨by rw [HX.out]; rfl,F⟩
   ·have l4 : decide (0 ≤ z) = true := decide_eq_true l1
    go_wp2_with fail
    go_ret
    exact ⟨by rw [HX.out]; rfl,F⟩
  ·have hz : 0 ≤ z ∧ n < 11 := by omega
   obtain ⟨j,rfl,hj,hPj⟩ : ∃ j : Nat,z = j ∧ j < nL ∧ anc L i = done ++ anc L j := by
    rcases hcase with ⟨h,_⟩ | h
    ·omega
    ·exact h
   clear hcase hstop
   obtain ⟨bi,oi,ea,hld⟩ := HB.out.load j (by rw [HN.out]; exact hj)
   subst ea
   obtain ⟨A,hA⟩ : ∃ A,(bkT L j).ahead = A := ⟨_,rfl⟩
   obtain ⟨x,hx⟩ : ∃ x,(bkT L j).time = x := ⟨_,rfl⟩
   have hu := HW.out.up j (by rw [HN.out]; exact hj)
   rw [hA] at hld hu
   rw [hx] at hld
   have HA := Lib.hid hA
   have HLx := Lib.hid hx
   have HLd := Lib.hid hld
   obtain ⟨l,hl'⟩ : ∃ l,tms L done = l := ⟨_,rfl⟩
   rw [hl'] at hv hlen
   obtain ⟨tw,htw⟩ : ∃ tw,twL x l = tw := ⟨_,rfl⟩
   have HTW := Lib.hid htw
   have hlen2 : n = l.length := by omega
   have HT := Lib.hid (show tw ≤ n ∧ (∀ k,k < tw → l.getD k 0 < x) ∧ (tw < n → ¬ l.getD tw 0 < x) by
    subst htw
    exact ⟨by rw [hlen2]; exact twL_le x l,twL_lt x l,fun h => twL_stop x l (by omega)⟩)
   have HJ := Lib.hid (And.intro hj (And.intro hnd (And.intro hz.2 (And.intro hl' hPj))))
   have HL := Lib.hid (show n = l.length ∧ l.length ≤ 500 ∧ (j : Int) < (nL : Int) by omega)
   have HNL := Lib.hid hl
   have HU := Lib.hid hu
   have HV := Lib.hid hv
   have HF := Lib.hid F
   have l1 : (j : Int) < (nL : Int) := by omega
   have l2 : (n : Int) < 11 := by omega
   have l2' : n < 11 := hz.2
   have r2 := keep_fr F HR.out
   obtain ⟨W5,hW5⟩ : ∃ W5,W5 = wr := ⟨_,rfl⟩
   subst hW5
   clear h1 hz hj hPj hld hu hA hx hl' htw hlen2 hlen hnd hn11 hv F hl
   go_wp2_with fail
   go_loopw [6] (fun kv wr => ∃ k : Nat,kv = .int .i64 k ∧ k ≤ tw ∧ Fr F0 W5 wr) (fun kv _ => n - (intOf kv).toNat)
   case atStart => exact ⟨0,rfl,by omega,Fr.refl _ _⟩
   case round =>
    clear r2
    obtain ⟨k,rfl,hk,f⟩ := hrel
    have HK := Lib.hid hk
    have hkn : k ≤ n := Nat.le_trans hk HT.out.1
    clear hk
    by_cases h2 : k < n
    ·have l3 : (k : Int) < (n : Int) := by omega
     obtain ⟨b1,o1,e1,gy⟩ := (HV.out.fr f).get k (by have := HL.out.1; omega)
     cases e1
     obtain ⟨y,hy⟩ : ∃ y,l.getD k 0 = y := ⟨_,rfl⟩
     rw [hy] at gy
     have HY := Lib.hid hy
     have r5 := keep_fr (HF.out.trans' f) HR.out
     have c33 := (HLd.out _ (HF.out.trans' f)).2.2.1
     have lj : j < nL := by omega
     have m1 : IntKind.i64.wrap ((k : Int) + 1) = ((k + 1 : Nat) : Int) := by rw [IntWalk.i64_in _ (by omega)]; omega
     clear hy hkn
     by_cases h3 : (y : Int) < (x : Int)
     ·have l4 : decide ((y : Int) < (x : Int)) = true := decide_eq_true h3
      have l4' : y < x := by omega
      have HKt := Lib.hid (show k + 1 ≤ tw by
       have h4 := HK.out
       refine Nat.lt_of_le_of_ne h4 fun e => ?_
       subst e
       have := HT.out.2.2 h2
       rw [HY.out] at this
       omega)
      go_wp2_with fail
      refine rbegin (S := (fun w' => (Obj.cellAt (off + k) w'.heap[g]? = some (.int .u32 (y : Int)) ∧ w'.heap[p]? = some (.cells #[.slice (some ⟨bi,oi,none⟩) nL cL,.int .i64 every,.int .u32 (span : Int),.int .u32 (limit : Int)] 43 (0,0)) ∧ Obj.cellAt (oi + j * 36 + 33) w'.heap[bi]? = some (.int .u32 (x : Int))) ∧ Fr F0 W5 w')) ?_ fun hHeld => ?_
      ·((try dsimp only) <;> (exact ⟨⟨gy,r5,c33⟩,f.drew⟩))
      refine rtake 0 ?_
      refine rtake 1 ?_
      refine rtake 2 ?_
      refine rtake 3 ?_
      refine rtake 4 ?_
      refine rtake 5 ?_
      refine rtake 6 ?_
      refine rtake 7 ?_
      refine rtake 8 ?_
      refine rtake 9 ?_
      refine rtake 10 ?_
      refine rtake 11 ?_
      refine rtake 12 ?_
      refine rtake 13 ?_
      refine rtake 14 ?_
      refine rtake 15 ?_
      refine rtake 16 ?_
      refine rtake 17 ?_
      refine rtake 18 ?_
      refine rdone ?_
      clear gy r5 c33 f
      obtain ⟨_,f⟩ := hHeld
      generalize wr.drew = w6 at *
      go_wp2_with fail
      go_roundw
      case rel => exact ⟨k + 1,by go_num,HKt.out,f⟩
      case measure => simp [intOf]; omega
     ·have l4 : decide ((y : Int) < (x : Int)) = false := decide_eq_false h3
      have l4' : ¬ y < x := by omega
      have HKt := Lib.hid (show k = tw by
       have h4 := HK.out
       refine Nat.le_antisymm h4 (Nat.le_of_not_lt fun h5 => ?_)
       have := HT.out.2.1 k h5
       rw [HY.out] at this
       omega)
      go_wp2_with fail
      refine rbegin (S := (fun w' => (Obj.cellAt (off + k) w'.heap[g]? = some (.int .u32 (y : Int)) ∧ w'.heap[p]? = some (.cells #[.slice (some ⟨bi,oi,none⟩) nL cL,.int .i64 every,.int .u32 (span : Int),.int .u32 (limit : Int)] 43 (0,0)) ∧ Obj.cellAt (oi + j * 36 + 33) w'.heap[bi]? = some (.int .u32 (x : Int))) ∧ Fr F0 W5 w')) ?_ fun hHeld => ?_
      ·((try dsimp only) <;> (exact ⟨⟨gy,r5,c33⟩,f.drew⟩))
      refine rtake 0 ?_
      refine rtake 1 ?_
      refine rtake 2 ?_
      refine rtake 3 ?_
      refine rtake 4 ?_
      refine rtake 5 ?_
      refine rtake 6 ?_
      refine rtake 7 ?_
      refine rtake 8 ?_
      refine rtake 9 ?_
      refine rtake 10 ?_
      refine rtake 11 ?_
      refine rtake 12 ?_
      refine rtake 13 ?_
      refine rtake 14 ?_
      refine rtake 15 ?_
      refine rtake 16 ?_
      refine rtake 17 ?_
      refine rtake 18 ?_
      refine rdone ?_
      clear gy r5 c33 f
      obtain ⟨_,f⟩ := hHeld
      generalize wr.drew = w6 at *
      have hkt : k = tw := HKt.out
      subst hkt
      have F6 := HF.out.trans' f
      have hT6 : RowKit.Hid (∀ W,Fr F0 w6 W → W.heap[p]? = some (.cells #[.slice (some ⟨bi,oi,none⟩) nL cL,(#[Value.int .i64 every,.int .u32 (span : Int),.int .u32 (limit : Int)] : Array Value)[0]!,(#[Value.int .i64 every,.int .u32 (span : Int),.int .u32 (limit : Int)] : Array Value)[1]!,(#[Value.int .i64 every,.int .u32 (span : Int),.int .u32 (limit : Int)] : Array Value)[2]!] 43 (0,0)) ∧ Obj.cellAt (oi + j * 36 + 33) W.heap[bi]? = some (.int .u32 (x : Int))) :=
       Lib.hid fun W fW => ⟨keep_fr (F6.trans' fW) HR.out,(HLd.out W (F6.trans' fW)).2.2.1⟩
      go_upto_region 7 with fail
      refine wp_inBlock12 (nm7 w6 l n k c g off p bi oi cL nL j x #[.int .i64 every,.int .u32 (span : Int),.int .u32 (limit : Int)] (HV.out.fr f) HL.out.1 HL.out.2.1 HT.out.1 HL.out.2.2 HNL.out hT6 (Lib.hid ?_))
      rename_i w8
      rintro ⟨⟨a8,c8,rfl,v8⟩,f8⟩
      have F8 := F6.trans' f8
      have v8' : Vs w8 a8 c8 (insL x l) := by have := HTW.out; subst this; exact v8
      obtain ⟨g8,o8,rfl,_⟩ := v8'.get 0 (by rw [insL_len]; omega)
      have r8 := keep_fr F8 HR.out
      have c32 := (HLd.out w8 F8).2.1
      obtain ⟨n1,hn1⟩ : ∃ n1,n + 1 = n1 := ⟨_,rfl⟩
      rw [hn1]
      have HN1 := Lib.hid hn1
      have HV8 := Lib.hid (And.intro v8' F8)
      clear v8 v8' F8 f8 hT6 F6 f hn1
      go_wp2_with fail
      go_roundw
      case rel =>
       obtain ⟨q1,q2,q3,q4,q5⟩ := HJ.out
       refine ⟨done ++ [j],n1,A,g8,o8,c8,rfl,rfl,by rw [← HN1.out,List.length_append,List.length_singleton,← q2],by rw [← HN1.out]; omega,by rw [tms_snoc,q4]; have := HLx.out; rw [this]; exact HV8.out.1,HV8.out.2,?_⟩
       by_cases h0 : A < 0
       ·left
        exact ⟨h0,by rw [q5,anc_root HW.out (by rw [HN.out]; exact q1) (by rw [HA.out]; exact h0)]⟩
       ·right
        obtain ⟨m,hm⟩ := Int.eq_ofNat_of_zero_le (show 0 ≤ A by omega)
        obtain ⟨q6,q7⟩ := anc_step HW.out (by rw [HN.out]; exact q1) (HA.out.trans hm)
        exact ⟨m,hm,by omega,by rw [q5,q7,List.append_assoc]; rfl⟩
      case measure => have := HU.out; simp [intOf]; omega
    ·have l3 : ¬ (k : Int) < (n : Int) := by omega
     have HKt := Lib.hid (show k = tw by have := HK.out; have := HT.out.1; omega)
     go_wp2_with fail
     refine rbegin (S := (fun w' => Fr F0 W5 w')) ?_ fun hHeld => ?_
     ·((try dsimp only) <;> (exact f.drew))
     refine rtake 0 ?_
     refine rtake 1 ?_
     refine rtake 2 ?_
     refine rtake 3 ?_
     refine rtake 4 ?_
     refine rleave 5 ?_
     refine rleave 6 ?_
     refine rleave 7 ?_
     refine rleave 8 ?_
     refine rleave 9 ?_
     refine rleave 10 ?_
     refine rleave 11 ?_
     refine rleave 12 ?_
     refine rleave 13 ?_
     refine rleave 14 ?_
     refine rleave 15 ?_
     refine rleave 16 ?_
     refine rleave 17 ?_
     refine rtake 18 ?_
     refine rdone ?_
     clear f
     have f := hHeld
     clear hHeld
     generalize wr.drew = w6 at *
     have hkt : k = tw := HKt.out
     subst hkt
     have F6 := HF.out.trans' f
     have hT6 : RowKit.Hid (∀ W,Fr F0 w6 W → W.heap[p]? = some (.cells #[.slice (some ⟨bi,oi,none⟩) nL cL,(#[Value.int .i64 every,.int .u32 (span : Int),.int .u32 (limit : Int)] : Array Value)[0]!,(#[Value.int .i64 every,.int .u32 (span : Int),.int .u32 (limit : Int)] : Array Value)[1]!,(#[Value.int .i64 every,.int .u32 (span : Int),.int .u32 (limit : Int)] : Array Value)[2]!] 43 (0,0)) ∧ Obj.cellAt (oi + j * 36 + 33) W.heap[bi]? = some (.int .u32 (x : Int))) :=
      Lib.hid fun W fW => ⟨keep_fr (F6.trans' fW) HR.out,(HLd.out W (F6.trans' fW)).2.2.1⟩
     go_upto_region 7 with fail
     refine wp_inBlock12 (nm7 w6 l n k c g off p bi oi cL nL j x #[.int .i64 every,.int .u32 (span : Int),.int .u32 (limit : Int)] (HV.out.fr f) HL.out.1 HL.out.2.1 HT.out.1 HL.out.2.2 HNL.out hT6 (Lib.hid ?_))
     rename_i w8
     rintro ⟨⟨a8,c8,rfl,v8⟩,f8⟩
     have F8 := F6.trans' f8
     have v8' : Vs w8 a8 c8 (insL x l) := by have := HTW.out; subst this; exact v8
     obtain ⟨g8,o8,rfl,_⟩ := v8'.get 0 (by rw [insL_len]; omega)
     have r8 := keep_fr F8 HR.out
     have c32 := (HLd.out w8 F8).2.1
     obtain ⟨n1,hn1⟩ : ∃ n1,n + 1 = n1 := ⟨_,rfl⟩
     rw [hn1]
     have HN1 := Lib.hid hn1
     have HV8 := Lib.hid (And.intro v8' F8)
     clear v8 v8' F8 f8 hT6 F6 f hn1
     go_wp2_with fail
     go_roundw
     case rel =>
      obtain ⟨q1,q2,q3,q4,q5⟩ := HJ.out
      refine ⟨done ++ [j],n1,A,g8,o8,c8,rfl,rfl,by rw [← HN1.out,List.length_append,List.length_singleton,← q2],by rw [← HN1.out]; omega,by rw [tms_snoc,q4]; have := HLx.out; rw [this]; exact HV8.out.1,HV8.out.2,?_⟩
      by_cases h0 : A < 0
      ·left
       exact ⟨h0,by rw [q5,anc_root HW.out (by rw [HN.out]; exact q1) (by rw [HA.out]; exact h0)]⟩
      ·right
       obtain ⟨m,hm⟩ := Int.eq_ofNat_of_zero_le (show 0 ≤ A by omega)
       obtain ⟨q6,q7⟩ := anc_step HW.out (by rw [HN.out]; exact q1) (HA.out.trans hm)
       exact ⟨m,hm,by omega,by rw [q5,q7,List.append_assoc]; rfl⟩
     case measure => have := HU.out; simp [intOf]; omega
theorem SO.pair {L : List Nat} (h : SO L L.length) : L.Pairwise (· ≤ ·) := by
 rw [List.pairwise_iff_getElem]
 intro i j hi hj hij
 have := h i j hij hj
 simpa [List.getD,hi,hj] using this
theorem insL_eq (x : Nat) (l : List Nat) : insL x l = (l.takeWhile fun y => decide (y < x)) ++ x :: (l.dropWhile fun y => decide (y < x)) := by
 have e := List.takeWhile_append_dropWhile (p := fun y => decide (y < x)) (l := l)
 unfold insL twL
 generalize l.takeWhile (fun y => decide (y < x)) = a at *
 generalize l.dropWhile (fun y => decide (y < x)) = b at *
 subst e
 simp
theorem insL_perm (x : Nat) (l : List Nat) : (insL x l).Perm (x :: l) := by
 rw [insL_eq]
 have e := List.takeWhile_append_dropWhile (p := fun y => decide (y < x)) (l := l)
 refine List.perm_middle.trans ?_
 rw [e]
theorem insL_pair (x : Nat) : ∀ (l : List Nat),l.Pairwise (· ≤ ·) → (insL x l).Pairwise (· ≤ ·)
 |[],_ => by rw [insL_eq]; simp
 |y :: l,h => by
  rw [List.pairwise_cons] at h
  have ih := insL_pair x l h.2
  rw [insL_eq] at ih ⊢
  rw [List.takeWhile_cons,List.dropWhile_cons]
  by_cases hy : y < x
  ·rw [if_pos (decide_eq_true hy),if_pos (decide_eq_true hy),List.cons_append,List.pairwise_cons]
   refine ⟨fun z hz => ?_,ih⟩
   rw [List.mem_append,List.mem_cons] at hz
   rcases hz with hz | rfl | hz
   ·exact h.1 z (List.takeWhile_subset _ hz)
   ·omega
   ·exact h.1 z (List.dropWhile_subset _ hz)
  ·rw [if_neg (by simp; omega),if_neg (by simp; omega),List.nil_append,List.pairwise_cons,List.pairwise_cons]
   refine ⟨fun z hz => ?_,h⟩
   rw [List.mem_cons] at hz
   rcases hz with rfl | hz
   ·omega
   ·have := h.1 z hz; omega
theorem tms_perm0 (L : List Bk) : ∀ (v l0 : List Nat),(v.foldl (fun l k => insL (bkT L k).time l) l0).Perm (v.map (fun k => (bkT L k).time) ++ l0)
 |[],l0 => List.Perm.refl _
 |k :: v,l0 => by
  rw [List.foldl_cons,List.map_cons]
  refine (tms_perm0 L v _).trans ?_
  refine ((insL_perm _ _).append_left _).trans ?_
  exact List.perm_middle
theorem tms_perm (L : List Bk) (v : List Nat) : (tms L v).Perm (v.map fun k => (bkT L k).time) := by
 have := tms_perm0 L v []
 rwa [List.append_nil] at this
theorem tms_pair0 (L : List Bk) : ∀ (v l0 : List Nat),l0.Pairwise (· ≤ ·) → (v.foldl (fun l k => insL (bkT L k).time l) l0).Pairwise (· ≤ ·)
 |[],l0,h => h
 |k :: v,l0,h => tms_pair0 L v _ (insL_pair _ _ h)
theorem tms_pair (L : List Bk) (v : List Nat) : (tms L v).Pairwise (· ≤ ·) := tms_pair0 L v [] List.Pairwise.nil
theorem same_order {a b : List Nat} (h : a.Perm b) (ha : a.Pairwise (· ≤ ·)) (hb : b.Pairwise (· ≤ ·)) : a = b :=
 List.Perm.eq_of_pairwise (le := fun x y => decide (x ≤ y)) (by intro x y _ _ h1 h2; simp at h1 h2; omega) (ha.imp (by simp)) (hb.imp (by simp)) h
theorem medianM_is {L : List Bk} {i : Nat} {l Lp : List Nat} (hl : l.Perm (((anc L i).take 11).map fun k => (bkT L k).time)) (hp : Lp.Perm l) (hs : SO Lp l.length) : Lp.getD (l.length / 2) 0 = medianM L i := by
 have h1 := hp.length_eq
 rw [← h1] at hs ⊢
 have h2 := hp.trans (hl.trans (tms_perm L _).symm)
 have h3 := same_order h2 hs.pair (tms_pair L _)
 unfold medianM
 rw [← h3]
end Go.Proofs.YtfjcplfhkahamaaGreatDoor
