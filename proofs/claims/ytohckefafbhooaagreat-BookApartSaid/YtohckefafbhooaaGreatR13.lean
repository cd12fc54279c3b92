import Derived.Test.YtohckefafbhooaaGreatR11
import Derived.Test.YtohckefafbhooaaGreatR2
import Derived.Test.YtohckefafbhooaaGreatR7
import Derived.Laws.IdiomRangeMap
import Derived.Test.YtohckefafbhooaaGreatR1
import Derived.Deep.Cut
import Derived.Deep.CutBlock
import Derived.Test.YtohckefafbhooaaGreatR8
import Derived.RangeFuncFrom
import Derived.Test.YtohckefafbhooaaGreatR12
import Derived.Great.FillDense
import Derived.Great.BuildSlice
set_option maxRecDepth 100000
set_option maxHeartbeats 64000000
namespace Go.Proofs.YtohckefafbhooaaGreat
set_option linter.unusedVariables false
set_option linter.unusedSimpArgs false
open Go.RowKit Go.Shelf
def azc (f : Nat → Nat) (left : Nat → Bool) : Nat := uy (fun k => if left k = true then f k else 0) 256
theorem aAu (f : Nat → Nat) : azc f (fun k => decide (f k ≠ 0)) = uy f 256 := by
 unfold azc
 refine acy 256 fun k _ => ?_
 by_cases h : f k = 0 <;> simp [h]
theorem axt {f : Nat → Nat} {left : Nat → Bool} (h : ∀ k,k < 256 → left k = false) : azc f left = 0 := by
 unfold azc
 rw [acy (g := fun _ => 0) 256 fun k hk => by simp [h k hk]]
 exact aa2 256
theorem aAt {f : Nat → Nat} {left : Nat → Bool} {x : Nat} (hx : x < 256) (hl : left x = true) : azc f (fun k => left k && !decide (k = x)) + f x = azc f left := by
 unfold azc
 have e : (fun k => if (left k && !decide (k = x)) = true then f k else 0) = upd (fun k => if left k = true then f k else 0) x 0 := by
  funext k
  by_cases h : k = x
  ·subst h; simp [upd]
  ·simp [upd,h]
 rw [e]
 have := qy (fun k => if left k = true then f k else 0) 0 256 x hx
 simp only [hl,if_true] at this
 omega
theorem aAn {w W : World} {B r n cnt : Nat} {f : Nat → Nat} {left : Nat → Bool} (h : MR w B r n f left cnt) (hr : Kbm r w W) (hb : W.heap[B]? = w.heap[B]?) : MR W B r n f left cnt := by
 refine h.keep hb ?_
 obtain ⟨o,ho⟩ : ∃ o,w.heap[r]? = some o := ⟨_,Array.getElem?_eq_getElem h.lt.2.1⟩
 rw [ho]
 exact hr o ho
def alk (gb : Nat) (ob : Option Nat) (W : World) : Prop := W.heap[gb]? = some (.cells #[.map ob] 150 (0,0))
def mapAs (gb B n : Nat) (f : Nat → Nat) (O : Obj) {α : Type} (_ : List α) (W : World) : Prop := alk gb (some B) W ∧ MZ W B n f ∧ W.heap[B]? = some O
def NextV (f : Nat → Nat) (pre : List Nat) (x : Nat) (_ _ : World) : Prop := pre.sum + x ≤ uy f 256
theorem atf (ob : Option Nat) (w : World) :
  Calls Tryz.prog 115 #[.map ob] w fun e w' => e = .returned (.func (.func 142) #[] #[.pointer (some ⟨w.heap.size,0,none⟩)]) ∧ w' = w.alloc (.cells #[.map ob] 150) := by
 have hmf : ∀ (fn : Fn) (first cap : Array Value) (w : World),(Instr.makeFunc fn first cap).run Tryz.prog w = .ok (.func fn first cap) w := fun _ _ _ _ => rfl
 go_enter Tryz.func115,Tryz.ntmps115
 go_wp2
 go_ret
 exact ⟨rfl,rfl⟩
theorem azm (gb B n : Nat) (f : Nat → Nat) (O : Obj) :
  au5 Tryz.prog 142 #[.pointer (some ⟨gb,0,none⟩)] encA Kbm (mapAs gb B n f O) (NextV f) (fun xs => xs.sum = uy f 256) := by
 intro lp J Jx W oJ oX hC hJ4 hY h0
 refine (callsIn_wide (n := 6)).1 ?_
 refine callsIn_of_wp Tryz.func142 rfl trivial ?_ rfl
 simp only [Tryz.ntmps142,List.size_toArray,List.length_cons,List.length_nil,Nat.reduceAdd,Nat.reduceSub,Array.replicate_succ,Array.replicate_zero,List.push_toArray,List.append_toArray,List.nil_append,List.cons_append]
 obtain ⟨r1,hm,hO⟩ := hC _ _ h0
 unfold alk at r1
 obtain ⟨w1,cnt,hr,R,hcn,f1,s1⟩ := hm.range
 have hJ1 := aa7 oJ h0 f1
 have HH := Lib.hid (And.intro hJ4 (And.intro hY hC))
 have HS := Lib.hid s1
 clear oX hY hJ4 hC hO hm f1 hcn oJ h0 s1
 gi_wp2
 obtain ⟨r,hrd⟩ : ∃ r,W.heap.size = r := ⟨_,rfl⟩
 rw [hrd] at R HH HS
 simp only [hrd]
 clear hrd
 gi_loopw [4] (fun _ wr => ∃ (pre : List Nat) (left : Nat → Bool) (cnt : Nat),MR wr B r n f left cnt ∧ J pre wr ∧ azc f left + pre.sum = uy f 256) (fun _ wr => wr.rangeLeft B r)
 case atStart => exact ⟨[],_,cnt,R,hJ1,by rw [aAu]; rfl⟩
 case round =>
  clear R hJ1 hr r1
  obtain ⟨pre,left,cnt2,R,hJ,hs⟩ := hrel
  rcases R.next 0 with ⟨hl,hr⟩ | ⟨x,w3,cnt3,hx,hlx,hfx,hr,R3,hlt,f3,s3,hen⟩
  ·have HE := Lib.hid (And.intro hJ (show pre.sum = uy f 256 by rw [axt hl] at hs; omega))
   clear R hJ hs hl
   gi_wp2
   go_end0
   exact ⟨⟨_,rfl⟩,.inl ⟨_,HE.out.2,HE.out.1⟩⟩
  ·have hJ3 := HH.out.1 pre _ _ hJ f3 R.lt.2.1
   have h1 := aAt (f := f) hx hlx
   have hO3 := (HH.out.2.2 _ _ hJ3).2.2
   obtain ⟨fn,tmps,assign,body,hy,hY⟩ := (HH.out.2.1 pre (f x) w3 w3 hJ3 (Fr.refl F0 w3) R3.lt.2.1 (show pre.sum + f x ≤ uy f 256 by omega)).plain (m := 5)
   have hen3 := hen w3 rfl rfl
   have HL := Lib.hid (And.intro R3 (And.intro (show azc f (fun k => left k && !decide (k = x)) + (pre ++ [f x]).sum = uy f 256 by simp; omega) (And.intro R.aek (And.intro hlt hO3))))
   replace hY := Lib.hid hY
   clear R R3 hJ hs f3 s3 hen hJ3 h1 hlt hlx hO3
   dsimp only [encA] at hy
   obtain ⟨fx,hfx2⟩ : ∃ y,f x = y := ⟨_,rfl⟩
   rw [hfx2] at hy hr hen3 hY HL
   replace hfx2 := Lib.hid hfx2
   clear hfx
   gi_wp2
   refine hY.out.mono ?_
   rintro e W5 (⟨rfl,hJ5,hK5⟩ | ⟨rfl,hJx,_⟩)
   ·have hb5 := (HH.out.2.2 _ _ hJ5).2.2
    have R5 := aAn HL.out.1 hK5 (hb5.trans HL.out.2.2.2.2.symm)
    have HR := Lib.hid (And.intro hJ5 (And.intro R5 R5.aek))
    clear hJ5 hK5 hb5 R5
    gi_wp2
    go_roundw
    case rel => exact ⟨_,_,_,HR.out.2.1,HR.out.1,HL.out.2.1⟩
    case measure => rw [HL.out.2.2.1,HR.out.2.2]; exact HL.out.2.2.2.1
   ·gi_wp2
    refine bodyPost_ret (results_none rfl _ _ _) rfl ?_
    exact ⟨⟨_,rfl⟩,.inr ⟨_,hJx⟩⟩
end Go.Proofs.YtohckefafbhooaaGreat
namespace Go.Proofs.YtohckefafbhooaaGreat
set_option linter.unusedVariables false
set_option linter.unusedSimpArgs false
open Go.RowKit Go.Shelf
theorem au5.mono {α : Type} {P : Program} {gf : Nat} {lb : Array Value} {encs : α → Array Value} {Kq : Nat → World → World → Prop} {C : List α → World → Prop} {Nx Nx' : List α → α → World → World → Prop} {S S' : List α → Prop}
  (h : au5 P gf lb encs Kq C Nx S) (hn : ∀ pre x a b,Nx pre x a b → Nx' pre x a b) (hs : ∀ xs,S xs → S' xs) : au5 P gf lb encs Kq C Nx' S' := by
 intro l J Jx W h1 h2 h3 h4 h5 h6
 refine (h l J Jx W h1 h2 h3 h4 (fun pre x W0 W1 a b c d => h5 pre x W0 W1 a b c (hn _ _ _ _ d)) h6).mono ?_
 rintro e w' ⟨hv,(⟨xs,hx,hj⟩ | hx)⟩
 ·exact ⟨hv,.inl ⟨xs,hs xs hx,hj⟩⟩
 ·exact ⟨hv,.inr hx⟩
abbrev encK (x : Nat) : Array Value := #[.int .u8 (x : Int)]
def KeysOf (f : Nat → Nat) (xs : List Nat) : Prop := xs.Nodup ∧ ∀ k,k ∈ xs ↔ k < 256 ∧ f k ≠ 0
structure KL (f : Nat → Nat) (left : Nat → Bool) (pre : List Nat) : Prop where
 nodup : pre.Nodup
 told : ∀ k,k ∈ pre → k < 256 ∧ f k ≠ 0
 aDa : ∀ k,k < 256 → (left k = true ↔ f k ≠ 0 ∧ k ∉ pre)
theorem KL.start (f : Nat → Nat) : KL f (fun k => decide (f k ≠ 0)) [] := ⟨List.nodup_nil,fun k h => by simp at h,fun k _ => by simp⟩
theorem KL.done {f : Nat → Nat} {left : Nat → Bool} {pre : List Nat} (h : KL f left pre) (hl : ∀ k,k < 256 → left k = false) : KeysOf f pre := by
 refine ⟨h.nodup,fun k => ⟨h.told k,fun hk => ?_⟩⟩
 refine Classical.byContradiction fun hn => ?_
 have := (h.aDa k hk.1).2 ⟨hk.2,hn⟩
 rw [hl k hk.1] at this
 cases this
theorem KL.step {f : Nat → Nat} {left : Nat → Bool} {pre : List Nat} (h : KL f left pre) {x : Nat} (hx : x < 256) (hl : left x = true) : (x < 256 ∧ f x ≠ 0 ∧ x ∉ pre) ∧ KL f (fun k => left k && !decide (k = x)) (pre ++ [x]) := by
 have h1 := (h.aDa x hx).1 hl
 refine ⟨⟨hx,h1⟩,?_,fun k hk => ?_,fun k hk => ?_⟩
 ·rw [List.nodup_append]
  refine ⟨h.nodup,by simp,fun a ha b hb e => ?_⟩
  simp only [List.mem_singleton] at hb
  subst hb
  subst e
  exact h1.2 ha
 ·simp only [List.mem_append,List.mem_singleton] at hk
  rcases hk with hk | rfl
  ·exact h.told k hk
  ·exact ⟨hx,h1.1⟩
 ·have h2 := h.aDa k hk
  by_cases e : k = x
  ·subst e; simp
  ·simp [e,h2]
theorem amq (gb : Nat) :
  au5 Tryz.prog 142 #[.pointer (some ⟨gb,0,none⟩)] encA Kbm (fun (_ : List Nat) W => alk gb none W) (fun _ _ _ _ => False) (fun xs => xs = []) := by
 intro lp J Jx W oJ oX hC hJ4 hY h0
 refine (callsIn_wide (n := 6)).1 ?_
 refine callsIn_of_wp Tryz.func142 rfl trivial ?_ rfl
 simp only [Tryz.ntmps142,List.size_toArray,List.length_cons,List.length_nil,Nat.reduceAdd,Nat.reduceSub,Array.replicate_succ,Array.replicate_zero,List.push_toArray,List.append_toArray,List.nil_append,List.cons_append]
 have r1 := hC _ _ h0
 unfold alk at r1
 have hrg := run_range_nilMap (P := Tryz.prog) W 150 _ _ Tryz.underlying150
 have hnx : ∀ ty,(Instr.next (.pointer (some ⟨W.heap.size,0,none⟩)) false ty).run Tryz.prog (W.alloc (.mapIter none 0 #[] 0)) = _ := fun ty => run_next_nilMap _ ty 0 0 #[]
 have hJ := Lib.hid (aa7 oJ h0 ((Fr.refl F0 W).alloc (.mapIter none 0 #[] 0)))
 clear oX hY hJ4 hC oJ h0
 gi_wp2
 refine wpIn_loop_rounds 1 ?_
 rw [roundsIn_succ]
 gi_wp2
 go_end0
 exact ⟨⟨_,rfl⟩,.inl ⟨_,rfl,hJ.out⟩⟩
end Go.Proofs.YtohckefafbhooaaGreat
namespace Go.Proofs.YtohckefafbhooaaGreat
set_option linter.unusedVariables false
set_option linter.unusedSimpArgs false
open Go.RowKit Go.Shelf
attribute [local go_sem] Oper.semAt_some
theorem ai7 (gf : Nat) (lb : Array Value) (T : Nat) (hT : T ≤ 4611686018427387904) (C : List Nat → World → Prop) (w : World) (eg : ∀ args w,(callFunc gf args).run Tryz.prog w = .ok (.enter gf args) w)
  (hseq : au5 Tryz.prog gf lb encA Kbm C (fun pre x _ _ => pre.sum + x ≤ T) (fun xs => xs.sum = T)) (hC : ∀ pre W,Fr F0 w W → C pre W) :
  Calls Tryz.prog 114 #[.func (.func gf) #[] lb] w fun e w' => e = .returned (.tuple #[.int .u64 (T : Int),.int .i64 0]) ∧ Fr F0 w w' := by
 have hmf : ∀ (fn : Fn) (first cap : Array Value) (w : World),(Instr.makeFunc fn first cap).run Tryz.prog w = .ok (.func fn first cap) w := fun _ _ _ _ => rfl
 refine callsIn_wide (n := 6) |>.1 ?_
 refine callsIn_of_wp_marks Tryz.func114 rfl trivial ?_ rfl
 simp only [Tryz.ntmps114,List.size_toArray,List.length_cons,List.length_nil,Nat.reduceAdd,Nat.reduceSub,Array.replicate_succ,Array.replicate_zero,List.push_toArray,List.append_toArray,List.nil_append,List.cons_append]
 gi_wp2
 obtain ⟨W1,hW1⟩ : ∃ W1,W1 = (w.alloc (.cells #[.int .u64 0] 36)).alloc (.cells #[.int .i64 0] 29) := ⟨_,rfl⟩
 refine acf W1 hW1 ?_
 have f1 : Fr F0 w W1 := by rw [hW1]; exact ((Fr.refl F0 w).alloc _).alloc _
 obtain ⟨r2,r3⟩ := heap2 w (.cells #[.int .u64 0] 36) (.cells #[.int .i64 0] 29)
 rw [← hW1] at r2 r3
 have hs1 : W1.heap.size = w.heap.size + 1 + 1 := by rw [hW1]; simp
 clear hW1
 generalize hg2 : w.heap.size = g2 at *
 generalize hg3 : g2 + 1 = g3 at *
 have n32 : g3 ≠ g2 := by omega
 have n23 : g2 ≠ g3 := by omega
 have HG := Lib.hid (show w.heap.size = g2 ∧ g2 ≤ W1.heap.size ∧ g2 ≤ g3 ∧ g3 < W1.heap.size by omega)
 have HT := Lib.hid hT
 have HC := Lib.hid hC
 clear hg2 hg3 hs1 hT hC
 have hOI := OwnFrom.and (OwnFrom.and (qh W1.heap.size g2 (fun pre : List Nat => #[.int .u64 (pre.sum : Nat)]) 36 (0,0)) (qh W1.heap.size g3 (fun _ : List Nat => #[.int .i64 0]) 29 (0,0))) (OwnFrom.and (yu W1.heap.size (fun pre : List Nat => pre.sum ≤ T)) (own_below (β := List Nat) W1.heap.size g2 W1 (Nat.le_refl _) HG.out.2.1))
 refine ai2 (gf := gf) (lb := lb) rfl eg hseq (fun _ => rfl) Kbm.trans (fun W o => Kbm.put (by omega))
  (fun pre W => (W.heap[g2]? = some (.cells #[.int .u64 (pre.sum : Nat)] 36 (0,0)) ∧ W.heap[g3]? = some (.cells #[.int .i64 0] 29 (0,0))) ∧ (pre.sum ≤ T) ∧ Below g2 W1 W)
  (fun _ _ _ => False)
  hOI
  (fun cc => yu _ _)
  ?sees ?map ⟨⟨r2,r3⟩,by simp,Below.refl _ _⟩
  (fun pre x a' _ => a' = { tmps := #[.func (.func gf) #[] lb,undef,.pointer (some ⟨g2,0,none⟩),.pointer (some ⟨g3,0,none⟩),.int .u64 (x : Int),.func (.func gf) #[] lb,.int .u64 (x : Int),undef,undef,undef,undef,undef,undef,undef,undef,undef,undef],defers := [] } ∧ pre.sum + x ≤ T)
  (fun _ _ _ => yu _ _) ?assign ?body ?done ?stop
 case sees =>
  rintro pre W ⟨_,_,hB⟩
  have hF : Fr F0 w W := f1.trans (Fr.aag hB) fun i hi hk => by have := HG.out; omega
  exact HC.out _ _ hF
 case map =>
  rintro pre A A' ⟨⟨q2,q3⟩,hs,hB⟩ hf hA
  exact ⟨⟨hf.keeps (by have := HG.out; omega) q2,hf.keeps (by have := HG.out; omega) q3⟩,hs,hB.trans (hf.below (Nat.le_trans HG.out.2.1 hB.size) (fun k hk e => by have := HG.out; omega))⟩
 case assign =>
  intro lp pre x W0 W K hi0 f0 hsz hn hK
  gi_wp2
  exact hK _ _ (KeepsFrom.refl _ _) (fun o ho => ho) (aa7 hOI hi0 f0) ⟨rfl,hn⟩
 case body =>
  rintro lp pre x a' W ⟨⟨q2,q3⟩,hs,hB⟩ ⟨rfl,hlt⟩
  have HK := Lib.hid (show (pre ++ [x]).sum = pre.sum + x by simp)
  generalize pre.sum = s at *
  have hT := HT.out
  have HA := Lib.hid (aak s x (by omega) (by omega))
  have he : adE s x = 0 := by unfold adE; rw [if_pos ⟨by omega,by omega⟩,if_pos (by omega)]
  rw [aCc he,he] at HA
  have HV := Lib.hid (show s + x ≤ T from hlt)
  clear hs hT he hlt
  gi_wp2_with (refine ⟨trivial,?_⟩; gi_at_call 76; refine (CallsIn.inRound lp (callsIn_wide.2 (HA.out _))).mono ?_; rintro e w4 ⟨rfl,f4⟩; replace q2 := f4.keeps (fun f => f) q2; replace q3 := f4.keeps (fun f => f) q3; have H4 := Lib.hid f4; clear f4)
  have b4 : Below g2 W1 w4 := hB.trans (H4.out.below (Nat.le_trans HG.out.2.1 hB.size) fun _ _ f => f)
  have b5 := (b4.setCell (p := ⟨g2,0,none⟩) (Nat.le_refl _) (.int .u64 ((s : Int) + (x : Int)))).setCell (p := ⟨g3,0,none⟩) HG.out.2.2.1 (.int .i64 0)
  have k5 := ((H4.out.ag2 W1.heap.size).trans ((KeepsOthers.setCell w4 ⟨g2,0,none⟩ (.int .u64 ((s : Int) + (x : Int)))).from _)).trans ((KeepsOthers.setCell _ ⟨g3,0,none⟩ (.int .i64 0)).from _)
  have u5 : Kbm (W1.heap.size + 2) W ((w4.setCell ⟨g2,0,none⟩ (.int .u64 ((s : Int) + (x : Int)))).setCell ⟨g3,0,none⟩ (.int .i64 0)) := Kbm.fr (S := fun k => k = g2 ∨ k = g3) ((H4.out.of0.setCell (p := ⟨g2,0,none⟩) (fun _ => .inl rfl) _).setCell (p := ⟨g3,0,none⟩) (fun _ => .inr rfl) _) (fun e => by have := HG.out; omega)
  refine ⟨k5,u5,⟨?_,?_⟩,?_,b5⟩
  ·rw [HK.out,bn _ _ _ _ _ n23,cu,q2]; rfl
  ·rw [cu,bn _ _ _ _ _ n32,q3]; rfl
  ·rw [HK.out]; exact HV.out
 case stop =>
  rintro D cc pre W hD h hK
  exact h.elim
 case done =>
  rintro D ys W hD hy ⟨⟨q2,q3⟩,_,hB⟩ hK
  rw [hy] at q2
  obtain ⟨V,hV⟩ : ∃ V,T = V := ⟨_,rfl⟩
  rw [hV] at q2
  obtain ⟨E,hE⟩ : ∃ E : Int,(0 : Int) = E := ⟨_,rfl⟩
  rw [hE] at q3
  replace hE := Lib.hid hE
  replace hV := Lib.hid hV
  clear hy
  gi_wp2
  refine wpIn_wide.2 ?_
  refine zn (S := (fun w' => w'.heap[g2]? = some (.cells #[.int .u64 (V : Int)] 36 (0,0)) ∧ w'.heap[g3]? = some (.cells #[.int .i64 E] 29 (0,0)))) ?_ fun aj => ?_
  ·exact(by ((try dsimp only) <;> ((refine ⟨?_,?_⟩ <;> (try simp only [mg]) <;> (repeat (first | exact q2 | exact q3 | exact aj.1 | exact aj.2 | refine aC8 ?_ | refine adl n23 ?_ | refine adl n32 ?_))))))
  refine au 0 ?_
  refine au 1 ?_
  refine zi 2 fun K hK => ?_
  go_simp
  refine rpu hK (by ((try dsimp only) <;> ((refine ⟨?_,?_⟩ <;> (try simp only [mg]) <;> (repeat (first | exact q2 | exact q3 | exact aj.1 | exact aj.2 | refine aC8 ?_ | refine adl n23 ?_ | refine adl n32 ?_)))))) fun aj => ?_
  clear hK K
  refine zi 3 fun K hK => ?_
  go_simp
  refine rpu hK (by ((try dsimp only) <;> ((refine ⟨?_,?_⟩ <;> (try simp only [mg]) <;> (repeat (first | exact q2 | exact q3 | exact aj.1 | exact aj.2 | refine aC8 ?_ | refine adl n23 ?_ | refine adl n32 ?_)))))) fun aj => ?_
  clear hK K
  refine aap ?_
  all_goals
   have hD2 : D ≠ g2 := fun e => by subst e; rw [q2] at hK; cases hK
   have hD3 : D ≠ g3 := fun e => by subst e; rw [q3] at hK; cases hK
   obtain ⟨e2,e3⟩ := aj
   generalize hW9 : World.drew (World.setCell (World.setCell _ _ _) _ _) = W9 at *
   have hK' : W9.heap[D]? = some (.deferred (some [])) := by
    rw [← hW9]
    simp only [mg]
    first
     |exact adl hD3 (adl hD2 hK)
     |exact adl hD2 (adl hD3 hK)
   have b9 : Below g2 W1 W9 := by
    rw [← hW9]
    first
     |exact ((hB.setCell (p := ⟨g2,0,none⟩) (Nat.le_refl _) _).setCell (p := ⟨g3,0,none⟩) HG.out.2.2.1 _).drew
     |exact ((hB.setCell (p := ⟨g3,0,none⟩) HG.out.2.2.1 _).setCell (p := ⟨g2,0,none⟩) (Nat.le_refl _) _).drew
   clear hW9
   have b10 := b9.trans (belowK_b (w := W1) HG.out.2.1 W9 D _ (.deferred none) hD hK' rfl rfl)
   replace e2 : (W9.putObj D (.deferred none)).heap[g2]? = some (.cells #[.int .u64 (V : Int)] 36 (0,0)) := (World.putObj_heap_other (fun e => hD2 e.symm)).trans e2
   replace e3 : (W9.putObj D (.deferred none)).heap[g3]? = some (.cells #[.int .i64 E] 29 (0,0)) := (World.putObj_heap_other (fun e => hD3 e.symm)).trans e3
   gi_wp2
   refine ⟨by simp,.inl ⟨_,_,rfl,run_takeDeferred hK',?_⟩⟩
   refine ⟨by simp,.inr ⟨by simp [Fence.wide],.func 141,#[],141,#[],rfl,by simp [go_sem],fun _ _ => trivial,?_⟩⟩
   refine (anu _ _).mono ?_
   rintro e u' w' ⟨⟨v,rfl⟩,rfl,hw⟩
   replace hw := hw.symm
   subst hw
   exact ⟨_,aw9 rfl _ _ g2 g3 _ _ rfl rfl (by rw [gq,e2,← hV.out]; rfl) (by rw [gq,e3,← hE.out]; rfl) Tryz.underlying36 Tryz.underlying29,rfl,f1.trans (Fr.aag b10) fun i hi hk => by have := HG.out; omega⟩
end Go.Proofs.YtohckefafbhooaaGreat
namespace Go.Proofs.YtohckefafbhooaaGreat
set_option linter.unusedVariables false
set_option linter.unusedSimpArgs false
open Go.RowKit
theorem abm (w : World) (g i : Nat) (cs : Array Value) (t : TypeId) (fr : Nat × Nat) (v : Value) (hg : w.heap[g]? = some (.cells cs t fr)) :
  (w.setCell ⟨g,i,none⟩ v).heap[g]? = some (.cells (cs.setIfInBounds i v) t fr) := by
 simp [World.setCell,Array.getElem?_modify,hg]
structure LG (w : World) (p : Nat) (ob : Option Nat) (n : Nat) (f : Nat → Nat) : Prop where
 at_ : w.heap[p]? = some (.cells #[.map ob] 152 (0,0))
 map : MO w ob n f
 ne : ob ≠ some p
theorem LG.fr {S : Nat → Prop} {w w' : World} {p n : Nat} {ob : Option Nat} {f : Nat → Nat} (h : LG w p ob n f) (r : Fr S w w') (hp : ¬ S p) (hb : ∀ B,ob = some B → ¬ S B) : LG w' p ob n f :=
 ⟨r.keeps hp h.at_,h.map.fr r hb,h.ne⟩
theorem LG.fr0 {w w' : World} {p n : Nat} {ob : Option Nat} {f : Nat → Nat} (h : LG w p ob n f) (r : Fr F0 w w') : LG w' p ob n f := h.fr r (fun x => x) fun _ _ x => x
theorem LG.mono {w : World} {p n n' : Nat} {ob : Option Nat} {f : Nat → Nat} (h : LG w p ob n f) (hn : n ≤ n') : LG w p ob n' f := ⟨h.at_,h.map.mono hn,h.ne⟩
theorem LG.lt {w : World} {p n : Nat} {ob : Option Nat} {f : Nat → Nat} (h : LG w p ob n f) : p < w.heap.size := (Array.getElem?_eq_some_iff.1 h.at_).1
def LS (p : Nat) (ob : Option Nat) : Nat → Prop := fun k => k = p ∨ ob = some k
theorem LS.not {p k : Nat} {ob : Option Nat} (h1 : k ≠ p) (h2 : ob ≠ some k) : ¬ LS p ob k := fun h => h.elim h1 h2
def OB (w : World) (ob ob' : Option Nat) : Prop := ob' = ob ∨ (ob = none ∧ ∃ B,ob' = some B ∧ w.heap.size ≤ B)
theorem OB.refl (w : World) (ob : Option Nat) : OB w ob ob := .inl rfl
theorem aiu {w : World} {p n : Nat} {ob : Option Nat} {f : Nat → Nat} (L : LG w p ob n f) : Calls Tryz.prog 116 #[.pointer (some ⟨p,0,none⟩)] w fun e w' => e = .returned (.map ob) ∧ w' = w := by
 have e0 := L.at_
 clear L
 go_enter Tryz.func116,Tryz.ntmps116
 go_wp2
 go_ret
 exact ⟨rfl,rfl⟩
theorem af6 {w : World} {p n : Nat} {ob : Option Nat} {f : Nat → Nat} (L : LG w p ob n f) {a : Nat} (ha : a < 256) :
  Calls Tryz.prog 63 #[.pointer (some ⟨p,0,none⟩),.int .u8 (a : Int)] w fun e w' => e = .returned (.int .u64 (f a : Int)) ∧ w' = w := by
 have H := Lib.hid (aiu L)
 have hlk := L.map.look ha
 clear L
 generalize f a = fa at *
 go_enter Tryz.func63,Tryz.ntmps63
 go_wp2_with fail
 (with_reducible refine H.out.mono ?_); rintro e w1 ⟨rfl,hw⟩; subst hw
 go_wp2_with fail
 go_ret
 exact ⟨rfl,rfl⟩
theorem asf {w : World} {gb n t : Nat} {ob : Option Nat} {f : Nat → Nat} (hb : alk gb ob w) (hm : MO w ob n f) (hs : uy f 256 = t) (ht : t ≤ 4611686018427387904) :
  Calls Tryz.prog 114 #[.func (.func 142) #[] #[.pointer (some ⟨gb,0,none⟩)]] w fun e w' => e = .returned (.tuple #[.int .u64 (t : Int),.int .i64 0]) ∧ Fr F0 w w' := by
 cases ob with
 |none =>
  have h0 : t = 0 := by
   rw [← hs,acy (g := fun _ => 0) 256 fun k hk => hm k hk]
   exact aa2 256
  subst h0
  exact ai7 _ _ 0 (by decide) _ w (enters_of Tryz.func142 (by kernel_rfl) rfl) ((amq gb).mono (fun _ _ _ _ h => h.elim) (fun xs h => by rw [h]; rfl)) (fun pre W f => f.keeps (fun x => x) hb)
 |some B =>
  obtain ⟨O,hO⟩ : ∃ O,w.heap[B]? = some O := ⟨_,Array.getElem?_eq_getElem (MZ.mu hm).lt⟩
  have h := azm gb B n f O
  refine ai7 _ _ t ht _ w (enters_of Tryz.func142 (by kernel_rfl) rfl) (h.mono (fun pre x _ _ hx => ?_) (fun xs hx => hx.trans hs)) (fun pre W f => ⟨f.keeps (fun x => x) hb,MZ.fr hm f (fun x => x),f.keeps (fun x => x) hO⟩)
  rw [← hs]
  exact hx
theorem ad4 {w : World} {p n t : Nat} {ob : Option Nat} {f : Nat → Nat} (L : LG w p ob n f) (I : Lg f t) :
  Calls Tryz.prog 58 #[.pointer (some ⟨p,0,none⟩)] w fun e w' => e = .returned (.int .u64 (t : Int)) ∧ Fr F0 w w' := by
 have H := Lib.hid (aiu L)
 have HV := Lib.hid (atf ob w)
 have hT : Calls Tryz.prog 114 #[.func (.func 142) #[] #[.pointer (some ⟨w.heap.size,0,none⟩)]] (w.alloc (.cells #[.map ob] 150)) fun e w' => e = .returned (.tuple #[.int .u64 (t : Int),.int .i64 0]) ∧ Fr F0 (w.alloc (.cells #[.map ob] 150)) w' :=
  asf (heap_alloc_new _ _) (L.map.fr ((Fr.refl F0 w).alloc _) fun _ _ x => x) I.sum I.le
 replace hT := Lib.hid hT
 clear L I
 go_enter Tryz.func58,Tryz.ntmps58
 go_wp2_with fail
 (with_reducible refine H.out.mono ?_); rintro e w1 ⟨rfl,hw⟩; subst hw
 go_wp2_with fail
 (with_reducible refine HV.out.mono ?_); rintro e w2 ⟨rfl,rfl⟩
 go_wp2_with fail
 (with_reducible refine hT.out.mono ?_); rintro e w3 ⟨rfl,f3⟩
 have HF := Lib.hid (((Fr.refl F0 w1).alloc (.cells #[.map ob] 150)).trans' f3)
 clear f3 H HV hT
 go_wp2_with fail
 go_ret
 exact ⟨rfl,HF.out⟩
theorem MZ.ext {w : World} {B n : Nat} {f g : Nat → Nat} (h : MZ w B n f) (e : ∀ k,k < 256 → f k = g k) : MZ w B n g := by
 obtain ⟨D,h1,h2,h3⟩ := h
 exact ⟨D,h1,fun k hk => by rw [h2 k hk,e k hk],fun k hk => by rw [h3 k hk,e k hk]⟩
theorem aA8 (ty : TypeId) (x : Nat) (w : World) : (Builtin.delete_ #[150,66] ty #[.map none,.int .u8 (x : Int)]).run Tryz.prog w = .ok (.tuple #[]) w := by kernel_rfl
theorem alr {w : World} {p n : Nat} {ob : Option Nat} {f : Nat → Nat} (L : LG w p ob n f) (hn : n < maxLen) {a x : Nat} (ha : a < 256) (hx : x < 18446744073709551616) :
  Calls Tryz.prog 122 #[.pointer (some ⟨p,0,none⟩),.int .u8 (a : Int),.int .u64 (x : Int)] w fun e w' => e = .returned (.tuple #[]) ∧ ∃ ob',LG w' p ob' (n + 1) (upd f a x) ∧ OB w ob ob' ∧ Fr (LS p ob) w w' := by
 have r := L.at_
 have HL := Lib.hid L
 by_cases h0 : x = 0
 ·subst h0
  cases ob with
  |none =>
   have hr := fun ty => aA8 ty a w
   have hz : ∀ k,k < 256 → f k = 0 := L.map
   have HZ := Lib.hid hz
   clear L hz
   go_enter Tryz.func122,Tryz.ntmps122
   go_wp2_with fail
   refine bodyPost_ret (results_none rfl _ _ _) rfl ?_
   refine ⟨rfl,none,⟨HL.out.at_,fun k hk => ?_,HL.out.ne⟩,.inl rfl,Fr.refl _ _⟩
   by_cases e : k = a
   ·subst e; exact upd_same _ _ _
   ·rw [aaf e]; exact HZ.out k hk
  |some B =>
   obtain ⟨w1,hr,hm,hf,_⟩ := (show MZ w B n f from L.map).del 0 ha
   have HR := Lib.hid (And.intro (hm.mono (Nat.le_succ n)) hf)
   clear L hm hf
   go_enter Tryz.func122,Tryz.ntmps122
   go_wp2_with fail
   refine bodyPost_ret (results_none rfl _ _ _) rfl ?_
   exact ⟨rfl,some B,⟨HR.out.2.keeps (fun e => HL.out.ne (by rw [e])) HL.out.at_,HR.out.1,HL.out.ne⟩,.inl rfl,HR.out.2.mono fun k _ e => .inr (by rw [e])⟩
 ·have q0 : ((x : Int) == 0) = false := by simp; omega
  cases ob with
  |none =>
   have hq := fun w => run_eql_map_nil_sl (P := Tryz.prog) w 150 _ _ none Tryz.underlying150
   have hmm := @run_makeMap Tryz.prog
   have hz : ∀ k,k < 256 → f k = 0 := L.map
   have M := (MZ.made w).ext (g := f) fun k hk => (hz k hk).symm
   have hp := L.lt
   have f2 : Fr (LS p none) w ((w.alloc (.map #[] 0)).setCell ⟨p,0,none⟩ (.map (some w.heap.size))) := ((Fr.refl _ w).alloc _).setCell (p := ⟨p,0,none⟩) (fun _ => .inl rfl) _
   have M2 : MZ ((w.alloc (.map #[] 0)).setCell ⟨p,0,none⟩ (.map (some w.heap.size))) w.heap.size 0 f := M.fr ((Fr.refl (fun k => k = p) _).setCell (p := ⟨p,0,none⟩) (fun _ => rfl) _) (fun e => by omega)
   have r2 : ((w.alloc (.map #[] 0)).setCell ⟨p,0,none⟩ (.map (some w.heap.size))).heap[p]? = some (.cells #[.map (some w.heap.size)] 152 (0,0)) := abm _ p 0 _ _ _ _ (oh r)
   have HM := Lib.hid (And.intro (show w.heap.size ≠ p by omega) (And.intro M2 (And.intro f2 r2)))
   have r1 : (w.alloc (.map #[] 0)).heap[p]? = some (.cells #[.map none] 152 (0,0)) := oh r
   clear L M M2 f2 r2 hz hp
   go_enter Tryz.func122,Tryz.ntmps122
   go_upto_region 4 with fail
   obtain ⟨hne,M,f2,r2⟩ := HM.out
   clear r r1 hmm hq
   obtain ⟨B,hB⟩ : ∃ B,w.heap.size = B := ⟨_,rfl⟩
   rw [hB] at hne M f2 r2 ⊢
   clear HM
   generalize (w.alloc (.map #[] 0)).setCell ⟨p,0,none⟩ (.map (some B)) = w2 at *
   obtain ⟨w3,hr,hm,hf,_⟩ := M.put (show 0 < maxLen by omega) ha hx h0
   have HR := Lib.hid (And.intro (hm.mono (show 0 + 1 ≤ n + 1 by omega)) (And.intro hf (And.intro hne (And.intro f2 (And.intro r2 hB)))))
   clear hm hf hne M f2 hB
   go_wp2_with fail
   go_end0
   refine ⟨rfl,some B,⟨HR.out.2.1.keeps (fun e => HR.out.2.2.1 e.symm) HR.out.2.2.2.2.1,HR.out.1,fun e => HR.out.2.2.1 (Option.some.inj e)⟩,.inr ⟨rfl,B,rfl,by rw [HR.out.2.2.2.2.2]; exact Nat.le_refl _⟩,HR.out.2.2.2.1.trans HR.out.2.1 fun i hi e => ?_⟩
   have := HR.out.2.2.2.2.2
   omega
  |some B =>
   have hq := fun w => run_eql_map_nil_sl (P := Tryz.prog) w 150 _ _ (some B) Tryz.underlying150
   obtain ⟨w1,hr,hm,hf,_⟩ := (show MZ w B n f from L.map).put hn ha hx h0
   have HR := Lib.hid (And.intro hm hf)
   clear L hm hf
   go_enter Tryz.func122,Tryz.ntmps122
   go_wp2_with fail
   go_end0
   exact ⟨rfl,some B,⟨HR.out.2.keeps (fun e => HL.out.ne (by rw [e])) HL.out.at_,HR.out.1,HL.out.ne⟩,.inl rfl,HR.out.2.mono fun k _ e => .inr (by rw [e])⟩
theorem aEi {f : Nat → Nat} {t a x : Nat} (h0 : x ≠ 0) (ht : t ≤ 4611686018427387904) : abo f t a x = if adE t x = 0 then (0,upd f a (f a + x),t + x) else (adE t x,f,t) := by
 unfold abo adE
 by_cases h1 : 4611686018427387904 < x
 ·rw [if_pos (by simp [afy,h1]),if_neg (show ¬ (t ≤ 4611686018427387904 ∧ x ≤ 4611686018427387904) by omega),if_neg (by decide)]
 ·rw [if_neg (by simp [afy]; omega),if_pos (show t ≤ 4611686018427387904 ∧ x ≤ 4611686018427387904 by omega)]
  by_cases h2 : t + x ≤ 4611686018427387904
  ·rw [if_neg (show ¬ 4611686018427387904 - x < t by omega),if_pos h2,if_pos rfl]
  ·rw [if_pos (show 4611686018427387904 - x < t by omega),if_neg h2,if_neg (by decide)]
theorem aFm {f : Nat → Nat} {t a x : Nat} (h0 : x ≠ 0) (ht : f a ≤ 4611686018427387904) : zx f t a x = if sbE (f a) x = 0 then (0,upd f a (f a - x),t - x) else (sbE (f a) x,f,t) := by
 unfold zx sbE
 by_cases h1 : 4611686018427387904 < x
 ·rw [if_pos (by simp [afy,h1]),if_neg (show ¬ (f a ≤ 4611686018427387904 ∧ x ≤ 4611686018427387904) by omega),if_neg (by decide)]
 ·rw [if_neg (by simp [afy]; omega),if_pos (show f a ≤ 4611686018427387904 ∧ x ≤ 4611686018427387904 by omega)]
  by_cases h2 : x ≤ f a
  ·rw [if_neg (show ¬ f a < x by omega),if_pos h2,if_pos rfl]
  ·rw [if_pos (show f a < x by omega),if_neg h2,if_neg (by decide)]
theorem aBz {a b : Nat} (h : sbE a b = 0) : a ≤ 4611686018427387904 ∧ b ≤ 4611686018427387904 ∧ b ≤ a := by
 unfold sbE at h
 split at h
 ·rename_i h1
  split at h
  ·rename_i h2; exact ⟨h1.1,h1.2,h2⟩
  ·cases h
 ·cases h
theorem aJg {a b : Nat} (h : sbE a b = 0) : sbV a b = a - b := if_pos (aBz h)
theorem aJh {a b : Nat} (h : ¬ sbE a b = 0) : sbV a b = 0 := by
 unfold sbV
 rw [if_neg]
 intro ⟨h1,h2,h3⟩
 apply h
 unfold sbE
 rw [if_pos ⟨h1,h2⟩,if_pos h3]
def aF9 (w : World) (p : Nat) (ob : Option Nat) (n : Nat) (q : Int × (Nat → Nat) × Nat) (e : Ending) (w' : World) : Prop :=
 e = .returned (.int .i64 q.1) ∧ ∃ ob',LG w' p ob' n q.2.1 ∧ OB w ob ob' ∧ Fr (LS p ob) w w'
theorem LS.fr0 {w w' : World} {p : Nat} {ob : Option Nat} (h : Fr F0 w w') : Fr (LS p ob) w w' := h.of0
theorem OB.of {w w' : World} {ob ob' : Option Nat} {S : Nat → Prop} (f : Fr S w w') (h : OB w' ob ob') : OB w ob ob' := by
 rcases h with h | ⟨h,B,e,hb⟩
 ·exact .inl h
 ·exact .inr ⟨h,B,e,Nat.le_trans f.size hb⟩
theorem afe {w : World} {p n t : Nat} {ob : Option Nat} {f : Nat → Nat} (L : LG w p ob n f) (I : Lg f t) (hn : n < maxLen) {a x : Nat} (ha : a < 256) (hx : x < 18446744073709551616) :
  Calls Tryz.prog 86 #[.pointer (some ⟨p,0,none⟩),.int .u8 (a : Int),.int .u64 (x : Int)] w (aF9 w p ob (n + 1) (abo f t a x)) := by
 have HL := Lib.hid L
 by_cases h0 : x = 0
 ·subst h0
  clear L I
  go_enter Tryz.func86,Tryz.ntmps86
  go_wp2_with fail
  go_ret
  exact ⟨rfl,ob,HL.out.mono (Nat.le_succ n),.inl rfl,Fr.refl _ _⟩
 have q0 : ((x : Int) == 0) = false := by simp; omega
 have hle := I.le
 have ho := I.one ha
 rw [aEi h0 hle]
 have HT := Lib.hid (ad4 L I)
 have HA := Lib.hid fun w => aak t x (by omega) hx w
 by_cases he : adE t x = 0
 ·rw [if_pos he]
  rw [he,aCc he] at HA
  have hk := aCe he
  have HO := Lib.hid (fun (W : World) (L : LG W p ob n f) => af6 L ha)
  obtain ⟨y,hy⟩ : ∃ y,f a + x = y := ⟨_,rfl⟩
  have m1 : IntKind.u64.wrap ((f a : Int) + (x : Int)) = (y : Int) := by rw [IntWalk.u64_in _ (by omega)]; omega
  have HP := Lib.hid (fun (W : World) (L : LG W p ob n f) => alr L hn ha (show y < 18446744073709551616 by omega))
  rw [hy]
  obtain ⟨s,hs⟩ : ∃ s,t + x = s := ⟨_,rfl⟩
  rw [hs] at HA ⊢
  obtain ⟨fa,hfa⟩ : ∃ z,f a = z := ⟨_,rfl⟩
  rw [hfa] at m1 HO
  clear L I he hk hy hs hfa ho hle h0 hx ha hn
  go_enter Tryz.func86,Tryz.ntmps86
  go_wp2_with fail
  (with_reducible refine HT.out.mono ?_); rintro e w1 ⟨rfl,f1⟩
  have H1 := Lib.hid (And.intro f1 (HL.out.fr0 f1))
  clear f1
  go_wp2_with fail
  (with_reducible refine (HA.out _).mono ?_); rintro e w2 ⟨rfl,f2⟩
  have H2 := Lib.hid (And.intro (H1.out.1.trans' f2) (H1.out.2.fr0 f2))
  clear f2 H1
  go_wp2_with fail
  (with_reducible refine (HO.out _ H2.out.2).mono ?_); rintro e w3 ⟨rfl,hw⟩; replace hw := hw.symm; subst hw
  go_wp2_with fail
  (with_reducible refine (HP.out _ H2.out.2).mono ?_); rintro e w4 ⟨rfl,ob',L4,o4,f4⟩
  have H4 := Lib.hid (And.intro L4 (And.intro o4 f4))
  clear L4 o4 f4
  go_wp2_with fail
  go_ret
  exact ⟨rfl,ob',H4.out.1,H4.out.2.1.of H2.out.1,(LS.fr0 H2.out.1).trans' H4.out.2.2⟩
 ·rw [if_neg he]
  rw [aCd he] at HA
  obtain ⟨E,hE⟩ : ∃ E,adE t x = E := ⟨_,rfl⟩
  rw [hE] at he HA ⊢
  have q1 : (E != 0) = true := by simp [he]
  clear L I ho hle h0 hx ha hn hE
  go_enter Tryz.func86,Tryz.ntmps86
  go_wp2_with fail
  (with_reducible refine HT.out.mono ?_); rintro e w1 ⟨rfl,f1⟩
  have H1 := Lib.hid (And.intro f1 (HL.out.fr0 f1))
  clear f1
  go_wp2_with fail
  (with_reducible refine (HA.out _).mono ?_); rintro e w2 ⟨rfl,f2⟩
  have H2 := Lib.hid (And.intro (H1.out.1.trans' f2) (H1.out.2.fr0 f2))
  clear f2 H1
  go_wp2_with fail
  go_ret
  exact ⟨rfl,ob,H2.out.2.mono (Nat.le_succ n),.inl rfl,LS.fr0 H2.out.1⟩
theorem ada {w : World} {p n t : Nat} {ob : Option Nat} {f : Nat → Nat} (L : LG w p ob n f) (I : Lg f t) (hn : n < maxLen) {a x : Nat} (ha : a < 256) (hx : x < 18446744073709551616) :
  Calls Tryz.prog 87 #[.pointer (some ⟨p,0,none⟩),.int .u8 (a : Int),.int .u64 (x : Int)] w (aF9 w p ob (n + 1) (zx f t a x)) := by
 have HL := Lib.hid L
 by_cases h0 : x = 0
 ·subst h0
  clear L I
  go_enter Tryz.func87,Tryz.ntmps87
  go_wp2_with fail
  go_ret
  exact ⟨rfl,ob,HL.out.mono (Nat.le_succ n),.inl rfl,Fr.refl _ _⟩
 have q0 : ((x : Int) == 0) = false := by simp; omega
 have hle := I.le
 have ho := I.one ha
 rw [aFm h0 (by omega)]
 have HO := Lib.hid (af6 L ha)
 have HA := Lib.hid fun w => vw (f a) x (by omega) hx w
 by_cases he : sbE (f a) x = 0
 ·rw [if_pos he]
  rw [he,aJg he] at HA
  have hk := aBz he
  obtain ⟨y,hy⟩ : ∃ y,f a - x = y := ⟨_,rfl⟩
  rw [hy] at HA ⊢
  have HP := Lib.hid (fun (W : World) (L : LG W p ob n f) => alr L hn ha (show y < 18446744073709551616 by omega))
  obtain ⟨fa,hfa⟩ : ∃ z,f a = z := ⟨_,rfl⟩
  rw [hfa] at HO HA
  obtain ⟨s,hs⟩ : ∃ s,t - x = s := ⟨_,rfl⟩
  rw [hs]
  clear L I he hk hy hfa ho hle h0 hx ha hn hs
  go_enter Tryz.func87,Tryz.ntmps87
  go_wp2_with fail
  (with_reducible refine HO.out.mono ?_); rintro e w1 ⟨rfl,hw⟩; replace hw := hw.symm; subst hw
  go_wp2_with fail
  (with_reducible refine (HA.out _).mono ?_); rintro e w2 ⟨rfl,f2⟩
  have H2 := Lib.hid (And.intro f2 (HL.out.fr0 f2))
  clear f2
  go_wp2_with fail
  (with_reducible refine (HP.out _ H2.out.2).mono ?_); rintro e w4 ⟨rfl,ob',L4,o4,f4⟩
  have H4 := Lib.hid (And.intro L4 (And.intro o4 f4))
  clear L4 o4 f4
  go_wp2_with fail
  go_ret
  exact ⟨rfl,ob',H4.out.1,H4.out.2.1.of H2.out.1,(LS.fr0 H2.out.1).trans' H4.out.2.2⟩
 ·rw [if_neg he]
  rw [aJh he] at HA
  obtain ⟨E,hE⟩ : ∃ E,sbE (f a) x = E := ⟨_,rfl⟩
  rw [hE] at he HA ⊢
  have q1 : (E != 0) = true := by simp [he]
  obtain ⟨fa,hfa⟩ : ∃ z,f a = z := ⟨_,rfl⟩
  rw [hfa] at HO HA
  clear L I ho hle h0 hx ha hn hE hfa
  go_enter Tryz.func87,Tryz.ntmps87
  go_wp2_with fail
  (with_reducible refine HO.out.mono ?_); rintro e w1 ⟨rfl,hw⟩; replace hw := hw.symm; subst hw
  go_wp2_with fail
  (with_reducible refine (HA.out _).mono ?_); rintro e w2 ⟨rfl,f2⟩
  have H2 := Lib.hid (And.intro f2 (HL.out.fr0 f2))
  clear f2
  go_wp2_with fail
  go_ret
  exact ⟨rfl,ob,H2.out.2.mono (Nat.le_succ n),.inl rfl,LS.fr0 H2.out.1⟩
theorem axq {f : Nat → Nat} {t a b x : Nat} (I : Lg f t) (ha : a < 256) (h : (zx f t a x).1 = 0) : alf f t a b x = abo (zx f t a x).2.1 (zx f t a x).2.2 b x := by
 unfold zx at h ⊢
 unfold alf
 have hle := I.le
 by_cases hb : afy x = true
 ·rw [if_pos hb] at h; cases h
 rw [if_neg hb] at h ⊢
 rw [if_neg hb]
 by_cases h2 : f a < x
 ·rw [if_pos h2] at h; cases h
 rw [if_neg h2,if_neg h2]
 have h1 := I.one ha
 unfold abo
 rw [if_neg hb]
 dsimp only
 have hx : x ≤ 4611686018427387904 := by simp [afy] at hb; omega
 rw [if_neg (show ¬ 4611686018427387904 - x < t - x by omega),show t - x + x = t by omega]
theorem aD9 {f : Nat → Nat} {t a b x : Nat} (h : (zx f t a x).1 ≠ 0) : alf f t a b x = ((zx f t a x).1,f,t) := by
 unfold zx at h ⊢
 unfold alf
 by_cases hb : afy x = true
 ·rw [if_pos hb,if_pos hb]
 rw [if_neg hb] at h ⊢
 rw [if_neg hb]
 by_cases h2 : f a < x
 ·rw [if_pos h2,if_pos h2]
 ·rw [if_neg h2] at h; exact absurd rfl h
theorem aFl {f : Nat → Nat} {t a x : Nat} (h : (zx f t a x).1 ≠ 0) : (zx f t a x).2.1 = f := by
 unfold zx at h ⊢
 by_cases hb : afy x = true
 ·rw [if_pos hb]
 rw [if_neg hb] at h ⊢
 by_cases h2 : f a < x
 ·rw [if_pos h2]
 ·rw [if_neg h2] at h; exact absurd rfl h
theorem asg {w : World} {p n t : Nat} {ob : Option Nat} {f : Nat → Nat} (L : LG w p ob n f) (I : Lg f t) (hn : n + 1 < maxLen) {a b x : Nat} (ha : a < 256) (hb : b < 256) (hx : x < 18446744073709551616) :
  Calls Tryz.prog 45 #[.pointer (some ⟨p,0,none⟩),.int .u8 (a : Int),.int .u8 (b : Int),.int .u64 (x : Int)] w (aF9 w p ob (n + 2) (alf f t a b x)) := by
 have HB := Lib.hid (ada L I (show n < maxLen by omega) ha hx)
 by_cases h : (zx f t a x).1 = 0
 ·have hm := axq (b := b) I ha h
  have I2 := I.burn ha x
  have h2 : (zx f t a x).1 = 0 := h
  rw [hm]
  obtain ⟨⟨E,f2,t2⟩,hq⟩ : ∃ q,zx f t a x = q := ⟨_,rfl⟩
  rw [hq] at HB I2 h2 ⊢
  dsimp only at I2 h2 ⊢
  subst h2
  have HM := Lib.hid (fun (W : World) (ob : Option Nat) (L : LG W p ob (n + 1) f2) => afe L I2 hn hb hx)
  clear L I I2 hq hm h hn ha hb hx
  go_enter Tryz.func45,Tryz.ntmps45
  go_wp2_with fail
  (with_reducible refine HB.out.mono ?_); rintro e w1 ⟨rfl,ob1,L1,o1,f1⟩
  have H1 := Lib.hid (And.intro L1 (And.intro o1 f1))
  clear L1 o1 f1
  go_wp2_with fail
  (with_reducible refine (HM.out _ _ H1.out.1).mono ?_); rintro e w2 ⟨rfl,ob2,L2,o2,f2'⟩
  have H2 := Lib.hid (And.intro L2 (And.intro o2 f2'))
  clear L2 o2 f2'
  go_wp2_with fail
  go_ret
  obtain ⟨o1,f1⟩ := H1.out.2
  obtain ⟨L2,o2,g2⟩ := H2.out
  refine ⟨rfl,ob2,L2,?_,?_⟩
  ·rcases o1 with h | ⟨h,B,e,hb⟩
   ·rw [h] at o2
    exact o2.of f1
   ·rcases o2 with h2 | ⟨h2,_⟩
    ·exact .inr ⟨h,B,h2.trans e,hb⟩
    ·rw [e] at h2; cases h2
  ·refine f1.trans g2 fun i hi hs => ?_
   rcases hs with hs | hs
   ·exact .inl hs
   ·rcases o1 with h | ⟨h,B,e,hb⟩
    ·exact .inr (by rw [← h]; exact hs)
    ·rw [e] at hs
     have := Option.some.inj hs
     omega
 ·have hm := aD9 (b := b) h
  have hf := aFl h
  rw [hm]
  obtain ⟨⟨E,f2,t2⟩,hq⟩ : ∃ q,zx f t a x = q := ⟨_,rfl⟩
  rw [hq] at HB h hf ⊢
  dsimp only at h hf ⊢
  subst hf
  have q1 : (E != 0) = true := by simp [h]
  clear L I hq hm h hn ha hb hx
  go_enter Tryz.func45,Tryz.ntmps45
  go_wp2_with fail
  (with_reducible refine HB.out.mono ?_); rintro e w1 ⟨rfl,ob1,L1,o1,f1⟩
  have H1 := Lib.hid (And.intro L1 (And.intro o1 f1))
  clear L1 o1 f1
  go_wp2_with fail
  go_ret
  exact ⟨rfl,ob1,H1.out.1.mono (Nat.le_succ _),H1.out.2.1,H1.out.2.2⟩
theorem als (w : World) : Calls Tryz.prog 39 #[] w fun e w' => ∃ p,e = .returned (.pointer (some ⟨p,0,none⟩)) ∧ LG w' p none 0 (fun _ => 0) ∧ Fr F0 w w' ∧ w.heap.size ≤ p := by
 have hb : ∀ w,(Instr.build 152 #[]).run Tryz.prog w = .ok (.agg #[.map none]) w := fun w => run_build w _ _ _ (by kernel_rfl)
 go_enter Tryz.func39,Tryz.ntmps39
 go_wp2
 go_ret
 exact ⟨w.heap.size,rfl,⟨heap_alloc_new _ _,fun _ _ => rfl,fun e => by cases e⟩,(Fr.refl F0 w).alloc _,Nat.le_refl _⟩
theorem apz {w : World} {ob : Option Nat} {n : Nat} {f : Nat → Nat} (h : MO w ob n f) : Calls Tryz.prog 118 #[.map ob] w fun e w' => ∃ ob',e = .returned (.map ob') ∧ MO w' ob' n f ∧ Fr F0 w w' ∧ ∀ B,ob' = some B → w.heap.size ≤ B ∧ B < w'.heap.size := by
 cases ob with
 |none =>
  refine (apy w).mono ?_
  rintro e w' ⟨he,rfl⟩
  exact ⟨none,he,h,Fr.refl _ _,fun B e => by cases e⟩
 |some B =>
  refine (anx (show MZ w B n f from h)).mono ?_
  rintro e w' ⟨he,hm,hf,hs⟩
  exact ⟨some w.heap.size,he,hm,hf,fun B e => by have := Option.some.inj e; omega⟩
theorem aiv {w : World} {p n : Nat} {ob : Option Nat} {f : Nat → Nat} (L : LG w p ob n f) :
  Calls Tryz.prog 67 #[.pointer (some ⟨p,0,none⟩)] w fun e w' => ∃ p' ob',e = .returned (.pointer (some ⟨p',0,none⟩)) ∧ LG w' p' ob' n f ∧ Fr F0 w w' ∧ w.heap.size ≤ p' ∧ ∀ B,ob' = some B → w.heap.size ≤ B := by
 have e0 := L.at_
 have HC := Lib.hid (apz L.map)
 have hb : ∀ (v : Option Nat) w,(Instr.build 152 #[(0,.map v)]).run Tryz.prog w = .ok (.agg #[.map v]) w := fun v w => run_build w _ _ _ (by kernel_rfl)
 clear L
 go_enter Tryz.func67,Tryz.ntmps67
 go_wp2_with fail
 (with_reducible refine HC.out.mono ?_); rintro e w1 ⟨ob',rfl,h1,f1,hB⟩
 have H1 := Lib.hid (And.intro h1 (And.intro f1 hB))
 clear h1 f1 hB HC
 have hb1 := hb ob'
 clear hb
 go_wp2_with fail
 go_ret
 have f2 : Fr F0 w1 (w1.alloc (.cells #[.map ob'] 152)) := (Fr.refl F0 w1).alloc _
 refine ⟨w1.heap.size,ob',rfl,⟨heap_alloc_new _ _,H1.out.1.fr f2 (fun _ _ x => x),fun e => ?_⟩,H1.out.2.1.trans' f2,H1.out.2.1.size,fun B e => (H1.out.2.2 B e).1⟩
 have := (H1.out.2.2 _ e).2
 omega
end Go.Proofs.YtohckefafbhooaaGreat
namespace Go.Proofs.YtohckefafbhooaaGreat
set_option linter.unusedVariables false
set_option linter.unusedSimpArgs false
open Go.RowKit Go.Shelf
attribute [local go_sem] Oper.semAt_some
def encW (x : Nat) : List Value := [.int .u8 (x : Int)]
abbrev OwnW (B : Nat) (w : World) (v : Value) (l : List Nat) : Prop := uj 66 1 encW B w v l
end Go.Proofs.YtohckefafbhooaaGreat
namespace Go.Proofs.YtohckefafbhooaaGreat
set_option linter.unusedVariables false
set_option linter.unusedSimpArgs false
open Go.RowKit Go.Shelf
end Go.Proofs.YtohckefafbhooaaGreat
namespace Go.Proofs.YtohckefafbhooaaGreat
set_option linter.unusedVariables false
set_option linter.unusedSimpArgs false
open Go.RowKit Go.Shelf
attribute [local go_sem] Oper.semAt_some
abbrev encH (x : Nat × Nat) : Array Value := #[.int .u8 (x.1 : Int),.int .u64 (x.2 : Int)]
end Go.Proofs.YtohckefafbhooaaGreat
namespace Go.Proofs.YtohckefafbhooaaGreat
set_option linter.unusedVariables false
set_option linter.unusedSimpArgs false
open Go.RowKit
structure PG (w : World) (q p : Nat) (ob : Option Nat) (n : Nat) (f : Nat → Nat) (t h i o : Nat) : Prop where
 at_ : w.heap[q]? = some (.cells #[.pointer (some ⟨p,0,none⟩),.int .u64 (i : Nat),.int .u64 (o : Nat)] 122 (0,0))
 led : LG w p ob n f
 inv : Lg f t
 sum : t + h + o = i
 le : i ≤ 4611686018427387904
 qp : q ≠ p
 oq : ob ≠ some q
def PS (q p : Nat) (ob : Option Nat) : Nat → Prop := fun k => k = q ∨ LS p ob k
section
variable {w w' : World} {q p n t h i o : Nat} {ob : Option Nat} {f : Nat → Nat}
theorem PG.fr {S : Nat → Prop} (d : PG w q p ob n f t h i o) (r : Fr S w w') (hq : ¬ S q) (hp : ¬ S p) (hb : ∀ B,ob = some B → ¬ S B) : PG w' q p ob n f t h i o :=
 ⟨r.keeps hq d.at_,d.led.fr r hp hb,d.inv,d.sum,d.le,d.qp,d.oq⟩
theorem PG.fr0 (d : PG w q p ob n f t h i o) (r : Fr F0 w w') : PG w' q p ob n f t h i o := d.fr r (fun x => x) (fun x => x) fun _ _ x => x
theorem PG.lt (d : PG w q p ob n f t h i o) : q < w.heap.size := (Array.getElem?_eq_some_iff.1 d.at_).1
theorem LS.ps {k : Nat} (h : LS p ob k) : PS q p ob k := .inr h
theorem PG.keep (d : PG w q p ob n f t h i o) (r : Fr (LS p ob) w w') : w'.heap[q]? = some (.cells #[.pointer (some ⟨p,0,none⟩),.int .u64 (i : Nat),.int .u64 (o : Nat)] 122 (0,0)) := r.keeps (LS.not d.qp d.oq) d.at_
theorem PG.oq2 (d : PG w q p ob n f t h i o) {ob' : Option Nat} (b : OB w ob ob') : ob' ≠ some q := fun e => by
 rcases b with b | ⟨_,B,b,hb⟩
 ·exact d.oq (by rw [← b]; exact e)
 ·rw [e] at b
  have := Option.some.inj b
  have := d.lt
  omega
end
theorem ap5 (p : Option Addr) (i o : Int) (w : World) : (Instr.build 122 #[(0,.pointer p),(1,.int .u64 i),(2,.int .u64 o)]).run Tryz.prog w = .ok (.agg #[.pointer p,.int .u64 i,.int .u64 o]) w := run_build w _ _ _ (by kernel_rfl)
theorem an1 (p : Option Addr) (w : World) : (Instr.build 122 #[(0,.pointer p)]).run Tryz.prog w = .ok (.agg #[.pointer p,.int .u64 0,.int .u64 0]) w := run_build w _ _ _ (by kernel_rfl)
theorem axh (w : World) : Calls Tryz.prog 40 #[] w fun e w' => ∃ q p,e = .returned (.pointer (some ⟨q,0,none⟩)) ∧ PG w' q p none 0 (fun _ => 0) 0 0 0 0 ∧ Fr F0 w w' ∧ w.heap.size ≤ q ∧ w.heap.size ≤ p := by
 have H := Lib.hid (als w)
 have hb := an1
 go_enter Tryz.func40,Tryz.ntmps40
 go_wp2_with fail
 refine H.out.mono ?_; rintro e w1 ⟨p,rfl,L,f1,hp⟩
 have H1 := Lib.hid (And.intro L (And.intro f1 hp))
 clear L f1 hp
 go_wp2_with fail
 go_ret
 have f2 : Fr F0 w1 (w1.alloc (.cells #[.pointer (some ⟨p,0,none⟩),.int .u64 0,.int .u64 0] 122)) := (Fr.refl F0 w1).alloc _
 have hl := H1.out.1.lt
 exact ⟨w1.heap.size,p,rfl,⟨heap_alloc_new _ _,H1.out.1.fr0 f2,Lg.nobody,rfl,by omega,by omega,fun e => by cases e⟩,H1.out.2.1.trans' f2,H1.out.2.1.size,H1.out.2.2⟩
theorem afu {w : World} {q p n t h i o : Nat} {ob : Option Nat} {f : Nat → Nat} (d : PG w q p ob n f t h i o) : Calls Tryz.prog 117 #[.pointer (some ⟨q,0,none⟩)] w fun e w' => e = .returned (.pointer (some ⟨p,0,none⟩)) ∧ w' = w := by
 have e0 := d.at_
 clear d
 go_enter Tryz.func117,Tryz.ntmps117
 go_wp2
 go_ret
 exact ⟨rfl,rfl⟩
theorem ai5 {w : World} {q p n t h i o : Nat} {ob : Option Nat} {f : Nat → Nat} (d : PG w q p ob n f t h i o) : Calls Tryz.prog 60 #[.pointer (some ⟨q,0,none⟩)] w fun e w' => e = .returned (.tuple #[.int .u64 (i : Nat),.int .u64 (o : Nat)]) ∧ Fr F0 w w' := by
 have e0 := d.at_
 clear d
 have F := (Fr.refl F0 w).drew
 go_enter Tryz.func60,Tryz.ntmps60
 go_upto_region 3 with fail
 go_region
 go_wp2_with fail
 go_ret2
 exact ⟨rfl,F⟩
theorem ai6 {w : World} {q p n t h i o : Nat} {ob : Option Nat} {f : Nat → Nat} (d : PG w q p ob n f t h i o) : Calls Tryz.prog 59 #[.pointer (some ⟨q,0,none⟩)] w fun e w' => e = .returned (.int .u64 (h : Nat)) ∧ Fr F0 w w' := by
 have H1 := Lib.hid (ai5 d)
 have H2 := Lib.hid (fun (W : World) (F : Fr F0 w W) => afu (d.fr0 F))
 have H3 := Lib.hid (fun (W : World) (F : Fr F0 w W) => ad4 (d.led.fr0 F) d.inv)
 have hs := d.sum
 have hle := d.le
 have m1 : IntKind.u64.wrap ((i : Int) - (o : Int)) = ((i - o : Nat) : Int) := by rw [IntWalk.u64_in _ (by omega)]; omega
 have m2 : IntKind.u64.wrap (((i - o : Nat) : Int) - (t : Int)) = (h : Int) := by rw [IntWalk.u64_in _ (by omega)]; omega
 obtain ⟨y,hy⟩ : ∃ y,i - o = y := ⟨_,rfl⟩
 rw [hy] at m1 m2
 clear d hs hle hy
 go_enter Tryz.func59,Tryz.ntmps59
 go_wp2_with fail
 (with_reducible refine H1.out.mono ?_); rintro e w1 ⟨rfl,f1⟩
 have F1 := Lib.hid f1
 clear f1
 go_wp2_with fail
 (with_reducible refine (H2.out w1 F1.out).mono ?_); rintro e w2 ⟨rfl,hw⟩; replace hw := hw.symm; subst hw
 go_wp2_with fail
 (with_reducible refine (H3.out w1 F1.out).mono ?_); rintro e w3 ⟨rfl,f3⟩
 have F3 := Lib.hid (F1.out.trans' f3)
 clear f3
 go_wp2_with fail
 go_ret
 exact ⟨rfl,F3.out⟩
theorem aAb {w : World} {q p n t h i o : Nat} {ob : Option Nat} {f : Nat → Nat} (d : PG w q p ob n f t h i o) {a : Nat} (ha : a < 256) : Calls Tryz.prog 64 #[.pointer (some ⟨q,0,none⟩),.int .u8 (a : Int)] w fun e w' => e = .returned (.int .u64 (f a : Nat)) ∧ w' = w := by
 have H1 := Lib.hid (afu d)
 have H2 := Lib.hid (af6 d.led ha)
 clear d ha
 generalize f a = fa at *
 go_enter Tryz.func64,Tryz.ntmps64
 go_wp2_with fail
 (with_reducible refine H1.out.mono ?_); rintro e w1 ⟨rfl,hw⟩; subst hw
 go_wp2_with fail
 (with_reducible refine H2.out.mono ?_); rintro e w2 ⟨rfl,hw⟩; subst hw
 go_wp2_with fail
 go_ret
 exact ⟨rfl,rfl⟩
def azf (f : Nat → Nat) (t a x : Nat) : Int × (Nat → Nat) × Nat := if x = 0 then (0,f,t) else abo f t a x
def ar4 (f : Nat → Nat) (t a x : Nat) : Int × (Nat → Nat) × Nat := if x = 0 then (0,f,t) else zx f t a x
theorem aBv (f : Nat → Nat) (a : Nat) : upd f a (f a) = f := by
 funext k
 by_cases e : k = a
 ·subst e; exact upd_same _ _ _
 ·exact aaf e
theorem av9 {f : Nat → Nat} {t a x : Nat} (h : t + x ≤ 4611686018427387904) : azf f t a x = (0,upd f a (f a + x),t + x) := by
 unfold azf
 by_cases e : x = 0
 ·subst e; rw [if_pos rfl,Nat.add_zero,aBv]; rfl
 ·rw [if_neg e]
  unfold abo
  rw [if_neg (by simp [afy]; omega),if_neg (by omega)]
theorem aDf {f : Nat → Nat} {t a x : Nat} (h : x ≤ f a) (h2 : f a ≤ 4611686018427387904) : ar4 f t a x = (0,upd f a (f a - x),t - x) := by
 unfold ar4
 by_cases e : x = 0
 ·subst e; rw [if_pos rfl,Nat.sub_zero,aBv]; rfl
 ·rw [if_neg e]
  unfold zx
  rw [if_neg (by simp [afy]; omega),if_neg (by omega)]
def ay4 (x : Nat) : Int := if 4611686018427387904 < x then 1 else 16
theorem aDg {f : Nat → Nat} {t a x : Nat} (h : f a < x) : ar4 f t a x = (ay4 x,f,t) := by
 unfold ar4 ay4
 rw [if_neg (by omega)]
 unfold zx
 by_cases e : 4611686018427387904 < x
 ·rw [if_pos (by simp [afy,e]),if_pos e]
 ·rw [if_neg (by simp [afy]; omega),if_pos h,if_neg e]
theorem aEt (x : Nat) : (ay4 x != 0) = true := by unfold ay4; split <;> rfl
def ahy (x : Nat) : Int := if 4611686018427387904 < x then 1 else 4
theorem aAg (x : Nat) : (ahy x != 0) = true := by unfold ahy; split <;> rfl
theorem aBm {a x : Nat} (h : 4611686018427387904 < a + x) (ha : a ≤ 4611686018427387904) : adE a x = ahy x := by
 unfold adE ahy
 by_cases e : 4611686018427387904 < x
 ·rw [if_neg (by omega),if_pos e]
 ·rw [if_pos (by omega),if_neg (by omega),if_neg e]
theorem ao6 {a x : Nat} (h : a + x ≤ 4611686018427387904) : adE a x = 0 ∧ adV a x = a + x := by
 unfold adE adV
 rw [if_pos (by omega),if_pos h,if_pos (by omega)]
 exact ⟨rfl,rfl⟩
theorem aot {a x : Nat} (h : x ≤ a) (ha : a ≤ 4611686018427387904) : sbE a x = 0 ∧ sbV a x = a - x := by
 unfold sbE sbV
 rw [if_pos (by omega),if_pos h,if_pos (by omega)]
 exact ⟨rfl,rfl⟩
def PuQ (w : World) (q p : Nat) (ob : Option Nat) (n : Nat) (f : Nat → Nat) (t h i o : Nat) (E : Int) (e : Ending) (w' : World) : Prop :=
 e = .returned (.int .i64 E) ∧ ∃ ob',PG w' q p ob' n f t h i o ∧ OB w ob ob' ∧ Fr (PS q p ob) w w'
theorem ai4 {w : World} {q p n t h i o : Nat} {ob : Option Nat} {f : Nat → Nat} (d : PG w q p ob n f t h i o) (hn : n < maxLen) {a x : Nat} (ha : a < 256) (hx : x < 18446744073709551616) :
  Calls Tryz.prog 77 #[.pointer (some ⟨q,0,none⟩),.int .u8 (a : Int),.int .u64 (x : Int)] w (aF9 w p ob (n + 1) (azf f t a x)) := by
 have HL := Lib.hid d.led
 unfold azf
 by_cases h0 : x = 0
 ·subst h0
  rw [if_pos rfl]
  clear d
  go_enter Tryz.func77,Tryz.ntmps77
  go_wp2_with fail
  go_ret
  exact ⟨rfl,ob,HL.out.mono (Nat.le_succ n),.inl rfl,Fr.refl _ _⟩
 rw [if_neg h0]
 have q0 : ((x : Int) == 0) = false := by simp; omega
 have e0 := d.at_
 have H := Lib.hid (afe d.led d.inv hn ha hx)
 generalize abo f t a x = Q at *
 clear d h0 hn ha hx
 go_enter Tryz.func77,Tryz.ntmps77
 go_wp2_with fail
 refine H.out.mono ?_; rintro e w1 ⟨rfl,ob1,L1,o1,f1⟩
 have H1 := Lib.hid (And.intro L1 (And.intro o1 f1))
 clear L1 o1 f1
 go_wp2_with fail
 go_ret
 exact ⟨rfl,ob1,H1.out⟩
theorem ai3 {w : World} {q p n t h i o : Nat} {ob : Option Nat} {f : Nat → Nat} (d : PG w q p ob n f t h i o) (hn : n < maxLen) {a x : Nat} (ha : a < 256) (hx : x < 18446744073709551616) :
  Calls Tryz.prog 109 #[.pointer (some ⟨q,0,none⟩),.int .u8 (a : Int),.int .u64 (x : Int)] w (aF9 w p ob (n + 1) (ar4 f t a x)) := by
 have HL := Lib.hid d.led
 unfold ar4
 by_cases h0 : x = 0
 ·subst h0
  rw [if_pos rfl]
  clear d
  go_enter Tryz.func109,Tryz.ntmps109
  go_wp2_with fail
  go_ret
  exact ⟨rfl,ob,HL.out.mono (Nat.le_succ n),.inl rfl,Fr.refl _ _⟩
 rw [if_neg h0]
 have q0 : ((x : Int) == 0) = false := by simp; omega
 have e0 := d.at_
 have H := Lib.hid (ada d.led d.inv hn ha hx)
 generalize zx f t a x = Q at *
 clear d h0 hn ha hx
 go_enter Tryz.func109,Tryz.ntmps109
 go_wp2_with fail
 refine H.out.mono ?_; rintro e w1 ⟨rfl,ob1,L1,o1,f1⟩
 have H1 := Lib.hid (And.intro L1 (And.intro o1 f1))
 clear L1 o1 f1
 go_wp2_with fail
 go_ret
 exact ⟨rfl,ob1,H1.out⟩
theorem al0 {w : World} {q p n t h i o : Nat} {ob : Option Nat} {f : Nat → Nat} (d : PG w q p ob n f t h i o) (hn : n < maxLen) {a x : Nat} (ha : a < 256) (hx : x ≤ f a) :
  Calls Tryz.prog 109 #[.pointer (some ⟨q,0,none⟩),.int .u8 (a : Int),.int .u64 (x : Int)] w (PuQ w q p ob (n + 1) (upd f a (f a - x)) (t - x) (h + x) i o 0) := by
 have ho := d.inv.one ha
 have hs := d.sum
 have hle := d.le
 have H := ai3 d hn ha (show x < 18446744073709551616 by omega)
 rw [aDf hx (by omega)] at H
 refine H.mono ?_
 rintro e w1 ⟨he,ob1,L1,o1,f1⟩
 refine ⟨he,ob1,⟨d.keep f1,L1,?_,by omega,hle,d.qp,d.oq2 o1⟩,o1,f1.mono fun k _ e => .inr e⟩
 have e := qy f (f a - x) 256 a ha
 have := d.inv.sum
 exact ⟨by omega,by omega⟩
theorem axf {w : World} {q p n t h i o : Nat} {ob : Option Nat} {f : Nat → Nat} (d : PG w q p ob n f t h i o) (hn : n < maxLen) {a x : Nat} (ha : a < 256) (hx : f a < x) (hx2 : x < 18446744073709551616) :
  Calls Tryz.prog 109 #[.pointer (some ⟨q,0,none⟩),.int .u8 (a : Int),.int .u64 (x : Int)] w (PuQ w q p ob (n + 1) f t h i o (ay4 x)) := by
 have H := ai3 d hn ha hx2
 rw [aDg hx] at H
 refine H.mono ?_
 rintro e w1 ⟨he,ob1,L1,o1,f1⟩
 exact ⟨he,ob1,⟨d.keep f1,L1,d.inv,d.sum,d.le,d.qp,d.oq2 o1⟩,o1,f1.mono fun k _ e => .inr e⟩
theorem axg {w : World} {q p n t h i o : Nat} {ob : Option Nat} {f : Nat → Nat} (d : PG w q p ob n f t h i o) (hn : n < maxLen) {a x : Nat} (ha : a < 256) (hx : x ≤ h) :
  Calls Tryz.prog 77 #[.pointer (some ⟨q,0,none⟩),.int .u8 (a : Int),.int .u64 (x : Int)] w (PuQ w q p ob (n + 1) (upd f a (f a + x)) (t + x) (h - x) i o 0) := by
 have hs := d.sum
 have hle := d.le
 have H := ai4 d hn ha (show x < 18446744073709551616 by omega)
 rw [av9 (show t + x ≤ 4611686018427387904 by omega)] at H
 refine H.mono ?_
 rintro e w1 ⟨he,ob1,L1,o1,f1⟩
 refine ⟨he,ob1,⟨d.keep f1,L1,?_,by omega,hle,d.qp,d.oq2 o1⟩,o1,f1.mono fun k _ e => .inr e⟩
 have e := qy f (f a + x) 256 a ha
 have := d.inv.sum
 exact ⟨by omega,by omega⟩
theorem apx {E : Int} {q a x : Nat} {w : World} {Q : World → Prop} (H : Calls Tryz.prog 109 #[.pointer (some ⟨q,0,none⟩),.int .u8 (a : Int),.int .u64 (x : Int)] w fun e w' => e = .returned (.int .i64 E) ∧ Q w') :
  Calls Tryz.prog 120 #[.pointer (some ⟨q,0,none⟩),.int .u8 (a : Int),.int .u64 (x : Int)] w fun e w' => e = .returned (.int .i64 E) ∧ Q w' := by
 replace H := Lib.hid H
 go_enter Tryz.func120,Tryz.ntmps120
 go_wp2_with fail
 refine H.out.mono ?_; rintro e w1 ⟨rfl,hr⟩
 replace hr := Lib.hid hr
 go_wp2_with fail
 go_ret
 exact ⟨rfl,hr.out⟩
theorem axi {w : World} {q p n t h i o : Nat} {ob : Option Nat} {f : Nat → Nat} (d : PG w q p ob n f t h i o) (hn : n < maxLen) {a x : Nat} (ha : a < 256) (hx : x ≤ f a) :
  Calls Tryz.prog 120 #[.pointer (some ⟨q,0,none⟩),.int .u8 (a : Int),.int .u64 (x : Int)] w (PuQ w q p ob (n + 1) (upd f a (f a - x)) (t - x) (h + x) i o 0) := apx (al0 d hn ha hx)
theorem PG.paid {w : World} {q p n t h i o x : Nat} {ob : Option Nat} {f : Nat → Nat} (D : PG w q p ob n f t (h + x) i o) :
  PG (w.setCell ⟨q,2,none⟩ (.int .u64 ((o + x : Nat) : Int))) q p ob n f t h i (o + x) ∧ Fr (fun k => k = q) w (w.setCell ⟨q,2,none⟩ (.int .u64 ((o + x : Nat) : Int))) := by
 have f2 : Fr (fun k => k = q) w (w.setCell ⟨q,2,none⟩ (.int .u64 ((o + x : Nat) : Int))) := (Fr.refl (fun k => k = q) w).setCell (p := ⟨q,2,none⟩) (fun _ => rfl) _
 refine ⟨⟨abm w q 2 _ _ _ _ D.at_,D.led.fr f2 (fun e => D.qp e.symm) (fun B e hb => D.oq (by rw [e,hb])),D.inv,?_,D.le,D.qp,D.oq⟩,f2⟩
 have := D.sum
 omega
theorem az9 {w : World} {q p n t h i o : Nat} {ob : Option Nat} {f : Nat → Nat} (d : PG w q p ob n f t h i o) (hn : n < maxLen) {a x : Nat} (ha : a < 256) (hx : x ≤ f a) :
  Calls Tryz.prog 44 #[.pointer (some ⟨q,0,none⟩),.int .u8 (a : Int),.int .u64 (x : Int)] w (PuQ w q p ob (n + 1) (upd f a (f a - x)) (t - x) h i (o + x) 0) := by
 have H := Lib.hid (al0 d hn ha hx)
 have ho := d.inv.one ha
 have hs := d.sum
 have hle := d.le
 have m1 : IntKind.u64.wrap ((o : Int) + (x : Int)) = ((o + x : Nat) : Int) := by rw [IntWalk.u64_in _ (by omega)]; omega
 obtain ⟨g,hg⟩ : ∃ g,upd f a (f a - x) = g := ⟨_,rfl⟩
 rw [hg] at H ⊢
 obtain ⟨s,hs2⟩ : ∃ s,t - x = s := ⟨_,rfl⟩
 rw [hs2] at H ⊢
 have HP : Hid (∀ (W : World) (ob : Option Nat),PG W q p ob (n + 1) g s (h + x) i o → _) := Lib.hid fun W ob D => D.paid
 obtain ⟨y,hy⟩ : ∃ y,o + x = y := ⟨_,rfl⟩
 rw [hy] at m1 HP ⊢
 clear d ho hs hle hy hx hn ha hg hs2
 go_enter Tryz.func44,Tryz.ntmps44
 go_wp2_with fail
 refine H.out.mono ?_; rintro e w1 ⟨rfl,ob1,D1,o1,f1⟩
 have e0 := D1.at_
 have H1 := Lib.hid (And.intro D1 (And.intro o1 f1))
 clear D1 o1 f1
 go_wp2_with fail
 go_ret
 obtain ⟨D,o1,f1⟩ := H1.out
 obtain ⟨D2,f2⟩ := HP.out w1 ob1 D
 exact ⟨rfl,ob1,D2,o1,f1.trans f2 fun k _ e => .inl e⟩
theorem aAa {w : World} {q p n t h i o : Nat} {ob : Option Nat} {f : Nat → Nat} (d : PG w q p ob n f t h i o) (hn : n < maxLen) {a x : Nat} (ha : a < 256) (hx : f a < x) (hx2 : x < 18446744073709551616) :
  Calls Tryz.prog 44 #[.pointer (some ⟨q,0,none⟩),.int .u8 (a : Int),.int .u64 (x : Int)] w (PuQ w q p ob (n + 1) f t h i o (ay4 x)) := by
 have H := Lib.hid (axf d hn ha hx hx2)
 have q0 := aEt x
 generalize ay4 x = E at *
 clear d hx hx2 hn ha
 go_enter Tryz.func44,Tryz.ntmps44
 go_wp2_with fail
 refine H.out.mono ?_; rintro e w1 ⟨rfl,ob1,D1,o1,f1⟩
 have H1 := Lib.hid (And.intro D1 (And.intro o1 f1))
 clear D1 o1 f1
 go_wp2_with fail
 go_ret
 exact ⟨rfl,ob1,H1.out⟩
theorem axj {w : World} {q p n t h i o : Nat} {ob : Option Nat} {f : Nat → Nat} (d : PG w q p ob n f t h i o) (hn : n < maxLen) {a x : Nat} (ha : a < 256) (hx : x ≤ h) :
  Calls Tryz.prog 110 #[.pointer (some ⟨q,0,none⟩),.int .u8 (a : Int),.int .u64 (x : Int)] w (PuQ w q p ob (n + 1) (upd f a (f a + x)) (t + x) (h - x) i o 0) := by
 have hs := d.sum
 have hle := d.le
 have HH := Lib.hid (ai6 d)
 have HA := Lib.hid fun w => vw h x (by omega) (by omega) w
 rw [(aot hx (by omega)).1,(aot hx (by omega)).2] at HA
 have HG := Lib.hid (fun (W : World) (F : Fr F0 w W) => axg (d.fr0 F) hn ha hx)
 obtain ⟨g,hg⟩ : ∃ g,upd f a (f a + x) = g := ⟨_,rfl⟩
 rw [hg] at HG ⊢
 obtain ⟨s,hs2⟩ : ∃ s,t + x = s := ⟨_,rfl⟩
 rw [hs2] at HG ⊢
 obtain ⟨y,hy⟩ : ∃ y,h - x = y := ⟨_,rfl⟩
 rw [hy] at HG HA ⊢
 clear d hs hle hy hx hn ha hg hs2
 go_enter Tryz.func110,Tryz.ntmps110
 go_wp2_with fail
 (with_reducible refine HH.out.mono ?_); rintro e w1 ⟨rfl,f1⟩
 have F1 := Lib.hid f1
 clear f1
 go_wp2_with fail
 (with_reducible refine (HA.out w1).mono ?_); rintro e w2 ⟨rfl,f2⟩
 have F2 := Lib.hid (F1.out.trans' f2)
 clear f2
 go_wp2_with fail
 refine (HG.out w2 F2.out).mono ?_; rintro e w3 ⟨rfl,ob1,D1,o1,f3⟩
 have H1 := Lib.hid (And.intro D1 (And.intro (o1.of F2.out) ((F2.out.of0 (T := PS q p ob)).trans' f3)))
 clear D1 o1 f3
 go_wp2_with fail
 go_ret
 exact ⟨rfl,ob1,H1.out⟩
theorem PG.came {w w1 : World} {q p n m t h i o x a : Nat} {ob ob1 : Option Nat} {f : Nat → Nat} (d : PG w q p ob n f t h i o) (ha : a < 256) (hx : i + x ≤ 4611686018427387904) (L : LG w1 p ob1 m (upd f a (f a + x))) (o1 : OB w ob ob1) (f1 : Fr (LS p ob) w w1) :
  PG (w1.setCell ⟨q,1,none⟩ (.int .u64 ((i + x : Nat) : Int))) q p ob1 m (upd f a (f a + x)) (t + x) h (i + x) o ∧ Fr (PS q p ob) w (w1.setCell ⟨q,1,none⟩ (.int .u64 ((i + x : Nat) : Int))) := by
 have f2 : Fr (fun k => k = q) w1 (w1.setCell ⟨q,1,none⟩ (.int .u64 ((i + x : Nat) : Int))) := (Fr.refl (fun k => k = q) w1).setCell (p := ⟨q,1,none⟩) (fun _ => rfl) _
 refine ⟨⟨abm w1 q 1 _ _ _ _ (d.keep f1),L.fr f2 (fun e => d.qp e.symm) (fun B e hb => d.oq2 o1 (by rw [e,hb])),?_,?_,hx,d.qp,d.oq2 o1⟩,(f1.mono fun k _ e => LS.ps e).trans f2 fun k _ e => .inl e⟩
 ·have e := qy f (f a + x) 256 a ha
  have := d.inv.sum
  have := d.sum
  exact ⟨by omega,by omega⟩
 ·have := d.sum
  omega
theorem aDy {w : World} {q p n t h i o : Nat} {ob : Option Nat} {f : Nat → Nat} (d : PG w q p ob n f t h i o) (hn : n < maxLen) {a x : Nat} (ha : a < 256) (hx : i + x ≤ 4611686018427387904) :
  Calls Tryz.prog 21 #[.pointer (some ⟨q,0,none⟩),.int .u8 (a : Int),.int .u64 (x : Int)] w (PuQ w q p ob (n + 1) (upd f a (f a + x)) (t + x) h (i + x) o 0) := by
 have hs := d.sum
 have e0 := d.at_
 have HA := Lib.hid fun w => aak i x (by omega) (by omega) w
 rw [(ao6 hx).1,(ao6 hx).2] at HA
 have HG := Lib.hid (fun (W : World) (F : Fr F0 w W) => ai4 (d.fr0 F) hn ha (show x < 18446744073709551616 by omega))
 rw [av9 (show t + x ≤ 4611686018427387904 by omega)] at HG
 have HC := Lib.hid (fun (W W1 : World) (ob1 : Option Nat) (F : Fr F0 w W) L o1 f1 => (d.fr0 F).came (m := n + 1) (w1 := W1) (ob1 := ob1) ha hx L o1 f1)
 have HE := Lib.hid (fun (W : World) (F : Fr F0 w W) => (d.fr0 F))
 obtain ⟨g,hg⟩ : ∃ g,upd f a (f a + x) = g := ⟨_,rfl⟩
 rw [hg] at HG HC ⊢
 obtain ⟨s,hs2⟩ : ∃ s,t + x = s := ⟨_,rfl⟩
 rw [hs2] at HG HC ⊢
 obtain ⟨y,hy⟩ : ∃ y,i + x = y := ⟨_,rfl⟩
 rw [hy] at HA HC ⊢
 clear d hs hy hx hn ha hg hs2
 go_enter Tryz.func21,Tryz.ntmps21
 go_wp2_with fail
 (with_reducible refine (HA.out _).mono ?_); rintro e w1 ⟨rfl,f1⟩
 have F1 := Lib.hid f1
 clear f1
 go_wp2_with fail
 refine (HG.out w1 F1.out).mono ?_; rintro e w2 ⟨rfl,ob1,L1,o1,f2⟩
 have e1 := (HE.out w1 F1.out).keep f2
 have H1 := Lib.hid (And.intro L1 (And.intro o1 f2))
 clear L1 o1 f2 e0
 go_wp2_with fail
 go_ret
 obtain ⟨D2,f3⟩ := HC.out w1 w2 ob1 F1.out H1.out.1 H1.out.2.1 H1.out.2.2
 exact ⟨rfl,ob1,D2,H1.out.2.1.of F1.out,(F1.out.of0 (T := PS q p ob)).trans' f3⟩
theorem aDz {w : World} {q p n t h i o : Nat} {ob : Option Nat} {f : Nat → Nat} (d : PG w q p ob n f t h i o) {a x : Nat} (hx : 4611686018427387904 < i + x) (hx2 : x < 18446744073709551616) :
  Calls Tryz.prog 21 #[.pointer (some ⟨q,0,none⟩),.int .u8 (a : Int),.int .u64 (x : Int)] w (PuQ w q p ob n f t h i o (ahy x)) := by
 have hle := d.le
 have e0 := d.at_
 have HD := Lib.hid d
 have HA := Lib.hid fun w => aak i x (by omega) (by omega) w
 have he := aBm hx hle
 have hn : ¬ adE i x = 0 := by rw [he]; unfold ahy; split <;> decide
 rw [he,aCd hn] at HA
 have q0 := aAg x
 generalize ahy x = E at *
 clear d hle hx hn hx2 he
 go_enter Tryz.func21,Tryz.ntmps21
 go_wp2_with fail
 (with_reducible refine (HA.out _).mono ?_); rintro e w1 ⟨rfl,f1⟩
 have F1 := Lib.hid f1
 clear f1
 go_wp2_with fail
 go_ret
 exact ⟨rfl,ob,HD.out.fr0 F1.out,.inl rfl,F1.out.of0⟩
theorem as9 {w : World} {q p n t h i o : Nat} {ob : Option Nat} {f : Nat → Nat} (d : PG w q p ob n f t h i o) :
  Calls Tryz.prog 68 #[.pointer (some ⟨q,0,none⟩)] w fun e w' => ∃ q' p' ob',e = .returned (.pointer (some ⟨q',0,none⟩)) ∧ PG w' q' p' ob' n f t h i o ∧ Fr F0 w w' ∧ w.heap.size ≤ q' ∧ w.heap.size ≤ p' ∧ ∀ B,ob' = some B → w.heap.size ≤ B := by
 have e0 := d.at_
 have HD := Lib.hid d
 have HC := Lib.hid (fun (W : World) (F : Fr F0 w W) => aiv ((d.fr0 F).led))
 have hb := ap5
 have F9 := Fr.refl F0 w
 clear d
 go_enter Tryz.func68,Tryz.ntmps68
 go_upto_region 3 with fail
 refine zn (S := (fun w' => w'.heap[q]? = some (.cells #[.pointer (some ⟨p,0,none⟩),.int .u64 (i : Nat),.int .u64 (o : Nat)] 122 (0,0)) ∧ Fr F0 w w')) ?_ fun aj => ?_
 ·exact(by ((try dsimp only) <;> (exact ⟨e0,F9.drew⟩)))
 refine au 0 ?_
 refine au 1 ?_
 refine au 2 ?_
 refine au 3 ?_
 refine au 5 ?_
 refine au 6 ?_
 refine au 7 ?_
 refine au 8 ?_
 refine au 9 ?_
 refine au 10 ?_
 refine au 11 ?_
 refine au 12 ?_
 refine zi 4 fun K hK => ?_
 go_simp
 (refine (HC.out _ aj.2).mono ?_; rintro e w5 ⟨p',ob',rfl,L5,f5,hp5,hB5⟩; have HL := Lib.hid (And.intro L5 (And.intro hp5 hB5)); clear L5 hp5 hB5)
 refine rpu hK (by ((try dsimp only) <;> (first | exact aj | exact ⟨dn f5 aj.1,aj.2.trans' f5⟩))) fun aj => ?_
 clear hK K
 refine au 13 ?_
 refine zi 14 fun K hK => ?_
 go_simp
 refine rpu hK (by ((try dsimp only) <;> (first | exact aj | exact ⟨oh aj.1,aj.2.alloc _⟩))) fun aj => ?_
 clear hK K
 refine au 15 ?_
 refine aap ?_
 all_goals
  go_wp2_with fail
  go_ret
  have f6 : Fr F0 w5 (w5.alloc (.cells #[.pointer (some ⟨p',0,none⟩),.int .u64 (i : Nat),.int .u64 (o : Nat)] 122)) := (Fr.refl F0 w5).alloc _
  obtain ⟨L,hp,hB⟩ := HL.out
  have hl := L.lt
  exact ⟨w5.heap.size,p',ob',rfl,⟨heap_alloc_new _ _,L.fr0 f6,HD.out.inv,HD.out.sum,HD.out.le,by omega,fun e => by have := L.map.lt e; omega⟩,aj.2,f5.size,hp,hB⟩
end Go.Proofs.YtohckefafbhooaaGreat
namespace Go.Proofs.YtohckefafbhooaaGreat
set_option linter.unusedVariables false
set_option linter.unusedSimpArgs false
open Go.RowKit Go.Shelf
attribute [local go_sem] Oper.semAt_some
end Go.Proofs.YtohckefafbhooaaGreat
namespace Go.Proofs.YtohckefafbhooaaGreat
set_option linter.unusedVariables false
set_option linter.unusedSimpArgs false
open Go.RowKit
end Go.Proofs.YtohckefafbhooaaGreat
