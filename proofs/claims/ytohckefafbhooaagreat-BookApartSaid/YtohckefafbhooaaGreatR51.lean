import Derived.Test.YtohckefafbhooaaGreatR46
set_option maxRecDepth 100000
set_option maxHeartbeats 64000000
namespace Go.Proofs.YtohckefafbhooaaGreat
set_option linter.unusedVariables false
set_option linter.unusedSimpArgs false
open Go.RowKit
attribute [-go_sem] gq
structure LSt (KB : (Nat → Prop) → World → Nat → Bok → Prop) (S : Nat → Prop) (w0 w : World) (p : Nat) (M : Bok) (m : Nat) (sv : Value) : Prop where
 kb : KB S w p M
 ok : M.Ok
 rb : RB w0.heap.size w m usR M sv
 blk : ∀ k,S k → w0.heap.size ≤ k ∧ k < w.heap.size
 off : ¬ S m ∧ ∀ k,sv.ownBlock = some k → ¬ S k
 fr : Fr F0 w0 w
section
variable {KB : (Nat → Prop) → World → Nat → Bok → Prop} {S : Nat → Prop} {w0 w w' : World} {p m : Nat} {M : Bok} {sv : Value}
theorem LSt.frN (l : LSt KB S w0 w p M m sv) (K : aC0 KB) {T : Nat → Prop} (f : Fr T w w') (h : ∀ k,T k → w.heap.size ≤ k) : LSt KB S w0 w' p M m sv :=
 ⟨K.fr l.kb f (fun k hk _ e => absurd (h k e) (Nat.not_le.2 hk)),l.ok,l.rb.fr f (fun e => absurd (h m e) (Nat.not_le.2 l.rb.lt)) fun k hk e => absurd (h k e) (Nat.not_le.2 (l.rb.vs.lt k hk)),fun k hk => ⟨(l.blk k hk).1,Nat.lt_of_lt_of_le (l.blk k hk).2 f.size⟩,l.off,l.fr.trans f fun i hi e => absurd (Nat.le_trans l.fr.size (h i e)) (Nat.not_le.2 hi)⟩
theorem LSt.box (l : LSt KB S w0 w p M m sv) (K : aC0 KB) {w00 : World} (f0 : Fr F0 w00 w0) {g : Nat} (hg : w00.heap.size ≤ g) (hg' : g < w0.heap.size) (f : Fr (fun k => k = g) w w') : LSt KB S w00 w' p M m sv :=
 ⟨K.fr l.kb f (fun k _ hS e => by have := (l.blk k hS).1; omega),l.ok,(l.rb.mono f0.size).fr f (fun e => by have := l.rb.base; omega) (fun k hk e => by have := l.rb.vs.blk k hk; omega),fun k hk => ⟨Nat.le_trans f0.size (l.blk k hk).1,Nat.lt_of_lt_of_le (l.blk k hk).2 f.size⟩,l.off,(f0.trans' l.fr).trans f fun i hi e => by omega⟩
theorem LSt.step (l : LSt KB S w0 w p M m sv) (K : aC0 KB) {W1 W2 : World} {d : Dd} (hw : d.w < 256) (hv : d.v < 256) (hA : d.addr.length = 20) {m' : Nat} {sv' : Value} (f1 : Fr F0 w W1) (rb : RB w0.heap.size W1 m' usR (jf usR M d).1 sv') (hm : (m' = m ∧ sv' = sv) ∨ (w.heap.size ≤ m' ∧ ∀ k,sv'.ownBlock = some k → w.heap.size ≤ k))
  {T : Nat → Prop} (kb : KB T W2 p (jf usR M d).1) (hT : ∀ k,T k → S k ∨ (W1.heap.size ≤ k ∧ k < W2.heap.size)) (f2 : Fr S W1 W2) : LSt KB T w0 W2 p (jf usR M d).1 m' sv' := by
 have hs1 := f1.size
 have hs2 := f2.size
 have ho : ¬ S m' ∧ ∀ k,sv'.ownBlock = some k → ¬ S k := by
  rcases hm with ⟨rfl,rfl⟩ | ⟨h1,h2⟩
  ·exact l.off
  ·exact ⟨fun e => absurd h1 (Nat.not_le.2 (l.blk _ e).2),fun k hk e => absurd (h2 k hk) (Nat.not_le.2 (l.blk _ e).2)⟩
 refine ⟨kb,step_ok l.ok hw hv hA,rb.fr f2 ho.1 ho.2,fun k hk => ?_,⟨fun e => ?_,fun k hk e => ?_⟩,(l.fr.trans' f1).trans f2 fun i hi e => absurd (l.blk i e).1 (Nat.not_le.2 hi)⟩
 ·rcases hT k hk with e | ⟨h1,h2⟩
  ·have := l.blk k e; omega
  ·have := l.fr.size; omega
 ·rcases hT m' e with e | ⟨h1,h2⟩
  ·exact ho.1 e
  ·have := rb.lt; omega
 ·rcases hT k e with e | ⟨h1,h2⟩
  ·exact ho.2 k hk e
  ·have := rb.vs.lt k hk; omega
theorem af0 (K : aC0 KB) {ad : Option Addr} {n c : Nat} (h : afq w ad n) (kd x y : Int) (am : Nat) (A : List UInt8) (ham : am < 18446744073709551616) (hA : A.length = 20) :
  Calls Tryz.prog 3 #[.slice ad n c,.agg (dI kd x y am A)] w fun e w' => e = .returned (.bool true) ∧ Fr F0 w w' := by
 have HT := Lib.hid h
 have HK := Lib.hid K
 have HAA := Lib.hid (And.intro ham hA)
 clear h ham hA
 by_cases hb1 : 40 < n
 ·have l1 : (40 : Int) < (n : Int) := by omega
  go_enter Tryz.func3,Tryz.ntmps3
  go_upto_region 1 with fail
  refine eu fun W1 N => ?_
  have F1 := Lib.hid N.fr
  clear N
  go_wp2_with fail
  (with_reducible refine (HK.out.lives _).mono ?_); rintro e w2 ⟨rfl,f2⟩
  have F2 := Lib.hid (F1.out.trans' f2)
  clear f2
  go_wp2_with fail
  (with_reducible refine (HK.out.lives w2).mono ?_); rintro e w3 ⟨rfl,f3⟩
  have F3 := Lib.hid (F2.out.trans' f3)
  clear f3
  go_wp2_with fail
  go_ret
  exact ⟨rfl,F3.out⟩
 have b1 : n ≤ 40 := by omega
 have l1 : ¬ (40 : Int) < (n : Int) := by omega
 clear hb1
 go_enter Tryz.func3,Tryz.ntmps3
 go_upto_region 1 with fail
 refine eu fun W1 N => ?_
 have n3 := N.new
 have F1 := Lib.hid N.fr
 have H3 := Lib.hid (show w.heap.size < W1.heap.size from (Array.getElem?_eq_some_iff.1 N.new).1)
 clear N
 obtain ⟨g3,hg3⟩ : ∃ g,w.heap.size = g := ⟨_,rfl⟩
 rw [hg3] at n3 H3 ⊢
 replace n3 := Lib.hid n3
 have HG := Lib.hid (Nat.le_of_eq hg3)
 clear hg3
 go_wp2_with fail
 (with_reducible refine (HK.out.lives _).mono ?_); rintro e w2 ⟨rfl,f2⟩
 go_wp2_with fail
 (with_reducible refine (abk _).mono ?_); rintro e w3 ⟨rfl,f3⟩
 replace f3 := f2.trans' f3
 clear f2
 go_wp2_with fail
 (with_reducible refine (HK.out.make _).mono ?_); rintro e w4 ⟨p,S4,rfl,kb4,hS4,f4⟩
 have H4 := Lib.hid (And.intro kb4 (And.intro (show ∀ k,S4 k → W1.heap.size ≤ k ∧ k < w4.heap.size from fun k hk => ⟨Nat.le_trans f3.size (hS4 k hk).1,(hS4 k hk).2⟩) (f3.trans' f4)))
 clear kb4 hS4 f4 f3
 go_wp2_with fail
 (with_reducible refine (abk _).mono ?_); rintro e w5 ⟨rfl,f5⟩
 have F5 := Lib.hid f5
 clear f5
 go_wp2_with fail
 (with_reducible refine (alv _).mono ?_); rintro e w6 ⟨rfl,f6⟩
 have F6 := Lib.hid (F5.out.trans' f6)
 have hbk := aft
 clear f6 F5
 go_upto_region 5 with fail
 refine eu fun W7 N => ?_
 have L7 := Lib.hid (show LSt KB S4 W1 W7 p alb w6.heap.size (.slice none 0 0) from
  ⟨HK.out.fr H4.out.1 (F6.out.trans' N.fr) (fun _ _ _ e => e),ao5,alx N.new (Nat.le_trans H4.out.2.2.size F6.out.size),fun k hk => ⟨(H4.out.2.1 k hk).1,by have := (H4.out.2.1 k hk).2; have := F6.out.size; have := N.fr.size; omega⟩,
   ⟨fun e => by have := (H4.out.2.1 _ e).2; have := F6.out.size; omega,fun k hk => (by cases hk)⟩,H4.out.2.2.trans' (F6.out.trans' N.fr)⟩)
 clear N hbk H4 F6
 obtain ⟨m7,hm7⟩ : ∃ g,w6.heap.size = g := ⟨_,rfl⟩
 rw [hm7] at L7 ⊢
 clear hm7
 go_wp2_with fail
 go_loopw [7,31] (fun mv iv wr => ∃ (k : Nat) (M : Bok) (m : Nat) (sv : Value) (S : Nat → Prop),k ≤ n ∧ iv = .int .i64 (k : Int) ∧ mv = .pointer (some ⟨m,0,none⟩) ∧ LSt KB S W1 wr p M m sv) (fun _ iv _ => n - (intOf iv).toNat)
 case atStart => exact ⟨0,_,_,_,_,Nat.zero_le _,rfl,rfl,L7.out⟩
 case round =>
  clear L7
  obtain ⟨k,M,m,sv,S,hk,rfl,rfl,L⟩ := hrel
  by_cases h1 : k < n
  ·have l1 : (k : Int) < (n : Int) := by omega
   obtain ⟨b,off,kd',x',y',am',A',rfl,aBu,hA',hld⟩ := HT.out.at_ k h1
   have lds := hld wr (F1.out.trans' L.fr)
   have oS := afn kd' x' y' am' A'
   have sz := aar kd' x' y' am' A'
   have k1 : IntKind.i64.wrap ((k : Int) + 1) = ((k + 1 : Nat) : Int) := by rw [IntWalk.i64_in _ (by omega)]; omega
   have HL := Lib.hid L
   have HD := Lib.hid (And.intro aBu (And.intro hA' h1))
   clear L hld aBu hA' h1 hk
   go_upto_region 8 with fail
   refine jc fun W3 N => ?_
   have n9 := N.new
   have F9 := Lib.hid N.fr
   clear N lds oS sz
   obtain ⟨g9,hg9⟩ : ∃ g,wr.heap.size = g := ⟨_,rfl⟩
   rw [hg9] at n9 ⊢
   have s9 := aar kd' x' y' am' A'
   go_wp2_with fail
   (with_reducible refine (adb kd' x' y' am' A' _).mono ?_); rintro e W4 ⟨rfl,f4⟩
   have e9 := dn f4 n9
   have HN := Lib.hid (And.intro (adn x') (adn y'))
   generalize nrN x' = nx at *
   generalize nrN y' = ny at *
   have oS := afn kd' nx ny am' A'
   have sz := aar kd' nx ny am' A'
   have F4 := Lib.hid (F9.out.trans' f4)
   clear f4 n9
   go_upto_region 9 with fail
   have q9 : (W4.setRow g9 (dI kd' nx ny am' A')).heap[g9]? = some (.cells (dI kd' nx ny am' A') 26 (0,0)) := by rw [bf,e9]; rfl
   have L5 := Lib.hid (HL.out.frN HK.out ((F4.out.of0 (T := fun i => wr.heap.size ≤ i)).trans' ((Fr.refl (fun i => wr.heap.size ≤ i) W4).setRow (fun _ => Nat.le_of_eq hg9) (dI kd' nx ny am' A'))) (fun k e => e))
   generalize W4.setRow g9 (dI kd' nx ny am' A') = W5 at *
   clear e9 oS s9 F9 F4 HL
   replace hg9 := Lib.hid hg9
   obtain ⟨c0,c1,c2,c3⟩ := agu q9
   by_cases hr : 0 ≤ kd' ∧ kd' < 22
   ·obtain ⟨kn,rfl⟩ := Int.eq_ofNat_of_zero_le hr.1
    have d1 : (0 : Int) ≤ (kn : Int) := by omega
    have d2 : (kn : Int) < 22 := hr.2
    have hkn : kn ≤ 21 := by omega
    obtain ⟨d,hd⟩ : ∃ d : Dd,d = ⟨kn,nx,ny,am',A'⟩ := ⟨_,rfl⟩
    have hdC : dI (kn : Int) nx ny am' A' = dC d := by rw [hd]; rfl
    have HDD := Lib.hid (show d.kind ≤ 21 ∧ d.w < 256 ∧ d.v < 256 ∧ d.a < 18446744073709551616 ∧ d.addr.length = 20 by
     rw [hd]; exact ⟨hkn,HN.out.1,HN.out.2,HD.out.1,HD.out.2.1⟩)
    rw [hdC] at q9 sz
    clear hr hkn hd hdC
    have HDo := Lib.hid (aq6 L5.out.rb L5.out.ok usR0 usR3 (adp usR) d HDD.out.1 HDD.out.2.1 HDD.out.2.2.1 HDD.out.2.2.2.1 HDD.out.2.2.2.2 L5.out.fr.size)
    go_wp2_with fail
    (with_reducible refine HDo.out.mono ?_); rintro e W6 ⟨m',sv',rfl,rb6,hm6,f6⟩
    have q6 := dn f6 q9
    have HA := Lib.hid (HK.out.act d (HK.out.fr L5.out.kb f6 (fun _ _ _ e => e)) L5.out.ok HDD.out.1 HDD.out.2.1 HDD.out.2.2.1 HDD.out.2.2.2.1 HDD.out.2.2.2.2)
    have H6 := Lib.hid (And.intro rb6 (And.intro hm6 f6))
    clear rb6 hm6 f6 q9 HDo c0 c1 c2 c3
    go_wp2_with fail
    (with_reducible refine HA.out.mono ?_); rintro e W7 ⟨rfl,⟨T,kb7,hT7⟩,f7⟩
    have L7 := Lib.hid (L5.out.step HK.out HDD.out.2.1 HDD.out.2.2.1 HDD.out.2.2.2.2 H6.out.2.2 H6.out.1 H6.out.2.1 kb7 hT7 f7)
    clear kb7 hT7 f7 q6 HA H6 L5
    go_wp2_with fail
    go_roundw
    case rel => exact ⟨k + 1,_,m',sv',T,by have := HD.out.2.2; omega,rfl,rfl,L7.out⟩
    case measure => have := HD.out.2.2; simp [intOf]; omega
   ·have hr2 : kd' < 0 ∨ (0 ≤ kd' ∧ 22 ≤ kd') := by omega
    clear hr
    rcases hr2 with d1 | ⟨d1,d2⟩
    ·have d3 : ¬ (0 : Int) ≤ kd' := by omega
     go_wp2_with fail
     go_roundw
     case rel => exact ⟨k + 1,M,m,sv,S,by have := HD.out.2.2; omega,rfl,rfl,L5.out⟩
     case measure => have := HD.out.2.2; simp [intOf]; omega
    ·have d3 : ¬ kd' < (22 : Int) := by omega
     go_wp2_with fail
     go_roundw
     case rel => exact ⟨k + 1,M,m,sv,S,by have := HD.out.2.2; omega,rfl,rfl,L5.out⟩
     case measure => have := HD.out.2.2; simp [intOf]; omega
  ·have e : k = n := by omega
   subst e
   clear hk h1
   have l1 : ¬ (k : Int) < (k : Int) := by omega
   have e3 := dn L.fr n3.out
   have s3 := aar kd x y am A
   have HL := Lib.hid L
   clear L n3
   go_wp2_with fail
   (with_reducible refine (adb kd x y am A _).mono ?_); rintro e W4 ⟨rfl,f4⟩
   have e4 := dn f4 e3
   have HN := Lib.hid (And.intro (adn x) (adn y))
   generalize nrN x = nx at *
   generalize nrN y = ny at *
   have oS := afn kd nx ny am A
   have sz := aar kd nx ny am A
   go_upto_region 14 with fail
   have q3 : (W4.setRow g3 (dI kd nx ny am A)).heap[g3]? = some (.cells (dI kd nx ny am A) 26 (0,0)) := by rw [bf,e4]; rfl
   have L5 := Lib.hid (HL.out.box HK.out F1.out HG.out H3.out ((f4.of0 (T := fun i => i = g3)).trans' ((Fr.refl (fun i => i = g3) W4).setRow (fun _ => rfl) (dI kd nx ny am A))))
   generalize W4.setRow g3 (dI kd nx ny am A) = W5 at *
   clear e3 e4 oS s3 f4 HL
   obtain ⟨c0,c1,c2,c3⟩ := agu q3
   by_cases hr : 0 ≤ kd ∧ kd < 22
   ·obtain ⟨kn,rfl⟩ := Int.eq_ofNat_of_zero_le hr.1
    have d1 : ¬ (kn : Int) < 0 := by omega
    have d2 : ¬ (22 : Int) ≤ (kn : Int) := by omega
    have hkn : kn ≤ 21 := by omega
    obtain ⟨d,hd⟩ : ∃ d : Dd,d = ⟨kn,nx,ny,am,A⟩ := ⟨_,rfl⟩
    have hdC : dI (kn : Int) nx ny am A = dC d := by rw [hd]; rfl
    have HDD := Lib.hid (show d.kind ≤ 21 ∧ d.w < 256 ∧ d.v < 256 ∧ d.a < 18446744073709551616 ∧ d.addr.length = 20 by
     rw [hd]; exact ⟨hkn,HN.out.1,HN.out.2,HAA.out.1,HAA.out.2⟩)
    rw [hdC] at q3 sz
    clear hr hkn hd hdC
    have HS := Lib.hid (alu usR M d)
    have HO := Lib.hid (step_ok (R := usR) L5.out.ok HDD.out.2.1 HDD.out.2.2.1 HDD.out.2.2.2.2)
    have HA := Lib.hid (HK.out.act d L5.out.kb L5.out.ok HDD.out.1 HDD.out.2.1 HDD.out.2.2.1 HDD.out.2.2.2.1 HDD.out.2.2.2.2)
    go_wp2_with fail
    (with_reducible refine HA.out.mono ?_); rintro e W6 ⟨rfl,⟨T,kb6,hT6⟩,f6⟩
    have H6 := Lib.hid (And.intro kb6 (And.intro hT6 f6))
    have F6 := Lib.hid (show Fr F0 w W6 from L5.out.fr.trans f6 fun i hi e => absurd (L5.out.blk i e).1 (Nat.not_le.2 hi))
    clear kb6 hT6 f6 HA c0 c1 c2 c3
    obtain ⟨⟨M1,v1,e1⟩,hr1⟩ : ∃ r,jf usR M d = r := ⟨_,rfl⟩
    rw [hr1] at HS HO H6 ⊢
    dsimp only at HS HO H6 ⊢
    by_cases he : e1 = 0
    ·subst he
     go_wp2_with fail
     (with_reducible refine (HK.out.sums H6.out.1 HO.out).mono ?_); rintro e W7 ⟨rfl,f7⟩
     go_wp2_with fail
     go_ret
     exact ⟨rfl,F6.out.trans' f7⟩
    ·have hM : M1 = M := (HS.out he).1
     subst hM
     have rb6 := Lib.hid (L5.out.rb.fr H6.out.2.2 L5.out.off.1 L5.out.off.2)
     go_wp2_with fail
     (with_reducible refine (HK.out.same H6.out.1 HO.out rb6.out).mono ?_); rintro e W7 ⟨rfl,f7⟩
     go_wp2_with fail
     go_ret
     exact ⟨rfl,F6.out.trans' f7⟩
   ·have hr2 : kd < 0 ∨ (0 ≤ kd ∧ 22 ≤ kd) := by omega
    clear hr
    rcases hr2 with d1 | ⟨d1,d2⟩
    ·go_wp2_with fail
     refine ⟨rfl,?_⟩
     refine ⟨_,results_tmp (t := 4) rfl _ _ _,?_⟩
     exact ⟨rfl,L5.out.fr⟩
    ·have d3 : ¬ kd < (0 : Int) := by omega
     go_wp2_with fail
     refine ⟨rfl,?_⟩
     refine ⟨_,results_tmp (t := 4) rfl _ _ _,?_⟩
     exact ⟨rfl,L5.out.fr⟩
end
end Go.Proofs.YtohckefafbhooaaGreat
namespace Go.Proofs.YtohckefafbhooaaGreat
set_option linter.unusedVariables false
set_option linter.unusedSimpArgs false
open Go.RowKit
attribute [-go_sem] gq
structure CSt (KB : (Nat → Prop) → World → Nat → Bok → Prop) (T : Nat → Prop) (w0 w : World) (q : Nat) (M : Bok) : Prop where
 kb : KB T w q M
 ok : M.Ok
 blk : ∀ k,T k → w0.heap.size ≤ k ∧ k < w.heap.size
 fr : Fr F0 w0 w
section
variable {KB : (Nat → Prop) → World → Nat → Bok → Prop} {T : Nat → Prop} {w0 w w' : World} {q : Nat} {M : Bok}
theorem CSt.frN (l : CSt KB T w0 w q M) (K : aC0 KB) {U : Nat → Prop} (f : Fr U w w') (h : ∀ k,U k → w.heap.size ≤ k) : CSt KB T w0 w' q M :=
 ⟨K.fr l.kb f (fun k hk _ e => absurd (h k e) (Nat.not_le.2 hk)),l.ok,fun k hk => ⟨(l.blk k hk).1,Nat.lt_of_lt_of_le (l.blk k hk).2 f.size⟩,l.fr.trans f fun i hi e => absurd (Nat.le_trans l.fr.size (h i e)) (Nat.not_le.2 hi)⟩
theorem CSt.step (l : CSt KB T w0 w q M) {d : Dd} (hw : d.w < 256) (hv : d.v < 256) (hA : d.addr.length = 20) {U : Nat → Prop} {W2 : World} (kb : KB U W2 q (jf usR M d).1) (hU : ∀ k,U k → T k ∨ (w.heap.size ≤ k ∧ k < W2.heap.size)) (f2 : Fr T w W2) : CSt KB U w0 W2 q (jf usR M d).1 := by
 have hs := f2.size
 refine ⟨kb,step_ok l.ok hw hv hA,fun k hk => ?_,l.fr.trans f2 fun i hi e => absurd (l.blk i e).1 (Nat.not_le.2 hi)⟩
 rcases hU k hk with e | ⟨h1,h2⟩
 ·have := l.blk k e; omega
 ·have := l.fr.size; omega
end
theorem aia {KB : (Nat → Prop) → World → Nat → Bok → Prop} {w : World} (K : aC0 KB) {ad ad2 : Option Addr} {n c n2 c2 : Nat} (h : afq w ad n) (h2 : afq w ad2 n2) :
  Calls Tryz.prog 4 #[.slice ad n c,.slice ad2 n2 c2] w fun e w' => e = .returned (.bool true) ∧ Fr F0 w w' := by
 have HT := Lib.hid h
 have HT2 := Lib.hid h2
 have HK := Lib.hid K
 clear h h2
 by_cases hb1 : 40 < n
 ·have l1 : (40 : Int) < (n : Int) := by omega
  go_enter Tryz.func4,Tryz.ntmps4
  go_wp2_with fail
  (with_reducible refine (HK.out.lives _).mono ?_); rintro e w2 ⟨rfl,f2⟩
  have F2 := Lib.hid f2
  clear f2
  go_wp2_with fail
  (with_reducible refine (HK.out.lives w2).mono ?_); rintro e w3 ⟨rfl,f3⟩
  have F3 := Lib.hid (F2.out.trans' f3)
  clear f3
  go_wp2_with fail
  go_ret
  exact ⟨rfl,F3.out⟩
 have b1 : n ≤ 40 := by omega
 have l1 : ¬ (40 : Int) < (n : Int) := by omega
 clear hb1
 by_cases hb2 : 40 < n2
 ·have l2 : (40 : Int) < (n2 : Int) := by omega
  go_enter Tryz.func4,Tryz.ntmps4
  go_wp2_with fail
  (with_reducible refine (HK.out.lives _).mono ?_); rintro e w2 ⟨rfl,f2⟩
  have F2 := Lib.hid f2
  clear f2
  go_wp2_with fail
  (with_reducible refine (HK.out.lives w2).mono ?_); rintro e w3 ⟨rfl,f3⟩
  have F3 := Lib.hid (F2.out.trans' f3)
  clear f3
  go_wp2_with fail
  go_ret
  exact ⟨rfl,F3.out⟩
 have b2 : n2 ≤ 40 := by omega
 have l2 : ¬ (40 : Int) < (n2 : Int) := by omega
 clear hb2
 go_enter Tryz.func4,Tryz.ntmps4
 go_wp2_with fail
 (with_reducible refine (HK.out.lives _).mono ?_); rintro e w2 ⟨rfl,f2⟩
 go_wp2_with fail
 (with_reducible refine (abk _).mono ?_); rintro e w3 ⟨rfl,f3⟩
 replace f3 := f2.trans' f3
 clear f2
 go_wp2_with fail
 (with_reducible refine (HK.out.make _).mono ?_); rintro e w4 ⟨p,S4,rfl,kb4,hS4,f4⟩
 have H4 := Lib.hid (And.intro kb4 (And.intro (show ∀ k,S4 k → w.heap.size ≤ k ∧ k < w4.heap.size from fun k hk => ⟨Nat.le_trans f3.size (hS4 k hk).1,(hS4 k hk).2⟩) (f3.trans' f4)))
 clear kb4 hS4 f4 f3
 go_wp2_with fail
 (with_reducible refine (abk _).mono ?_); rintro e w5 ⟨rfl,f5⟩
 have F5 := Lib.hid f5
 clear f5
 go_wp2_with fail
 (with_reducible refine (alv _).mono ?_); rintro e w6 ⟨rfl,f6⟩
 have F6 := Lib.hid (F5.out.trans' f6)
 have hbk := aft
 clear f6 F5
 go_upto_region 5 with fail
 refine eu fun W7 N => ?_
 have L7 := Lib.hid (show LSt KB S4 w W7 p alb w6.heap.size (.slice none 0 0) from
  ⟨HK.out.fr H4.out.1 (F6.out.trans' N.fr) (fun _ _ _ e => e),ao5,alx N.new (Nat.le_trans H4.out.2.2.size F6.out.size),fun k hk => ⟨(H4.out.2.1 k hk).1,by have := (H4.out.2.1 k hk).2; have := F6.out.size; have := N.fr.size; omega⟩,
   ⟨fun e => by have := (H4.out.2.1 _ e).2; have := F6.out.size; omega,fun k hk => (by cases hk)⟩,H4.out.2.2.trans' (F6.out.trans' N.fr)⟩)
 clear N hbk H4 F6
 obtain ⟨m7,hm7⟩ : ∃ g,w6.heap.size = g := ⟨_,rfl⟩
 rw [hm7] at L7 ⊢
 clear hm7
 go_wp2_with fail
 go_loopw [7,37] (fun mv iv wr => ∃ (k : Nat) (M : Bok) (m : Nat) (sv : Value) (S : Nat → Prop),k ≤ n ∧ iv = .int .i64 (k : Int) ∧ mv = .pointer (some ⟨m,0,none⟩) ∧ LSt KB S w wr p M m sv) (fun _ iv _ => n - (intOf iv).toNat)
 case atStart => exact ⟨0,_,_,_,_,Nat.zero_le _,rfl,rfl,L7.out⟩
 case round =>
  clear L7
  obtain ⟨k,M,m,sv,S,hk,rfl,rfl,L⟩ := hrel
  by_cases h1 : k < n
  ·have l1 : (k : Int) < (n : Int) := by omega
   obtain ⟨b,off,kd',x',y',am',A',rfl,aBu,hA',hld⟩ := HT.out.at_ k h1
   have lds := hld wr L.fr
   have oS := afn kd' x' y' am' A'
   have sz := aar kd' x' y' am' A'
   have k1 : IntKind.i64.wrap ((k : Int) + 1) = ((k + 1 : Nat) : Int) := by rw [IntWalk.i64_in _ (by omega)]; omega
   have HL := Lib.hid L
   have HD := Lib.hid (And.intro aBu (And.intro hA' h1))
   clear L hld aBu hA' h1 hk
   go_upto_region 8 with fail
   refine jc fun W3 N => ?_
   have n9 := N.new
   have F9 := Lib.hid N.fr
   clear N lds oS sz
   obtain ⟨g9,hg9⟩ : ∃ g,wr.heap.size = g := ⟨_,rfl⟩
   rw [hg9] at n9 ⊢
   have s9 := aar kd' x' y' am' A'
   go_wp2_with fail
   (with_reducible refine (adb kd' x' y' am' A' _).mono ?_); rintro e W4 ⟨rfl,f4⟩
   have e9 := dn f4 n9
   have HN := Lib.hid (And.intro (adn x') (adn y'))
   generalize nrN x' = nx at *
   generalize nrN y' = ny at *
   have oS := afn kd' nx ny am' A'
   have sz := aar kd' nx ny am' A'
   have F4 := Lib.hid (F9.out.trans' f4)
   clear f4 n9
   go_upto_region 9 with fail
   have q9 : (W4.setRow g9 (dI kd' nx ny am' A')).heap[g9]? = some (.cells (dI kd' nx ny am' A') 26 (0,0)) := by rw [bf,e9]; rfl
   have L5 := Lib.hid (HL.out.frN HK.out ((F4.out.of0 (T := fun i => wr.heap.size ≤ i)).trans' ((Fr.refl (fun i => wr.heap.size ≤ i) W4).setRow (fun _ => Nat.le_of_eq hg9) (dI kd' nx ny am' A'))) (fun k e => e))
   generalize W4.setRow g9 (dI kd' nx ny am' A') = W5 at *
   clear e9 oS s9 F9 F4 HL
   replace hg9 := Lib.hid hg9
   obtain ⟨c0,c1,c2,c3⟩ := agu q9
   by_cases hr : 0 ≤ kd' ∧ kd' < 22
   ·obtain ⟨kn,rfl⟩ := Int.eq_ofNat_of_zero_le hr.1
    have d1 : (0 : Int) ≤ (kn : Int) := by omega
    have d2 : (kn : Int) < 22 := hr.2
    have hkn : kn ≤ 21 := by omega
    obtain ⟨d,hd⟩ : ∃ d : Dd,d = ⟨kn,nx,ny,am',A'⟩ := ⟨_,rfl⟩
    have hdC : dI (kn : Int) nx ny am' A' = dC d := by rw [hd]; rfl
    have HDD := Lib.hid (show d.kind ≤ 21 ∧ d.w < 256 ∧ d.v < 256 ∧ d.a < 18446744073709551616 ∧ d.addr.length = 20 by
     rw [hd]; exact ⟨hkn,HN.out.1,HN.out.2,HD.out.1,HD.out.2.1⟩)
    rw [hdC] at q9 sz
    clear hr hkn hd hdC
    have HDo := Lib.hid (aq6 L5.out.rb L5.out.ok usR0 usR3 (adp usR) d HDD.out.1 HDD.out.2.1 HDD.out.2.2.1 HDD.out.2.2.2.1 HDD.out.2.2.2.2 L5.out.fr.size)
    go_wp2_with fail
    (with_reducible refine HDo.out.mono ?_); rintro e W6 ⟨m',sv',rfl,rb6,hm6,f6⟩
    have q6 := dn f6 q9
    have HA := Lib.hid (HK.out.act d (HK.out.fr L5.out.kb f6 (fun _ _ _ e => e)) L5.out.ok HDD.out.1 HDD.out.2.1 HDD.out.2.2.1 HDD.out.2.2.2.1 HDD.out.2.2.2.2)
    have H6 := Lib.hid (And.intro rb6 (And.intro hm6 f6))
    clear rb6 hm6 f6 q9 HDo c0 c1 c2 c3
    go_wp2_with fail
    (with_reducible refine HA.out.mono ?_); rintro e W7 ⟨rfl,⟨T,kb7,hT7⟩,f7⟩
    have L7 := Lib.hid (L5.out.step HK.out HDD.out.2.1 HDD.out.2.2.1 HDD.out.2.2.2.2 H6.out.2.2 H6.out.1 H6.out.2.1 kb7 hT7 f7)
    clear kb7 hT7 f7 q6 HA H6 L5
    go_wp2_with fail
    go_roundw
    case rel => exact ⟨k + 1,_,m',sv',T,by have := HD.out.2.2; omega,rfl,rfl,L7.out⟩
    case measure => have := HD.out.2.2; simp [intOf]; omega
   ·have hr2 : kd' < 0 ∨ (0 ≤ kd' ∧ 22 ≤ kd') := by omega
    clear hr
    rcases hr2 with d1 | ⟨d1,d2⟩
    ·have d3 : ¬ (0 : Int) ≤ kd' := by omega
     go_wp2_with fail
     go_roundw
     case rel => exact ⟨k + 1,M,m,sv,S,by have := HD.out.2.2; omega,rfl,rfl,L5.out⟩
     case measure => have := HD.out.2.2; simp [intOf]; omega
    ·have d3 : ¬ kd' < (22 : Int) := by omega
     go_wp2_with fail
     go_roundw
     case rel => exact ⟨k + 1,M,m,sv,S,by have := HD.out.2.2; omega,rfl,rfl,L5.out⟩
     case measure => have := HD.out.2.2; simp [intOf]; omega
  ·have e : k = n := by omega
   subst e
   clear hk h1
   have l1 : ¬ (k : Int) < (k : Int) := by omega
   have HL := Lib.hid L
   clear L
   go_wp2_with fail
   (with_reducible refine (HK.out.copy HL.out.kb).mono ?_); rintro e W3 ⟨q,T3,rfl,kb3,hT3,f3⟩
   have C3 := Lib.hid (show CSt KB T3 wr W3 q M from ⟨kb3,HL.out.ok,hT3,f3⟩)
   clear kb3 hT3 f3 HT
   generalize wr = wL at *
   go_wp2_with fail
   go_loopw [66] (fun iv wr => ∃ (k : Nat) (M2 : Bok) (T : Nat → Prop),k ≤ n2 ∧ iv = .int .i64 (k : Int) ∧ CSt KB T wL wr q M2) (fun iv _ => n2 - (intOf iv).toNat)
   case atStart => exact ⟨0,_,_,Nat.zero_le _,rfl,C3.out⟩
   case round =>
    clear C3
    obtain ⟨k2,M2,T,hk2,rfl,C⟩ := hrel
    by_cases h1 : k2 < n2
    ·have l1 : (k2 : Int) < (n2 : Int) := by omega
     obtain ⟨b,off,kd',x',y',am',A',rfl,aBu,hA',hld⟩ := HT2.out.at_ k2 h1
     have lds := hld wr (HL.out.fr.trans' C.fr)
     have oS := afn kd' x' y' am' A'
     have sz := aar kd' x' y' am' A'
     have k1 : IntKind.i64.wrap ((k2 : Int) + 1) = ((k2 + 1 : Nat) : Int) := by rw [IntWalk.i64_in _ (by omega)]; omega
     have HC := Lib.hid C
     have HD := Lib.hid (And.intro aBu (And.intro hA' h1))
     clear C hld aBu hA' h1 hk2
     go_upto_region 17 with fail
     refine jc fun W3 N => ?_
     have n9 := N.new
     have F9 := Lib.hid N.fr
     clear N lds oS sz
     obtain ⟨g9,hg9⟩ : ∃ g,wr.heap.size = g := ⟨_,rfl⟩
     rw [hg9] at n9 ⊢
     have s9 := aar kd' x' y' am' A'
     go_wp2_with fail
     (with_reducible refine (adb kd' x' y' am' A' _).mono ?_); rintro e W4 ⟨rfl,f4⟩
     have e9 := dn f4 n9
     have HN := Lib.hid (And.intro (adn x') (adn y'))
     generalize nrN x' = nx at *
     generalize nrN y' = ny at *
     have oS := afn kd' nx ny am' A'
     have sz := aar kd' nx ny am' A'
     have F4 := Lib.hid (F9.out.trans' f4)
     clear f4 n9
     go_upto_region 18 with fail
     have q9 : (W4.setRow g9 (dI kd' nx ny am' A')).heap[g9]? = some (.cells (dI kd' nx ny am' A') 26 (0,0)) := by rw [bf,e9]; rfl
     have C5 := Lib.hid (HC.out.frN HK.out ((F4.out.of0 (T := fun i => wr.heap.size ≤ i)).trans' ((Fr.refl (fun i => wr.heap.size ≤ i) W4).setRow (fun _ => Nat.le_of_eq hg9) (dI kd' nx ny am' A'))) (fun k e => e))
     generalize W4.setRow g9 (dI kd' nx ny am' A') = W5 at *
     clear e9 oS s9 F9 F4 HC
     replace hg9 := Lib.hid hg9
     obtain ⟨c0,c1,c2,c3⟩ := agu q9
     by_cases hr : 0 ≤ kd' ∧ kd' < 22
     ·obtain ⟨kn,rfl⟩ := Int.eq_ofNat_of_zero_le hr.1
      have d1 : (0 : Int) ≤ (kn : Int) := by omega
      have d2 : (kn : Int) < 22 := hr.2
      have hkn : kn ≤ 21 := by omega
      obtain ⟨d,hd⟩ : ∃ d : Dd,d = ⟨kn,nx,ny,am',A'⟩ := ⟨_,rfl⟩
      have hdC : dI (kn : Int) nx ny am' A' = dC d := by rw [hd]; rfl
      have HDD := Lib.hid (show d.kind ≤ 21 ∧ d.w < 256 ∧ d.v < 256 ∧ d.a < 18446744073709551616 ∧ d.addr.length = 20 by
       rw [hd]; exact ⟨hkn,HN.out.1,HN.out.2,HD.out.1,HD.out.2.1⟩)
      rw [hdC] at q9 sz
      clear hr hkn hd hdC
      have HA := Lib.hid (HK.out.act d C5.out.kb C5.out.ok HDD.out.1 HDD.out.2.1 HDD.out.2.2.1 HDD.out.2.2.2.1 HDD.out.2.2.2.2)
      go_wp2_with fail
      (with_reducible refine HA.out.mono ?_); rintro e W7 ⟨rfl,⟨U,kb7,hU7⟩,f7⟩
      have C7 := Lib.hid (C5.out.step HDD.out.2.1 HDD.out.2.2.1 HDD.out.2.2.2.2 kb7 hU7 f7)
      clear kb7 hU7 f7 q9 HA C5 c0 c1 c2 c3
      go_wp2_with fail
      go_roundw
      case rel => exact ⟨k2 + 1,_,U,by have := HD.out.2.2; omega,rfl,C7.out⟩
      case measure => have := HD.out.2.2; simp [intOf]; omega
     ·have hr2 : kd' < 0 ∨ (0 ≤ kd' ∧ 22 ≤ kd') := by omega
      clear hr
      rcases hr2 with d1 | ⟨d1,d2⟩
      ·have d3 : ¬ (0 : Int) ≤ kd' := by omega
       go_wp2_with fail
       go_roundw
       case rel => exact ⟨k2 + 1,M2,T,by have := HD.out.2.2; omega,rfl,C5.out⟩
       case measure => have := HD.out.2.2; simp [intOf]; omega
      ·have d3 : ¬ kd' < (22 : Int) := by omega
       go_wp2_with fail
       go_roundw
       case rel => exact ⟨k2 + 1,M2,T,by have := HD.out.2.2; omega,rfl,C5.out⟩
       case measure => have := HD.out.2.2; simp [intOf]; omega
    ·have e : k2 = n2 := by omega
     subst e
     clear hk2 h1
     have l3 : ¬ (k2 : Int) < (k2 : Int) := by omega
     have HC := Lib.hid C
     clear C
     have hkb := Lib.hid (HK.out.fr HL.out.kb HC.out.fr (fun _ _ _ e => e))
     have hrb := Lib.hid (HL.out.rb.fr0 HC.out.fr)
     go_wp2_with fail
     (with_reducible refine (HK.out.same hkb.out HL.out.ok hrb.out).mono ?_); rintro e W6 ⟨rfl,f6⟩
     have hkc := Lib.hid (HK.out.fr HC.out.kb f6 (fun _ _ _ e => e))
     have F6 := Lib.hid ((HL.out.fr.trans' HC.out.fr).trans' f6)
     clear f6
     go_wp2_with fail
     (with_reducible refine (HK.out.sums hkc.out HC.out.ok).mono ?_); rintro e W7 ⟨rfl,f7⟩
     have F7 := Lib.hid (F6.out.trans' f7)
     clear f7
     go_wp2_with fail
     go_ret
     exact ⟨rfl,F7.out⟩
end Go.Proofs.YtohckefafbhooaaGreat
