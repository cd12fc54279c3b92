import Derived.Test.YtfjcplfhkahamaaGreatDoorQ1
import Derived.Test.YtfjcplfhkahamaaGreatDoorQ18
import Derived.Test.YtfjcplfhkahamaaGreatDoorQ21
import Derived.Test.YtfjcplfhkahamaaGreatDoorQ22
import Derived.Test.YtfjcplfhkahamaaGreatDoorQ20
set_option maxRecDepth 100000
set_option maxHeartbeats 64000000
namespace Go.Proofs.YtfjcplfhkahamaaGreatDoor
set_option linter.unusedVariables false
set_option linter.unusedSimpArgs false
open Go.RowKit
theorem findFrom_lt (h : List UInt8) : ∀ (L : List Bk) (k : Nat),findFrom h L k = -1 ∨ ∃ i : Nat,findFrom h L k = (i : Int) ∧ k ≤ i ∧ i < k + L.length
 |[],k => .inl rfl
 |b :: L,k => by
  rw [findFrom]
  split
  ·exact .inr ⟨k,rfl,Nat.le_refl _,by simp⟩
  ·rcases findFrom_lt h L (k + 1) with h1 | ⟨i,h1,h2,h3⟩
   ·exact .inl h1
   ·exact .inr ⟨i,h1,by omega,by simp only [List.length_cons]; omega⟩
theorem findM_lt (h : List UInt8) (L : List Bk) : findM L h = -1 ∨ ∃ i : Nat,findM L h = (i : Int) ∧ i < L.length := by
 rcases findFrom_lt h L 0 with h1 | ⟨i,h1,_,h3⟩
 ·exact .inl h1
 ·exact .inr ⟨i,h1,by omega⟩
def Ans (w : World) (f : FuncId) (args : Array Value) (v : Value) : Prop := Hid (∀ W,Fr F0 w W → Calls Tryz.prog f args W fun e w' => e = .returned v ∧ Fr F0 W w')
theorem Ans.out {w : World} {f : FuncId} {args : Array Value} {v : Value} (h : Ans w f args v) : ∀ W,Fr F0 w W → Calls Tryz.prog f args W fun e w' => e = .returned v ∧ Fr F0 W w' := Hid.out h
theorem r12Check_core (p : Nat) (L : List Bk) (every : Int) (span limit : Nat) (hl : L.length ≤ 100000) (b : Bk) (ob : b.Ok) (h : List UInt8) (hh : h.length = 32) (hlim : limit < 4294967296) (w : World) (T : TR w p L every span limit) (f1 f2 : Int) (V Z : Int)
  (A1 : Ans w 38 #[.pointer (some ⟨p,0,none⟩),.agg (hc b.hash)] (.int .i64 f1)) (A2 : Ans w 38 #[.pointer (some ⟨p,0,none⟩),.agg (hc h)] (.int .i64 f2))
  (HC : Hid ((0 ≤ f1 ∧ V = -1 ∧ Z = 9) ∨ (f1 < 0 ∧ f2 < 0 ∧ V = -1 ∧ Z = 8) ∨ (f1 < 0 ∧ ∃ i x md tp : Nat,∃ mt : Bool,f2 = (i : Int) ∧ i < L.length ∧ tp ≤ 100000 ∧
   Ans w 40 #[.pointer (some ⟨p,0,none⟩),.int .i64 (i : Int)] (.int .u32 (x : Int)) ∧ Ans w 43 #[.pointer (some ⟨p,0,none⟩),.int .i64 (i : Int)] (.int .u32 (md : Int)) ∧ Ans w 44 #[.pointer (some ⟨p,0,none⟩)] (.int .i64 (tp : Int)) ∧ Ans w 42 #[b.bytes] (.bool mt) ∧
   ((¬ x = b.bits ∧ V = -1 ∧ Z = 6) ∨ (x = b.bits ∧ decide (btP b.bits) = false ∧ V = -1 ∧ Z = 6) ∨ (x = b.bits ∧ decide (btP b.bits) = true ∧ btT limit < W256 ∧
    ((btT limit < btT b.bits ∧ V = -1 ∧ Z = 6) ∨ (¬ btT limit < btT b.bits ∧ mt = false ∧ V = -1 ∧ Z = 7) ∨ (¬ btT limit < btT b.bits ∧ mt = true ∧ b.time ≤ md ∧ V = -1 ∧ Z = 11) ∨
     (¬ btT limit < btT b.bits ∧ mt = true ∧ ¬ b.time ≤ md ∧ ((4096 ≤ L.length ∧ V = -1 ∧ Z = 10) ∨ (¬ 4096 ≤ L.length ∧ isTip L i = false ∧ 16 ≤ tp ∧ V = -1 ∧ Z = 10) ∨ (¬ 4096 ≤ L.length ∧ isTip L i = false ∧ ¬ 16 ≤ tp ∧ V = (i : Int) ∧ Z = 0) ∨ (¬ 4096 ≤ L.length ∧ isTip L i = true ∧ V = (i : Int) ∧ Z = 0))))))))) :
  Calls Tryz.prog 13 #[.pointer (some ⟨p,0,none⟩),.agg b.arr,.agg (hc h)] w fun e w' => e = .returned (.tuple #[.int .i64 V,.int .i64 Z]) ∧ Fr F0 w w' := by
 have H1 := Lib.hid (r6Decode_any b.bits ob.bits _ rfl)
 have H2 := Lib.hid (r6Decode_any limit hlim _ rfl)
 have hlgM := fun hM : btT limit < W256 => lg_w10 hM
 have H3 := Lib.hid fun (hx : btT b.bits < W256) (hM : btT limit < W256) a c a2 c2 w h1 h2 => show Calls Tryz.prog 41 #[.slice a (lg (btT b.bits)) c,.slice a2 (lg (btT limit)) c2] w fun e w' => e = .returned (.int .i64 (cmpZ (btT b.bits) (btT limit))) ∧ Fr F0 w w' from (r3Cmp_any (btT b.bits) (btT limit) a c a2 c2 (lg_w10 hx) (lg_w10 hM) w h1 h2).mono fun e w' h => ⟨h.1,by rw [h.2]; exact Fr.refl _ _⟩
 have HOB := Lib.hid ob
 obtain ⟨n,hn⟩ : ∃ n,L.length = n := ⟨_,rfl⟩
 have HT := Lib.hid T
 obtain ⟨a,c,r1,hb⟩ := T
 rw [hn] at r1 hl HC
 have HB := Lib.hid hb
 have HN := Lib.hid hn
 have HR := Lib.hid r1
 have s := Bk.arr_size ob
 have on := Bk.arr_one ob
 have c33 : b.arr[33]? = some (.int .u32 (b.time : Int)) := by rw [Bk.arr,List.getElem?_toArray]; exact Bk.cell33 ob
 have c34 : b.arr[34]? = some (.int .u32 (b.bits : Int)) := by rw [Bk.arr,List.getElem?_toArray]; exact Bk.cell34 ob
 have c35 : b.arr[35]? = some b.bytes := by rw [Bk.arr,List.getElem?_toArray]; exact Bk.cell35 ob
 have HLH := Lib.hid (fun (w : World) (g : Nat) (t : TypeId) (f : Nat × Nat) (hg : w.heap[g]? = some (.cells b.arr t f)) => load_hash_of ob hg)
 have sh := hc_size hh
 have oh := hc_one h
 generalize hc h = A at *
 generalize hc b.hash = D at *
 generalize b.arr = B at *
 have s33 : 33 < B.size := by omega
 have s34 : 34 < B.size := by omega
 have s35 : 35 < B.size := by omega
 have d33 := cell_is c33 s33
 have d34 := cell_is c34 s34
 have d35 := cell_is c35 s35
 clear hb hn ob hh r1 hlim
 go_enter Tryz.func13,Tryz.ntmps13
 obtain ⟨r4,r5⟩ := heap2 w (.cells B 38) (.cells A 25)
 have F := ((Fr.refl F0 w).alloc (.cells B 38)).alloc (.cells A 25)
 have hl0 := HLH.out _ _ _ _ r4
 go_wp2_with fail
 generalize (w.alloc (.cells B 38)).alloc (.cells A 25) = W0 at *
 generalize w.heap.size + 1 = g5 at *
 generalize w.heap.size = g4 at *
 (refine (A1.out _ F).mono ?_); rintro e w1 ⟨rfl,f⟩
 replace r4 := keep_fr f r4
 replace r5 := keep_fr f r5
 replace F := F.trans' f
 clear f
 generalize ho : decide (btP b.bits) = o at *
 have HO := Lib.hid ho
 clear ho
 rcases HC.out with ⟨l1,rfl,rfl⟩ | ⟨l1,l2,rfl,rfl⟩ | ⟨l1,i,x,md,tp,mt,rfl,hi,htp,AB,AM,AT,AX,hc⟩
 ·clear HC
  go_wp2_with fail
  go_ret2
  exact ⟨rfl,F⟩
 ·clear HC
  have l3 : ¬ 0 ≤ f1 := by omega
  have l4 : decide (0 ≤ f1) = false := decide_eq_false l3
  go_wp2_with fail
  (refine (A2.out _ F).mono ?_); rintro e w2 ⟨rfl,f⟩
  replace F := F.trans' f
  clear f
  go_wp2_with fail
  go_ret2
  exact ⟨rfl,F⟩
 ·clear HC
  have l3 : ¬ 0 ≤ f1 := by omega
  have l4 : decide (0 ≤ f1) = false := decide_eq_false l3
  have HIN := Lib.hid (And.intro hi htp)
  have HCC := Lib.hid hc
  clear hc hi htp l1
  go_wp2_with fail
  (refine (A2.out _ F).mono ?_); rintro e w2 ⟨rfl,f⟩
  replace r4 := keep_fr f r4
  replace r5 := keep_fr f r5
  replace F := F.trans' f
  clear f
  go_wp2_with fail
  (with_reducible refine (H1.out _).mono ?_); rintro e w3 ⟨p9,k9,rfl,n9,f⟩
  replace r4 := keep_fr f r4
  replace r5 := keep_fr f r5
  replace F := F.trans' f
  clear f
  have rr := keep_fr F HR.out
  go_wp2_with fail
  (with_reducible refine (H2.out _).mono ?_); rintro e w7 ⟨p11,k11,rfl,n11,f⟩
  replace r4 := keep_fr f r4
  replace r5 := keep_fr f r5
  replace n9 := Us.fr n9 f
  replace F := F.trans' f
  clear f rr
  rcases HCC.out with ⟨lx,rfl,rfl⟩ | ⟨rfl,rfl,rfl,rfl⟩ | ⟨rfl,rfl,hM,hc⟩
  ·have lx1 : ((x : Int) != (b.bits : Int)) = true := by simp; omega
   have lx2 : (x != b.bits) = true := by simp; exact lx
   have lx3 : ¬ (x : Int) = (b.bits : Int) := by omega
   clear HCC n9 n11
   go_wp2_with fail
   refine rbegin (S := (fun w' => w'.heap[g4]? = some (.cells B 38 (0,0)) ∧ Fr F0 w7 w')) ?_ fun hHeld => ?_
   ·((try dsimp only) <;> (exact ⟨r4,(Fr.refl F0 w7).drew⟩))
   refine rtake 0 ?_
   refine rtake 1 ?_
   refine rtake 3 ?_
   refine rtake 4 ?_
   refine rone 2 fun K hK => ?_
   go_simp
   ((refine (AB.out _ (F.trans' hHeld.2)).mono ?_); rintro e w8 ⟨rfl,f5⟩)
   refine hK.out _ _ ?_ (fun hHeld => ?_)
   ·((try dsimp only) <;> (first | exact hHeld | exact ⟨keep_fr f5 hHeld.1,hHeld.2.trans' f5⟩))
   clear hK K
   try (simp only [Act.put,aST]; dsimp only [aS0,aS1])
   refine rtake 5 ?_
   refine rtake 6 ?_
   refine rleave 7 ?_
   refine rleave 8 ?_
   refine rtake 9 ?_
   refine rtake 10 ?_
   refine rleave 11 ?_
   refine rleave 12 ?_
   refine rleave 13 ?_
   refine rleave 14 ?_
   refine rtake 15 ?_
   refine rdone ?_
   clear r4
   obtain ⟨r4,f8⟩ := hHeld
   replace F := F.trans' f8
   replace r5 := keep_fr f8 r5
   clear f8
   go_wp2_with fail
   go_ret2
   exact ⟨rfl,F⟩
  ·clear HCC n9 n11
   go_wp2_with fail
   refine rbegin (S := (fun w' => w'.heap[g4]? = some (.cells B 38 (0,0)) ∧ Fr F0 w7 w')) ?_ fun hHeld => ?_
   ·((try dsimp only) <;> (exact ⟨r4,(Fr.refl F0 w7).drew⟩))
   refine rtake 0 ?_
   refine rtake 1 ?_
   refine rtake 3 ?_
   refine rtake 4 ?_
   refine rone 2 fun K hK => ?_
   go_simp
   ((refine (AB.out _ (F.trans' hHeld.2)).mono ?_); rintro e w8 ⟨rfl,f5⟩)
   refine hK.out _ _ ?_ (fun hHeld => ?_)
   ·((try dsimp only) <;> (first | exact hHeld | exact ⟨keep_fr f5 hHeld.1,hHeld.2.trans' f5⟩))
   clear hK K
   try (simp only [Act.put,aST]; dsimp only [aS0,aS1])
   refine rtake 5 ?_
   refine rtake 6 ?_
   refine rtake 7 ?_
   refine rtake 8 ?_
   refine rtake 9 ?_
   refine rtake 10 ?_
   refine rleave 11 ?_
   refine rleave 12 ?_
   refine rleave 13 ?_
   refine rleave 14 ?_
   refine rtake 15 ?_
   refine rdone ?_
   clear r4
   obtain ⟨r4,f8⟩ := hHeld
   replace F := F.trans' f8
   replace r5 := keep_fr f8 r5
   clear f8
   go_wp2_with fail
   go_ret2
   exact ⟨rfl,F⟩
  ·have H3c := Lib.hid (H3.out (of_decide_eq_true HO.out).2.2 hM)
   have HZ := Lib.hid (cmpZ_pos (x := btT b.bits) (y := btT limit))
   generalize cmpZ (btT b.bits) (btT limit) = z at *
   have HCD := Lib.hid hc
   clear HCC hc
   rcases HCD.out with ⟨lz,rfl,rfl⟩ | ⟨lz,rfl,rfl,rfl⟩ | ⟨lz,rfl,hmd,rfl,rfl⟩ | ⟨lz,rfl,hmd,hc⟩
   ·have l5 : decide (0 < z) = true := decide_eq_true (HZ.out.2 lz)
    have l5' : 0 < z := HZ.out.2 lz
    clear HCD
    go_wp2_with fail
    refine rbegin (S := (fun w' => w'.heap[g4]? = some (.cells B 38 (0,0)) ∧ Fr F0 w7 w')) ?_ fun hHeld => ?_
    ·((try dsimp only) <;> (exact ⟨r4,(Fr.refl F0 w7).drew⟩))
    refine rtake 0 ?_
    refine rtake 1 ?_
    refine rtake 3 ?_
    refine rtake 4 ?_
    refine rone 2 fun K hK => ?_
    go_simp
    ((refine (AB.out _ (F.trans' hHeld.2)).mono ?_); rintro e w8 ⟨rfl,f5⟩)
    refine hK.out _ _ ?_ (fun hHeld => ?_)
    ·((try dsimp only) <;> (first | exact hHeld | exact ⟨keep_fr f5 hHeld.1,hHeld.2.trans' f5⟩))
    clear hK K
    try (simp only [Act.put,aST]; dsimp only [aS0,aS1])
    refine rtake 5 ?_
    refine rtake 6 ?_
    refine rtake 7 ?_
    refine rtake 8 ?_
    refine rtake 9 ?_
    refine rtake 10 ?_
    refine rtake 11 ?_
    refine rtake 12 ?_
    refine rone 13 fun K hK => ?_
    go_simp
    ((with_reducible refine (H3c.out _ _ _ _ _ (Us.fr n9 hHeld.2) (Us.fr n11 hHeld.2)).mono ?_); rintro e w9 ⟨rfl,f5⟩)
    refine hK.out _ _ ?_ (fun hHeld => ?_)
    ·((try dsimp only) <;> (first | exact hHeld | exact ⟨keep_fr f5 hHeld.1,hHeld.2.trans' f5⟩))
    clear hK K
    try (simp only [Act.put,aST]; dsimp only [aS0,aS1])
    refine rtake 14 ?_
    refine rtake 15 ?_
    refine rdone ?_
    clear r4
    obtain ⟨r4,f8⟩ := hHeld
    replace F := F.trans' f8
    replace r5 := keep_fr f8 r5
    clear f8
    go_wp2_with fail
    go_ret2
    exact ⟨rfl,F⟩
   ·have l5 : decide (0 < z) = false := decide_eq_false (fun h => lz (HZ.out.1 h))
    clear HCD
    go_wp2_with fail
    refine rbegin (S := (fun w' => w'.heap[g4]? = some (.cells B 38 (0,0)) ∧ Fr F0 w7 w')) ?_ fun hHeld => ?_
    ·((try dsimp only) <;> (exact ⟨r4,(Fr.refl F0 w7).drew⟩))
    refine rtake 0 ?_
    refine rtake 1 ?_
    refine rtake 3 ?_
    refine rtake 4 ?_
    refine rone 2 fun K hK => ?_
    go_simp
    ((refine (AB.out _ (F.trans' hHeld.2)).mono ?_); rintro e w8 ⟨rfl,f5⟩)
    refine hK.out _ _ ?_ (fun hHeld => ?_)
    ·((try dsimp only) <;> (first | exact hHeld | exact ⟨keep_fr f5 hHeld.1,hHeld.2.trans' f5⟩))
    clear hK K
    try (simp only [Act.put,aST]; dsimp only [aS0,aS1])
    refine rtake 5 ?_
    refine rtake 6 ?_
    refine rtake 7 ?_
    refine rtake 8 ?_
    refine rtake 9 ?_
    refine rtake 10 ?_
    refine rtake 11 ?_
    refine rtake 12 ?_
    refine rone 13 fun K hK => ?_
    go_simp
    ((with_reducible refine (H3c.out _ _ _ _ _ (Us.fr n9 hHeld.2) (Us.fr n11 hHeld.2)).mono ?_); rintro e w9 ⟨rfl,f5⟩)
    refine hK.out _ _ ?_ (fun hHeld => ?_)
    ·((try dsimp only) <;> (first | exact hHeld | exact ⟨keep_fr f5 hHeld.1,hHeld.2.trans' f5⟩))
    clear hK K
    try (simp only [Act.put,aST]; dsimp only [aS0,aS1])
    refine rtake 14 ?_
    refine rtake 15 ?_
    refine rdone ?_
    clear r4
    obtain ⟨r4,f8⟩ := hHeld
    replace F := F.trans' f8
    replace r5 := keep_fr f8 r5
    clear f8
    go_wp2_with fail
    (refine (AX.out _ F).mono ?_); rintro e w10 ⟨rfl,f⟩
    replace F := F.trans' f
    clear f
    go_wp2_with fail
    go_ret2
    exact ⟨rfl,F⟩
   ·have l5 : decide (0 < z) = false := decide_eq_false (fun h => lz (HZ.out.1 h))
    clear HCD
    go_wp2_with fail
    refine rbegin (S := (fun w' => w'.heap[g4]? = some (.cells B 38 (0,0)) ∧ Fr F0 w7 w')) ?_ fun hHeld => ?_
    ·((try dsimp only) <;> (exact ⟨r4,(Fr.refl F0 w7).drew⟩))
    refine rtake 0 ?_
    refine rtake 1 ?_
    refine rtake 3 ?_
    refine rtake 4 ?_
    refine rone 2 fun K hK => ?_
    go_simp
    ((refine (AB.out _ (F.trans' hHeld.2)).mono ?_); rintro e w8 ⟨rfl,f5⟩)
    refine hK.out _ _ ?_ (fun hHeld => ?_)
    ·((try dsimp only) <;> (first | exact hHeld | exact ⟨keep_fr f5 hHeld.1,hHeld.2.trans' f5⟩))
    clear hK K
    try (simp only [Act.put,aST]; dsimp only [aS0,aS1])
    refine rtake 5 ?_
    refine rtake 6 ?_
    refine rtake 7 ?_
    refine rtake 8 ?_
    refine rtake 9 ?_
    refine rtake 10 ?_
    refine rtake 11 ?_
    refine rtake 12 ?_
    refine rone 13 fun K hK => ?_
    go_simp
    ((with_reducible refine (H3c.out _ _ _ _ _ (Us.fr n9 hHeld.2) (Us.fr n11 hHeld.2)).mono ?_); rintro e w9 ⟨rfl,f5⟩)
    refine hK.out _ _ ?_ (fun hHeld => ?_)
    ·((try dsimp only) <;> (first | exact hHeld | exact ⟨keep_fr f5 hHeld.1,hHeld.2.trans' f5⟩))
    clear hK K
    try (simp only [Act.put,aST]; dsimp only [aS0,aS1])
    refine rtake 14 ?_
    refine rtake 15 ?_
    refine rdone ?_
    clear r4
    obtain ⟨r4,f8⟩ := hHeld
    replace F := F.trans' f8
    replace r5 := keep_fr f8 r5
    clear f8
    go_wp2_with fail
    (refine (AX.out _ F).mono ?_); rintro e w10 ⟨rfl,f⟩
    replace r4 := keep_fr f r4
    replace F := F.trans' f
    clear f
    have l6 : (b.time : Int) ≤ (md : Int) := by omega
    go_wp2_with fail
    refine rbegin (S := (fun w' => w'.heap[g4]? = some (.cells B 38 (0,0)) ∧ Fr F0 w10 w')) ?_ fun hHeld => ?_
    ·((try dsimp only) <;> (exact ⟨r4,(Fr.refl F0 w10).drew⟩))
    refine rtake 0 ?_
    refine rtake 1 ?_
    refine rtake 2 ?_
    refine rtake 3 ?_
    refine rone 4 fun K hK => ?_
    go_simp
    ((refine (AM.out _ (F.trans' hHeld.2)).mono ?_); rintro e w11 ⟨rfl,f5⟩)
    refine hK.out _ _ ?_ (fun hHeld => ?_)
    ·((try dsimp only) <;> (first | exact hHeld | exact ⟨keep_fr f5 hHeld.1,hHeld.2.trans' f5⟩))
    clear hK K
    try (simp only [Act.put,aST]; dsimp only [aS0,aS1])
    refine rtake 5 ?_
    refine rdone ?_
    replace F := F.trans' hHeld.2
    clear r4 hHeld
    go_wp2_with fail
    go_ret2
    exact ⟨rfl,F⟩
   ·have l5 : decide (0 < z) = false := decide_eq_false (fun h => lz (HZ.out.1 h))
    clear HCD
    go_wp2_with fail
    refine rbegin (S := (fun w' => w'.heap[g4]? = some (.cells B 38 (0,0)) ∧ Fr F0 w7 w')) ?_ fun hHeld => ?_
    ·((try dsimp only) <;> (exact ⟨r4,(Fr.refl F0 w7).drew⟩))
    refine rtake 0 ?_
    refine rtake 1 ?_
    refine rtake 3 ?_
    refine rtake 4 ?_
    refine rone 2 fun K hK => ?_
    go_simp
    ((refine (AB.out _ (F.trans' hHeld.2)).mono ?_); rintro e w8 ⟨rfl,f5⟩)
    refine hK.out _ _ ?_ (fun hHeld => ?_)
    ·((try dsimp only) <;> (first | exact hHeld | exact ⟨keep_fr f5 hHeld.1,hHeld.2.trans' f5⟩))
    clear hK K
    try (simp only [Act.put,aST]; dsimp only [aS0,aS1])
    refine rtake 5 ?_
    refine rtake 6 ?_
    refine rtake 7 ?_
    refine rtake 8 ?_
    refine rtake 9 ?_
    refine rtake 10 ?_
    refine rtake 11 ?_
    refine rtake 12 ?_
    refine rone 13 fun K hK => ?_
    go_simp
    ((with_reducible refine (H3c.out _ _ _ _ _ (Us.fr n9 hHeld.2) (Us.fr n11 hHeld.2)).mono ?_); rintro e w9 ⟨rfl,f5⟩)
    refine hK.out _ _ ?_ (fun hHeld => ?_)
    ·((try dsimp only) <;> (first | exact hHeld | exact ⟨keep_fr f5 hHeld.1,hHeld.2.trans' f5⟩))
    clear hK K
    try (simp only [Act.put,aST]; dsimp only [aS0,aS1])
    refine rtake 14 ?_
    refine rtake 15 ?_
    refine rdone ?_
    clear r4
    obtain ⟨r4,f8⟩ := hHeld
    replace F := F.trans' f8
    replace r5 := keep_fr f8 r5
    clear f8
    go_wp2_with fail
    (refine (AX.out _ F).mono ?_); rintro e w10 ⟨rfl,f⟩
    replace r4 := keep_fr f r4
    replace F := F.trans' f
    clear f
    have l6 : ¬ (b.time : Int) ≤ (md : Int) := by omega
    have HCE := Lib.hid hc
    clear hc
    go_wp2_with fail
    refine rbegin (S := (fun w' => w'.heap[g4]? = some (.cells B 38 (0,0)) ∧ Fr F0 w10 w')) ?_ fun hHeld => ?_
    ·((try dsimp only) <;> (exact ⟨r4,(Fr.refl F0 w10).drew⟩))
    refine rtake 0 ?_
    refine rtake 1 ?_
    refine rtake 2 ?_
    refine rtake 3 ?_
    refine rone 4 fun K hK => ?_
    go_simp
    ((refine (AM.out _ (F.trans' hHeld.2)).mono ?_); rintro e w11 ⟨rfl,f5⟩)
    refine hK.out _ _ ?_ (fun hHeld => ?_)
    ·((try dsimp only) <;> (first | exact hHeld | exact ⟨keep_fr f5 hHeld.1,hHeld.2.trans' f5⟩))
    clear hK K
    try (simp only [Act.put,aST]; dsimp only [aS0,aS1])
    refine rtake 5 ?_
    refine rdone ?_
    replace F := F.trans' hHeld.2
    clear r4 hHeld
    have rr := keep_fr F HR.out
    go_wp2_with fail
    go_loopw [13,71] (fun mv kv wr => ∃ k : Nat,kv = .int .i64 (k : Int) ∧ mv = .bool (!tipK L i k) ∧ k ≤ n ∧ Fr F0 w wr) (fun _ kv _ => n - (intOf kv).toNat)
    case atStart => exact ⟨0,rfl,rfl,by omega,F⟩
    case round =>
     clear F rr
     obtain ⟨k,rfl,rfl,hk,F⟩ := hrel
     by_cases h2 : k < n
     ·have l7 : (k : Int) < (n : Int) := by omega
      obtain ⟨b1,off,ea,hld⟩ := (HB.out.fr F).load k (by rw [HN.out]; exact h2)
      subst ea
      have ld := (hld _ (Fr.refl _ _)).1
      have o1 := HB.out.ok _ (bkT_mem (show k < L.length by rw [HN.out]; exact h2))
      have s1 := Bk.arr_size o1
      have on1 := Bk.arr_one o1
      have c32 : (bkT L k).arr[32]? = some (.int .i64 (bkT L k).ahead) := by rw [Bk.arr,List.getElem?_toArray]; exact Bk.cell32 o1
      have HS := Lib.hid (tipK_succ L i k (by rw [HN.out]; exact h2))
      generalize (bkT L k).arr = BB at *
      generalize (bkT L k).ahead = AA at *
      generalize tipK L i k = q at *
      have HK := Lib.hid h2
      have s32 : 32 < BB.size := by omega
      have d32 := cell_is c32 s32
      clear hld o1 h2 hk
      go_upto_region 18 with fail
      refine wp_put fun W4 NN => ?_
      have r6 := NN.new
      replace F := F.trans' NN.fr
      clear NN
      clear ld
      generalize wr.heap.size = g6 at *
      have kw : IntKind.i64.wrap ((k : Int) + 1) = ((k + 1 : Nat) : Int) := by have := HK.out; rw [IntWalk.i64_in _ (by omega)]; omega
      by_cases h3 : AA = (i : Int)
      ·have l8 : decide (AA = (i : Int)) = true := decide_eq_true h3
       have HS2 := Lib.hid (show tipK L i (k + 1) = false by rw [HS.out,l8,Bool.not_true,Bool.and_false])
       go_wp2_with fail
       go_roundw
       case rel => exact ⟨k + 1,by go_num,by rw [HS2.out]; rfl,by have := HK.out; omega,F⟩
       case measure => have := HK.out; simp [intOf]; omega
      ·have l8 : decide (AA = (i : Int)) = false := decide_eq_false h3
       have HS2 := Lib.hid (show tipK L i (k + 1) = q by rw [HS.out,l8,Bool.not_false,Bool.and_true])
       go_wp2_with fail
       go_roundw
       case rel => exact ⟨k + 1,by go_num,by rw [HS2.out],by have := HK.out; omega,F⟩
       case measure => have := HK.out; simp [intOf]; omega
     ·have l7 : ¬ (k : Int) < (n : Int) := by omega
      have hq := tipK_all L i k (by rw [HN.out]; omega)
      have rr := keep_fr F HR.out
      rw [hq]
      clear hq h2 hk
      rcases HCE.out with ⟨l8,rfl,rfl⟩ | ⟨l8,hq,l9,rfl,rfl⟩ | ⟨l8,hq,l9,rfl,rfl⟩ | ⟨l8,hq,rfl,rfl⟩
      ·have l10 : (4096 : Int) ≤ (n : Int) := by omega
       go_wp2_with fail
       go_ret2
       exact ⟨rfl,F⟩
      ·have l10 : decide ((4096 : Int) ≤ (n : Int)) = false := decide_eq_false (by omega)
       have l11 : (16 : Int) ≤ (tp : Int) := by omega
       rw [hq]
       go_wp2_with fail
       (refine (AT.out _ F).mono ?_); rintro e w12 ⟨rfl,f⟩
       replace F := F.trans' f
       clear f
       go_wp2_with fail
       go_ret2
       exact ⟨rfl,F⟩
      ·have l10 : decide ((4096 : Int) ≤ (n : Int)) = false := decide_eq_false (by omega)
       have l11 : decide ((16 : Int) ≤ (tp : Int)) = false := decide_eq_false (by omega)
       rw [hq]
       go_wp2_with fail
       (refine (AT.out _ F).mono ?_); rintro e w12 ⟨rfl,f⟩
       replace F := F.trans' f
       clear f
       go_wp2_with fail
       go_ret2
       exact ⟨rfl,F⟩
      ·have l10 : decide ((4096 : Int) ≤ (n : Int)) = false := decide_eq_false (by omega)
       rw [hq]
       go_wp2_with fail
       go_ret2
       exact ⟨rfl,F⟩
def OneR (L : List Bk) : Prop := ∀ i,0 < i → i < L.length → 0 ≤ (bkT L i).ahead
def NH (L : List Bk) : Prop := ∀ i j,i < L.length → j < L.length → (bkT L i).hash = (bkT L j).hash → i = j
theorem bkT_old {L : List Bk} {b : Bk} {k : Nat} (h : k < L.length) : bkT (L ++ [b]) k = bkT L k := by
 unfold bkT
 rw [List.getD_eq_getElem?_getD,List.getD_eq_getElem?_getD,List.getElem?_append_left h]
theorem bkT_new {L : List Bk} {b : Bk} : bkT (L ++ [b]) L.length = b := by
 unfold bkT
 rw [List.getD_eq_getElem?_getD,List.getElem?_append_right (Nat.le_refl _),Nat.sub_self]
 rfl
theorem len_snoc (L : List Bk) (b : Bk) : (L ++ [b]).length = L.length + 1 := by simp
theorem WFt.snoc {L : List Bk} (h : WFt L) {b : Bk} (o : b.Ok) {i : Nat} (hi : i < L.length) (hb : b.ahead = (i : Int)) : WFt (L ++ [b]) := by
 refine ⟨fun x hx => ?_,fun k hk => ?_⟩
 ·rw [List.mem_append,List.mem_singleton] at hx
  rcases hx with hx | rfl
  ·exact h.ok x hx
  ·exact o
 ·rw [len_snoc] at hk
  by_cases h1 : k < L.length
  ·rw [bkT_old h1]; exact h.up k h1
  ·obtain rfl : k = L.length := by omega
   rw [bkT_new,hb]; omega
theorem OneR.snoc {L : List Bk} (h : OneR L) {b : Bk} {i : Nat} (hb : b.ahead = (i : Int)) : OneR (L ++ [b]) := by
 intro k h0 hk
 rw [len_snoc] at hk
 by_cases h1 : k < L.length
 ·rw [bkT_old h1]; exact h k h0 h1
 ·obtain rfl : k = L.length := by omega
  rw [bkT_new,hb]; omega
theorem path_old {L : List Bk} (h : WFt L) (b : Bk) : ∀ f k,k < L.length → path (L ++ [b]) f k = path L f k := by
 intro f
 induction f with
 |zero => intro k hk; rfl
 |succ f ih =>
  intro k hk
  rw [path,path,bkT_old hk]
  have := h.up k hk
  split
  ·rfl
  ·rw [ih _ (by omega)]
theorem anc_old {L : List Bk} (h : WFt L) (b : Bk) {k : Nat} (hk : k < L.length) : anc (L ++ [b]) k = anc L k := path_old h b k k hk
theorem anc_new {L : List Bk} (h : WFt L) {b : Bk} (o : b.Ok) {i : Nat} (hi : i < L.length) (hb : b.ahead = (i : Int)) : anc (L ++ [b]) L.length = L.length :: anc L i := by
 have := (anc_step (h.snoc o hi hb) (i := L.length) (j := i) (by simp) (by rw [bkT_new,hb])).2
 rw [this,anc_old h b hi]
theorem height_old {L : List Bk} (h : WFt L) (b : Bk) {k : Nat} (hk : k < L.length) : heightM (L ++ [b]) k = heightM L k := by rw [heightM,anc_old h b hk]; rfl
theorem line_old {L : List Bk} (h : WFt L) (b : Bk) {k : Nat} (hk : k < L.length) : lineM (L ++ [b]) k = lineM L k := by rw [lineM,anc_old h b hk]; rfl
theorem height_new {L : List Bk} (h : WFt L) {b : Bk} (o : b.Ok) {i : Nat} (hi : i < L.length) (hb : b.ahead = (i : Int)) : heightM (L ++ [b]) L.length = heightM L i + 1 := by
 rw [heightM,anc_new h o hi hb,heightM,List.length_cons]
 have := anc_len h i hi
 omega
theorem work_old {L : List Bk} (h : WFt L) (b : Bk) {k : Nat} (hk : k < L.length) : workM (L ++ [b]) k = workM L k := by
 rw [workM,workM,anc_old h b hk]
 congr 1
 refine List.map_congr_left fun x hx => ?_
 have := anc_lt h k hk x hx
 rw [bkT_old (by omega)]
theorem work_new {L : List Bk} (h : WFt L) {b : Bk} (o : b.Ok) {i : Nat} (hi : i < L.length) (hb : b.ahead = (i : Int)) : workM (L ++ [b]) L.length = workM L i + wkN (btT b.bits) := by
 have := workM_step (h.snoc o hi hb) (i := L.length) (j := i) (by simp) (by rw [bkT_new,hb])
 rw [this,work_old h b hi,bkT_new]
theorem isTip_old (L : List Bk) {b : Bk} {i : Nat} (hb : b.ahead = (i : Int)) (k : Nat) : isTip (L ++ [b]) k = (isTip L k && !decide (i = k)) := by
 unfold isTip
 rw [List.all_append,List.all_cons,List.all_nil,Bool.and_true,hb]
 congr 2
 exact decide_eq_decide.2 ⟨fun h => by omega,fun h => by omega⟩
theorem isTip_new {L : List Bk} (h : WFt L) {b : Bk} {i : Nat} (hi : i < L.length) (hb : b.ahead = (i : Int)) : isTip (L ++ [b]) L.length = true := by
 rw [isTip_old L hb,Bool.and_eq_true]
 refine ⟨?_,by simp; omega⟩
 unfold isTip
 rw [List.all_eq_true]
 intro x hx
 obtain ⟨k,hk,rfl⟩ := List.getElem_of_mem hx
 have := h.up k hk
 have e : bkT L k = L[k] := by unfold bkT; rw [List.getD,List.getElem?_eq_getElem hk]; rfl
 rw [e] at this
 simp
 omega
theorem countP_range_flip (f g : Nat → Bool) (i : Nat) : ∀ n,i < n → (∀ k,k < n → k ≠ i → f k = g k) → f i = false → (List.range n).countP g = (List.range n).countP f + if g i then 1 else 0
 |0,h,_,_ => absurd h (by omega)
 |n + 1,h,he,hf => by
  rw [List.range_succ,List.countP_append,List.countP_append,List.countP_singleton,List.countP_singleton]
  by_cases h1 : i < n
  ·rw [countP_range_flip f g i n h1 (fun k hk => he k (by omega)) hf,he n (by omega) (by omega)]
   omega
  ·obtain rfl : i = n := by omega
   have e : (List.range i).countP g = (List.range i).countP f := List.countP_congr fun x hx => by
    have hx' := List.mem_range.1 hx
    rw [he x (by omega) (by omega)]
   rw [e,hf]
   simp
theorem tips_snoc {L : List Bk} (h : WFt L) {b : Bk} {i : Nat} (hi : i < L.length) (hb : b.ahead = (i : Int)) : tipsM (L ++ [b]) = tipsM L + if isTip L i then 0 else 1 := by
 unfold tipsM
 rw [len_snoc,tipsN_succ,isTip_new h hi hb,if_pos rfl]
 have := countP_range_flip (fun k => isTip (L ++ [b]) k) (fun k => isTip L k) i L.length hi (fun k hk hne => by
  show isTip (L ++ [b]) k = isTip L k
  rw [isTip_old L hb,decide_eq_false (fun e => hne e.symm)]; simp) (by
  show isTip (L ++ [b]) i = false
  rw [isTip_old L hb,decide_eq_true rfl]; simp)
 unfold tipsN
 rw [this]
 cases isTip L i <;> simp
theorem best_old {L : List Bk} (h : WFt L) (b : Bk) : ∀ n,n ≤ L.length → bestN (L ++ [b]) n = bestN L n
 |0,_ => rfl
 |n + 1,hn => by
  have h1 := bestN_le L n
  rw [bestN,bestN,best_old h b n (by omega),work_old h b (by omega),work_old h b (by omega)]
theorem best_snoc {L : List Bk} (h : WFt L) {b : Bk} (o : b.Ok) {i : Nat} (hi : i < L.length) (hb : b.ahead = (i : Int)) : bestM (L ++ [b]) = if workM L (bestM L) < workM L i + wkN (btT b.bits) then L.length else bestM L := by
 unfold bestM
 rw [len_snoc,bestN,best_old h b _ (Nat.le_refl _),work_new h o hi hb,work_old h b (by have := bestN_le L L.length; omega)]
theorem best_lt {L : List Bk} (h : 0 < L.length) : bestM L < L.length := by
 have := bestN_le L L.length
 unfold bestM
 omega
theorem findFrom_is (h : List UInt8) : ∀ (L : List Bk) (k i : Nat),findFrom h L k = (i : Int) → k ≤ i ∧ i < k + L.length ∧ (bkT L (i - k)).hash = h
 |[],k,i,e => by rw [findFrom] at e; omega
 |x :: L,k,i,e => by
  rw [findFrom] at e
  by_cases hx : x.hash = h
  ·rw [if_pos hx] at e
   obtain rfl : k = i := by omega
   refine ⟨Nat.le_refl _,by rw [List.length_cons]; omega,?_⟩
   rw [Nat.sub_self]; exact hx
  ·rw [if_neg hx] at e
   obtain ⟨h1,h2,h3⟩ := findFrom_is h L (k + 1) i e
   refine ⟨by omega,by rw [List.length_cons]; omega,?_⟩
   rw [show i - k = (i - (k + 1)) + 1 by omega]
   exact h3
theorem findM_is {L : List Bk} {h : List UInt8} {i : Nat} (e : findM L h = (i : Int)) : i < L.length ∧ (bkT L i).hash = h := by
 have := findFrom_is h L 0 i e
 exact ⟨by omega,this.2.2⟩
theorem findM_none {L : List Bk} {h : List UInt8} (e : findM L h < 0) : ∀ i,i < L.length → (bkT L i).hash ≠ h := by
 intro i hi hh
 have key : ∀ (L : List Bk) (k i : Nat),i < L.length → (bkT L i).hash = h → 0 ≤ findFrom h L k := by
  intro L
  induction L with
  |nil => intro k i hi; simp at hi
  |cons x L ih =>
   intro k i hi hh
   rw [findFrom]
   by_cases hx : x.hash = h
   ·rw [if_pos hx]; omega
   ·rw [if_neg hx]
    cases i with
    |zero => exact absurd hh hx
    |succ i => exact ih (k + 1) i (by simpa using hi) hh
 have := key L 0 i hi hh
 unfold findM at e
 omega
theorem findM_at {L : List Bk} (nh : NH L) {i : Nat} (hi : i < L.length) : findM L (bkT L i).hash = (i : Int) := by
 rcases findM_lt (bkT L i).hash L with h | ⟨j,h,hj⟩
 ·exact absurd rfl (findM_none (by omega) i hi)
 ·have := findM_is h
  rw [h]
  exact congrArg _ (nh i j hi hj this.2.symm).symm
theorem NH.snoc {L : List Bk} (h : NH L) {b : Bk} (hb : findM L b.hash < 0) : NH (L ++ [b]) := by
 intro i j hi hj e
 rw [len_snoc] at hi hj
 by_cases h1 : i < L.length
 ·by_cases h2 : j < L.length
  ·rw [bkT_old h1,bkT_old h2] at e
   exact h i j h1 h2 e
  ·obtain rfl : j = L.length := by omega
   rw [bkT_old h1,bkT_new] at e
   exact absurd e (findM_none hb i h1)
 ·obtain rfl : i = L.length := by omega
  by_cases h2 : j < L.length
  ·rw [bkT_old h2,bkT_new] at e
   exact absurd e.symm (findM_none hb j h2)
  ·omega
theorem anc_head {L : List Bk} (h : WFt L) {i : Nat} (hi : i < L.length) : ∃ r,anc L i = i :: r := by
 have hu := h.up i hi
 by_cases h0 : (bkT L i).ahead < 0
 ·exact ⟨[],anc_root h hi h0⟩
 ·obtain ⟨j,hj⟩ := Int.eq_ofNat_of_zero_le (show 0 ≤ (bkT L i).ahead by omega)
  exact ⟨_,(anc_step h hi hj).2⟩
theorem anc_self {L : List Bk} (h : WFt L) {i : Nat} (hi : i < L.length) : i ∈ anc L i := by
 obtain ⟨r,e⟩ := anc_head h hi
 rw [e]; simp
theorem anc_pre {L : List Bk} (h : WFt L) : ∀ i,i < L.length → ∀ j ∈ anc L i,∃ pre,anc L i = pre ++ anc L j := by
 intro i
 induction i using Nat.strongRecOn with
 |_ i ih =>
  intro hi j hj
  have hu := h.up i hi
  by_cases h0 : (bkT L i).ahead < 0
  ·rw [anc_root h hi h0] at hj
   simp at hj
   subst hj
   exact ⟨[],rfl⟩
  ·obtain ⟨k,hk⟩ := Int.eq_ofNat_of_zero_le (show 0 ≤ (bkT L i).ahead by omega)
   obtain ⟨h1,h2⟩ := anc_step h hi hk
   rw [h2,List.mem_cons] at hj
   rcases hj with rfl | hj
   ·exact ⟨[],rfl⟩
   ·obtain ⟨pre,hp⟩ := ih k h1 (by omega) j hj
    exact ⟨i :: pre,by rw [h2,hp]; rfl⟩
theorem zero_mem {L : List Bk} (h : WFt L) (o : OneR L) : ∀ i,i < L.length → 0 ∈ anc L i := by
 intro i
 induction i using Nat.strongRecOn with
 |_ i ih =>
  intro hi
  by_cases h0 : i = 0
  ·subst h0; exact anc_self h hi
  ·have := o i (by omega) hi
   obtain ⟨k,hk⟩ := Int.eq_ofNat_of_zero_le this
   obtain ⟨h1,h2⟩ := anc_step h hi hk
   rw [h2,List.mem_cons]
   exact .inr (ih k h1 (by omega))
theorem line_len {L : List Bk} (h : WFt L) {i : Nat} (hi : i < L.length) : (lineM L i).length = heightM L i + 1 := by
 have := anc_len h i hi
 rw [lineM,List.length_reverse,heightM]
 omega
theorem line_pre {L : List Bk} (h : WFt L) {i j : Nat} (hi : i < L.length) (hj : j ∈ anc L i) : ∃ r,lineM L i = lineM L j ++ r := by
 obtain ⟨pre,e⟩ := anc_pre h i hi j hj
 exact ⟨pre.reverse,by rw [lineM,e,List.reverse_append,lineM]⟩
theorem line_last {L : List Bk} (h : WFt L) {i : Nat} (hi : i < L.length) : (lineM L i)[heightM L i]? = some i := by
 have hl := line_len h hi
 obtain ⟨r,e⟩ := anc_head h hi
 have : heightM L i = r.length := by rw [heightM,e]; simp
 rw [lineM,e,List.reverse_cons,this,List.getElem?_append_right (by simp)]
 simp
theorem line_at {L : List Bk} (h : WFt L) {i j : Nat} (hi : i < L.length) (hj : j ∈ anc L i) : (lineM L i)[heightM L j]? = some j ∧ (lineM L i).take (heightM L j + 1) = lineM L j ∧ heightM L j < (lineM L i).length := by
 have hjl : j < L.length := Nat.lt_of_le_of_lt (anc_lt h i hi j hj) hi
 obtain ⟨r,e⟩ := line_pre h hi hj
 have h1 := line_len h hjl
 have h2 := line_last h hjl
 refine ⟨?_,?_,?_⟩
 ·rw [e,List.getElem?_append_left (by omega),h2]
 ·rw [e,← h1,List.take_left']; rfl
 ·rw [e,List.length_append]; omega
theorem line_mem {L : List Bk} (h : WFt L) {i j k : Nat} (hi : i < L.length) (he : (lineM L i)[k]? = some j) : j ∈ anc L i ∧ j < L.length := by
 have : j ∈ lineM L i := List.mem_of_getElem? he
 have hm := List.mem_reverse.1 this
 exact ⟨hm,Nat.lt_of_le_of_lt (anc_lt h i hi j hm) hi⟩
theorem common_comm : ∀ x y : List Nat,common x y = common y x
 |[],[] => rfl
 |[],_ :: _ => rfl
 |_ :: _,[] => rfl
 |a :: x,b :: y => by
  rw [common,common]
  by_cases h : a = b
  ·rw [if_pos h,if_pos h.symm,common_comm x y]
  ·rw [if_neg h,if_neg fun e => h e.symm]
theorem common_self : ∀ x : List Nat,common x x = x.length
 |[] => rfl
 |a :: x => by rw [common,if_pos rfl,common_self x,List.length_cons]
theorem common_drop_last : ∀ (x y : List Nat) (a : Nat),y.length ≤ x.length + 1 → y[x.length]? ≠ some a → common (x ++ [a]) y = common x y
 |[],[],a,_,_ => rfl
 |[],b :: y,a,_,h => by
  rw [List.nil_append,common,if_neg]
  ·cases y <;> rfl
  ·intro e; subst e; exact h rfl
 |c :: x,[],a,_,_ => rfl
 |c :: x,b :: y,a,hl,h => by
  rw [List.cons_append,common,common]
  by_cases e : c = b
  ·rw [if_pos e,if_pos e,common_drop_last x y a (by simpa using hl) (by simpa using h)]
  ·rw [if_neg e,if_neg e]
def cmM (L : List Bk) (x y : Nat) : Nat := common (lineM L x) (lineM L y)
theorem line_zero {L : List Bk} (h : WFt L) (o : OneR L) {i : Nat} (hi : i < L.length) : ∃ r,lineM L i = 0 :: r := by
 have h0 := zero_mem h o i hi
 obtain ⟨r,e⟩ := line_pre h hi h0
 have hz : 0 < L.length := by omega
 have := h.up 0 hz
 have e0 : lineM L 0 = [0] := by rw [lineM,anc_root h hz (by omega)]; rfl
 rw [e0] at e
 exact ⟨r,e⟩
theorem forkM_cm {L : List Bk} (h : WFt L) (o : OneR L) {i j : Nat} (hi : i < L.length) (hj : j < L.length) : cmM L i j = forkM L i j + 1 := by
 unfold cmM forkM
 obtain ⟨r,e⟩ := line_zero h o hi
 obtain ⟨s,f⟩ := line_zero h o hj
 rw [e,f,common,if_pos rfl]
 rfl
theorem cm_step {L : List Bk} (h : WFt L) {x y z : Nat} (hx : x < L.length) (hy : y < L.length) (hz : (bkT L x).ahead = (z : Int)) (hne : x ≠ y) (hh : heightM L y ≤ heightM L x) : cmM L z y = cmM L x y := by
 obtain ⟨h1,h2⟩ := anc_step h hx hz
 unfold cmM
 have e : lineM L x = lineM L z ++ [x] := by rw [lineM,h2,List.reverse_cons]; rfl
 have l1 := line_len h (show z < L.length by omega)
 have l2 := line_len h hx
 have l3 := line_len h hy
 rw [e,List.length_append,List.length_singleton] at l2
 rw [e]
 refine (common_drop_last _ _ _ (by omega) fun e2 => hne ?_).symm
 have l4 := (List.getElem?_eq_some_iff.1 e2).1
 have : (lineM L z).length = heightM L y := by omega
 rw [this,line_last h hy] at e2
 exact (Option.some.inj e2).symm
theorem cm_self {L : List Bk} (h : WFt L) {x : Nat} (hx : x < L.length) : cmM L x x = heightM L x + 1 := by
 rw [cmM,common_self,line_len h hx]
def mayE (L : List Bk) (e span limit : Nat) (b : Bk) (i : Nat) (mt : Bool) : Int :=
 if ¬ (bitsM L e span limit i = b.bits ∧ btP b.bits ∧ btT b.bits ≤ btT limit) then 6
 else if mt = false then 7
 else if b.time ≤ medianM L i then 11
 else if 4096 ≤ L.length ∨ (isTip L i = false ∧ 16 ≤ tipsM L) then 10
 else 0
def chkE (L : List Bk) (e span limit : Nat) (b : Bk) (h : List UInt8) (mt : Bool) : Int :=
 if 0 ≤ findM L b.hash then 9 else if findM L h < 0 then 8 else mayE L e span limit b (findM L h).toNat mt
def chkV (L : List Bk) (e span limit : Nat) (b : Bk) (h : List UInt8) (mt : Bool) : Int := if chkE L e span limit b h mt = 0 then findM L h else -1
theorem r12Check_any (p : Nat) (L : List Bk) (e : Nat) (span limit : Nat) (hw : WFt L) (hl : L.length ≤ 100000) (he0 : 0 < e) (he : e ≤ 100000) (hs0 : 0 < span) (hs : span < 4294967296) (hbits : ∀ b ∈ L,btP b.bits) (hlim : btP limit) (hlt : limit < 4294967296)
  (b : Bk) (ob : b.Ok) (h : List UInt8) (hh : h.length = 32) (mt : Bool) (w : World) (T : TR w p L (e : Int) span limit) (AX : Ans w 42 #[b.bytes] (.bool mt)) :
  Calls Tryz.prog 13 #[.pointer (some ⟨p,0,none⟩),.agg b.arr,.agg (hc h)] w fun ed w' => ed = .returned (.tuple #[.int .i64 (chkV L e span limit b h mt),.int .i64 (chkE L e span limit b h mt)]) ∧ Fr F0 w w' := by
 have A1 : Ans w 38 #[.pointer (some ⟨p,0,none⟩),.agg (hc b.hash)] (.int .i64 (findM L b.hash)) := Lib.hid fun W f => r12Find_any p L _ span limit b.hash ob.hash hl W (T.fr f)
 have A2 : Ans w 38 #[.pointer (some ⟨p,0,none⟩),.agg (hc h)] (.int .i64 (findM L h)) := Lib.hid fun W f => r12Find_any p L _ span limit h hh hl W (T.fr f)
 refine r12Check_core p L (e : Int) span limit hl b ob h hh hlt w T _ _ _ _ A1 A2 (Lib.hid ?_)
 unfold chkV chkE
 by_cases h1 : 0 ≤ findM L b.hash
 ·rw [if_pos h1]
  exact .inl ⟨h1,rfl,rfl⟩
 ·rw [if_neg h1]
  rcases findM_lt h L with h2 | ⟨i,h2,hi⟩
  ·rw [h2]
   exact .inr (.inl ⟨by omega,by omega,rfl,rfl⟩)
  ·rw [h2,if_neg (show ¬ ((i : Int) < 0) by omega),Int.toNat_natCast]
   have htp := tipsN_le L L.length
   refine .inr (.inr ⟨by omega,i,bitsM L e span limit i,medianM L i,tipsM L,mt,rfl,hi,by unfold tipsM; omega,Lib.hid fun W f => r12Bits_any p L e span limit hw i hi hl he0 he hs0 hs hbits hlim hlt W (T.fr f),
    Lib.hid fun W f => r12Median_any p L _ span limit hw i hi hl W (T.fr f),Lib.hid fun W f => r12Tips_any p L _ span limit hl W (T.fr f),AX,?_⟩)
   by_cases h3 : bitsM L e span limit i = b.bits
   ·by_cases h4 : btP b.bits
    ·right; right
     refine ⟨h3,decide_eq_true h4,hlim.2.2,?_⟩
     by_cases h5 : btT limit < btT b.bits
     ·left
      have e1 : mayE L e span limit b i mt = 6 := by
       unfold mayE
       exact if_pos fun h => absurd h.2.2 (by omega)
      rw [e1]
      exact ⟨h5,rfl,rfl⟩
     ·right
      have e0 : mayE L e span limit b i mt = if mt = false then 7 else if b.time ≤ medianM L i then 11 else if 4096 ≤ L.length ∨ (isTip L i = false ∧ 16 ≤ tipsM L) then 10 else 0 := by
       unfold mayE
       exact if_neg fun h => h ⟨h3,h4,by omega⟩
      rw [e0]
      cases mt with
      |false => exact .inl ⟨h5,rfl,rfl,rfl⟩
      |true =>
       right
       rw [if_neg (show ¬ (true = false) by simp)]
       by_cases h6 : b.time ≤ medianM L i
       ·left
        rw [if_pos h6]
        exact ⟨h5,rfl,h6,rfl,rfl⟩
       ·right
        rw [if_neg h6]
        refine ⟨h5,rfl,h6,?_⟩
        by_cases h7 : 4096 ≤ L.length
        ·rw [if_pos (show 4096 ≤ L.length ∨ (isTip L i = false ∧ 16 ≤ tipsM L) from .inl h7)]
         exact .inl ⟨h7,rfl,rfl⟩
        ·right
         cases h8 : isTip L i with
         |true =>
          rw [if_neg (show ¬ (4096 ≤ L.length ∨ (true = false ∧ 16 ≤ tipsM L)) from fun h => h.elim h7 fun h => by cases h.1)]
          exact .inr (.inr ⟨h7,rfl,rfl,rfl⟩)
         |false =>
          by_cases h9 : 16 ≤ tipsM L
          ·rw [if_pos (show 4096 ≤ L.length ∨ (false = false ∧ 16 ≤ tipsM L) from .inr ⟨rfl,h9⟩)]
           exact .inl ⟨h7,rfl,h9,rfl,rfl⟩
          ·rw [if_neg (show ¬ (4096 ≤ L.length ∨ (false = false ∧ 16 ≤ tipsM L)) from fun h => h.elim h7 fun h => h9 h.2)]
           exact .inr (.inl ⟨h7,rfl,h9,rfl,rfl⟩)
    ·have e1 : mayE L e span limit b i mt = 6 := by
      unfold mayE
      exact if_pos fun h => h4 h.2.1
     rw [e1]
     exact .inr (.inl ⟨h3,decide_eq_false h4,rfl,rfl⟩)
   ·have e1 : mayE L e span limit b i mt = 6 := by
     unfold mayE
     exact if_pos fun h => h3 h.1
    rw [e1]
    exact .inl ⟨h3,rfl,rfl⟩
end Go.Proofs.YtfjcplfhkahamaaGreatDoor
