import Derived.Test.YtfjcplfhkahamaaGreatDoorQ18
import Derived.Test.YtfjcplfhkahamaaGreatDoorQ1
import Derived.Test.YtfjcplfhkahamaaGreatDoorQ5
import Derived.Test.YtfjcplfhkahamaaGreatDoorQ8
set_option maxRecDepth 100000
set_option maxHeartbeats 64000000
namespace Go.Proofs.YtfjcplfhkahamaaGreatDoor
set_option linter.unusedVariables false
set_option linter.unusedSimpArgs false
open Go.RowKit
def fromM (L : List Bk) (every : Nat) (i : Nat) : Nat := (lineM L i).getD ((lineM L i).length - every) 0
def bitsM (L : List Bk) (every span limit i : Nat) : Nat :=
 if (lineM L i).length % every = 0 then enB (scN (btT (bkT L i).bits) (tkN span (((bkT L i).time : Int) - ((bkT L (fromM L every i)).time : Int))) span (btT limit)) else (bkT L i).bits
theorem line_lt {L : List Bk} (h : WFt L) {i k : Nat} (hi : i < L.length) (hk : k < (lineM L i).length) : (lineM L i).getD k 0 < L.length := by
 have h1 : (lineM L i).getD k 0 ∈ lineM L i := by
  rw [List.getD,List.getElem?_eq_getElem hk]
  exact List.getElem_mem hk
 have := anc_lt h i hi _ (List.mem_reverse.1 h1)
 omega
theorem run_maxU12 (ts : Array TypeId) (t : TypeId) (x y z : Nat) (h : max x y = z) (w : World) : (Builtin.max_ ts t #[.int .u64 (x : Int),.int .u64 (y : Int)]).run Tryz.prog w = .ok (.int .u64 (z : Int)) w := by
 rw [run_max_int2,show (if (y : Int) > (x : Int) then (y : Int) else (x : Int)) = (z : Int) by split <;> omega]
theorem r12Bits_core (p : Nat) (L : List Bk) (e : Nat) (span limit : Nat) (hw : WFt L) (i : Nat) (hi : i < L.length) (hl : L.length ≤ 100000) (he0 : 0 < e) (he : e ≤ 100000) (hs0 : 0 < span) (hs : span < 4294967296) (T M tk S V : Nat) (hnb : Hid ((lineM L i).length % e = 0 → tkN span (((bkT L i).time : Int) - ((bkT L (fromM L e i)).time : Int)) = tk))
  (H2 : Hid (∀ w,Calls Tryz.prog 39 #[.int .u32 (((bkT L i).bits : Nat) : Int)] w fun e w' => ∃ a c,e = .returned (.tuple #[.slice a (lg T) c,.bool true]) ∧ Ns w' a c T ∧ Fr F0 w w'))
  (H3 : Hid (∀ w,Calls Tryz.prog 39 #[.int .u32 (limit : Int)] w fun e w' => ∃ a c,e = .returned (.tuple #[.slice a (lg M) c,.bool true]) ∧ Ns w' a c M ∧ Fr F0 w w'))
  (H4 : Hid (∀ a c b d w,Ns w a c T → Ns w b d M → Calls Tryz.prog 73 #[.slice a (lg T) c,.int .u64 (tk : Int),.int .u64 (span : Int),.slice b (lg M) d] w fun e w' => NN S w e w'))
  (H5 : Hid (∀ a c w,Ns w a c S → Calls Tryz.prog 72 #[.slice a (lg S) c] w fun e w' => e = .returned (.int .u32 (V : Int)) ∧ Fr F0 w w')) (w : World) (TT : TR w p L (e : Int) span limit) :
  Calls Tryz.prog 40 #[.pointer (some ⟨p,0,none⟩),.int .i64 (i : Int)] w fun ed w' => ed = .returned (.int .u32 (((if (lineM L i).length % e = 0 then V else (bkT L i).bits) : Nat) : Int)) ∧ Fr F0 w w' := by
 have H1 := Lib.hid (r12Line_any p L (e : Int) span limit hw i hi hl w TT)
 have hX : 0 < (lineM L i).length ∧ (lineM L i).length ≤ 100000 := by unfold lineM; rw [List.length_reverse]; have := anc_len hw i hi; omega
 have hXl := fun k hk => line_lt (k := k) hw hi hk
 unfold fromM at hnb
 generalize lineM L i = X at *
 generalize hm : X.length = m at *
 obtain ⟨n,hn⟩ : ∃ n,L.length = n := ⟨_,rfl⟩
 obtain ⟨a,c,r1,hb⟩ := TT
 rw [hn] at r1 hl hXl hi
 have HB := Lib.hid hb
 have HN := Lib.hid hn
 have HM := Lib.hid hm
 obtain ⟨bi,oi,ea,hbi⟩ := hb.load i (by rw [hn]; exact hi)
 subst ea
 have HBI := Lib.hid hbi
 have hti : (bkT L i).time < 4294967296 := (hb.ok _ (bkT_mem (by rw [hn]; exact hi))).time
 generalize (bkT L i).time = ti at *
 generalize (bkT L i).bits = xi at *
 have l0 : (i : Int) < (n : Int) := by omega
 have l00 : ¬ (e : Int) = 0 := by omega
 have hmod : ((m : Int).tmod (e : Int)) = ((m % e : Nat) : Int) := by rw [Int.tmod_eq_emod_of_nonneg (by omega)]; omega
 obtain ⟨r,hr⟩ : ∃ r,(if m % e = 0 then V else xi) = r := ⟨_,rfl⟩
 rw [hr]
 have HRS := Lib.hid hr
 clear hbi hw hn hm hb hl hr
 go_enter Tryz.func40,Tryz.ntmps40
 go_wp2_with fail
 (with_reducible refine (H1.out).mono ?_); rintro e1 w1 ⟨a1,c1,rfl,x1,F⟩
 replace r1 := keep_fr F r1
 rw [HM.out]
 by_cases h1 : m % e = 0
 ·have HR2 := Lib.hid (show r = V by rw [← HRS.out,if_pos h1])
  have hem : e ≤ m := Nat.le_of_dvd hX.1 (Nat.dvd_of_mod_eq_zero h1)
  have l1 : (m : Int) % (e : Int) = 0 := by omega
  obtain ⟨q,hq⟩ : ∃ q,m - e = q := ⟨_,rfl⟩
  rw [hq] at hnb
  have m1 : IntKind.i64.wrap ((m : Int) - (e : Int)) = (q : Int) := by rw [IntWalk.i64_in _ (by omega)]; omega
  have l2 : (q : Int) < (m : Int) := by omega
  have hfl := hXl q (by omega)
  obtain ⟨b1,o1,e2,g1⟩ := x1.get q (by rw [HM.out]; omega)
  subst e2
  obtain ⟨fi,hfi⟩ : ∃ fi,X.getD q 0 = fi := ⟨_,rfl⟩
  rw [hfi] at hnb g1 hfl
  obtain ⟨b2,o2,e2,hbf⟩ := HB.out.load fi (by rw [HN.out]; exact hfl)
  cases e2
  have htf : (bkT L fi).time < 4294967296 := (HB.out.ok _ (bkT_mem (by rw [HN.out]; exact hfl))).time
  generalize (bkT L fi).time = tf at *
  obtain ⟨_,_,c33,_⟩ := hbf w1 F
  have l3 : (fi : Int) < (n : Int) := by omega
  obtain ⟨d,hd⟩ : ∃ d,(ti : Int) - (tf : Int) = d := ⟨_,rfl⟩
  rw [hd] at hnb
  have hks := hnb.out h1
  have HT := Lib.hid (And.intro hti (And.intro htf hd))
  clear hbf hq hfi h1 hem hX hXl hnb x1 hmod
  go_upto_region 4 with fail
  refine rbegin (S := (fun w' => (w'.heap[p]? = some (.cells #[.slice (some ⟨bi,oi,none⟩) n c,.int .i64 (e : Int),.int .u32 (span : Int),.int .u32 (limit : Int)] 43 (0,0)) ∧ Obj.cellAt (o1 + q) w'.heap[b1]? = some (.int .i64 (fi : Int)) ∧ Obj.cellAt (oi + fi * 36 + 33) w'.heap[bi]? = some (.int .u32 (tf : Int))) ∧ Fr F0 w w')) ?_ fun hHeld => ?_
  ·((try dsimp only) <;> (exact ⟨⟨r1,g1,c33⟩,F.drew⟩))
  refine rtake 0 ?_
  refine rtake 1 ?_
  refine rtake 2 ?_
  refine rtake 3 ?_
  refine rtake 4 ?_
  refine rtake 5 ?_
  refine rtake 6 ?_
  refine rtake 7 ?_
  refine rtake 8 ?_
  refine rtake 9 ?_
  refine rtake 10 ?_
  refine rtake 11 ?_
  refine rtake 12 ?_
  refine rtake 13 ?_
  refine rtake 14 ?_
  refine rtake 15 ?_
  refine rtake 16 ?_
  refine rtake 17 ?_
  refine rdone ?_
  clear r1 g1 c33 F
  obtain ⟨⟨r1,_,_⟩,F⟩ := hHeld
  obtain ⟨_,_,c33,c34⟩ := HBI.out _ F
  generalize w1.drew = w5 at *
  have hti := HT.out.1
  have htf := HT.out.2.1
  have hd := HT.out.2.2
  have m6 : IntKind.u64.wrap (span : Int) = (span : Int) := IntWalk.u64_in _ (by omega)
  have m7 : IntKind.i64.wrap (ti : Int) = (ti : Int) := IntWalk.i64_in _ (by omega)
  have m8 : IntKind.i64.wrap (tf : Int) = (tf : Int) := IntWalk.i64_in _ (by omega)
  have m9 : IntKind.i64.wrap ((ti : Int) - (tf : Int)) = d := by rw [IntWalk.i64_in _ (by omega)]; exact hd
  unfold tkN at hks
  obtain ⟨qq,hq⟩ : ∃ q,span / 4 = q := ⟨_,rfl⟩
  obtain ⟨f4,hf4⟩ : ∃ f,4 * span = f := ⟨_,rfl⟩
  have m11 : (span : Int) / 4 = (qq : Int) := by omega
  have m2 : IntKind.u64.wrap (qq : Int) = (qq : Int) := IntWalk.u64_in _ (by omega)
  have m4 : IntKind.u64.wrap (4 * (span : Int)) = (f4 : Int) := by rw [IntWalk.u64_in _ (by omega)]; omega
  have hdb : d < 4294967296 := by omega
  have hcase : (d ≤ 0 ∧ max qq 1 = tk) ∨ (0 < d ∧ ∃ kn : Nat,(kn : Int) = d ∧ ((kn < qq ∧ max qq 1 = tk) ∨ (¬ kn < qq ∧ f4 < kn ∧ f4 = tk) ∨ (¬ kn < qq ∧ ¬ f4 < kn ∧ kn = tk))) := by
   rw [hq,hf4] at hks
   by_cases h0 : d ≤ 0
   ·left
    rw [if_pos (.inl h0)] at hks
    exact ⟨h0,hks⟩
   ·right
    refine ⟨by omega,d.toNat,by omega,?_⟩
    by_cases h1 : d.toNat < qq
    ·rw [if_pos (.inr h1)] at hks
     exact .inl ⟨h1,hks⟩
    ·rw [if_neg (by omega)] at hks
     by_cases h2 : f4 < d.toNat
     ·rw [if_pos h2] at hks
      exact .inr (.inl ⟨h1,h2,hks⟩)
     ·rw [if_neg h2] at hks
      exact .inr (.inr ⟨h1,h2,hks⟩)
  clear hks hq hf4 hti htf hd HT
  rcases hcase with ⟨l4,hm⟩ | ⟨l4,kn,rfl,hcase⟩
  ·have q1 := fun ts t w => show (Builtin.max_ ts t #[.int .u64 (qq : Int),.int .u64 1]).run Tryz.prog w = _ from run_maxU12 ts t qq 1 tk hm w
   clear hm hdb
   go_wp2_with fail
   (with_reducible refine (H2.out _).mono ?_); rintro e2 w2 ⟨p3,k3,rfl,n3,f⟩
   replace r1 := keep_fr f r1
   replace F := F.trans' f
   clear f
   go_wp2_with fail
   (with_reducible refine (H3.out _).mono ?_); rintro e3 w3 ⟨p4,k4,rfl,n4,f⟩
   replace r1 := keep_fr f r1
   replace n3 := Us.fr n3 f
   replace F := F.trans' f
   clear f
   go_wp2_with fail
   (with_reducible refine (H4.out _ _ _ _ _ n3 n4).mono ?_); rintro e4 w7 ⟨p7,k7,rfl,n7,f5⟩
   replace F := F.trans' f5
   clear f5
   go_wp2_with fail
   (with_reducible refine (H5.out _ _ _ n7).mono ?_); rintro e5 w8 ⟨rfl,f5⟩
   replace F := F.trans' f5
   go_wp2_with fail
   go_ret
   exact ⟨by rw [HR2.out]; rfl,F⟩
  ·have m12 : IntKind.u64.wrap (kn : Int) = (kn : Int) := IntWalk.u64_in _ (by omega)
   have l5 : ¬ (kn : Int) ≤ 0 := by omega
   have l5' : ¬ kn = 0 := by omega
   have l4' : 0 < kn := by omega
   clear hdb
   rcases hcase with ⟨l6,hm⟩ | ⟨l6,l7,rfl⟩ | ⟨l6,l7,rfl⟩
   ·have q1 := fun ts t w => show (Builtin.max_ ts t #[.int .u64 (qq : Int),.int .u64 1]).run Tryz.prog w = _ from run_maxU12 ts t qq 1 tk hm w
    have l6' : (kn : Int) < (qq : Int) := by omega
    clear hm
    go_wp2_with fail
    (with_reducible refine (H2.out _).mono ?_); rintro e2 w2 ⟨p3,k3,rfl,n3,f⟩
    replace r1 := keep_fr f r1
    replace F := F.trans' f
    clear f
    go_wp2_with fail
    (with_reducible refine (H3.out _).mono ?_); rintro e3 w3 ⟨p4,k4,rfl,n4,f⟩
    replace r1 := keep_fr f r1
    replace n3 := Us.fr n3 f
    replace F := F.trans' f
    clear f
    go_wp2_with fail
    (with_reducible refine (H4.out _ _ _ _ _ n3 n4).mono ?_); rintro e4 w7 ⟨p7,k7,rfl,n7,f5⟩
    replace F := F.trans' f5
    clear f5
    go_wp2_with fail
    (with_reducible refine (H5.out _ _ _ n7).mono ?_); rintro e5 w8 ⟨rfl,f5⟩
    replace F := F.trans' f5
    go_wp2_with fail
    go_ret
    exact ⟨by rw [HR2.out]; rfl,F⟩
   ·have l6' : ¬ (kn : Int) < (qq : Int) := by omega
    have l7' : (f4 : Int) < (kn : Int) := by omega
    go_wp2_with fail
    (with_reducible refine (H2.out _).mono ?_); rintro e2 w2 ⟨p3,k3,rfl,n3,f⟩
    replace r1 := keep_fr f r1
    replace F := F.trans' f
    clear f
    go_wp2_with fail
    (with_reducible refine (H3.out _).mono ?_); rintro e3 w3 ⟨p4,k4,rfl,n4,f⟩
    replace r1 := keep_fr f r1
    replace n3 := Us.fr n3 f
    replace F := F.trans' f
    clear f
    go_wp2_with fail
    (with_reducible refine (H4.out _ _ _ _ _ n3 n4).mono ?_); rintro e4 w7 ⟨p7,k7,rfl,n7,f5⟩
    replace F := F.trans' f5
    clear f5
    go_wp2_with fail
    (with_reducible refine (H5.out _ _ _ n7).mono ?_); rintro e5 w8 ⟨rfl,f5⟩
    replace F := F.trans' f5
    go_wp2_with fail
    go_ret
    exact ⟨by rw [HR2.out]; rfl,F⟩
   ·have l6' : ¬ (kn : Int) < (qq : Int) := by omega
    have l7' : ¬ (f4 : Int) < (kn : Int) := by omega
    go_wp2_with fail
    (with_reducible refine (H2.out _).mono ?_); rintro e2 w2 ⟨p3,k3,rfl,n3,f⟩
    replace r1 := keep_fr f r1
    replace F := F.trans' f
    clear f
    go_wp2_with fail
    (with_reducible refine (H3.out _).mono ?_); rintro e3 w3 ⟨p4,k4,rfl,n4,f⟩
    replace r1 := keep_fr f r1
    replace n3 := Us.fr n3 f
    replace F := F.trans' f
    clear f
    go_wp2_with fail
    (with_reducible refine (H4.out _ _ _ _ _ n3 n4).mono ?_); rintro e4 w7 ⟨p7,k7,rfl,n7,f5⟩
    replace F := F.trans' f5
    clear f5
    go_wp2_with fail
    (with_reducible refine (H5.out _ _ _ n7).mono ?_); rintro e5 w8 ⟨rfl,f5⟩
    replace F := F.trans' f5
    go_wp2_with fail
    go_ret
    exact ⟨by rw [HR2.out]; rfl,F⟩
 ·obtain ⟨_,_,_,c34⟩ := HBI.out w1 F
  have l1 : ¬ ((m % e : Nat) : Int) = 0 := by omega
  have HR2 := Lib.hid (show r = xi by rw [← HRS.out,if_neg h1])
  go_wp2_with fail
  go_ret
  exact ⟨by rw [HR2.out]; rfl,F⟩
theorem r12Bits_any (p : Nat) (L : List Bk) (e : Nat) (span limit : Nat) (hw : WFt L) (i : Nat) (hi : i < L.length) (hl : L.length ≤ 100000) (he0 : 0 < e) (he : e ≤ 100000) (hs0 : 0 < span) (hs : span < 4294967296) (hbits : ∀ b ∈ L,btP b.bits) (hlim : btP limit) (hlt : limit < 4294967296) (w : World) (TT : TR w p L (e : Int) span limit) :
  Calls Tryz.prog 40 #[.pointer (some ⟨p,0,none⟩),.int .i64 (i : Int)] w fun ed w' => ed = .returned (.int .u32 ((bitsM L e span limit i : Nat) : Int)) ∧ Fr F0 w w' := by
 have hp := hbits _ (bkT_mem hi)
 have ho := hw.at hi
 have H2 := Lib.hid (r6Decode_any (bkT L i).bits ho.bits true (decide_eq_true hp))
 have H3 := Lib.hid (r6Decode_any limit hlt true (decide_eq_true hlim))
 have htk : tkN span (((bkT L i).time : Int) - ((bkT L (fromM L e i)).time : Int)) < 18446744073709551616 := by have := tkN_le hs0 (((bkT L i).time : Int) - ((bkT L (fromM L e i)).time : Int)); omega
 exact r12Bits_core p L e span limit hw i hi hl he0 he hs0 hs (btT (bkT L i).bits) (btT limit) _ _ _ (Lib.hid fun _ => rfl) H2 H3
  (Lib.hid fun a c b d w h1 h2 => r6Scale_any (btT (bkT L i).bits) _ span (btT limit) a c b d hp.2.2 hlim.2.2 htk (by omega) hs0 w h1 h2)
  (Lib.hid fun a c w h1 => r6Encode_any _ a c (scN_wide hlim.2.2) w h1) w TT
end Go.Proofs.YtfjcplfhkahamaaGreatDoor
