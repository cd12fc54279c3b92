import Derived.Test.YtedffdlkmpmdlaaGreatDoorFz7
import Derived.Test.YtedffdlkmpmdlaaGreatDoorFz6
import Derived.Test.YtedffdlkmpmdlaaGreatDoorFz1
set_option maxRecDepth 100000
set_option maxHeartbeats 64000000
namespace Go.Proofs.YtedffdlkmpmdlaaGreatDoor
set_option maxRecDepth 100000
set_option linter.unusedVariables false
set_option linter.unusedSimpArgs false
open Go.RowKit
theorem Tryz.szHash : (Tryz.prog.info? 25).map (·.size) = some 32 := by kernel_rfl
@[go_sem ↓ high] theorem load_hash (p : Value) : Instr.loadAt 25 p = loadRowAt 25 p := rfl
@[go_sem] theorem run_load_hash (w : World) (g : Nat) : (loadRowAt 25 (.pointer (some ⟨g,0,none⟩))).run Tryz.prog w = rowOut Tryz.prog 25 (.pointer (some ⟨g,0,none⟩)) w 32 w.heap[g]? :=
 run_loadRowAt w _ g 32 _ Tryz.underlying25 rfl Tryz.szHash
def DecC : Prop := ∀ (b : Nat),b < 4294967296 →
 (btP b → ∀ w,Calls Tryz.prog 55 #[.int .u32 (b : Int)] w fun e w' => e = .returned (.tuple #[.agg (rowN .u64 64 4 (btT b)),.int .i64 0]) ∧ Fr F0 w w') ∧
 (¬ btP b → ∀ w,Calls Tryz.prog 55 #[.int .u32 (b : Int)] w fun e w' => e = .returned (.tuple #[.agg (rowN .u64 64 4 0),.int .i64 6]) ∧ Fr F0 w w')
def EncC : Prop := ∀ (t : Nat),t < W256 → ∀ w,Calls Tryz.prog 83 #[.agg (rowN .u64 64 4 t)] w fun e w' => e = .returned (.int .u32 (enB t : Nat)) ∧ Fr F0 w w'
def WorkC : Prop := ∀ (t : Nat),t < W256 → ∀ w,Calls Tryz.prog 32 #[.agg (rowN .u64 64 4 t)] w fun e w' => e = .returned (.agg (rowN .u64 64 4 (wkN t))) ∧ Fr F0 w w'
def MeetsC : Prop := ∀ (h t : Nat) (o : Bool),h < W256 → t < W256 → decide (h ≤ t) = o → ∀ w,Calls Tryz.prog 38 #[.agg (rowN .u8 8 32 h),.agg (rowN .u64 64 4 t)] w fun e w' => e = .returned (.bool o) ∧ Fr F0 w w'
def scE (by' most : Nat) : Int := if by' = 0 then 5 else if most = 0 then 1 else 0
def scV (t up by' most : Nat) : Nat := if by' = 0 then 0 else if most = 0 then 0 else scN t up by' most
def ScaleC : Prop := ∀ (t up by' most : Nat),t < W256 → up < 18446744073709551616 → by' < 18446744073709551616 → most < W256 → ∀ w,
 Calls Tryz.prog 81 #[.agg (rowN .u64 64 4 t),.int .u64 (up : Int),.int .u64 (by' : Int),.agg (rowN .u64 64 4 most)] w fun e w' => e = .returned (.tuple #[.agg (rowN .u64 64 4 (scV t up by' most)),.int .i64 (scE by' most)]) ∧ Fr F0 w w'
end Go.Proofs.YtedffdlkmpmdlaaGreatDoor
namespace Go.Proofs.YtedffdlkmpmdlaaGreatDoor
set_option maxRecDepth 100000
set_option linter.unusedVariables false
set_option linter.unusedSimpArgs false
open Go.RowKit
theorem tmoved_any (e : Nat) (he : e ≤ 255) (w : World) :
  Calls Tryz.prog 74 #[.int .i64 (e : Int)] w fun o w' => o = .returned (.int .i64 (8 * ((e : Int) - 3))) ∧ w' = w := by
 have e1 : IntKind.i64.wrap ((e : Int) - 3) = (e : Int) - 3 := IntWalk.i64_in _ (by omega)
 have e2 : IntKind.i64.wrap (8 * ((e : Int) - 3)) = 8 * ((e : Int) - 3) := IntWalk.i64_in _ (by omega)
 clear he
 go_enter Tryz.func74,Tryz.ntmps74
 go_wp2_with fail
 go_ret
 exact ⟨rfl,rfl⟩
theorem sgn_le (x y : Nat) : (sgn x y ≤ 0) ↔ x ≤ y := by
 unfold sgn
 by_cases h1 : x < y
 ·rw [if_pos h1]; omega
 ·rw [if_neg h1]
  by_cases h2 : y < x
  ·rw [if_pos h2]; omega
  ·rw [if_neg h2]; omega
theorem meetsC : MeetsC := by
 intro h t o hh ht ho w
 have HF := Lib.hid (wFromBytes_any h hh)
 have HC := Lib.hid (wCmp_any h t hh ht)
 have hle : decide (sgn h t ≤ 0) = o := by rw [← ho]; exact decide_eq_decide.2 (sgn_le h t)
 generalize sgn h t = s at *
 clear hh ht ho
 go_enter Tryz.func38,Tryz.ntmps38
 go_wp2_with fail
 obtain ⟨W1,hW1⟩ : ∃ W,W = (w.alloc (.cells (rowN .u8 8 32 h) 25)).alloc (.cells (rowN .u64 64 4 t) 73) := ⟨_,rfl⟩
 obtain ⟨r1,r2⟩ := heap2 w (.cells (rowN .u8 8 32 h) 25) (.cells (rowN .u64 64 4 t) 73)
 have F : Fr F0 w W1 := by rw [hW1]; exact ((Fr.refl _ _).alloc _).alloc _
 rw [← hW1] at r1 r2
 refine wp_of_world W1 hW1 ?_
 clear hW1
 generalize w.heap.size + 1 = g2 at *
 generalize w.heap.size = g1 at *
 refine rbegin (S := (fun w' => (w'.heap[g1]? = some (.cells (rowN .u8 8 32 h) 25 (0,0)) ∧ w'.heap[g2]? = some (.cells (rowN .u64 64 4 t) 73 (0,0))) ∧ Fr F0 w w')) ?_ fun hHeld => ?_
 ·((try dsimp only) <;> (exact ⟨⟨r1,r2⟩,F.drew⟩))
 refine rtake 0 ?_
 refine rtake 2 ?_
 refine rone 1 fun K hK => ?_
 go_simp
 ((with_reducible refine (HF.out _).mono ?_); rintro e w5 ⟨rfl,f5⟩)
 refine hK.out _ _ ?_ (fun hHeld => ?_)
 ·((try dsimp only) <;> (first | exact hHeld | exact ⟨⟨keep_fr f5 hHeld.1.1,keep_fr f5 hHeld.1.2⟩,hHeld.2.trans' f5⟩))
 clear hK K
 try (simp only [Act.put,aST]; dsimp only [aS0,aS1])
 refine rone 3 fun K hK => ?_
 go_simp
 ((with_reducible refine (HC.out _).mono ?_); rintro e w5 ⟨rfl,f5⟩)
 refine hK.out _ _ ?_ (fun hHeld => ?_)
 ·((try dsimp only) <;> (first | exact hHeld | exact ⟨⟨keep_fr f5 hHeld.1.1,keep_fr f5 hHeld.1.2⟩,hHeld.2.trans' f5⟩))
 clear hK K
 try (simp only [Act.put,aST]; dsimp only [aS0,aS1])
 refine rtake 4 ?_
 refine rtake 5 ?_
 refine rdone ?_
 all_goals
  go_wp2
  go_ret
  exact ⟨rfl,hHeld.2⟩
end Go.Proofs.YtedffdlkmpmdlaaGreatDoor
namespace Go.Proofs.YtedffdlkmpmdlaaGreatDoor
set_option maxRecDepth 100000
set_option linter.unusedVariables false
set_option linter.unusedSimpArgs false
open Go.RowKit
theorem nbits_up (m k : Nat) (hm : 0 < m) : nbits m + k ≤ 256 ↔ m * 2 ^ k < W256 := by
 rw [W256_two]
 by_cases hk : k ≤ 256
 ·have e : nbits m + k ≤ 256 ↔ nbits m ≤ 256 - k := by omega
  rw [e,nbits_le]
  have e2 : 2 ^ 256 = 2 ^ (256 - k) * 2 ^ k := by rw [← Nat.pow_add]; congr 1; omega
  rw [e2]
  exact (Nat.mul_lt_mul_right (Nat.two_pow_pos k)).symm
 ·constructor
  ·intro h; omega
  ·intro h
   have h1 : 2 ^ 256 ≤ 2 ^ k := Nat.pow_le_pow_right (by omega) (by omega)
   have h2 : 2 ^ k ≤ m * 2 ^ k := Nat.le_mul_of_pos_left _ hm
   omega
theorem upBy_0 (n : Int) : upBy 0 n = 0 := by
 unfold upBy
 by_cases h : n < 0
 ·rw [if_pos h]
  by_cases h2 : -n < 256
  ·rw [if_pos h2,Nat.zero_div]
  ·rw [if_neg h2]
 ·rw [if_neg h]
  by_cases h2 : n < 256
  ·rw [if_pos h2,Nat.zero_mul,Nat.zero_mod]
  ·rw [if_neg h2]
theorem up_down (a k : Nat) (hk : 0 < k) (h : k < 256) : upBy a (-(k : Int)) = a / 2 ^ k := by
 unfold upBy
 rw [if_pos (by omega),Int.neg_neg,if_pos (by omega),Int.toNat_natCast]
theorem up_up (a k : Nat) (h : k < 256) : upBy a (k : Int) = a * 2 ^ k % W256 := by
 unfold upBy
 rw [if_neg (by omega),if_pos (by omega),Int.toNat_natCast]
theorem dec_num (e m : Nat) (hm : m < 8388608) (he : e ≤ 255) :
  (0 < upBy m (8 * ((e : Int) - 3)) ∧ (nbits m : Int) + 8 * ((e : Int) - 3) ≤ 256 ↔ 0 < tgt e m ∧ tgt e m < W256) ∧ (0 < tgt e m ∧ tgt e m < W256 → upBy m (8 * ((e : Int) - 3)) = tgt e m) := by
 by_cases h0 : m = 0
 ·subst h0
  have : tgt e 0 = 0 := by unfold tgt; simp
  rw [this,upBy_0]
  exact ⟨⟨fun h => absurd h.1 (by omega),fun h => absurd h.1 (by omega)⟩,fun h => absurd h.1 (by omega)⟩
 ·by_cases h3 : 3 ≤ e
  ·have hk : 8 * ((e : Int) - 3) = ((8 * (e - 3) : Nat) : Int) := by omega
   have ht : tgt e m = m * 2 ^ (8 * (e - 3)) := by unfold tgt; rw [if_pos h3,by2_two]
   rw [hk,ht]
   generalize 8 * (e - 3) = k at *
   have hb := nbits_up m k (by omega)
   have hp : 0 < m * 2 ^ k := Nat.mul_pos (by omega) (Nat.two_pow_pos k)
   have hb2 : ((nbits m : Int) + (k : Int) ≤ 256) ↔ nbits m + k ≤ 256 := by omega
   have hbm : 0 < nbits m := by
    refine Nat.pos_of_ne_zero fun h => ?_
    have := (nbits_le m 0).1 (by omega)
    omega
   rw [hb2,hb]
   have key : m * 2 ^ k < W256 → upBy m (k : Int) = m * 2 ^ k := fun h => by
    have hk2 : k < 256 := by have := hb.2 h; omega
    rw [up_up m k hk2,Nat.mod_eq_of_lt h]
   exact ⟨⟨fun h => ⟨hp,h.2⟩,fun h => ⟨by rw [key h.2]; exact hp,h.2⟩⟩,fun h => key h.2⟩
  ·have hk : 8 * ((e : Int) - 3) = -((8 * (3 - e) : Nat) : Int) := by omega
   have ht : tgt e m = m / 2 ^ (8 * (3 - e)) := by unfold tgt; rw [if_neg h3,by2_two]
   have hmm : m / 2 ^ (8 * (3 - e)) < W256 := Nat.lt_of_le_of_lt (Nat.div_le_self _ _) (word_w (by omega))
   have hb : nbits m ≤ 23 := (nbits_le m 23).2 (by omega)
   rw [hk,ht,up_down m _ (by omega) (by omega)]
   refine ⟨⟨fun h => ⟨h.1,hmm⟩,fun h => ⟨h.1,?_⟩⟩,fun _ => rfl⟩
   clear hmm ht hk
   omega
theorem and_low (b : Nat) (hb : b < 4294967296) : bits BinOp.and IntKind.u32 (b : Int) 8388607 = ((b % 8388608 : Nat) : Int) := by
 have h1 := u32_and_nat b 8388607 hb (by decide)
 rw [show ((8388607 : Nat) : Int) = 8388607 from rfl] at h1
 rw [h1,show (8388607 : Nat) = 2 ^ 23 - 1 from rfl,Nat.and_two_pow_sub_one_eq_mod]
theorem and_pow (b k : Nat) : b &&& 2 ^ k = b / 2 ^ k % 2 * 2 ^ k := by
 apply Nat.eq_of_testBit_eq
 intro i
 rw [Nat.testBit_and,Nat.testBit_two_pow,Nat.testBit_mul_two_pow]
 by_cases h : k = i
 ·subst h
  rw [Nat.sub_self,Nat.testBit_zero,Nat.testBit_eq_decide_div_mod_eq]
  simp
 ·by_cases h2 : k ≤ i
  ·obtain ⟨j,hj⟩ : ∃ j,i - k = j + 1 := ⟨i - k - 1,by omega⟩
   rw [hj,Nat.testBit_succ,Nat.div_eq_of_lt (Nat.mod_lt _ (by omega)),Nat.zero_testBit]
   simp [h]
  ·simp [h,h2]
theorem and_sign (b : Nat) (hb : b < 4294967296) : bits BinOp.and IntKind.u32 (b : Int) 8388608 = ((b / 8388608 % 2 * 8388608 : Nat) : Int) := by
 have h1 := u32_and_nat b 8388608 hb (by decide)
 rw [show ((8388608 : Nat) : Int) = 8388608 from rfl] at h1
 rw [h1,show (8388608 : Nat) = 2 ^ 23 from rfl,and_pow]
theorem rowEq_0 (x : Nat) (hx : x < W256) (o : Bool) (h : decide (x = 0) = o) : rowEq 256 x 0 = o := by rw [rowEq_of x 0 hx W256_pos]; exact h
theorem upBy_lt (a : Nat) (n : Int) (ha : a < W256) : upBy a n < W256 := by
 unfold upBy
 split
 ·split
  ·exact Nat.lt_of_le_of_lt (Nat.div_le_self _ _) ha
  ·exact W256_pos
 ·split
  ·exact Nat.mod_lt _ W256_pos
  ·exact W256_pos
theorem tDecode_core (b m t : Nat) (e : Nat) (n V : Nat) (u z E : Int) (os oz ob : Bool) (hb : b < 4294967296)
  (hm : bits BinOp.and IntKind.u32 (b : Int) 8388607 = (m : Int)) (hm2 : (m : Int) < 18446744073709551616) (hs : bits BinOp.and IntKind.u32 (b : Int) 8388608 = z) (hs0 : decide (z = 0) = !os) (he : (b : Int) / 16777216 = (e : Int)) (he2 : (e : Int) ≤ 255) (hn : (n : Int) ≤ 256)
  (hu : IntKind.i64.wrap ((n : Int) + u) = (n : Int) + u)
  (HO : Hid (∀ w,Calls Tryz.prog 56 #[.int .u64 (m : Int)] w fun o w' => o = .returned (.agg (rowN .u64 64 4 m)) ∧ Fr F0 w w'))
  (HM : Hid (∀ w,Calls Tryz.prog 74 #[.int .i64 (e : Int)] w fun o w' => o = .returned (.int .i64 u) ∧ w' = w))
  (HL : Hid (∀ w,Calls Tryz.prog 75 #[.agg (rowN .u64 64 4 m),.int .i64 u] w fun o w' => o = .returned (.agg (rowN .u64 64 4 t)) ∧ Fr F0 w w'))
  (HB : Hid (∀ w,Calls Tryz.prog 76 #[.agg (rowN .u64 64 4 m)] w fun o w' => o = .returned (.int .i64 (n : Int)) ∧ Fr F0 w w'))
  (ht : rowEq 256 t 0 = oz) (hob : decide (256 < (n : Int) + u) = ob) (hV : V = if (os || oz || ob) = true then 0 else t) (hE : E = if (os || oz || ob) = true then 6 else 0) (w : World) :
  Calls Tryz.prog 55 #[.int .u32 (b : Int)] w fun o w' => o = .returned (.tuple #[.agg (rowN .u64 64 4 V),.int .i64 E]) ∧ Fr F0 w w' := by
 have HV := Lib.hid (And.intro hV hE)
 clear hV hE
 have c1 : IntKind.u64.wrap (m : Int) = (m : Int) := IntWalk.u64_in _ (by omega)
 have c2 : IntKind.i64.wrap (e : Int) = (e : Int) := IntWalk.i64_in _ (by omega)
 go_enter Tryz.func55,Tryz.ntmps55
 go_wp2_with fail
 (with_reducible refine (HO.out _).mono ?_); rintro o w1 ⟨rfl,f1⟩
 go_wp2_with fail
 (with_reducible refine (HM.out _).mono ?_); rintro o w2 ⟨rfl,rfl⟩
 obtain ⟨W2,hW2⟩ : ∃ W,W = (w1.alloc (.cells (rowN .u64 64 4 0) 73)).setRow w1.heap.size (rowN .u64 64 4 m) := ⟨_,rfl⟩
 rw [← hW2]
 have N := put_new w1 (rowN .u64 64 4 0) (rowN .u64 64 4 m) 73
 rw [← hW2] at N
 have r1 := N.new
 have F := ((Fr.refl F0 w).alloc (.cells (rowN .u64 64 4 0) 73)).trans' f1
 replace r0 := keep_fr f1 (heap_alloc_new w _)
 replace r0 := N.old r0
 replace F := F.trans' N.fr
 clear N hW2 f1
 generalize w1.heap.size = g1 at *
 generalize hg : w.heap.size = g0 at *
 have HG := Lib.hid (show w.heap.size ≤ g0 by omega)
 clear hg
 go_wp2_with fail
 (with_reducible refine (HL.out _).mono ?_); rintro o w3 ⟨rfl,f⟩
 replace r0 := keep_fr f r0
 replace r1 := keep_fr f r1
 replace F := F.trans' f
 clear f
 go_upto_region 4 with fail
 obtain ⟨W4,hW4⟩ : ∃ W,W = (w3.alloc (.cells (rowN .u64 64 4 0) 73)).setRow w3.heap.size (rowN .u64 64 4 t) := ⟨_,rfl⟩
 have N := put_new w3 (rowN .u64 64 4 0) (rowN .u64 64 4 t) 73
 rw [← hW4] at N
 refine wp_of_world W4 hW4 ?_
 have r2 := N.new
 replace r0 := N.old r0
 replace r1 := N.old r1
 replace F := F.trans' N.fr
 clear N hW4
 generalize w3.heap.size = g2 at *
 clear hm hb hm2 he he2 hn c1 c2
 cases os
 ·replace hs0 : z = 0 := of_decide_eq_true hs0
  cases oz
  ·go_wp2_with fail
   (with_reducible refine (HB.out _).mono ?_); rintro o w5 ⟨rfl,f⟩
   replace r0 := keep_fr f r0
   replace r2 := keep_fr f r2
   replace F := F.trans' f
   clear f
   cases ob
   ·go_wp2_with fail
    refine bodyPost_ret (res_row_tmp rfl _ _ g0 _ _ _ _ rfl (new_row r0) Tryz.underlying73 rfl (by rw [Tryz.szWide]; rfl)) rfl ⟨by rw [HV.out.1,HV.out.2]; rfl,F.setRow (fun h => by have := HG.out; omega) _⟩
   ·go_wp2_with fail
    refine bodyPost_ret (res_row_tmp rfl _ _ g0 _ _ _ _ rfl (new_row r0) Tryz.underlying73 rfl (by rw [Tryz.szWide]; rfl)) rfl ⟨by rw [HV.out.1,HV.out.2]; rfl,F.setRow (fun h => by have := HG.out; omega) _⟩
  ·go_wp2_with fail
   refine bodyPost_ret (res_row_tmp rfl _ _ g0 _ _ _ _ rfl (new_row r0) Tryz.underlying73 rfl (by rw [Tryz.szWide]; rfl)) rfl ⟨by rw [HV.out.1,HV.out.2]; rfl,F.setRow (fun h => by have := HG.out; omega) _⟩
 ·replace hs0 : ¬ z = 0 := of_decide_eq_false hs0
  go_wp2_with fail
  refine bodyPost_ret (res_row_tmp rfl _ _ g0 _ _ _ _ rfl (new_row r0) Tryz.underlying73 rfl (by rw [Tryz.szWide]; rfl)) rfl ⟨by rw [HV.out.1,HV.out.2]; rfl,F.setRow (fun h => by have := HG.out; omega) _⟩
theorem sign_dec (b : Nat) : decide (((b / 8388608 % 2 * 8388608 : Nat) : Int) = 0) = !decide (btS b = 1) := by
 unfold btS
 by_cases h : b / 8388608 % 2 = 1
 ·rw [decide_eq_true h,h]; rfl
 ·have h0 : b / 8388608 % 2 = 0 := by omega
  rw [h0]; rfl
theorem decC : DecC := by
 intro b hb
 have hm2 : btM b < 8388608 := by unfold btM; omega
 have he2 : btE b ≤ 255 := by unfold btE; omega
 have hmW : btM b < W256 := word_w (by omega)
 have hn : nbits (btM b) ≤ 23 := (nbits_le _ 23).2 (by omega)
 obtain ⟨d1,d2⟩ := dec_num (btE b) (btM b) hm2 he2
 have hl := upBy_lt (btM b) (8 * ((btE b : Int) - 3)) hmW
 have core := tDecode_core b (btM b) (upBy (btM b) (8 * ((btE b : Int) - 3))) (btE b) (nbits (btM b))
 have hor : ∀ os oz ob : Bool,os = decide (btS b = 1) → oz = decide (upBy (btM b) (8 * ((btE b : Int) - 3)) = 0) → ob = decide (256 < (nbits (btM b) : Int) + 8 * ((btE b : Int) - 3)) → ((os || oz || ob) = true ↔ ¬ btP b) := by
  intro os oz ob h1 h2 h3
  subst h1 h2 h3
  rw [Bool.or_eq_true,Bool.or_eq_true,decide_eq_true_iff,decide_eq_true_iff,decide_eq_true_iff]
  unfold btP btT
  constructor
  ·intro h hp
   have h4 := d1.2 hp.2
   rcases h with (h | h) | h
   ·refine hp.1 ⟨h,Nat.pos_of_ne_zero fun h5 => ?_⟩
    rw [h5,upBy_0] at h4
    omega
   ·omega
   ·omega
  ·intro hp
   by_cases h1 : btS b = 1
   ·exact .inl (.inl h1)
   ·by_cases h2 : upBy (btM b) (8 * ((btE b : Int) - 3)) = 0
    ·exact .inl (.inr h2)
    ·refine .inr (Int.not_le.1 fun h3 => hp ⟨fun h => h1 h.1,d1.1 ⟨Nat.pos_of_ne_zero h2,h3⟩⟩)
 have run := fun V E h1 h2 w => core V (8 * ((btE b : Int) - 3)) ((b / 8388608 % 2 * 8388608 : Nat) : Int) E (decide (btS b = 1)) (decide (upBy (btM b) (8 * ((btE b : Int) - 3)) = 0)) (decide (256 < (nbits (btM b) : Int) + 8 * ((btE b : Int) - 3))) hb
  (and_low b hb) (by omega) (and_sign b hb) (sign_dec b) (by unfold btE; omega) (by omega) (by omega) (IntWalk.i64_in _ (by omega))
  (Lib.hid fun w => wOf_any (btM b) (by omega) w) (Lib.hid fun w => tmoved_any (btE b) he2 w) (Lib.hid fun w => wLeft_any (btM b) _ hmW (by omega) (by omega) w) (Lib.hid fun w => wBits_any (btM b) hmW w) (rowEq_0 _ hl _ rfl) rfl h1 h2 w
 refine ⟨fun hp w => ?_,fun hp w => ?_⟩
 ·have hno := mt (hor _ _ _ rfl rfl rfl).1 (fun h => h hp)
  refine run (btT b) 0 ?_ ?_ w
  ·rw [if_neg hno]; exact (d2 hp.2).symm
  ·rw [if_neg hno]
 ·have hyes := (hor _ _ _ rfl rfl rfl).2 hp
  refine run 0 6 ?_ ?_ w
  ·rw [if_pos hyes]
  ·rw [if_pos hyes]
end Go.Proofs.YtedffdlkmpmdlaaGreatDoor
namespace Go.Proofs.YtedffdlkmpmdlaaGreatDoor
set_option maxRecDepth 100000
set_option linter.unusedVariables false
set_option linter.unusedSimpArgs false
open Go.RowKit
theorem enM_23 (t : Nat) : enM t < 8388608 := by
 by_cases h : 0 < t
 ·exact enM_lt h
 ·obtain rfl : t = 0 := by omega
  decide
theorem enB_lt {t : Nat} (h : t < W256) : enB t < 4294967296 := by
 have h1 := enE_33 h
 have h2 := enM_23 t
 unfold enB
 omega
end Go.Proofs.YtedffdlkmpmdlaaGreatDoor
namespace Go.Proofs.YtedffdlkmpmdlaaGreatDoor
set_option maxRecDepth 100000
set_option linter.unusedVariables false
set_option linter.unusedSimpArgs false
open Go.RowKit
theorem scN_wide {t up by' most : Nat} (hm : most < W256) : scN t up by' most < W256 := by
 unfold scN
 split
 ·exact hm
 ·split
  ·exact word_w (by omega)
  ·omega
end Go.Proofs.YtedffdlkmpmdlaaGreatDoor
namespace Go.Proofs.YtedffdlkmpmdlaaGreatDoor
set_option maxRecDepth 100000
set_option linter.unusedVariables false
set_option linter.unusedSimpArgs false
open Go.RowKit
theorem top3_low {t : Nat} (ht : 0 < t) : top3 t < 8388608 ↔ nbits t + 1 ≤ 8 * nby t := by
 have h0 := (nby_ge ht).1
 unfold top3
 by_cases h3 : 3 ≤ nby t
 ·rw [if_pos h3,by2_two,Nat.div_lt_iff_lt_mul (Nat.two_pow_pos _),show 8388608 = 2 ^ 23 from rfl,← Nat.pow_add,← nbits_le]
  omega
 ·rw [if_neg h3,by2_two]
  have e : 8388608 = 2 ^ (8 * nby t - 1) * 2 ^ (8 * (3 - nby t)) := by
   rw [← Nat.pow_add,show 8 * nby t - 1 + 8 * (3 - nby t) = 23 by omega]
  rw [e,Nat.mul_lt_mul_right (Nat.two_pow_pos _),← nbits_le]
  omega
theorem enE_bits {t : Nat} (ht : 0 < t) : enE t = nbits t / 8 + 1 := by
 have h := top3_low ht
 have h2 : nby t = (nbits t + 7) / 8 := rfl
 have h3 := (nby_ge ht).1
 unfold enE
 by_cases h4 : 8388608 ≤ top3 t
 ·rw [if_pos h4]; omega
 ·rw [if_neg h4]; omega
theorem up_small (a k : Nat) (h : k < 256) (h2 : a * 2 ^ k < W256) : upBy a (k : Int) = a * 2 ^ k := by rw [up_up a k h,Nat.mod_eq_of_lt h2]
theorem small_w {x : Nat} (h : x < 16777216) : x < W256 := word_w (by omega)
theorem enc_num {t : Nat} (ht : 0 < t) (h33 : enE t ≤ 33) : upBy t (-(8 * ((enE t : Int) - 3))) = enM t := by
 have h1 := top3_range ht
 have h0 := (nby_ge ht).1
 by_cases hi : 8388608 ≤ top3 t
 ·have e1 : enE t = nby t + 1 := if_pos hi
  rw [enM_hi hi]
  rw [e1] at h33 ⊢
  unfold top3 at h1 ⊢
  by_cases h3 : 3 ≤ nby t
  ·rw [if_pos h3,div_div3 t (nby t) h3,by2_two]
   have : -(8 * (((nby t + 1 : Nat) : Int) - 3)) = -((8 * (nby t - 2) : Nat) : Int) := by omega
   rw [this,up_down t _ (by omega) (by omega)]
  ·rw [if_neg h3] at h1 ⊢
   have hc : nby t = 1 ∨ nby t = 2 := by omega
   rcases hc with h | h
   ·rw [h,by2_2] at h1
    rw [h,by2_2,show -(8 * (((1 + 1 : Nat) : Int) - 3)) = ((8 : Nat) : Int) by omega,up_small t 8 (by omega) (small_w (by omega))]
    omega
   ·rw [h,by2_1] at h1
    rw [h,by2_1,show -(8 * (((2 + 1 : Nat) : Int) - 3)) = ((0 : Nat) : Int) by omega,up_small t 0 (by omega) (small_w (by omega))]
    omega
 ·have e1 : enE t = nby t := if_neg hi
  rw [enM_lo hi]
  rw [e1] at h33 ⊢
  unfold top3 at h1 ⊢
  by_cases h3 : 3 ≤ nby t
  ·rw [if_pos h3,by2_two]
   by_cases h4 : nby t = 3
   ·rw [h4,show -(8 * (((3 : Nat) : Int) - 3)) = ((0 : Nat) : Int) by omega,up_small t 0 (by omega) ?_]
    ·simp
    ·rw [if_pos h3,h4] at h1
     refine small_w ?_
     simp [by2] at h1
     omega
   ·have : -(8 * ((nby t : Int) - 3)) = -((8 * (nby t - 3) : Nat) : Int) := by omega
    rw [this,up_down t _ (by omega) (by omega)]
  ·rw [if_neg h3] at h1 ⊢
   have : -(8 * ((nby t : Int) - 3)) = ((8 * (3 - nby t) : Nat) : Int) := by omega
   rw [by2_two] at h1
   rw [this,by2_two,up_small t _ (by omega) (small_w h1.2)]
theorem or_enc (e m : Nat) (he : e ≤ 33) (hm : m < 8388608) : bits BinOp.or IntKind.u32 ((e * 16777216 : Nat) : Int) (m : Int) = ((m + e * 16777216 : Nat) : Int) := by
 rw [u32_or_nat _ _ (by omega) (by omega)]
 congr 1
 rw [Nat.or_comm,show (16777216 : Nat) = 2 ^ 24 from rfl,Nat.mul_comm,Nat.or_comm,Nat.two_pow_add_eq_or_of_lt (by omega) _ |>.symm]
 omega
theorem tEncode_core (t n e m B : Nat) (u : Int) (hB : B < 4294967296) (hn : (n : Int) ≤ 256) (he : (n : Int) / 8 + 1 = (e : Int)) (he2 : (e : Int) ≤ 33) (hm2 : (m : Int) < 8388608)
  (ht : rowEq 256 t 0 = false) (ho : bits BinOp.or IntKind.u32 ((e * 16777216 : Nat) : Int) (m : Int) = (B : Int))
  (HB : Hid (∀ w,Calls Tryz.prog 76 #[.agg (rowN .u64 64 4 t)] w fun o w' => o = .returned (.int .i64 (n : Int)) ∧ Fr F0 w w'))
  (HM : Hid (∀ w,Calls Tryz.prog 74 #[.int .i64 (e : Int)] w fun o w' => o = .returned (.int .i64 u) ∧ w' = w))
  (HR : Hid (∀ w,Calls Tryz.prog 105 #[.agg (rowN .u64 64 4 t),.int .i64 u] w fun o w' => o = .returned (.agg (rowN .u64 64 4 m)) ∧ Fr F0 w w'))
  (HU : Hid (∀ w,Calls Tryz.prog 106 #[.agg (rowN .u64 64 4 m)] w fun o w' => o = .returned (.tuple #[.int .u64 (m : Int),.bool true]) ∧ Fr F0 w w')) (w : World) :
  Calls Tryz.prog 83 #[.agg (rowN .u64 64 4 t)] w fun o w' => o = .returned (.int .u32 (B : Int)) ∧ Fr F0 w w' := by
 obtain ⟨q,hq⟩ : ∃ q : Int,(n : Int) / 8 = q := ⟨_,rfl⟩
 have c0 : Int.tdiv (n : Int) 8 = q := by rw [Int.tdiv_eq_ediv_of_nonneg (by omega)]; exact hq
 have c1 : IntKind.i64.wrap q = q := IntWalk.i64_in _ (by omega)
 have c2 : IntKind.i64.wrap (q + 1) = (e : Int) := by rw [IntWalk.i64_in _ (by omega)]; omega
 have c3 : IntKind.u32.wrap (e : Int) = (e : Int) := IntWalk.u32_in _ (by omega)
 have c4 : IntKind.u32.wrap ((e : Int) * 16777216) = ((e * 16777216 : Nat) : Int) := by rw [IntWalk.u32_in _ (by omega)]; omega
 have c5 : IntKind.u32.wrap (m : Int) = (m : Int) := IntWalk.u32_in _ (by omega)
 generalize e * 16777216 = E at *
 clear hB hn he he2 hm2
 go_enter Tryz.func83,Tryz.ntmps83
 go_wp2_with fail
 (with_reducible refine (HB.out _).mono ?_); rintro o w1 ⟨rfl,f⟩
 have r0 := keep_fr f (heap_alloc_new w _)
 have F := ((Fr.refl F0 w).alloc (.cells (rowN .u64 64 4 t) 73)).trans' f
 clear f
 generalize w.heap.size = g0 at *
 go_wp2_with fail
 refine rbegin (S := (fun w' => w'.heap[g0]? = some (.cells (rowN .u64 64 4 t) 73 (0,0)) ∧ Fr F0 w w')) ?_ fun hHeld => ?_
 ·((try dsimp only) <;> (exact ⟨r0,F.drew⟩))
 refine rtake 0 ?_
 refine rtake 1 ?_
 refine rone 2 fun K hK => ?_
 go_simp
 ((with_reducible refine (HM.out _).mono ?_); rintro e w5 ⟨rfl,rfl⟩)
 refine hK.out _ _ ?_ (fun hHeld => ?_)
 ·((try dsimp only) <;> (first | exact hHeld | exact ⟨keep_fr f5 hHeld.1,hHeld.2.trans' f5⟩))
 clear hK K
 try (simp only [Act.put,aST]; dsimp only [aS0,aS1])
 refine rone 3 fun K hK => ?_
 go_simp
 ((with_reducible refine (HR.out _).mono ?_); rintro e w5 ⟨rfl,f5⟩)
 refine hK.out _ _ ?_ (fun hHeld => ?_)
 ·((try dsimp only) <;> (first | exact hHeld | exact ⟨keep_fr f5 hHeld.1,hHeld.2.trans' f5⟩))
 clear hK K
 try (simp only [Act.put,aST]; dsimp only [aS0,aS1])
 refine rone 4 fun K hK => ?_
 go_simp
 ((with_reducible refine (HU.out _).mono ?_); rintro e w5 ⟨rfl,f5⟩)
 refine hK.out _ _ ?_ (fun hHeld => ?_)
 ·((try dsimp only) <;> (first | exact hHeld | exact ⟨keep_fr f5 hHeld.1,hHeld.2.trans' f5⟩))
 clear hK K
 try (simp only [Act.put,aST]; dsimp only [aS0,aS1])
 refine rtake 5 ?_
 refine rtake 6 ?_
 refine rtake 7 ?_
 refine rtake 8 ?_
 refine rtake 9 ?_
 refine rdone ?_
 all_goals
  go_wp2
  go_ret
  exact ⟨by simp,hHeld.2⟩
theorem tEncode_zero (w : World) : Calls Tryz.prog 83 #[.agg (rowN .u64 64 4 0)] w fun o w' => o = .returned (.int .u32 0) ∧ Fr F0 w w' := by
 have hz : rowEq 256 0 0 = true := rfl
 go_enter Tryz.func83,Tryz.ntmps83
 go_wp2_with fail
 go_ret
 exact ⟨rfl,(Fr.refl F0 w).alloc _⟩
theorem enM_small (t : Nat) : enM t < 8388608 := by
 by_cases h : 0 < t
 ·exact enM_lt h
 ·obtain rfl : t = 0 := by omega
  decide
theorem enB_small {t : Nat} (h : t < W256) : enB t < 4294967296 := by
 have h1 := enE_33 h
 have h2 := enM_small t
 unfold enB
 omega
theorem encTC : EncC := by
 intro t ht w
 by_cases h0 : 0 < t
 ·have h33 := enE_33 ht
  have hE := enE_bits h0
  have hm := enM_small t
  have hn : nbits t ≤ 256 := (nbits_le t 256).2 ht
  have hmW : enM t < W256 := small_w (by omega)
  refine tEncode_core t (nbits t) (enE t) (enM t) (enB t) (8 * ((enE t : Int) - 3)) (enB_small ht) (by omega) (by omega) (by omega) (by omega) (rowEq_0 t ht _ (decide_eq_false (by omega))) ?_
   (Lib.hid (wBits_any t ht)) (Lib.hid (tmoved_any (enE t) (by omega))) (Lib.hid fun w => ?_) (Lib.hid fun w => ?_) w
  ·rw [or_enc _ _ h33 hm]; rfl
  ·have := wRight_any t (8 * ((enE t : Int) - 3)) ht (by omega) (by omega) w
   rwa [enc_num h0 h33] at this
  ·have := wUint_any (enM t) hmW w
   rwa [if_pos (by omega),decide_eq_true (by omega)] at this
 ·obtain rfl : t = 0 := by omega
  exact tEncode_zero w
end Go.Proofs.YtedffdlkmpmdlaaGreatDoor
namespace Go.Proofs.YtedffdlkmpmdlaaGreatDoor
set_option maxRecDepth 100000
set_option linter.unusedVariables false
set_option linter.unusedSimpArgs false
open Go.RowKit
theorem tk7 {s0 s5 s6 s7 s8 s9 s10 s11 s12 s13 s14 s15 s16 s17 s18 s19 s20 s21 s22 s23 s24 s25 s26 s27 s28 s29 s30 s31 s32 s33 s34 s35 s36 s37 s38 s39 s40 s41 : Value} {K : Act → World → Prop} {Q : Exit → Act → World → Prop} (w w6 : World) (t n m q r g1 g2 g3 g4 : Nat) (HN : RowKit.Hid (∀ w : World,Calls Tryz.prog 36 #[.agg (rowN .u64 64 4 t)] w fun e w' => e = .returned (.agg (rowN .u64 64 4 n)) ∧ Fr F0 w w')) (HD : RowKit.Hid (∀ w : World,Calls Tryz.prog 57 #[.agg (rowN .u64 64 4 n),.agg (rowN .u64 64 4 m)] w fun e w' => e = .returned (.tuple #[.agg (rowN .u64 64 4 q),.agg (rowN .u64 64 4 r),.int .i64 0]) ∧ Fr F0 w w')) (r1 : w6.heap[g1]? = some (.cells (rowN .u64 64 4 t) 73 (0,0))) (r2 : w6.heap[g2]? = some (.cells (rowN .u64 64 4 0) 73 (0,0))) (r3 : w6.heap[g3]? = some (.cells (rowN .u64 64 4 1) 73 (0,0))) (r4 : w6.heap[g4]? = some (.cells (rowN .u64 64 4 m) 73 (0,0))) (F : Fr F0 w w6)
  (hK : RowKit.Hid (∀ {u6 u7 u8 u27 u28 u29 u30 u31 u32 u33 u34 : Value} {w' : World},((∃ p1 : Nat,u6 = .pointer (some ⟨p1,0,none⟩) ∧ w'.heap[p1]? = some (.cells (rowN .u64 64 4 q) 73 (0,0))) ∧ (w'.heap[g1]? = some (.cells (rowN .u64 64 4 t) 73 (0,0)) ∧ w'.heap[g2]? = some (.cells (rowN .u64 64 4 0) 73 (0,0)) ∧ w'.heap[g3]? = some (.cells (rowN .u64 64 4 1) 73 (0,0)) ∧ w'.heap[g4]? = some (.cells (rowN .u64 64 4 m) 73 (0,0))) ∧ Fr F0 w w') → K ⟨#[s0,.pointer (some ⟨g1,0,none⟩),.pointer (some ⟨g2,0,none⟩),.pointer (some ⟨g3,0,none⟩),.pointer (some ⟨g4,0,none⟩),s5,u6,u7,u8,s9,s10,s11,s12,s13,s14,s15,s16,s17,s18,s19,s20,s21,s22,s23,s24,s25,s26,u27,u28,u29,u30,u31,u32,u33,u34,s35,s36,s37,s38,s39,s40,s41],[]⟩ w')) :
  Code.wp Tryz.prog ((Tryz.f32.body.bind (findRegion 7)).getD .skip) (Exit.then K Q) ⟨#[s0,.pointer (some ⟨g1,0,none⟩),.pointer (some ⟨g2,0,none⟩),.pointer (some ⟨g3,0,none⟩),.pointer (some ⟨g4,0,none⟩),s5,s6,s7,s8,s9,s10,s11,s12,s13,s14,s15,s16,s17,s18,s19,s20,s21,s22,s23,s24,s25,s26,s27,s28,s29,s30,s31,s32,s33,s34,s35,s36,s37,s38,s39,s40,s41],[]⟩ w6 := by
 conv => arg 2; whnf
 have HG0 := Lib.hid (And.intro (Array.getElem?_eq_some_iff.1 r1).1 (And.intro (Array.getElem?_eq_some_iff.1 r2).1 (And.intro (Array.getElem?_eq_some_iff.1 r3).1 (And.intro (Array.getElem?_eq_some_iff.1 r4).1 F.size))))
 refine rbegin (S := (fun w' => (w'.heap[g1]? = some (.cells (rowN .u64 64 4 t) 73 (0,0)) ∧ w'.heap[g2]? = some (.cells (rowN .u64 64 4 0) 73 (0,0)) ∧ w'.heap[g3]? = some (.cells (rowN .u64 64 4 1) 73 (0,0)) ∧ w'.heap[g4]? = some (.cells (rowN .u64 64 4 m) 73 (0,0))) ∧ Fr F0 w w')) ?_ fun hHeld => ?_
 ·((try dsimp only) <;> (exact ⟨⟨r1,r2,r3,r4⟩,F.drew⟩))
 refine rtake 0 ?_
 refine rtake 2 ?_
 refine wpAnyH_ready (rs := [1,8,9]) (by kernel_rfl) (by simp) ?_
 refine AllReadyH.cons (o := ⟨_,_,_,_,_,_⟩) rfl (fun K hK => ?_) (AllReadyH.cons (o := ⟨_,_,_,_,_,_⟩) rfl (fun K hK => ?_) (AllReadyH.cons (o := ⟨_,_,_,_,_,_⟩) rfl (fun K hK => ?_) AllReadyH.nil))
 go_simp
 (refine (HN.out _).mono ?_; rintro e w5 ⟨rfl,f5⟩; have z5 := f5.size; (try simp only [World.size_alloc,heap_drew'] at z5))
 refine hK.out _ _ ?_ (fun hHeld => ?_)
 ·((try dsimp only) <;> (exact ⟨⟨keep_fr f5 hHeld.1.1,keep_fr f5 hHeld.1.2.1,keep_fr f5 hHeld.1.2.2.1,keep_fr f5 hHeld.1.2.2.2⟩,hHeld.2.trans' f5⟩))
 clear hK K
 try (simp only [Act.put,aST]; dsimp only [aS0,aS1])
 refine wpAnyH_ready (rs := [3,8,9]) (by kernel_rfl) (by simp) ?_
 refine AllReadyH.cons (o := ⟨_,_,_,_,_,_⟩) rfl (fun K hK => ?_) (AllReadyH.cons (o := ⟨_,_,_,_,_,_⟩) rfl (fun K hK => ?_) (AllReadyH.cons (o := ⟨_,_,_,_,_,_⟩) rfl (fun K hK => ?_) AllReadyH.nil))
 go_simp
 (refine (HD.out _).mono ?_; rintro e w5 ⟨rfl,f5⟩; have z5 := f5.size; (try simp only [World.size_alloc,heap_drew'] at z5))
 refine hK.out _ _ ?_ (fun hHeld => ?_)
 ·((try dsimp only) <;> (exact ⟨⟨keep_fr f5 hHeld.1.1,keep_fr f5 hHeld.1.2.1,keep_fr f5 hHeld.1.2.2.1,keep_fr f5 hHeld.1.2.2.2⟩,hHeld.2.trans' f5⟩))
 clear hK K
 try (simp only [Act.put,aST]; dsimp only [aS0,aS1])
 refine rtake 4 ?_
 refine rtake 5 ?_
 refine rtake 6 ?_
 refine rtake 7 ?_
 refine wpAnyH_ready (rs := [8,9]) (by kernel_rfl) (by simp) ?_
 refine AllReadyH.cons (o := ⟨_,_,_,_,_,_⟩) rfl (fun K hK => ?_) (AllReadyH.cons (o := ⟨_,_,_,_,_,_⟩) rfl (fun K hK => ?_) AllReadyH.nil)
 go_simp
 refine hK.out _ _ ?_ (fun hHeld => ?_)
 ·((try dsimp only) <;> (first | exact ⟨⟨keep_alloc hHeld.1.1,keep_alloc hHeld.1.2.1,keep_alloc hHeld.1.2.2.1,keep_alloc hHeld.1.2.2.2⟩,hHeld.2.alloc _⟩ | exact ⟨⟨keep_row (by have := HG0.out; omega) hHeld.1.1,keep_row (by have := HG0.out; omega) hHeld.1.2.1,keep_row (by have := HG0.out; omega) hHeld.1.2.2.1,keep_row (by have := HG0.out; omega) hHeld.1.2.2.2⟩,hHeld.2.setRow (fun h => by have := HG0.out; omega) _⟩))
 clear hK K
 try (simp only [Act.put,aST]; dsimp only [aS0,aS1])
 refine rone 9 fun K hK => ?_
 go_simp
 refine hK.out _ _ ?_ (fun hHeld => ?_)
 ·((try dsimp only) <;> (first | exact ⟨⟨keep_alloc hHeld.1.1,keep_alloc hHeld.1.2.1,keep_alloc hHeld.1.2.2.1,keep_alloc hHeld.1.2.2.2⟩,hHeld.2.alloc _⟩ | exact ⟨⟨keep_row (by have := HG0.out; omega) hHeld.1.1,keep_row (by have := HG0.out; omega) hHeld.1.2.1,keep_row (by have := HG0.out; omega) hHeld.1.2.2.1,keep_row (by have := HG0.out; omega) hHeld.1.2.2.2⟩,hHeld.2.setRow (fun h => by have := HG0.out; omega) _⟩))
 clear hK K
 try (simp only [Act.put,aST]; dsimp only [aS0,aS1])
 refine rone 10 fun K hK => ?_
 go_simp
 (try (rw [rowIn_of (old := rowN .u64 64 4 0) (t' := 73) (by ((try rw [← Array.getElem?_eq_getElem]); repeat (first | exact heap_alloc_new _ _ | exact heap_alloc2_new _ _ _ | refine keep_alloc ?_ | refine keep_fr (by assumption) ?_))) (rowN_size _ _ _ _) (rowN_size _ _ _ _) (rowN_rowOne _ _ _ _)]; go_simp))
 refine hK.out _ _ ?_ (fun hHeld => ?_)
 ·((try dsimp only) <;> (first | exact ⟨⟨keep_alloc hHeld.1.1,keep_alloc hHeld.1.2.1,keep_alloc hHeld.1.2.2.1,keep_alloc hHeld.1.2.2.2⟩,hHeld.2.alloc _⟩ | exact ⟨⟨keep_row (by have := HG0.out; omega) hHeld.1.1,keep_row (by have := HG0.out; omega) hHeld.1.2.1,keep_row (by have := HG0.out; omega) hHeld.1.2.2.1,keep_row (by have := HG0.out; omega) hHeld.1.2.2.2⟩,hHeld.2.setRow (fun h => by have := HG0.out; omega) _⟩))
 clear hK K
 try (simp only [Act.put,aST]; dsimp only [aS0,aS1])
 refine rone 11 fun K hK => ?_
 go_simp
 (try (rw [rowIn_of (old := rowN .u64 64 4 0) (t' := 73) (by ((try rw [← Array.getElem?_eq_getElem]); repeat (first | exact heap_alloc_new _ _ | exact heap_alloc2_new _ _ _ | refine keep_row (by (try simp only [World.size_alloc]); omega) ?_ | refine keep_alloc ?_ | refine keep_fr (by assumption) ?_))) (rowN_size _ _ _ _) (rowN_size _ _ _ _) (rowN_rowOne _ _ _ _)]; go_simp))
 refine hK.out _ _ ?_ (fun hHeld => ?_)
 ·((try dsimp only) <;> (first | exact ⟨⟨keep_alloc hHeld.1.1,keep_alloc hHeld.1.2.1,keep_alloc hHeld.1.2.2.1,keep_alloc hHeld.1.2.2.2⟩,hHeld.2.alloc _⟩ | exact ⟨⟨keep_row (by have := HG0.out; omega) hHeld.1.1,keep_row (by have := HG0.out; omega) hHeld.1.2.1,keep_row (by have := HG0.out; omega) hHeld.1.2.2.1,keep_row (by have := HG0.out; omega) hHeld.1.2.2.2⟩,hHeld.2.setRow (fun h => by have := HG0.out; omega) _⟩))
 clear hK K
 try (simp only [Act.put,aST]; dsimp only [aS0,aS1])
 refine rtake 12 ?_
 refine rdone ?_
 rotate_left
 go_simp
 refine hK.out _ _ ?_ (fun hHeld => ?_)
 ·((try dsimp only) <;> (first | exact ⟨⟨keep_alloc hHeld.1.1,keep_alloc hHeld.1.2.1,keep_alloc hHeld.1.2.2.1,keep_alloc hHeld.1.2.2.2⟩,hHeld.2.alloc _⟩ | exact ⟨⟨keep_row (by have := HG0.out; omega) hHeld.1.1,keep_row (by have := HG0.out; omega) hHeld.1.2.1,keep_row (by have := HG0.out; omega) hHeld.1.2.2.1,keep_row (by have := HG0.out; omega) hHeld.1.2.2.2⟩,hHeld.2.setRow (fun h => by have := HG0.out; omega) _⟩))
 clear hK K
 try (simp only [Act.put,aST]; dsimp only [aS0,aS1])
 refine rone 8 fun K hK => ?_
 go_simp
 refine hK.out _ _ ?_ (fun hHeld => ?_)
 ·((try dsimp only) <;> (first | exact ⟨⟨keep_alloc hHeld.1.1,keep_alloc hHeld.1.2.1,keep_alloc hHeld.1.2.2.1,keep_alloc hHeld.1.2.2.2⟩,hHeld.2.alloc _⟩ | exact ⟨⟨keep_row (by have := HG0.out; omega) hHeld.1.1,keep_row (by have := HG0.out; omega) hHeld.1.2.1,keep_row (by have := HG0.out; omega) hHeld.1.2.2.1,keep_row (by have := HG0.out; omega) hHeld.1.2.2.2⟩,hHeld.2.setRow (fun h => by have := HG0.out; omega) _⟩))
 clear hK K
 try (simp only [Act.put,aST]; dsimp only [aS0,aS1])
 refine rone 10 fun K hK => ?_
 go_simp
 (try (rw [rowIn_of (old := rowN .u64 64 4 0) (t' := 73) (by ((try rw [← Array.getElem?_eq_getElem]); repeat (first | exact heap_alloc_new _ _ | exact heap_alloc2_new _ _ _ | refine keep_alloc ?_ | refine keep_fr (by assumption) ?_))) (rowN_size _ _ _ _) (rowN_size _ _ _ _) (rowN_rowOne _ _ _ _)]; go_simp))
 refine hK.out _ _ ?_ (fun hHeld => ?_)
 ·((try dsimp only) <;> (first | exact ⟨⟨keep_alloc hHeld.1.1,keep_alloc hHeld.1.2.1,keep_alloc hHeld.1.2.2.1,keep_alloc hHeld.1.2.2.2⟩,hHeld.2.alloc _⟩ | exact ⟨⟨keep_row (by have := HG0.out; omega) hHeld.1.1,keep_row (by have := HG0.out; omega) hHeld.1.2.1,keep_row (by have := HG0.out; omega) hHeld.1.2.2.1,keep_row (by have := HG0.out; omega) hHeld.1.2.2.2⟩,hHeld.2.setRow (fun h => by have := HG0.out; omega) _⟩))
 clear hK K
 try (simp only [Act.put,aST]; dsimp only [aS0,aS1])
 refine rone 11 fun K hK => ?_
 go_simp
 (try (rw [rowIn_of (old := rowN .u64 64 4 0) (t' := 73) (by ((try rw [← Array.getElem?_eq_getElem]); repeat (first | exact heap_alloc_new _ _ | exact heap_alloc2_new _ _ _ | refine keep_row (by (try simp only [World.size_alloc]); omega) ?_ | refine keep_alloc ?_ | refine keep_fr (by assumption) ?_))) (rowN_size _ _ _ _) (rowN_size _ _ _ _) (rowN_rowOne _ _ _ _)]; go_simp))
 refine hK.out _ _ ?_ (fun hHeld => ?_)
 ·((try dsimp only) <;> (first | exact ⟨⟨keep_alloc hHeld.1.1,keep_alloc hHeld.1.2.1,keep_alloc hHeld.1.2.2.1,keep_alloc hHeld.1.2.2.2⟩,hHeld.2.alloc _⟩ | exact ⟨⟨keep_row (by have := HG0.out; omega) hHeld.1.1,keep_row (by have := HG0.out; omega) hHeld.1.2.1,keep_row (by have := HG0.out; omega) hHeld.1.2.2.1,keep_row (by have := HG0.out; omega) hHeld.1.2.2.2⟩,hHeld.2.setRow (fun h => by have := HG0.out; omega) _⟩))
 clear hK K
 try (simp only [Act.put,aST]; dsimp only [aS0,aS1])
 refine rtake 12 ?_
 refine rdone ?_
 rotate_left
 go_simp
 refine hK.out _ _ ?_ (fun hHeld => ?_)
 ·((try dsimp only) <;> (first | exact ⟨⟨keep_alloc hHeld.1.1,keep_alloc hHeld.1.2.1,keep_alloc hHeld.1.2.2.1,keep_alloc hHeld.1.2.2.2⟩,hHeld.2.alloc _⟩ | exact ⟨⟨keep_row (by have := HG0.out; omega) hHeld.1.1,keep_row (by have := HG0.out; omega) hHeld.1.2.1,keep_row (by have := HG0.out; omega) hHeld.1.2.2.1,keep_row (by have := HG0.out; omega) hHeld.1.2.2.2⟩,hHeld.2.setRow (fun h => by have := HG0.out; omega) _⟩))
 clear hK K
 try (simp only [Act.put,aST]; dsimp only [aS0,aS1])
 refine wpAnyH_ready (rs := [3,9]) (by kernel_rfl) (by simp) ?_
 refine AllReadyH.cons (o := ⟨_,_,_,_,_,_⟩) rfl (fun K hK => ?_) (AllReadyH.cons (o := ⟨_,_,_,_,_,_⟩) rfl (fun K hK => ?_) AllReadyH.nil)
 go_simp
 (refine (HD.out _).mono ?_; rintro e w5 ⟨rfl,f5⟩; have z5 := f5.size; (try simp only [World.size_alloc,heap_drew'] at z5))
 refine hK.out _ _ ?_ (fun hHeld => ?_)
 ·((try dsimp only) <;> (exact ⟨⟨keep_fr f5 hHeld.1.1,keep_fr f5 hHeld.1.2.1,keep_fr f5 hHeld.1.2.2.1,keep_fr f5 hHeld.1.2.2.2⟩,hHeld.2.trans' f5⟩))
 clear hK K
 try (simp only [Act.put,aST]; dsimp only [aS0,aS1])
 refine rtake 4 ?_
 refine rtake 5 ?_
 refine rtake 6 ?_
 refine rtake 7 ?_
 refine rone 9 fun K hK => ?_
 go_simp
 refine hK.out _ _ ?_ (fun hHeld => ?_)
 ·((try dsimp only) <;> (first | exact ⟨⟨keep_alloc hHeld.1.1,keep_alloc hHeld.1.2.1,keep_alloc hHeld.1.2.2.1,keep_alloc hHeld.1.2.2.2⟩,hHeld.2.alloc _⟩ | exact ⟨⟨keep_row (by have := HG0.out; omega) hHeld.1.1,keep_row (by have := HG0.out; omega) hHeld.1.2.1,keep_row (by have := HG0.out; omega) hHeld.1.2.2.1,keep_row (by have := HG0.out; omega) hHeld.1.2.2.2⟩,hHeld.2.setRow (fun h => by have := HG0.out; omega) _⟩))
 clear hK K
 try (simp only [Act.put,aST]; dsimp only [aS0,aS1])
 refine rone 10 fun K hK => ?_
 go_simp
 (try (rw [rowIn_of (old := rowN .u64 64 4 0) (t' := 73) (by ((try rw [← Array.getElem?_eq_getElem]); repeat (first | exact heap_alloc_new _ _ | exact heap_alloc2_new _ _ _ | refine keep_alloc ?_ | refine keep_fr (by assumption) ?_))) (rowN_size _ _ _ _) (rowN_size _ _ _ _) (rowN_rowOne _ _ _ _)]; go_simp))
 refine hK.out _ _ ?_ (fun hHeld => ?_)
 ·((try dsimp only) <;> (first | exact ⟨⟨keep_alloc hHeld.1.1,keep_alloc hHeld.1.2.1,keep_alloc hHeld.1.2.2.1,keep_alloc hHeld.1.2.2.2⟩,hHeld.2.alloc _⟩ | exact ⟨⟨keep_row (by have := HG0.out; omega) hHeld.1.1,keep_row (by have := HG0.out; omega) hHeld.1.2.1,keep_row (by have := HG0.out; omega) hHeld.1.2.2.1,keep_row (by have := HG0.out; omega) hHeld.1.2.2.2⟩,hHeld.2.setRow (fun h => by have := HG0.out; omega) _⟩))
 clear hK K
 try (simp only [Act.put,aST]; dsimp only [aS0,aS1])
 refine rone 11 fun K hK => ?_
 go_simp
 (try (rw [rowIn_of (old := rowN .u64 64 4 0) (t' := 73) (by ((try rw [← Array.getElem?_eq_getElem]); repeat (first | exact heap_alloc_new _ _ | exact heap_alloc2_new _ _ _ | refine keep_row (by (try simp only [World.size_alloc]); omega) ?_ | refine keep_alloc ?_ | refine keep_fr (by assumption) ?_))) (rowN_size _ _ _ _) (rowN_size _ _ _ _) (rowN_rowOne _ _ _ _)]; go_simp))
 refine hK.out _ _ ?_ (fun hHeld => ?_)
 ·((try dsimp only) <;> (first | exact ⟨⟨keep_alloc hHeld.1.1,keep_alloc hHeld.1.2.1,keep_alloc hHeld.1.2.2.1,keep_alloc hHeld.1.2.2.2⟩,hHeld.2.alloc _⟩ | exact ⟨⟨keep_row (by have := HG0.out; omega) hHeld.1.1,keep_row (by have := HG0.out; omega) hHeld.1.2.1,keep_row (by have := HG0.out; omega) hHeld.1.2.2.1,keep_row (by have := HG0.out; omega) hHeld.1.2.2.2⟩,hHeld.2.setRow (fun h => by have := HG0.out; omega) _⟩))
 clear hK K
 try (simp only [Act.put,aST]; dsimp only [aS0,aS1])
 refine rtake 12 ?_
 refine rdone ?_
 rotate_left
 go_simp
 refine hK.out _ _ ?_ (fun hHeld => ?_)
 ·((try dsimp only) <;> (first | exact ⟨⟨keep_alloc hHeld.1.1,keep_alloc hHeld.1.2.1,keep_alloc hHeld.1.2.2.1,keep_alloc hHeld.1.2.2.2⟩,hHeld.2.alloc _⟩ | exact ⟨⟨keep_row (by have := HG0.out; omega) hHeld.1.1,keep_row (by have := HG0.out; omega) hHeld.1.2.1,keep_row (by have := HG0.out; omega) hHeld.1.2.2.1,keep_row (by have := HG0.out; omega) hHeld.1.2.2.2⟩,hHeld.2.setRow (fun h => by have := HG0.out; omega) _⟩))
 clear hK K
 try (simp only [Act.put,aST]; dsimp only [aS0,aS1])
 refine rone 3 fun K hK => ?_
 go_simp
 (refine (HD.out _).mono ?_; rintro e w5 ⟨rfl,f5⟩; have z5 := f5.size; (try simp only [World.size_alloc,heap_drew'] at z5))
 refine hK.out _ _ ?_ (fun hHeld => ?_)
 ·((try dsimp only) <;> (exact ⟨⟨keep_fr f5 hHeld.1.1,keep_fr f5 hHeld.1.2.1,keep_fr f5 hHeld.1.2.2.1,keep_fr f5 hHeld.1.2.2.2⟩,hHeld.2.trans' f5⟩))
 clear hK K
 try (simp only [Act.put,aST]; dsimp only [aS0,aS1])
 refine rtake 4 ?_
 refine rtake 5 ?_
 refine rtake 6 ?_
 refine rtake 7 ?_
 refine rone 10 fun K hK => ?_
 go_simp
 (try (rw [rowIn_of (old := rowN .u64 64 4 0) (t' := 73) (by ((try rw [← Array.getElem?_eq_getElem]); repeat (first | exact heap_alloc_new _ _ | exact heap_alloc2_new _ _ _ | refine keep_alloc ?_ | refine keep_fr (by assumption) ?_))) (rowN_size _ _ _ _) (rowN_size _ _ _ _) (rowN_rowOne _ _ _ _)]; go_simp))
 refine hK.out _ _ ?_ (fun hHeld => ?_)
 ·((try dsimp only) <;> (first | exact ⟨⟨keep_alloc hHeld.1.1,keep_alloc hHeld.1.2.1,keep_alloc hHeld.1.2.2.1,keep_alloc hHeld.1.2.2.2⟩,hHeld.2.alloc _⟩ | exact ⟨⟨keep_row (by have := HG0.out; omega) hHeld.1.1,keep_row (by have := HG0.out; omega) hHeld.1.2.1,keep_row (by have := HG0.out; omega) hHeld.1.2.2.1,keep_row (by have := HG0.out; omega) hHeld.1.2.2.2⟩,hHeld.2.setRow (fun h => by have := HG0.out; omega) _⟩))
 clear hK K
 try (simp only [Act.put,aST]; dsimp only [aS0,aS1])
 refine rone 11 fun K hK => ?_
 go_simp
 (try (rw [rowIn_of (old := rowN .u64 64 4 0) (t' := 73) (by ((try rw [← Array.getElem?_eq_getElem]); repeat (first | exact heap_alloc_new _ _ | exact heap_alloc2_new _ _ _ | refine keep_row (by (try simp only [World.size_alloc]); omega) ?_ | refine keep_alloc ?_ | refine keep_fr (by assumption) ?_))) (rowN_size _ _ _ _) (rowN_size _ _ _ _) (rowN_rowOne _ _ _ _)]; go_simp))
 refine hK.out _ _ ?_ (fun hHeld => ?_)
 ·((try dsimp only) <;> (first | exact ⟨⟨keep_alloc hHeld.1.1,keep_alloc hHeld.1.2.1,keep_alloc hHeld.1.2.2.1,keep_alloc hHeld.1.2.2.2⟩,hHeld.2.alloc _⟩ | exact ⟨⟨keep_row (by have := HG0.out; omega) hHeld.1.1,keep_row (by have := HG0.out; omega) hHeld.1.2.1,keep_row (by have := HG0.out; omega) hHeld.1.2.2.1,keep_row (by have := HG0.out; omega) hHeld.1.2.2.2⟩,hHeld.2.setRow (fun h => by have := HG0.out; omega) _⟩))
 clear hK K
 try (simp only [Act.put,aST]; dsimp only [aS0,aS1])
 refine rtake 12 ?_
 refine rdone ?_
 rotate_left
 go_simp
 refine hK.out _ _ ?_ (fun hHeld => ?_)
 ·((try dsimp only) <;> (first | exact ⟨⟨keep_alloc hHeld.1.1,keep_alloc hHeld.1.2.1,keep_alloc hHeld.1.2.2.1,keep_alloc hHeld.1.2.2.2⟩,hHeld.2.alloc _⟩ | exact ⟨⟨keep_row (by have := HG0.out; omega) hHeld.1.1,keep_row (by have := HG0.out; omega) hHeld.1.2.1,keep_row (by have := HG0.out; omega) hHeld.1.2.2.1,keep_row (by have := HG0.out; omega) hHeld.1.2.2.2⟩,hHeld.2.setRow (fun h => by have := HG0.out; omega) _⟩))
 clear hK K
 try (simp only [Act.put,aST]; dsimp only [aS0,aS1])
 refine wpAnyH_ready (rs := [3,8]) (by kernel_rfl) (by simp) ?_
 refine AllReadyH.cons (o := ⟨_,_,_,_,_,_⟩) rfl (fun K hK => ?_) (AllReadyH.cons (o := ⟨_,_,_,_,_,_⟩) rfl (fun K hK => ?_) AllReadyH.nil)
 go_simp
 (refine (HD.out _).mono ?_; rintro e w5 ⟨rfl,f5⟩; have z5 := f5.size; (try simp only [World.size_alloc,heap_drew'] at z5))
 refine hK.out _ _ ?_ (fun hHeld => ?_)
 ·((try dsimp only) <;> (exact ⟨⟨keep_fr f5 hHeld.1.1,keep_fr f5 hHeld.1.2.1,keep_fr f5 hHeld.1.2.2.1,keep_fr f5 hHeld.1.2.2.2⟩,hHeld.2.trans' f5⟩))
 clear hK K
 try (simp only [Act.put,aST]; dsimp only [aS0,aS1])
 refine rtake 4 ?_
 refine rtake 5 ?_
 refine rtake 6 ?_
 refine rtake 7 ?_
 refine rone 8 fun K hK => ?_
 go_simp
 refine hK.out _ _ ?_ (fun hHeld => ?_)
 ·((try dsimp only) <;> (first | exact ⟨⟨keep_alloc hHeld.1.1,keep_alloc hHeld.1.2.1,keep_alloc hHeld.1.2.2.1,keep_alloc hHeld.1.2.2.2⟩,hHeld.2.alloc _⟩ | exact ⟨⟨keep_row (by have := HG0.out; omega) hHeld.1.1,keep_row (by have := HG0.out; omega) hHeld.1.2.1,keep_row (by have := HG0.out; omega) hHeld.1.2.2.1,keep_row (by have := HG0.out; omega) hHeld.1.2.2.2⟩,hHeld.2.setRow (fun h => by have := HG0.out; omega) _⟩))
 clear hK K
 try (simp only [Act.put,aST]; dsimp only [aS0,aS1])
 refine rone 10 fun K hK => ?_
 go_simp
 (try (rw [rowIn_of (old := rowN .u64 64 4 0) (t' := 73) (by ((try rw [← Array.getElem?_eq_getElem]); repeat (first | exact heap_alloc_new _ _ | exact heap_alloc2_new _ _ _ | refine keep_alloc ?_ | refine keep_fr (by assumption) ?_))) (rowN_size _ _ _ _) (rowN_size _ _ _ _) (rowN_rowOne _ _ _ _)]; go_simp))
 refine hK.out _ _ ?_ (fun hHeld => ?_)
 ·((try dsimp only) <;> (first | exact ⟨⟨keep_alloc hHeld.1.1,keep_alloc hHeld.1.2.1,keep_alloc hHeld.1.2.2.1,keep_alloc hHeld.1.2.2.2⟩,hHeld.2.alloc _⟩ | exact ⟨⟨keep_row (by have := HG0.out; omega) hHeld.1.1,keep_row (by have := HG0.out; omega) hHeld.1.2.1,keep_row (by have := HG0.out; omega) hHeld.1.2.2.1,keep_row (by have := HG0.out; omega) hHeld.1.2.2.2⟩,hHeld.2.setRow (fun h => by have := HG0.out; omega) _⟩))
 clear hK K
 try (simp only [Act.put,aST]; dsimp only [aS0,aS1])
 refine rone 11 fun K hK => ?_
 go_simp
 (try (rw [rowIn_of (old := rowN .u64 64 4 0) (t' := 73) (by ((try rw [← Array.getElem?_eq_getElem]); repeat (first | exact heap_alloc_new _ _ | exact heap_alloc2_new _ _ _ | refine keep_row (by (try simp only [World.size_alloc]); omega) ?_ | refine keep_alloc ?_ | refine keep_fr (by assumption) ?_))) (rowN_size _ _ _ _) (rowN_size _ _ _ _) (rowN_rowOne _ _ _ _)]; go_simp))
 refine hK.out _ _ ?_ (fun hHeld => ?_)
 ·((try dsimp only) <;> (first | exact ⟨⟨keep_alloc hHeld.1.1,keep_alloc hHeld.1.2.1,keep_alloc hHeld.1.2.2.1,keep_alloc hHeld.1.2.2.2⟩,hHeld.2.alloc _⟩ | exact ⟨⟨keep_row (by have := HG0.out; omega) hHeld.1.1,keep_row (by have := HG0.out; omega) hHeld.1.2.1,keep_row (by have := HG0.out; omega) hHeld.1.2.2.1,keep_row (by have := HG0.out; omega) hHeld.1.2.2.2⟩,hHeld.2.setRow (fun h => by have := HG0.out; omega) _⟩))
 clear hK K
 try (simp only [Act.put,aST]; dsimp only [aS0,aS1])
 refine rtake 12 ?_
 refine rdone ?_
 rotate_left
 go_simp
 refine hK.out _ _ ?_ (fun hHeld => ?_)
 ·((try dsimp only) <;> (first | exact ⟨⟨keep_alloc hHeld.1.1,keep_alloc hHeld.1.2.1,keep_alloc hHeld.1.2.2.1,keep_alloc hHeld.1.2.2.2⟩,hHeld.2.alloc _⟩ | exact ⟨⟨keep_row (by have := HG0.out; omega) hHeld.1.1,keep_row (by have := HG0.out; omega) hHeld.1.2.1,keep_row (by have := HG0.out; omega) hHeld.1.2.2.1,keep_row (by have := HG0.out; omega) hHeld.1.2.2.2⟩,hHeld.2.setRow (fun h => by have := HG0.out; omega) _⟩))
 clear hK K
 try (simp only [Act.put,aST]; dsimp only [aS0,aS1])
 refine rone 3 fun K hK => ?_
 go_simp
 (refine (HD.out _).mono ?_; rintro e w5 ⟨rfl,f5⟩; have z5 := f5.size; (try simp only [World.size_alloc,heap_drew'] at z5))
 refine hK.out _ _ ?_ (fun hHeld => ?_)
 ·((try dsimp only) <;> (exact ⟨⟨keep_fr f5 hHeld.1.1,keep_fr f5 hHeld.1.2.1,keep_fr f5 hHeld.1.2.2.1,keep_fr f5 hHeld.1.2.2.2⟩,hHeld.2.trans' f5⟩))
 clear hK K
 try (simp only [Act.put,aST]; dsimp only [aS0,aS1])
 refine rtake 4 ?_
 refine rtake 5 ?_
 refine rtake 6 ?_
 refine rtake 7 ?_
 refine rone 10 fun K hK => ?_
 go_simp
 (try (rw [rowIn_of (old := rowN .u64 64 4 0) (t' := 73) (by ((try rw [← Array.getElem?_eq_getElem]); repeat (first | exact heap_alloc_new _ _ | exact heap_alloc2_new _ _ _ | refine keep_alloc ?_ | refine keep_fr (by assumption) ?_))) (rowN_size _ _ _ _) (rowN_size _ _ _ _) (rowN_rowOne _ _ _ _)]; go_simp))
 refine hK.out _ _ ?_ (fun hHeld => ?_)
 ·((try dsimp only) <;> (first | exact ⟨⟨keep_alloc hHeld.1.1,keep_alloc hHeld.1.2.1,keep_alloc hHeld.1.2.2.1,keep_alloc hHeld.1.2.2.2⟩,hHeld.2.alloc _⟩ | exact ⟨⟨keep_row (by have := HG0.out; omega) hHeld.1.1,keep_row (by have := HG0.out; omega) hHeld.1.2.1,keep_row (by have := HG0.out; omega) hHeld.1.2.2.1,keep_row (by have := HG0.out; omega) hHeld.1.2.2.2⟩,hHeld.2.setRow (fun h => by have := HG0.out; omega) _⟩))
 clear hK K
 try (simp only [Act.put,aST]; dsimp only [aS0,aS1])
 refine rone 11 fun K hK => ?_
 go_simp
 (try (rw [rowIn_of (old := rowN .u64 64 4 0) (t' := 73) (by ((try rw [← Array.getElem?_eq_getElem]); repeat (first | exact heap_alloc_new _ _ | exact heap_alloc2_new _ _ _ | refine keep_row (by (try simp only [World.size_alloc]); omega) ?_ | refine keep_alloc ?_ | refine keep_fr (by assumption) ?_))) (rowN_size _ _ _ _) (rowN_size _ _ _ _) (rowN_rowOne _ _ _ _)]; go_simp))
 refine hK.out _ _ ?_ (fun hHeld => ?_)
 ·((try dsimp only) <;> (first | exact ⟨⟨keep_alloc hHeld.1.1,keep_alloc hHeld.1.2.1,keep_alloc hHeld.1.2.2.1,keep_alloc hHeld.1.2.2.2⟩,hHeld.2.alloc _⟩ | exact ⟨⟨keep_row (by have := HG0.out; omega) hHeld.1.1,keep_row (by have := HG0.out; omega) hHeld.1.2.1,keep_row (by have := HG0.out; omega) hHeld.1.2.2.1,keep_row (by have := HG0.out; omega) hHeld.1.2.2.2⟩,hHeld.2.setRow (fun h => by have := HG0.out; omega) _⟩))
 clear hK K
 try (simp only [Act.put,aST]; dsimp only [aS0,aS1])
 refine rtake 12 ?_
 refine rdone ?_
 rotate_left
 go_simp
 refine hK.out _ _ ?_ (fun hHeld => ?_)
 ·((try dsimp only) <;> (first | exact ⟨⟨keep_alloc hHeld.1.1,keep_alloc hHeld.1.2.1,keep_alloc hHeld.1.2.2.1,keep_alloc hHeld.1.2.2.2⟩,hHeld.2.alloc _⟩ | exact ⟨⟨keep_row (by have := HG0.out; omega) hHeld.1.1,keep_row (by have := HG0.out; omega) hHeld.1.2.1,keep_row (by have := HG0.out; omega) hHeld.1.2.2.1,keep_row (by have := HG0.out; omega) hHeld.1.2.2.2⟩,hHeld.2.setRow (fun h => by have := HG0.out; omega) _⟩))
 clear hK K
 try (simp only [Act.put,aST]; dsimp only [aS0,aS1])
 refine wpAnyH_ready (rs := [1,9]) (by kernel_rfl) (by simp) ?_
 refine AllReadyH.cons (o := ⟨_,_,_,_,_,_⟩) rfl (fun K hK => ?_) (AllReadyH.cons (o := ⟨_,_,_,_,_,_⟩) rfl (fun K hK => ?_) AllReadyH.nil)
 go_simp
 (refine (HN.out _).mono ?_; rintro e w5 ⟨rfl,f5⟩; have z5 := f5.size; (try simp only [World.size_alloc,heap_drew'] at z5))
 refine hK.out _ _ ?_ (fun hHeld => ?_)
 ·((try dsimp only) <;> (exact ⟨⟨keep_fr f5 hHeld.1.1,keep_fr f5 hHeld.1.2.1,keep_fr f5 hHeld.1.2.2.1,keep_fr f5 hHeld.1.2.2.2⟩,hHeld.2.trans' f5⟩))
 clear hK K
 try (simp only [Act.put,aST]; dsimp only [aS0,aS1])
 refine wpAnyH_ready (rs := [3,9]) (by kernel_rfl) (by simp) ?_
 refine AllReadyH.cons (o := ⟨_,_,_,_,_,_⟩) rfl (fun K hK => ?_) (AllReadyH.cons (o := ⟨_,_,_,_,_,_⟩) rfl (fun K hK => ?_) AllReadyH.nil)
 go_simp
 (refine (HD.out _).mono ?_; rintro e w5 ⟨rfl,f5⟩; have z5 := f5.size; (try simp only [World.size_alloc,heap_drew'] at z5))
 refine hK.out _ _ ?_ (fun hHeld => ?_)
 ·((try dsimp only) <;> (exact ⟨⟨keep_fr f5 hHeld.1.1,keep_fr f5 hHeld.1.2.1,keep_fr f5 hHeld.1.2.2.1,keep_fr f5 hHeld.1.2.2.2⟩,hHeld.2.trans' f5⟩))
 clear hK K
 try (simp only [Act.put,aST]; dsimp only [aS0,aS1])
 refine rtake 4 ?_
 refine rtake 5 ?_
 refine rtake 6 ?_
 refine rtake 7 ?_
 refine rone 9 fun K hK => ?_
 go_simp
 refine hK.out _ _ ?_ (fun hHeld => ?_)
 ·((try dsimp only) <;> (first | exact ⟨⟨keep_alloc hHeld.1.1,keep_alloc hHeld.1.2.1,keep_alloc hHeld.1.2.2.1,keep_alloc hHeld.1.2.2.2⟩,hHeld.2.alloc _⟩ | exact ⟨⟨keep_row (by have := HG0.out; omega) hHeld.1.1,keep_row (by have := HG0.out; omega) hHeld.1.2.1,keep_row (by have := HG0.out; omega) hHeld.1.2.2.1,keep_row (by have := HG0.out; omega) hHeld.1.2.2.2⟩,hHeld.2.setRow (fun h => by have := HG0.out; omega) _⟩))
 clear hK K
 try (simp only [Act.put,aST]; dsimp only [aS0,aS1])
 refine rone 10 fun K hK => ?_
 go_simp
 (try (rw [rowIn_of (old := rowN .u64 64 4 0) (t' := 73) (by ((try rw [← Array.getElem?_eq_getElem]); repeat (first | exact heap_alloc_new _ _ | exact heap_alloc2_new _ _ _ | refine keep_alloc ?_ | refine keep_fr (by assumption) ?_))) (rowN_size _ _ _ _) (rowN_size _ _ _ _) (rowN_rowOne _ _ _ _)]; go_simp))
 refine hK.out _ _ ?_ (fun hHeld => ?_)
 ·((try dsimp only) <;> (first | exact ⟨⟨keep_alloc hHeld.1.1,keep_alloc hHeld.1.2.1,keep_alloc hHeld.1.2.2.1,keep_alloc hHeld.1.2.2.2⟩,hHeld.2.alloc _⟩ | exact ⟨⟨keep_row (by have := HG0.out; omega) hHeld.1.1,keep_row (by have := HG0.out; omega) hHeld.1.2.1,keep_row (by have := HG0.out; omega) hHeld.1.2.2.1,keep_row (by have := HG0.out; omega) hHeld.1.2.2.2⟩,hHeld.2.setRow (fun h => by have := HG0.out; omega) _⟩))
 clear hK K
 try (simp only [Act.put,aST]; dsimp only [aS0,aS1])
 refine rone 11 fun K hK => ?_
 go_simp
 (try (rw [rowIn_of (old := rowN .u64 64 4 0) (t' := 73) (by ((try rw [← Array.getElem?_eq_getElem]); repeat (first | exact heap_alloc_new _ _ | exact heap_alloc2_new _ _ _ | refine keep_row (by (try simp only [World.size_alloc]); omega) ?_ | refine keep_alloc ?_ | refine keep_fr (by assumption) ?_))) (rowN_size _ _ _ _) (rowN_size _ _ _ _) (rowN_rowOne _ _ _ _)]; go_simp))
 refine hK.out _ _ ?_ (fun hHeld => ?_)
 ·((try dsimp only) <;> (first | exact ⟨⟨keep_alloc hHeld.1.1,keep_alloc hHeld.1.2.1,keep_alloc hHeld.1.2.2.1,keep_alloc hHeld.1.2.2.2⟩,hHeld.2.alloc _⟩ | exact ⟨⟨keep_row (by have := HG0.out; omega) hHeld.1.1,keep_row (by have := HG0.out; omega) hHeld.1.2.1,keep_row (by have := HG0.out; omega) hHeld.1.2.2.1,keep_row (by have := HG0.out; omega) hHeld.1.2.2.2⟩,hHeld.2.setRow (fun h => by have := HG0.out; omega) _⟩))
 clear hK K
 try (simp only [Act.put,aST]; dsimp only [aS0,aS1])
 refine rtake 12 ?_
 refine rdone ?_
 rotate_left
 go_simp
 refine hK.out _ _ ?_ (fun hHeld => ?_)
 ·((try dsimp only) <;> (first | exact ⟨⟨keep_alloc hHeld.1.1,keep_alloc hHeld.1.2.1,keep_alloc hHeld.1.2.2.1,keep_alloc hHeld.1.2.2.2⟩,hHeld.2.alloc _⟩ | exact ⟨⟨keep_row (by have := HG0.out; omega) hHeld.1.1,keep_row (by have := HG0.out; omega) hHeld.1.2.1,keep_row (by have := HG0.out; omega) hHeld.1.2.2.1,keep_row (by have := HG0.out; omega) hHeld.1.2.2.2⟩,hHeld.2.setRow (fun h => by have := HG0.out; omega) _⟩))
 clear hK K
 try (simp only [Act.put,aST]; dsimp only [aS0,aS1])
 refine rone 3 fun K hK => ?_
 go_simp
 (refine (HD.out _).mono ?_; rintro e w5 ⟨rfl,f5⟩; have z5 := f5.size; (try simp only [World.size_alloc,heap_drew'] at z5))
 refine hK.out _ _ ?_ (fun hHeld => ?_)
 ·((try dsimp only) <;> (exact ⟨⟨keep_fr f5 hHeld.1.1,keep_fr f5 hHeld.1.2.1,keep_fr f5 hHeld.1.2.2.1,keep_fr f5 hHeld.1.2.2.2⟩,hHeld.2.trans' f5⟩))
 clear hK K
 try (simp only [Act.put,aST]; dsimp only [aS0,aS1])
 refine rtake 4 ?_
 refine rtake 5 ?_
 refine rtake 6 ?_
 refine rtake 7 ?_
 refine rone 10 fun K hK => ?_
 go_simp
 (try (rw [rowIn_of (old := rowN .u64 64 4 0) (t' := 73) (by ((try rw [← Array.getElem?_eq_getElem]); repeat (first | exact heap_alloc_new _ _ | exact heap_alloc2_new _ _ _ | refine keep_alloc ?_ | refine keep_fr (by assumption) ?_))) (rowN_size _ _ _ _) (rowN_size _ _ _ _) (rowN_rowOne _ _ _ _)]; go_simp))
 refine hK.out _ _ ?_ (fun hHeld => ?_)
 ·((try dsimp only) <;> (first | exact ⟨⟨keep_alloc hHeld.1.1,keep_alloc hHeld.1.2.1,keep_alloc hHeld.1.2.2.1,keep_alloc hHeld.1.2.2.2⟩,hHeld.2.alloc _⟩ | exact ⟨⟨keep_row (by have := HG0.out; omega) hHeld.1.1,keep_row (by have := HG0.out; omega) hHeld.1.2.1,keep_row (by have := HG0.out; omega) hHeld.1.2.2.1,keep_row (by have := HG0.out; omega) hHeld.1.2.2.2⟩,hHeld.2.setRow (fun h => by have := HG0.out; omega) _⟩))
 clear hK K
 try (simp only [Act.put,aST]; dsimp only [aS0,aS1])
 refine rone 11 fun K hK => ?_
 go_simp
 (try (rw [rowIn_of (old := rowN .u64 64 4 0) (t' := 73) (by ((try rw [← Array.getElem?_eq_getElem]); repeat (first | exact heap_alloc_new _ _ | exact heap_alloc2_new _ _ _ | refine keep_row (by (try simp only [World.size_alloc]); omega) ?_ | refine keep_alloc ?_ | refine keep_fr (by assumption) ?_))) (rowN_size _ _ _ _) (rowN_size _ _ _ _) (rowN_rowOne _ _ _ _)]; go_simp))
 refine hK.out _ _ ?_ (fun hHeld => ?_)
 ·((try dsimp only) <;> (first | exact ⟨⟨keep_alloc hHeld.1.1,keep_alloc hHeld.1.2.1,keep_alloc hHeld.1.2.2.1,keep_alloc hHeld.1.2.2.2⟩,hHeld.2.alloc _⟩ | exact ⟨⟨keep_row (by have := HG0.out; omega) hHeld.1.1,keep_row (by have := HG0.out; omega) hHeld.1.2.1,keep_row (by have := HG0.out; omega) hHeld.1.2.2.1,keep_row (by have := HG0.out; omega) hHeld.1.2.2.2⟩,hHeld.2.setRow (fun h => by have := HG0.out; omega) _⟩))
 clear hK K
 try (simp only [Act.put,aST]; dsimp only [aS0,aS1])
 refine rtake 12 ?_
 refine rdone ?_
 rotate_left
 go_simp
 refine hK.out _ _ ?_ (fun hHeld => ?_)
 ·((try dsimp only) <;> (first | exact ⟨⟨keep_alloc hHeld.1.1,keep_alloc hHeld.1.2.1,keep_alloc hHeld.1.2.2.1,keep_alloc hHeld.1.2.2.2⟩,hHeld.2.alloc _⟩ | exact ⟨⟨keep_row (by have := HG0.out; omega) hHeld.1.1,keep_row (by have := HG0.out; omega) hHeld.1.2.1,keep_row (by have := HG0.out; omega) hHeld.1.2.2.1,keep_row (by have := HG0.out; omega) hHeld.1.2.2.2⟩,hHeld.2.setRow (fun h => by have := HG0.out; omega) _⟩))
 clear hK K
 try (simp only [Act.put,aST]; dsimp only [aS0,aS1])
 refine rone 1 fun K hK => ?_
 go_simp
 (refine (HN.out _).mono ?_; rintro e w5 ⟨rfl,f5⟩; have z5 := f5.size; (try simp only [World.size_alloc,heap_drew'] at z5))
 refine hK.out _ _ ?_ (fun hHeld => ?_)
 ·((try dsimp only) <;> (exact ⟨⟨keep_fr f5 hHeld.1.1,keep_fr f5 hHeld.1.2.1,keep_fr f5 hHeld.1.2.2.1,keep_fr f5 hHeld.1.2.2.2⟩,hHeld.2.trans' f5⟩))
 clear hK K
 try (simp only [Act.put,aST]; dsimp only [aS0,aS1])
 refine rone 3 fun K hK => ?_
 go_simp
 (refine (HD.out _).mono ?_; rintro e w5 ⟨rfl,f5⟩; have z5 := f5.size; (try simp only [World.size_alloc,heap_drew'] at z5))
 refine hK.out _ _ ?_ (fun hHeld => ?_)
 ·((try dsimp only) <;> (exact ⟨⟨keep_fr f5 hHeld.1.1,keep_fr f5 hHeld.1.2.1,keep_fr f5 hHeld.1.2.2.1,keep_fr f5 hHeld.1.2.2.2⟩,hHeld.2.trans' f5⟩))
 clear hK K
 try (simp only [Act.put,aST]; dsimp only [aS0,aS1])
 refine rtake 4 ?_
 refine rtake 5 ?_
 refine rtake 6 ?_
 refine rtake 7 ?_
 refine rone 10 fun K hK => ?_
 go_simp
 (try (rw [rowIn_of (old := rowN .u64 64 4 0) (t' := 73) (by ((try rw [← Array.getElem?_eq_getElem]); repeat (first | exact heap_alloc_new _ _ | exact heap_alloc2_new _ _ _ | refine keep_alloc ?_ | refine keep_fr (by assumption) ?_))) (rowN_size _ _ _ _) (rowN_size _ _ _ _) (rowN_rowOne _ _ _ _)]; go_simp))
 refine hK.out _ _ ?_ (fun hHeld => ?_)
 ·((try dsimp only) <;> (first | exact ⟨⟨keep_alloc hHeld.1.1,keep_alloc hHeld.1.2.1,keep_alloc hHeld.1.2.2.1,keep_alloc hHeld.1.2.2.2⟩,hHeld.2.alloc _⟩ | exact ⟨⟨keep_row (by have := HG0.out; omega) hHeld.1.1,keep_row (by have := HG0.out; omega) hHeld.1.2.1,keep_row (by have := HG0.out; omega) hHeld.1.2.2.1,keep_row (by have := HG0.out; omega) hHeld.1.2.2.2⟩,hHeld.2.setRow (fun h => by have := HG0.out; omega) _⟩))
 clear hK K
 try (simp only [Act.put,aST]; dsimp only [aS0,aS1])
 refine rone 11 fun K hK => ?_
 go_simp
 (try (rw [rowIn_of (old := rowN .u64 64 4 0) (t' := 73) (by ((try rw [← Array.getElem?_eq_getElem]); repeat (first | exact heap_alloc_new _ _ | exact heap_alloc2_new _ _ _ | refine keep_row (by (try simp only [World.size_alloc]); omega) ?_ | refine keep_alloc ?_ | refine keep_fr (by assumption) ?_))) (rowN_size _ _ _ _) (rowN_size _ _ _ _) (rowN_rowOne _ _ _ _)]; go_simp))
 refine hK.out _ _ ?_ (fun hHeld => ?_)
 ·((try dsimp only) <;> (first | exact ⟨⟨keep_alloc hHeld.1.1,keep_alloc hHeld.1.2.1,keep_alloc hHeld.1.2.2.1,keep_alloc hHeld.1.2.2.2⟩,hHeld.2.alloc _⟩ | exact ⟨⟨keep_row (by have := HG0.out; omega) hHeld.1.1,keep_row (by have := HG0.out; omega) hHeld.1.2.1,keep_row (by have := HG0.out; omega) hHeld.1.2.2.1,keep_row (by have := HG0.out; omega) hHeld.1.2.2.2⟩,hHeld.2.setRow (fun h => by have := HG0.out; omega) _⟩))
 clear hK K
 try (simp only [Act.put,aST]; dsimp only [aS0,aS1])
 refine rtake 12 ?_
 refine rdone ?_
 rotate_left
 go_simp
 refine hK.out _ _ ?_ (fun hHeld => ?_)
 ·((try dsimp only) <;> (first | exact ⟨⟨keep_alloc hHeld.1.1,keep_alloc hHeld.1.2.1,keep_alloc hHeld.1.2.2.1,keep_alloc hHeld.1.2.2.2⟩,hHeld.2.alloc _⟩ | exact ⟨⟨keep_row (by have := HG0.out; omega) hHeld.1.1,keep_row (by have := HG0.out; omega) hHeld.1.2.1,keep_row (by have := HG0.out; omega) hHeld.1.2.2.1,keep_row (by have := HG0.out; omega) hHeld.1.2.2.2⟩,hHeld.2.setRow (fun h => by have := HG0.out; omega) _⟩))
 clear hK K
 try (simp only [Act.put,aST]; dsimp only [aS0,aS1])
 refine wpAnyH_ready (rs := [1,8]) (by kernel_rfl) (by simp) ?_
 refine AllReadyH.cons (o := ⟨_,_,_,_,_,_⟩) rfl (fun K hK => ?_) (AllReadyH.cons (o := ⟨_,_,_,_,_,_⟩) rfl (fun K hK => ?_) AllReadyH.nil)
 go_simp
 (refine (HN.out _).mono ?_; rintro e w5 ⟨rfl,f5⟩; have z5 := f5.size; (try simp only [World.size_alloc,heap_drew'] at z5))
 refine hK.out _ _ ?_ (fun hHeld => ?_)
 ·((try dsimp only) <;> (exact ⟨⟨keep_fr f5 hHeld.1.1,keep_fr f5 hHeld.1.2.1,keep_fr f5 hHeld.1.2.2.1,keep_fr f5 hHeld.1.2.2.2⟩,hHeld.2.trans' f5⟩))
 clear hK K
 try (simp only [Act.put,aST]; dsimp only [aS0,aS1])
 refine wpAnyH_ready (rs := [3,8]) (by kernel_rfl) (by simp) ?_
 refine AllReadyH.cons (o := ⟨_,_,_,_,_,_⟩) rfl (fun K hK => ?_) (AllReadyH.cons (o := ⟨_,_,_,_,_,_⟩) rfl (fun K hK => ?_) AllReadyH.nil)
 go_simp
 (refine (HD.out _).mono ?_; rintro e w5 ⟨rfl,f5⟩; have z5 := f5.size; (try simp only [World.size_alloc,heap_drew'] at z5))
 refine hK.out _ _ ?_ (fun hHeld => ?_)
 ·((try dsimp only) <;> (exact ⟨⟨keep_fr f5 hHeld.1.1,keep_fr f5 hHeld.1.2.1,keep_fr f5 hHeld.1.2.2.1,keep_fr f5 hHeld.1.2.2.2⟩,hHeld.2.trans' f5⟩))
 clear hK K
 try (simp only [Act.put,aST]; dsimp only [aS0,aS1])
 refine rtake 4 ?_
 refine rtake 5 ?_
 refine rtake 6 ?_
 refine rtake 7 ?_
 refine rone 8 fun K hK => ?_
 go_simp
 refine hK.out _ _ ?_ (fun hHeld => ?_)
 ·((try dsimp only) <;> (first | exact ⟨⟨keep_alloc hHeld.1.1,keep_alloc hHeld.1.2.1,keep_alloc hHeld.1.2.2.1,keep_alloc hHeld.1.2.2.2⟩,hHeld.2.alloc _⟩ | exact ⟨⟨keep_row (by have := HG0.out; omega) hHeld.1.1,keep_row (by have := HG0.out; omega) hHeld.1.2.1,keep_row (by have := HG0.out; omega) hHeld.1.2.2.1,keep_row (by have := HG0.out; omega) hHeld.1.2.2.2⟩,hHeld.2.setRow (fun h => by have := HG0.out; omega) _⟩))
 clear hK K
 try (simp only [Act.put,aST]; dsimp only [aS0,aS1])
 refine rone 10 fun K hK => ?_
 go_simp
 (try (rw [rowIn_of (old := rowN .u64 64 4 0) (t' := 73) (by ((try rw [← Array.getElem?_eq_getElem]); repeat (first | exact heap_alloc_new _ _ | exact heap_alloc2_new _ _ _ | refine keep_alloc ?_ | refine keep_fr (by assumption) ?_))) (rowN_size _ _ _ _) (rowN_size _ _ _ _) (rowN_rowOne _ _ _ _)]; go_simp))
 refine hK.out _ _ ?_ (fun hHeld => ?_)
 ·((try dsimp only) <;> (first | exact ⟨⟨keep_alloc hHeld.1.1,keep_alloc hHeld.1.2.1,keep_alloc hHeld.1.2.2.1,keep_alloc hHeld.1.2.2.2⟩,hHeld.2.alloc _⟩ | exact ⟨⟨keep_row (by have := HG0.out; omega) hHeld.1.1,keep_row (by have := HG0.out; omega) hHeld.1.2.1,keep_row (by have := HG0.out; omega) hHeld.1.2.2.1,keep_row (by have := HG0.out; omega) hHeld.1.2.2.2⟩,hHeld.2.setRow (fun h => by have := HG0.out; omega) _⟩))
 clear hK K
 try (simp only [Act.put,aST]; dsimp only [aS0,aS1])
 refine rone 11 fun K hK => ?_
 go_simp
 (try (rw [rowIn_of (old := rowN .u64 64 4 0) (t' := 73) (by ((try rw [← Array.getElem?_eq_getElem]); repeat (first | exact heap_alloc_new _ _ | exact heap_alloc2_new _ _ _ | refine keep_row (by (try simp only [World.size_alloc]); omega) ?_ | refine keep_alloc ?_ | refine keep_fr (by assumption) ?_))) (rowN_size _ _ _ _) (rowN_size _ _ _ _) (rowN_rowOne _ _ _ _)]; go_simp))
 refine hK.out _ _ ?_ (fun hHeld => ?_)
 ·((try dsimp only) <;> (first | exact ⟨⟨keep_alloc hHeld.1.1,keep_alloc hHeld.1.2.1,keep_alloc hHeld.1.2.2.1,keep_alloc hHeld.1.2.2.2⟩,hHeld.2.alloc _⟩ | exact ⟨⟨keep_row (by have := HG0.out; omega) hHeld.1.1,keep_row (by have := HG0.out; omega) hHeld.1.2.1,keep_row (by have := HG0.out; omega) hHeld.1.2.2.1,keep_row (by have := HG0.out; omega) hHeld.1.2.2.2⟩,hHeld.2.setRow (fun h => by have := HG0.out; omega) _⟩))
 clear hK K
 try (simp only [Act.put,aST]; dsimp only [aS0,aS1])
 refine rtake 12 ?_
 refine rdone ?_
 rotate_left
 go_simp
 refine hK.out _ _ ?_ (fun hHeld => ?_)
 ·((try dsimp only) <;> (first | exact ⟨⟨keep_alloc hHeld.1.1,keep_alloc hHeld.1.2.1,keep_alloc hHeld.1.2.2.1,keep_alloc hHeld.1.2.2.2⟩,hHeld.2.alloc _⟩ | exact ⟨⟨keep_row (by have := HG0.out; omega) hHeld.1.1,keep_row (by have := HG0.out; omega) hHeld.1.2.1,keep_row (by have := HG0.out; omega) hHeld.1.2.2.1,keep_row (by have := HG0.out; omega) hHeld.1.2.2.2⟩,hHeld.2.setRow (fun h => by have := HG0.out; omega) _⟩))
 clear hK K
 try (simp only [Act.put,aST]; dsimp only [aS0,aS1])
 refine rone 3 fun K hK => ?_
 go_simp
 (refine (HD.out _).mono ?_; rintro e w5 ⟨rfl,f5⟩; have z5 := f5.size; (try simp only [World.size_alloc,heap_drew'] at z5))
 refine hK.out _ _ ?_ (fun hHeld => ?_)
 ·((try dsimp only) <;> (exact ⟨⟨keep_fr f5 hHeld.1.1,keep_fr f5 hHeld.1.2.1,keep_fr f5 hHeld.1.2.2.1,keep_fr f5 hHeld.1.2.2.2⟩,hHeld.2.trans' f5⟩))
 clear hK K
 try (simp only [Act.put,aST]; dsimp only [aS0,aS1])
 refine rtake 4 ?_
 refine rtake 5 ?_
 refine rtake 6 ?_
 refine rtake 7 ?_
 refine rone 10 fun K hK => ?_
 go_simp
 (try (rw [rowIn_of (old := rowN .u64 64 4 0) (t' := 73) (by ((try rw [← Array.getElem?_eq_getElem]); repeat (first | exact heap_alloc_new _ _ | exact heap_alloc2_new _ _ _ | refine keep_alloc ?_ | refine keep_fr (by assumption) ?_))) (rowN_size _ _ _ _) (rowN_size _ _ _ _) (rowN_rowOne _ _ _ _)]; go_simp))
 refine hK.out _ _ ?_ (fun hHeld => ?_)
 ·((try dsimp only) <;> (first | exact ⟨⟨keep_alloc hHeld.1.1,keep_alloc hHeld.1.2.1,keep_alloc hHeld.1.2.2.1,keep_alloc hHeld.1.2.2.2⟩,hHeld.2.alloc _⟩ | exact ⟨⟨keep_row (by have := HG0.out; omega) hHeld.1.1,keep_row (by have := HG0.out; omega) hHeld.1.2.1,keep_row (by have := HG0.out; omega) hHeld.1.2.2.1,keep_row (by have := HG0.out; omega) hHeld.1.2.2.2⟩,hHeld.2.setRow (fun h => by have := HG0.out; omega) _⟩))
 clear hK K
 try (simp only [Act.put,aST]; dsimp only [aS0,aS1])
 refine rone 11 fun K hK => ?_
 go_simp
 (try (rw [rowIn_of (old := rowN .u64 64 4 0) (t' := 73) (by ((try rw [← Array.getElem?_eq_getElem]); repeat (first | exact heap_alloc_new _ _ | exact heap_alloc2_new _ _ _ | refine keep_row (by (try simp only [World.size_alloc]); omega) ?_ | refine keep_alloc ?_ | refine keep_fr (by assumption) ?_))) (rowN_size _ _ _ _) (rowN_size _ _ _ _) (rowN_rowOne _ _ _ _)]; go_simp))
 refine hK.out _ _ ?_ (fun hHeld => ?_)
 ·((try dsimp only) <;> (first | exact ⟨⟨keep_alloc hHeld.1.1,keep_alloc hHeld.1.2.1,keep_alloc hHeld.1.2.2.1,keep_alloc hHeld.1.2.2.2⟩,hHeld.2.alloc _⟩ | exact ⟨⟨keep_row (by have := HG0.out; omega) hHeld.1.1,keep_row (by have := HG0.out; omega) hHeld.1.2.1,keep_row (by have := HG0.out; omega) hHeld.1.2.2.1,keep_row (by have := HG0.out; omega) hHeld.1.2.2.2⟩,hHeld.2.setRow (fun h => by have := HG0.out; omega) _⟩))
 clear hK K
 try (simp only [Act.put,aST]; dsimp only [aS0,aS1])
 refine rtake 12 ?_
 refine rdone ?_
 rotate_left
 go_simp
 refine hK.out _ _ ?_ (fun hHeld => ?_)
 ·((try dsimp only) <;> (first | exact ⟨⟨keep_alloc hHeld.1.1,keep_alloc hHeld.1.2.1,keep_alloc hHeld.1.2.2.1,keep_alloc hHeld.1.2.2.2⟩,hHeld.2.alloc _⟩ | exact ⟨⟨keep_row (by have := HG0.out; omega) hHeld.1.1,keep_row (by have := HG0.out; omega) hHeld.1.2.1,keep_row (by have := HG0.out; omega) hHeld.1.2.2.1,keep_row (by have := HG0.out; omega) hHeld.1.2.2.2⟩,hHeld.2.setRow (fun h => by have := HG0.out; omega) _⟩))
 clear hK K
 try (simp only [Act.put,aST]; dsimp only [aS0,aS1])
 refine rone 1 fun K hK => ?_
 go_simp
 (refine (HN.out _).mono ?_; rintro e w5 ⟨rfl,f5⟩; have z5 := f5.size; (try simp only [World.size_alloc,heap_drew'] at z5))
 refine hK.out _ _ ?_ (fun hHeld => ?_)
 ·((try dsimp only) <;> (exact ⟨⟨keep_fr f5 hHeld.1.1,keep_fr f5 hHeld.1.2.1,keep_fr f5 hHeld.1.2.2.1,keep_fr f5 hHeld.1.2.2.2⟩,hHeld.2.trans' f5⟩))
 clear hK K
 try (simp only [Act.put,aST]; dsimp only [aS0,aS1])
 refine rone 3 fun K hK => ?_
 go_simp
 (refine (HD.out _).mono ?_; rintro e w5 ⟨rfl,f5⟩; have z5 := f5.size; (try simp only [World.size_alloc,heap_drew'] at z5))
 refine hK.out _ _ ?_ (fun hHeld => ?_)
 ·((try dsimp only) <;> (exact ⟨⟨keep_fr f5 hHeld.1.1,keep_fr f5 hHeld.1.2.1,keep_fr f5 hHeld.1.2.2.1,keep_fr f5 hHeld.1.2.2.2⟩,hHeld.2.trans' f5⟩))
 clear hK K
 try (simp only [Act.put,aST]; dsimp only [aS0,aS1])
 refine rtake 4 ?_
 refine rtake 5 ?_
 refine rtake 6 ?_
 refine rtake 7 ?_
 refine rone 10 fun K hK => ?_
 go_simp
 (try (rw [rowIn_of (old := rowN .u64 64 4 0) (t' := 73) (by ((try rw [← Array.getElem?_eq_getElem]); repeat (first | exact heap_alloc_new _ _ | exact heap_alloc2_new _ _ _ | refine keep_alloc ?_ | refine keep_fr (by assumption) ?_))) (rowN_size _ _ _ _) (rowN_size _ _ _ _) (rowN_rowOne _ _ _ _)]; go_simp))
 refine hK.out _ _ ?_ (fun hHeld => ?_)
 ·((try dsimp only) <;> (first | exact ⟨⟨keep_alloc hHeld.1.1,keep_alloc hHeld.1.2.1,keep_alloc hHeld.1.2.2.1,keep_alloc hHeld.1.2.2.2⟩,hHeld.2.alloc _⟩ | exact ⟨⟨keep_row (by have := HG0.out; omega) hHeld.1.1,keep_row (by have := HG0.out; omega) hHeld.1.2.1,keep_row (by have := HG0.out; omega) hHeld.1.2.2.1,keep_row (by have := HG0.out; omega) hHeld.1.2.2.2⟩,hHeld.2.setRow (fun h => by have := HG0.out; omega) _⟩))
 clear hK K
 try (simp only [Act.put,aST]; dsimp only [aS0,aS1])
 refine rone 11 fun K hK => ?_
 go_simp
 (try (rw [rowIn_of (old := rowN .u64 64 4 0) (t' := 73) (by ((try rw [← Array.getElem?_eq_getElem]); repeat (first | exact heap_alloc_new _ _ | exact heap_alloc2_new _ _ _ | refine keep_row (by (try simp only [World.size_alloc]); omega) ?_ | refine keep_alloc ?_ | refine keep_fr (by assumption) ?_))) (rowN_size _ _ _ _) (rowN_size _ _ _ _) (rowN_rowOne _ _ _ _)]; go_simp))
 refine hK.out _ _ ?_ (fun hHeld => ?_)
 ·((try dsimp only) <;> (first | exact ⟨⟨keep_alloc hHeld.1.1,keep_alloc hHeld.1.2.1,keep_alloc hHeld.1.2.2.1,keep_alloc hHeld.1.2.2.2⟩,hHeld.2.alloc _⟩ | exact ⟨⟨keep_row (by have := HG0.out; omega) hHeld.1.1,keep_row (by have := HG0.out; omega) hHeld.1.2.1,keep_row (by have := HG0.out; omega) hHeld.1.2.2.1,keep_row (by have := HG0.out; omega) hHeld.1.2.2.2⟩,hHeld.2.setRow (fun h => by have := HG0.out; omega) _⟩))
 clear hK K
 try (simp only [Act.put,aST]; dsimp only [aS0,aS1])
 refine rtake 12 ?_
 refine rdone ?_
 rotate_left
 all_goals
  refine hK.out ⟨⟨_,rfl,?_⟩,hHeld.1,hHeld.2⟩
  refine keep_row (by (try simp only [World.size_alloc]); omega) (new_row (z := rowN .u64 64 4 0) (t := 73) (f := (0,0)) ?_)
  repeat (first | exact heap_alloc_new _ _ | exact heap_alloc2_new _ _ _ | refine keep_alloc ?_ | refine keep_fr (by assumption) ?_)
theorem tWork_core (t m n q r v : Nat) (oz oo : Bool) (hz : rowEq 256 t 0 = oz) (w : World)
  (HO : Hid (∀ w,Calls Tryz.prog 56 #[.int .u64 1] w fun o w' => o = .returned (.agg (rowN .u64 64 4 1)) ∧ Fr F0 w w'))
  (HA : Hid (∀ w,Calls Tryz.prog 41 #[.agg (rowN .u64 64 4 t),.agg (rowN .u64 64 4 1)] w fun o w' => o = .returned (.tuple #[.agg (rowN .u64 64 4 m),.bool oo]) ∧ Fr F0 w w'))
  (HN : Hid (∀ w,Calls Tryz.prog 36 #[.agg (rowN .u64 64 4 t)] w fun o w' => o = .returned (.agg (rowN .u64 64 4 n)) ∧ Fr F0 w w'))
  (HD : Hid (oz = false → oo = false → ∀ w,Calls Tryz.prog 57 #[.agg (rowN .u64 64 4 n),.agg (rowN .u64 64 4 m)] w fun o w' => o = .returned (.tuple #[.agg (rowN .u64 64 4 q),.agg (rowN .u64 64 4 r),.int .i64 0]) ∧ Fr F0 w w'))
  (HB : Hid (oz = false → oo = false → ∀ w,Calls Tryz.prog 41 #[.agg (rowN .u64 64 4 q),.agg (rowN .u64 64 4 1)] w fun o w' => o = .returned (.tuple #[.agg (rowN .u64 64 4 v),.bool false]) ∧ Fr F0 w w')) :
  Calls Tryz.prog 32 #[.agg (rowN .u64 64 4 t)] w fun o w' => o = .returned (.agg (rowN .u64 64 4 (if oz = true then n else if oo = true then 1 else v))) ∧ Fr F0 w w' := by
 have HR : Hid (∃ R,R = (if oz = true then n else if oo = true then 1 else v)) := Lib.hid ⟨_,rfl⟩
 obtain ⟨R,hR⟩ := HR.out
 rw [← hR]
 have HR2 := Lib.hid hR
 clear HR hR
 go_enter Tryz.func32,Tryz.ntmps32
 go_wp2_with fail
 (with_reducible refine (HO.out _).mono ?_); rintro o w1 ⟨rfl,f⟩
 obtain ⟨r1,r2⟩ := heap2 w (.cells (rowN .u64 64 4 t) 73) (.cells (rowN .u64 64 4 0) 73)
 replace r1 := keep_fr f r1
 replace r2 := keep_fr f r2
 have F := (((Fr.refl F0 w).alloc (.cells (rowN .u64 64 4 t) 73)).alloc (.cells (rowN .u64 64 4 0) 73)).trans' f
 clear f
 generalize hg2 : w.heap.size + 1 = g2 at *
 generalize hg1 : w.heap.size = g1 at *
 have HG := Lib.hid (show w.heap.size ≤ g2 by omega)
 clear hg1 hg2
 go_upto_region 2 with fail
 obtain ⟨W2,hW2⟩ : ∃ W,W = (w1.alloc (.cells (rowN .u64 64 4 0) 73)).setRow w1.heap.size (rowN .u64 64 4 1) := ⟨_,rfl⟩
 have N := put_new w1 (rowN .u64 64 4 0) (rowN .u64 64 4 1) 73
 rw [← hW2] at N
 refine wp_of_world W2 hW2 ?_
 have r3 := N.new
 replace r1 := N.old r1
 replace r2 := N.old r2
 replace F := F.trans' N.fr
 clear N hW2
 generalize w1.heap.size = g3 at *
 go_wp2_with fail
 (with_reducible refine (HA.out _).mono ?_); rintro o w4 ⟨rfl,f⟩
 replace r1 := keep_fr f r1
 replace r2 := keep_fr f r2
 replace r3 := keep_fr f r3
 replace F := F.trans' f
 clear f
 go_upto_region 3 with fail
 obtain ⟨W5,hW5⟩ : ∃ W,W = (w4.alloc (.cells (rowN .u64 64 4 0) 73)).setRow w4.heap.size (rowN .u64 64 4 m) := ⟨_,rfl⟩
 have N := put_new w4 (rowN .u64 64 4 0) (rowN .u64 64 4 m) 73
 rw [← hW5] at N
 refine wp_of_world W5 hW5 ?_
 have r4 := N.new
 replace r1 := N.old r1
 replace r2 := N.old r2
 replace r3 := N.old r3
 replace F := F.trans' N.fr
 clear N hW5
 generalize w4.heap.size = g4 at *
 cases oz
 ·cases oo
  ·have HD2 := Lib.hid (HD.out rfl rfl)
   have HB2 := Lib.hid (HB.out rfl rfl)
   clear HD HB
   go_upto_region 7 with fail
   refine tk7 w W5 t n m q r g1 g2 g3 g4 HN HD2 r1 r2 r3 r4 F (Lib.hid ?_)
   clear r1 r2 r3 r4 F
   rename_i w7
   rintro ⟨⟨p1,rfl,r6⟩,⟨r1,r2,r3,r4⟩,F⟩
   go_wp2_with fail
   (with_reducible refine (HB2.out _).mono ?_); rintro o w8 ⟨rfl,f⟩
   replace r2 := keep_fr f r2
   replace F := F.trans' f
   clear f r1 r3 r4 r6
   go_upto_region 9 with fail
   obtain ⟨W9,hW9⟩ : ∃ W,W = (w8.alloc (.cells (rowN .u64 64 4 0) 73)).setRow w8.heap.size (rowN .u64 64 4 v) := ⟨_,rfl⟩
   have N := put_new w8 (rowN .u64 64 4 0) (rowN .u64 64 4 v) 73
   rw [← hW9] at N
   refine wp_of_world W9 hW9 ?_
   have r9 := N.new
   replace r2 := N.old r2
   replace F := F.trans' N.fr
   clear N hW9
   generalize w8.heap.size = g9 at *
   go_wp2_with fail
   refine bodyPost_ret (results_cell_row rfl _ _ g2 _ _ _ _ rfl (new_row r2) Tryz.underlying73 rfl (by rw [Tryz.szWide]; rfl)) rfl ⟨by rw [HR2.out]; rfl,F.setRow (fun h => by have := HG.out; omega) _⟩
  ·go_wp2_with fail
   refine bodyPost_ret (results_cell_row rfl _ _ g2 _ _ _ _ rfl (new_row r2) Tryz.underlying73 rfl (by rw [Tryz.szWide]; rfl)) rfl ⟨by rw [HR2.out]; rfl,F.setRow (fun h => by have := HG.out; omega) _⟩
 ·go_wp2_with fail
  (with_reducible refine (HN.out _).mono ?_); rintro o w8 ⟨rfl,f⟩
  replace r2 := keep_fr f r2
  replace F := F.trans' f
  go_wp2_with fail
  refine bodyPost_ret (results_cell_row rfl _ _ g2 _ _ _ _ rfl (new_row r2) Tryz.underlying73 rfl (by rw [Tryz.szWide]; rfl)) rfl ⟨by rw [HR2.out]; rfl,F.setRow (fun h => by have := HG.out; omega) _⟩
theorem workC : WorkC := by
 intro t ht w
 have h1W : 1 < W256 := word_w (by omega)
 have hz := rowEq_0 t ht _ rfl
 have hA := fun w => wAdd_any t 1 ht h1W w
 have key : wkN t = if decide (t = 0) = true then W256 - 1 - t else if decide (W256 ≤ t + 1) = true then 1 else (W256 - 1 - t) / (t + 1) + 1 := by
  unfold wkN
  by_cases h0 : t = 0
  ·rw [if_pos h0,decide_eq_true h0,if_pos rfl,h0]; rfl
  ·rw [if_neg h0,decide_eq_false h0,if_neg (by decide)]
   by_cases h1 : W256 ≤ t + 1
   ·rw [decide_eq_true h1,if_pos rfl]
    have : t + 1 = W256 := by omega
    rw [this,Nat.div_self W256_pos]
   ·rw [decide_eq_false h1,if_neg (by decide),← Nat.add_div_right _ (by omega)]
    congr 1
    omega
 rw [key]
 refine tWork_core t ((t + 1) % W256) (W256 - 1 - t) ((W256 - 1 - t) / (t + 1)) ((W256 - 1 - t) % (t + 1)) ((W256 - 1 - t) / (t + 1) + 1) (decide (t = 0)) (decide (W256 ≤ t + 1)) hz w
  (Lib.hid fun w => show Calls Tryz.prog 56 #[.int .u64 1] w _ from wOf_any 1 (by omega) w) (Lib.hid hA) (Lib.hid fun w => wNot_any t ht w) (Lib.hid fun h0 h1 w => ?_) (Lib.hid fun h0 h1 w => ?_)
 ·have h2 : t + 1 < W256 := Nat.not_le.1 (of_decide_eq_false h1)
  rw [Nat.mod_eq_of_lt h2]
  exact wDiv_any _ _ (by omega) h2 (by omega) w
 ·have h2 : t + 1 < W256 := Nat.not_le.1 (of_decide_eq_false h1)
  have h3 : t ≠ 0 := of_decide_eq_false h0
  have h4 : (W256 - 1 - t) / (t + 1) + 1 < W256 := by
   have : (W256 - 1 - t) / (t + 1) ≤ (W256 - 1 - t) := Nat.div_le_self _ _
   omega
  have := wAdd_any ((W256 - 1 - t) / (t + 1)) 1 (by omega) h1W w
  rwa [Nat.mod_eq_of_lt h4,decide_eq_false (by omega)] at this
end Go.Proofs.YtedffdlkmpmdlaaGreatDoor
namespace Go.Proofs.YtedffdlkmpmdlaaGreatDoor
set_option maxRecDepth 100000
set_option linter.unusedVariables false
set_option linter.unusedSimpArgs false
open Go.RowKit
theorem tm1 {s0 s1 s4 s5 s7 s8 s9 s10 s11 s12 s13 s14 s15 s16 s17 s18 s19 s20 s21 s22 s23 s24 s25 s26 s27 s28 s29 s30 s31 s32 s33 s34 s35 s36 s37 s38 s39 s40 s41 s42 s43 s44 s45 s46 s47 s48 s49 s50 s51 s52 s53 s54 s55 s56 s57 s58 s59 : Value} {K : Act → World → Prop} {Q : Exit → Act → World → Prop} (w w6 : World) (a x q r g0 g6 : Nat) (HO : RowKit.Hid (∀ w : World,Calls Tryz.prog 56 #[.int .u64 x] w fun e w' => e = .returned (.agg (rowN .u64 64 4 x)) ∧ Fr F0 w w')) (HD : RowKit.Hid (∀ w : World,Calls Tryz.prog 57 #[.agg (rowN .u64 64 4 a),.agg (rowN .u64 64 4 x)] w fun e w' => e = .returned (.tuple #[.agg (rowN .u64 64 4 q),.agg (rowN .u64 64 4 r),.int .i64 0]) ∧ Fr F0 w w')) (r0 : w6.heap[g0]? = some (.cells (rowN .u64 64 4 a) 73 (0,0))) (r6 : w6.heap[g6]? = some (.cells (rowN .u64 64 4 0) 73 (0,0))) (F : Fr F0 w w6)
  (hK : RowKit.Hid (∀ {u8 u9 u10 u20 u21 u22 u23 u24 u25 u26 u27 : Value} {w' : World},((∃ p1 p2 : Nat,u8 = .pointer (some ⟨p1,0,none⟩) ∧ u9 = .pointer (some ⟨p2,0,none⟩) ∧ w'.heap[p1]? = some (.cells (rowN .u64 64 4 q) 73 (0,0)) ∧ w'.heap[p2]? = some (.cells (rowN .u64 64 4 r) 73 (0,0))) ∧ (w'.heap[g0]? = some (.cells (rowN .u64 64 4 a) 73 (0,0)) ∧ w'.heap[g6]? = some (.cells (rowN .u64 64 4 0) 73 (0,0))) ∧ Fr F0 w w') → K ⟨#[s0,s1,.int .u64 x,.pointer (some ⟨g0,0,none⟩),s4,s5,.pointer (some ⟨g6,0,none⟩),s7,u8,u9,u10,s11,s12,s13,s14,s15,s16,s17,s18,s19,u20,u21,u22,u23,u24,u25,u26,u27,s28,s29,s30,s31,s32,s33,s34,s35,s36,s37,s38,s39,s40,s41,s42,s43,s44,s45,s46,s47,s48,s49,s50,s51,s52,s53,s54,s55,s56,s57,s58,s59],[]⟩ w')) :
  Code.wp Tryz.prog ((Tryz.f104.body.bind (findRegion 1)).getD .skip) (Exit.then K Q) ⟨#[s0,s1,.int .u64 x,.pointer (some ⟨g0,0,none⟩),s4,s5,.pointer (some ⟨g6,0,none⟩),s7,s8,s9,s10,s11,s12,s13,s14,s15,s16,s17,s18,s19,s20,s21,s22,s23,s24,s25,s26,s27,s28,s29,s30,s31,s32,s33,s34,s35,s36,s37,s38,s39,s40,s41,s42,s43,s44,s45,s46,s47,s48,s49,s50,s51,s52,s53,s54,s55,s56,s57,s58,s59],[]⟩ w6 := by
 conv => arg 2; whnf
 have HG0 := Lib.hid (And.intro (Array.getElem?_eq_some_iff.1 r0).1 (And.intro (Array.getElem?_eq_some_iff.1 r6).1 F.size))
 refine rbegin (S := (fun w' => (w'.heap[g0]? = some (.cells (rowN .u64 64 4 a) 73 (0,0)) ∧ w'.heap[g6]? = some (.cells (rowN .u64 64 4 0) 73 (0,0))) ∧ Fr F0 w w')) ?_ fun hHeld => ?_
 ·((try dsimp only) <;> (exact ⟨⟨r0,r6⟩,F.drew⟩))
 refine rtake 0 ?_
 refine rtake 1 ?_
 refine wpAnyH_ready (rs := [2,8,9]) (by kernel_rfl) (by simp) ?_
 refine AllReadyH.cons (o := ⟨_,_,_,_,_,_⟩) rfl (fun K hK => ?_) (AllReadyH.cons (o := ⟨_,_,_,_,_,_⟩) rfl (fun K hK => ?_) (AllReadyH.cons (o := ⟨_,_,_,_,_,_⟩) rfl (fun K hK => ?_) AllReadyH.nil))
 go_simp
 (refine (HO.out _).mono ?_; rintro e w5 ⟨rfl,f5⟩; have z5 := f5.size; (try simp only [World.size_alloc,heap_drew'] at z5))
 refine hK.out _ _ ?_ (fun hHeld => ?_)
 ·((try dsimp only) <;> (exact ⟨⟨keep_fr f5 hHeld.1.1,keep_fr f5 hHeld.1.2⟩,hHeld.2.trans' f5⟩))
 clear hK K
 try (simp only [Act.put,aST]; dsimp only [aS0,aS1])
 refine wpAnyH_ready (rs := [3,8,9]) (by kernel_rfl) (by simp) ?_
 refine AllReadyH.cons (o := ⟨_,_,_,_,_,_⟩) rfl (fun K hK => ?_) (AllReadyH.cons (o := ⟨_,_,_,_,_,_⟩) rfl (fun K hK => ?_) (AllReadyH.cons (o := ⟨_,_,_,_,_,_⟩) rfl (fun K hK => ?_) AllReadyH.nil))
 go_simp
 (refine (HD.out _).mono ?_; rintro e w5 ⟨rfl,f5⟩; have z5 := f5.size; (try simp only [World.size_alloc,heap_drew'] at z5))
 refine hK.out _ _ ?_ (fun hHeld => ?_)
 ·((try dsimp only) <;> (exact ⟨⟨keep_fr f5 hHeld.1.1,keep_fr f5 hHeld.1.2⟩,hHeld.2.trans' f5⟩))
 clear hK K
 try (simp only [Act.put,aST]; dsimp only [aS0,aS1])
 refine rtake 4 ?_
 refine rtake 5 ?_
 refine rtake 6 ?_
 refine rtake 7 ?_
 refine wpAnyH_ready (rs := [8,9]) (by kernel_rfl) (by simp) ?_
 refine AllReadyH.cons (o := ⟨_,_,_,_,_,_⟩) rfl (fun K hK => ?_) (AllReadyH.cons (o := ⟨_,_,_,_,_,_⟩) rfl (fun K hK => ?_) AllReadyH.nil)
 go_simp
 refine hK.out _ _ ?_ (fun hHeld => ?_)
 ·((try dsimp only) <;> (first | exact ⟨⟨keep_alloc hHeld.1.1,keep_alloc hHeld.1.2⟩,hHeld.2.alloc _⟩ | exact ⟨⟨keep_row (by have := HG0.out; omega) hHeld.1.1,keep_row (by have := HG0.out; omega) hHeld.1.2⟩,hHeld.2.setRow (fun h => by have := HG0.out; omega) _⟩))
 clear hK K
 try (simp only [Act.put,aST]; dsimp only [aS0,aS1])
 refine rone 9 fun K hK => ?_
 go_simp
 refine hK.out _ _ ?_ (fun hHeld => ?_)
 ·((try dsimp only) <;> (first | exact ⟨⟨keep_alloc hHeld.1.1,keep_alloc hHeld.1.2⟩,hHeld.2.alloc _⟩ | exact ⟨⟨keep_row (by have := HG0.out; omega) hHeld.1.1,keep_row (by have := HG0.out; omega) hHeld.1.2⟩,hHeld.2.setRow (fun h => by have := HG0.out; omega) _⟩))
 clear hK K
 try (simp only [Act.put,aST]; dsimp only [aS0,aS1])
 refine rone 10 fun K hK => ?_
 go_simp
 (try (rw [rowIn_of (old := rowN .u64 64 4 0) (t' := 73) (by ((try rw [← Array.getElem?_eq_getElem]); repeat (first | exact heap_alloc_new _ _ | exact heap_alloc2_new _ _ _ | refine keep_alloc ?_ | refine keep_fr (by assumption) ?_))) (rowN_size _ _ _ _) (rowN_size _ _ _ _) (rowN_rowOne _ _ _ _)]; go_simp))
 refine hK.out _ _ ?_ (fun hHeld => ?_)
 ·((try dsimp only) <;> (first | exact ⟨⟨keep_alloc hHeld.1.1,keep_alloc hHeld.1.2⟩,hHeld.2.alloc _⟩ | exact ⟨⟨keep_row (by have := HG0.out; omega) hHeld.1.1,keep_row (by have := HG0.out; omega) hHeld.1.2⟩,hHeld.2.setRow (fun h => by have := HG0.out; omega) _⟩))
 clear hK K
 try (simp only [Act.put,aST]; dsimp only [aS0,aS1])
 refine rone 11 fun K hK => ?_
 go_simp
 (try (rw [rowIn_of (old := rowN .u64 64 4 0) (t' := 73) (by ((try rw [← Array.getElem?_eq_getElem]); repeat (first | exact heap_alloc_new _ _ | exact heap_alloc2_new _ _ _ | refine keep_row (by (try simp only [World.size_alloc]); omega) ?_ | refine keep_alloc ?_ | refine keep_fr (by assumption) ?_))) (rowN_size _ _ _ _) (rowN_size _ _ _ _) (rowN_rowOne _ _ _ _)]; go_simp))
 refine hK.out _ _ ?_ (fun hHeld => ?_)
 ·((try dsimp only) <;> (first | exact ⟨⟨keep_alloc hHeld.1.1,keep_alloc hHeld.1.2⟩,hHeld.2.alloc _⟩ | exact ⟨⟨keep_row (by have := HG0.out; omega) hHeld.1.1,keep_row (by have := HG0.out; omega) hHeld.1.2⟩,hHeld.2.setRow (fun h => by have := HG0.out; omega) _⟩))
 clear hK K
 try (simp only [Act.put,aST]; dsimp only [aS0,aS1])
 refine rtake 12 ?_
 refine rdone ?_
 rotate_left
 go_simp
 refine hK.out _ _ ?_ (fun hHeld => ?_)
 ·((try dsimp only) <;> (first | exact ⟨⟨keep_alloc hHeld.1.1,keep_alloc hHeld.1.2⟩,hHeld.2.alloc _⟩ | exact ⟨⟨keep_row (by have := HG0.out; omega) hHeld.1.1,keep_row (by have := HG0.out; omega) hHeld.1.2⟩,hHeld.2.setRow (fun h => by have := HG0.out; omega) _⟩))
 clear hK K
 try (simp only [Act.put,aST]; dsimp only [aS0,aS1])
 refine rone 8 fun K hK => ?_
 go_simp
 refine hK.out _ _ ?_ (fun hHeld => ?_)
 ·((try dsimp only) <;> (first | exact ⟨⟨keep_alloc hHeld.1.1,keep_alloc hHeld.1.2⟩,hHeld.2.alloc _⟩ | exact ⟨⟨keep_row (by have := HG0.out; omega) hHeld.1.1,keep_row (by have := HG0.out; omega) hHeld.1.2⟩,hHeld.2.setRow (fun h => by have := HG0.out; omega) _⟩))
 clear hK K
 try (simp only [Act.put,aST]; dsimp only [aS0,aS1])
 refine rone 10 fun K hK => ?_
 go_simp
 (try (rw [rowIn_of (old := rowN .u64 64 4 0) (t' := 73) (by ((try rw [← Array.getElem?_eq_getElem]); repeat (first | exact heap_alloc_new _ _ | exact heap_alloc2_new _ _ _ | refine keep_alloc ?_ | refine keep_fr (by assumption) ?_))) (rowN_size _ _ _ _) (rowN_size _ _ _ _) (rowN_rowOne _ _ _ _)]; go_simp))
 refine hK.out _ _ ?_ (fun hHeld => ?_)
 ·((try dsimp only) <;> (first | exact ⟨⟨keep_alloc hHeld.1.1,keep_alloc hHeld.1.2⟩,hHeld.2.alloc _⟩ | exact ⟨⟨keep_row (by have := HG0.out; omega) hHeld.1.1,keep_row (by have := HG0.out; omega) hHeld.1.2⟩,hHeld.2.setRow (fun h => by have := HG0.out; omega) _⟩))
 clear hK K
 try (simp only [Act.put,aST]; dsimp only [aS0,aS1])
 refine rone 11 fun K hK => ?_
 go_simp
 (try (rw [rowIn_of (old := rowN .u64 64 4 0) (t' := 73) (by ((try rw [← Array.getElem?_eq_getElem]); repeat (first | exact heap_alloc_new _ _ | exact heap_alloc2_new _ _ _ | refine keep_row (by (try simp only [World.size_alloc]); omega) ?_ | refine keep_alloc ?_ | refine keep_fr (by assumption) ?_))) (rowN_size _ _ _ _) (rowN_size _ _ _ _) (rowN_rowOne _ _ _ _)]; go_simp))
 refine hK.out _ _ ?_ (fun hHeld => ?_)
 ·((try dsimp only) <;> (first | exact ⟨⟨keep_alloc hHeld.1.1,keep_alloc hHeld.1.2⟩,hHeld.2.alloc _⟩ | exact ⟨⟨keep_row (by have := HG0.out; omega) hHeld.1.1,keep_row (by have := HG0.out; omega) hHeld.1.2⟩,hHeld.2.setRow (fun h => by have := HG0.out; omega) _⟩))
 clear hK K
 try (simp only [Act.put,aST]; dsimp only [aS0,aS1])
 refine rtake 12 ?_
 refine rdone ?_
 rotate_left
 go_simp
 refine hK.out _ _ ?_ (fun hHeld => ?_)
 ·((try dsimp only) <;> (first | exact ⟨⟨keep_alloc hHeld.1.1,keep_alloc hHeld.1.2⟩,hHeld.2.alloc _⟩ | exact ⟨⟨keep_row (by have := HG0.out; omega) hHeld.1.1,keep_row (by have := HG0.out; omega) hHeld.1.2⟩,hHeld.2.setRow (fun h => by have := HG0.out; omega) _⟩))
 clear hK K
 try (simp only [Act.put,aST]; dsimp only [aS0,aS1])
 refine wpAnyH_ready (rs := [3,9]) (by kernel_rfl) (by simp) ?_
 refine AllReadyH.cons (o := ⟨_,_,_,_,_,_⟩) rfl (fun K hK => ?_) (AllReadyH.cons (o := ⟨_,_,_,_,_,_⟩) rfl (fun K hK => ?_) AllReadyH.nil)
 go_simp
 (refine (HD.out _).mono ?_; rintro e w5 ⟨rfl,f5⟩; have z5 := f5.size; (try simp only [World.size_alloc,heap_drew'] at z5))
 refine hK.out _ _ ?_ (fun hHeld => ?_)
 ·((try dsimp only) <;> (exact ⟨⟨keep_fr f5 hHeld.1.1,keep_fr f5 hHeld.1.2⟩,hHeld.2.trans' f5⟩))
 clear hK K
 try (simp only [Act.put,aST]; dsimp only [aS0,aS1])
 refine rtake 4 ?_
 refine rtake 5 ?_
 refine rtake 6 ?_
 refine rtake 7 ?_
 refine rone 9 fun K hK => ?_
 go_simp
 refine hK.out _ _ ?_ (fun hHeld => ?_)
 ·((try dsimp only) <;> (first | exact ⟨⟨keep_alloc hHeld.1.1,keep_alloc hHeld.1.2⟩,hHeld.2.alloc _⟩ | exact ⟨⟨keep_row (by have := HG0.out; omega) hHeld.1.1,keep_row (by have := HG0.out; omega) hHeld.1.2⟩,hHeld.2.setRow (fun h => by have := HG0.out; omega) _⟩))
 clear hK K
 try (simp only [Act.put,aST]; dsimp only [aS0,aS1])
 refine rone 10 fun K hK => ?_
 go_simp
 (try (rw [rowIn_of (old := rowN .u64 64 4 0) (t' := 73) (by ((try rw [← Array.getElem?_eq_getElem]); repeat (first | exact heap_alloc_new _ _ | exact heap_alloc2_new _ _ _ | refine keep_alloc ?_ | refine keep_fr (by assumption) ?_))) (rowN_size _ _ _ _) (rowN_size _ _ _ _) (rowN_rowOne _ _ _ _)]; go_simp))
 refine hK.out _ _ ?_ (fun hHeld => ?_)
 ·((try dsimp only) <;> (first | exact ⟨⟨keep_alloc hHeld.1.1,keep_alloc hHeld.1.2⟩,hHeld.2.alloc _⟩ | exact ⟨⟨keep_row (by have := HG0.out; omega) hHeld.1.1,keep_row (by have := HG0.out; omega) hHeld.1.2⟩,hHeld.2.setRow (fun h => by have := HG0.out; omega) _⟩))
 clear hK K
 try (simp only [Act.put,aST]; dsimp only [aS0,aS1])
 refine rone 11 fun K hK => ?_
 go_simp
 (try (rw [rowIn_of (old := rowN .u64 64 4 0) (t' := 73) (by ((try rw [← Array.getElem?_eq_getElem]); repeat (first | exact heap_alloc_new _ _ | exact heap_alloc2_new _ _ _ | refine keep_row (by (try simp only [World.size_alloc]); omega) ?_ | refine keep_alloc ?_ | refine keep_fr (by assumption) ?_))) (rowN_size _ _ _ _) (rowN_size _ _ _ _) (rowN_rowOne _ _ _ _)]; go_simp))
 refine hK.out _ _ ?_ (fun hHeld => ?_)
 ·((try dsimp only) <;> (first | exact ⟨⟨keep_alloc hHeld.1.1,keep_alloc hHeld.1.2⟩,hHeld.2.alloc _⟩ | exact ⟨⟨keep_row (by have := HG0.out; omega) hHeld.1.1,keep_row (by have := HG0.out; omega) hHeld.1.2⟩,hHeld.2.setRow (fun h => by have := HG0.out; omega) _⟩))
 clear hK K
 try (simp only [Act.put,aST]; dsimp only [aS0,aS1])
 refine rtake 12 ?_
 refine rdone ?_
 rotate_left
 go_simp
 refine hK.out _ _ ?_ (fun hHeld => ?_)
 ·((try dsimp only) <;> (first | exact ⟨⟨keep_alloc hHeld.1.1,keep_alloc hHeld.1.2⟩,hHeld.2.alloc _⟩ | exact ⟨⟨keep_row (by have := HG0.out; omega) hHeld.1.1,keep_row (by have := HG0.out; omega) hHeld.1.2⟩,hHeld.2.setRow (fun h => by have := HG0.out; omega) _⟩))
 clear hK K
 try (simp only [Act.put,aST]; dsimp only [aS0,aS1])
 refine rone 3 fun K hK => ?_
 go_simp
 (refine (HD.out _).mono ?_; rintro e w5 ⟨rfl,f5⟩; have z5 := f5.size; (try simp only [World.size_alloc,heap_drew'] at z5))
 refine hK.out _ _ ?_ (fun hHeld => ?_)
 ·((try dsimp only) <;> (exact ⟨⟨keep_fr f5 hHeld.1.1,keep_fr f5 hHeld.1.2⟩,hHeld.2.trans' f5⟩))
 clear hK K
 try (simp only [Act.put,aST]; dsimp only [aS0,aS1])
 refine rtake 4 ?_
 refine rtake 5 ?_
 refine rtake 6 ?_
 refine rtake 7 ?_
 refine rone 10 fun K hK => ?_
 go_simp
 (try (rw [rowIn_of (old := rowN .u64 64 4 0) (t' := 73) (by ((try rw [← Array.getElem?_eq_getElem]); repeat (first | exact heap_alloc_new _ _ | exact heap_alloc2_new _ _ _ | refine keep_alloc ?_ | refine keep_fr (by assumption) ?_))) (rowN_size _ _ _ _) (rowN_size _ _ _ _) (rowN_rowOne _ _ _ _)]; go_simp))
 refine hK.out _ _ ?_ (fun hHeld => ?_)
 ·((try dsimp only) <;> (first | exact ⟨⟨keep_alloc hHeld.1.1,keep_alloc hHeld.1.2⟩,hHeld.2.alloc _⟩ | exact ⟨⟨keep_row (by have := HG0.out; omega) hHeld.1.1,keep_row (by have := HG0.out; omega) hHeld.1.2⟩,hHeld.2.setRow (fun h => by have := HG0.out; omega) _⟩))
 clear hK K
 try (simp only [Act.put,aST]; dsimp only [aS0,aS1])
 refine rone 11 fun K hK => ?_
 go_simp
 (try (rw [rowIn_of (old := rowN .u64 64 4 0) (t' := 73) (by ((try rw [← Array.getElem?_eq_getElem]); repeat (first | exact heap_alloc_new _ _ | exact heap_alloc2_new _ _ _ | refine keep_row (by (try simp only [World.size_alloc]); omega) ?_ | refine keep_alloc ?_ | refine keep_fr (by assumption) ?_))) (rowN_size _ _ _ _) (rowN_size _ _ _ _) (rowN_rowOne _ _ _ _)]; go_simp))
 refine hK.out _ _ ?_ (fun hHeld => ?_)
 ·((try dsimp only) <;> (first | exact ⟨⟨keep_alloc hHeld.1.1,keep_alloc hHeld.1.2⟩,hHeld.2.alloc _⟩ | exact ⟨⟨keep_row (by have := HG0.out; omega) hHeld.1.1,keep_row (by have := HG0.out; omega) hHeld.1.2⟩,hHeld.2.setRow (fun h => by have := HG0.out; omega) _⟩))
 clear hK K
 try (simp only [Act.put,aST]; dsimp only [aS0,aS1])
 refine rtake 12 ?_
 refine rdone ?_
 rotate_left
 go_simp
 refine hK.out _ _ ?_ (fun hHeld => ?_)
 ·((try dsimp only) <;> (first | exact ⟨⟨keep_alloc hHeld.1.1,keep_alloc hHeld.1.2⟩,hHeld.2.alloc _⟩ | exact ⟨⟨keep_row (by have := HG0.out; omega) hHeld.1.1,keep_row (by have := HG0.out; omega) hHeld.1.2⟩,hHeld.2.setRow (fun h => by have := HG0.out; omega) _⟩))
 clear hK K
 try (simp only [Act.put,aST]; dsimp only [aS0,aS1])
 refine wpAnyH_ready (rs := [3,8]) (by kernel_rfl) (by simp) ?_
 refine AllReadyH.cons (o := ⟨_,_,_,_,_,_⟩) rfl (fun K hK => ?_) (AllReadyH.cons (o := ⟨_,_,_,_,_,_⟩) rfl (fun K hK => ?_) AllReadyH.nil)
 go_simp
 (refine (HD.out _).mono ?_; rintro e w5 ⟨rfl,f5⟩; have z5 := f5.size; (try simp only [World.size_alloc,heap_drew'] at z5))
 refine hK.out _ _ ?_ (fun hHeld => ?_)
 ·((try dsimp only) <;> (exact ⟨⟨keep_fr f5 hHeld.1.1,keep_fr f5 hHeld.1.2⟩,hHeld.2.trans' f5⟩))
 clear hK K
 try (simp only [Act.put,aST]; dsimp only [aS0,aS1])
 refine rtake 4 ?_
 refine rtake 5 ?_
 refine rtake 6 ?_
 refine rtake 7 ?_
 refine rone 8 fun K hK => ?_
 go_simp
 refine hK.out _ _ ?_ (fun hHeld => ?_)
 ·((try dsimp only) <;> (first | exact ⟨⟨keep_alloc hHeld.1.1,keep_alloc hHeld.1.2⟩,hHeld.2.alloc _⟩ | exact ⟨⟨keep_row (by have := HG0.out; omega) hHeld.1.1,keep_row (by have := HG0.out; omega) hHeld.1.2⟩,hHeld.2.setRow (fun h => by have := HG0.out; omega) _⟩))
 clear hK K
 try (simp only [Act.put,aST]; dsimp only [aS0,aS1])
 refine rone 10 fun K hK => ?_
 go_simp
 (try (rw [rowIn_of (old := rowN .u64 64 4 0) (t' := 73) (by ((try rw [← Array.getElem?_eq_getElem]); repeat (first | exact heap_alloc_new _ _ | exact heap_alloc2_new _ _ _ | refine keep_alloc ?_ | refine keep_fr (by assumption) ?_))) (rowN_size _ _ _ _) (rowN_size _ _ _ _) (rowN_rowOne _ _ _ _)]; go_simp))
 refine hK.out _ _ ?_ (fun hHeld => ?_)
 ·((try dsimp only) <;> (first | exact ⟨⟨keep_alloc hHeld.1.1,keep_alloc hHeld.1.2⟩,hHeld.2.alloc _⟩ | exact ⟨⟨keep_row (by have := HG0.out; omega) hHeld.1.1,keep_row (by have := HG0.out; omega) hHeld.1.2⟩,hHeld.2.setRow (fun h => by have := HG0.out; omega) _⟩))
 clear hK K
 try (simp only [Act.put,aST]; dsimp only [aS0,aS1])
 refine rone 11 fun K hK => ?_
 go_simp
 (try (rw [rowIn_of (old := rowN .u64 64 4 0) (t' := 73) (by ((try rw [← Array.getElem?_eq_getElem]); repeat (first | exact heap_alloc_new _ _ | exact heap_alloc2_new _ _ _ | refine keep_row (by (try simp only [World.size_alloc]); omega) ?_ | refine keep_alloc ?_ | refine keep_fr (by assumption) ?_))) (rowN_size _ _ _ _) (rowN_size _ _ _ _) (rowN_rowOne _ _ _ _)]; go_simp))
 refine hK.out _ _ ?_ (fun hHeld => ?_)
 ·((try dsimp only) <;> (first | exact ⟨⟨keep_alloc hHeld.1.1,keep_alloc hHeld.1.2⟩,hHeld.2.alloc _⟩ | exact ⟨⟨keep_row (by have := HG0.out; omega) hHeld.1.1,keep_row (by have := HG0.out; omega) hHeld.1.2⟩,hHeld.2.setRow (fun h => by have := HG0.out; omega) _⟩))
 clear hK K
 try (simp only [Act.put,aST]; dsimp only [aS0,aS1])
 refine rtake 12 ?_
 refine rdone ?_
 rotate_left
 go_simp
 refine hK.out _ _ ?_ (fun hHeld => ?_)
 ·((try dsimp only) <;> (first | exact ⟨⟨keep_alloc hHeld.1.1,keep_alloc hHeld.1.2⟩,hHeld.2.alloc _⟩ | exact ⟨⟨keep_row (by have := HG0.out; omega) hHeld.1.1,keep_row (by have := HG0.out; omega) hHeld.1.2⟩,hHeld.2.setRow (fun h => by have := HG0.out; omega) _⟩))
 clear hK K
 try (simp only [Act.put,aST]; dsimp only [aS0,aS1])
 refine rone 3 fun K hK => ?_
 go_simp
 (refine (HD.out _).mono ?_; rintro e w5 ⟨rfl,f5⟩; have z5 := f5.size; (try simp only [World.size_alloc,heap_drew'] at z5))
 refine hK.out _ _ ?_ (fun hHeld => ?_)
 ·((try dsimp only) <;> (exact ⟨⟨keep_fr f5 hHeld.1.1,keep_fr f5 hHeld.1.2⟩,hHeld.2.trans' f5⟩))
 clear hK K
 try (simp only [Act.put,aST]; dsimp only [aS0,aS1])
 refine rtake 4 ?_
 refine rtake 5 ?_
 refine rtake 6 ?_
 refine rtake 7 ?_
 refine rone 10 fun K hK => ?_
 go_simp
 (try (rw [rowIn_of (old := rowN .u64 64 4 0) (t' := 73) (by ((try rw [← Array.getElem?_eq_getElem]); repeat (first | exact heap_alloc_new _ _ | exact heap_alloc2_new _ _ _ | refine keep_alloc ?_ | refine keep_fr (by assumption) ?_))) (rowN_size _ _ _ _) (rowN_size _ _ _ _) (rowN_rowOne _ _ _ _)]; go_simp))
 refine hK.out _ _ ?_ (fun hHeld => ?_)
 ·((try dsimp only) <;> (first | exact ⟨⟨keep_alloc hHeld.1.1,keep_alloc hHeld.1.2⟩,hHeld.2.alloc _⟩ | exact ⟨⟨keep_row (by have := HG0.out; omega) hHeld.1.1,keep_row (by have := HG0.out; omega) hHeld.1.2⟩,hHeld.2.setRow (fun h => by have := HG0.out; omega) _⟩))
 clear hK K
 try (simp only [Act.put,aST]; dsimp only [aS0,aS1])
 refine rone 11 fun K hK => ?_
 go_simp
 (try (rw [rowIn_of (old := rowN .u64 64 4 0) (t' := 73) (by ((try rw [← Array.getElem?_eq_getElem]); repeat (first | exact heap_alloc_new _ _ | exact heap_alloc2_new _ _ _ | refine keep_row (by (try simp only [World.size_alloc]); omega) ?_ | refine keep_alloc ?_ | refine keep_fr (by assumption) ?_))) (rowN_size _ _ _ _) (rowN_size _ _ _ _) (rowN_rowOne _ _ _ _)]; go_simp))
 refine hK.out _ _ ?_ (fun hHeld => ?_)
 ·((try dsimp only) <;> (first | exact ⟨⟨keep_alloc hHeld.1.1,keep_alloc hHeld.1.2⟩,hHeld.2.alloc _⟩ | exact ⟨⟨keep_row (by have := HG0.out; omega) hHeld.1.1,keep_row (by have := HG0.out; omega) hHeld.1.2⟩,hHeld.2.setRow (fun h => by have := HG0.out; omega) _⟩))
 clear hK K
 try (simp only [Act.put,aST]; dsimp only [aS0,aS1])
 refine rtake 12 ?_
 refine rdone ?_
 rotate_left
 go_simp
 refine hK.out _ _ ?_ (fun hHeld => ?_)
 ·((try dsimp only) <;> (first | exact ⟨⟨keep_alloc hHeld.1.1,keep_alloc hHeld.1.2⟩,hHeld.2.alloc _⟩ | exact ⟨⟨keep_row (by have := HG0.out; omega) hHeld.1.1,keep_row (by have := HG0.out; omega) hHeld.1.2⟩,hHeld.2.setRow (fun h => by have := HG0.out; omega) _⟩))
 clear hK K
 try (simp only [Act.put,aST]; dsimp only [aS0,aS1])
 refine wpAnyH_ready (rs := [2,9]) (by kernel_rfl) (by simp) ?_
 refine AllReadyH.cons (o := ⟨_,_,_,_,_,_⟩) rfl (fun K hK => ?_) (AllReadyH.cons (o := ⟨_,_,_,_,_,_⟩) rfl (fun K hK => ?_) AllReadyH.nil)
 go_simp
 (refine (HO.out _).mono ?_; rintro e w5 ⟨rfl,f5⟩; have z5 := f5.size; (try simp only [World.size_alloc,heap_drew'] at z5))
 refine hK.out _ _ ?_ (fun hHeld => ?_)
 ·((try dsimp only) <;> (exact ⟨⟨keep_fr f5 hHeld.1.1,keep_fr f5 hHeld.1.2⟩,hHeld.2.trans' f5⟩))
 clear hK K
 try (simp only [Act.put,aST]; dsimp only [aS0,aS1])
 refine wpAnyH_ready (rs := [3,9]) (by kernel_rfl) (by simp) ?_
 refine AllReadyH.cons (o := ⟨_,_,_,_,_,_⟩) rfl (fun K hK => ?_) (AllReadyH.cons (o := ⟨_,_,_,_,_,_⟩) rfl (fun K hK => ?_) AllReadyH.nil)
 go_simp
 (refine (HD.out _).mono ?_; rintro e w5 ⟨rfl,f5⟩; have z5 := f5.size; (try simp only [World.size_alloc,heap_drew'] at z5))
 refine hK.out _ _ ?_ (fun hHeld => ?_)
 ·((try dsimp only) <;> (exact ⟨⟨keep_fr f5 hHeld.1.1,keep_fr f5 hHeld.1.2⟩,hHeld.2.trans' f5⟩))
 clear hK K
 try (simp only [Act.put,aST]; dsimp only [aS0,aS1])
 refine rtake 4 ?_
 refine rtake 5 ?_
 refine rtake 6 ?_
 refine rtake 7 ?_
 refine rone 9 fun K hK => ?_
 go_simp
 refine hK.out _ _ ?_ (fun hHeld => ?_)
 ·((try dsimp only) <;> (first | exact ⟨⟨keep_alloc hHeld.1.1,keep_alloc hHeld.1.2⟩,hHeld.2.alloc _⟩ | exact ⟨⟨keep_row (by have := HG0.out; omega) hHeld.1.1,keep_row (by have := HG0.out; omega) hHeld.1.2⟩,hHeld.2.setRow (fun h => by have := HG0.out; omega) _⟩))
 clear hK K
 try (simp only [Act.put,aST]; dsimp only [aS0,aS1])
 refine rone 10 fun K hK => ?_
 go_simp
 (try (rw [rowIn_of (old := rowN .u64 64 4 0) (t' := 73) (by ((try rw [← Array.getElem?_eq_getElem]); repeat (first | exact heap_alloc_new _ _ | exact heap_alloc2_new _ _ _ | refine keep_alloc ?_ | refine keep_fr (by assumption) ?_))) (rowN_size _ _ _ _) (rowN_size _ _ _ _) (rowN_rowOne _ _ _ _)]; go_simp))
 refine hK.out _ _ ?_ (fun hHeld => ?_)
 ·((try dsimp only) <;> (first | exact ⟨⟨keep_alloc hHeld.1.1,keep_alloc hHeld.1.2⟩,hHeld.2.alloc _⟩ | exact ⟨⟨keep_row (by have := HG0.out; omega) hHeld.1.1,keep_row (by have := HG0.out; omega) hHeld.1.2⟩,hHeld.2.setRow (fun h => by have := HG0.out; omega) _⟩))
 clear hK K
 try (simp only [Act.put,aST]; dsimp only [aS0,aS1])
 refine rone 11 fun K hK => ?_
 go_simp
 (try (rw [rowIn_of (old := rowN .u64 64 4 0) (t' := 73) (by ((try rw [← Array.getElem?_eq_getElem]); repeat (first | exact heap_alloc_new _ _ | exact heap_alloc2_new _ _ _ | refine keep_row (by (try simp only [World.size_alloc]); omega) ?_ | refine keep_alloc ?_ | refine keep_fr (by assumption) ?_))) (rowN_size _ _ _ _) (rowN_size _ _ _ _) (rowN_rowOne _ _ _ _)]; go_simp))
 refine hK.out _ _ ?_ (fun hHeld => ?_)
 ·((try dsimp only) <;> (first | exact ⟨⟨keep_alloc hHeld.1.1,keep_alloc hHeld.1.2⟩,hHeld.2.alloc _⟩ | exact ⟨⟨keep_row (by have := HG0.out; omega) hHeld.1.1,keep_row (by have := HG0.out; omega) hHeld.1.2⟩,hHeld.2.setRow (fun h => by have := HG0.out; omega) _⟩))
 clear hK K
 try (simp only [Act.put,aST]; dsimp only [aS0,aS1])
 refine rtake 12 ?_
 refine rdone ?_
 rotate_left
 go_simp
 refine hK.out _ _ ?_ (fun hHeld => ?_)
 ·((try dsimp only) <;> (first | exact ⟨⟨keep_alloc hHeld.1.1,keep_alloc hHeld.1.2⟩,hHeld.2.alloc _⟩ | exact ⟨⟨keep_row (by have := HG0.out; omega) hHeld.1.1,keep_row (by have := HG0.out; omega) hHeld.1.2⟩,hHeld.2.setRow (fun h => by have := HG0.out; omega) _⟩))
 clear hK K
 try (simp only [Act.put,aST]; dsimp only [aS0,aS1])
 refine rone 3 fun K hK => ?_
 go_simp
 (refine (HD.out _).mono ?_; rintro e w5 ⟨rfl,f5⟩; have z5 := f5.size; (try simp only [World.size_alloc,heap_drew'] at z5))
 refine hK.out _ _ ?_ (fun hHeld => ?_)
 ·((try dsimp only) <;> (exact ⟨⟨keep_fr f5 hHeld.1.1,keep_fr f5 hHeld.1.2⟩,hHeld.2.trans' f5⟩))
 clear hK K
 try (simp only [Act.put,aST]; dsimp only [aS0,aS1])
 refine rtake 4 ?_
 refine rtake 5 ?_
 refine rtake 6 ?_
 refine rtake 7 ?_
 refine rone 10 fun K hK => ?_
 go_simp
 (try (rw [rowIn_of (old := rowN .u64 64 4 0) (t' := 73) (by ((try rw [← Array.getElem?_eq_getElem]); repeat (first | exact heap_alloc_new _ _ | exact heap_alloc2_new _ _ _ | refine keep_alloc ?_ | refine keep_fr (by assumption) ?_))) (rowN_size _ _ _ _) (rowN_size _ _ _ _) (rowN_rowOne _ _ _ _)]; go_simp))
 refine hK.out _ _ ?_ (fun hHeld => ?_)
 ·((try dsimp only) <;> (first | exact ⟨⟨keep_alloc hHeld.1.1,keep_alloc hHeld.1.2⟩,hHeld.2.alloc _⟩ | exact ⟨⟨keep_row (by have := HG0.out; omega) hHeld.1.1,keep_row (by have := HG0.out; omega) hHeld.1.2⟩,hHeld.2.setRow (fun h => by have := HG0.out; omega) _⟩))
 clear hK K
 try (simp only [Act.put,aST]; dsimp only [aS0,aS1])
 refine rone 11 fun K hK => ?_
 go_simp
 (try (rw [rowIn_of (old := rowN .u64 64 4 0) (t' := 73) (by ((try rw [← Array.getElem?_eq_getElem]); repeat (first | exact heap_alloc_new _ _ | exact heap_alloc2_new _ _ _ | refine keep_row (by (try simp only [World.size_alloc]); omega) ?_ | refine keep_alloc ?_ | refine keep_fr (by assumption) ?_))) (rowN_size _ _ _ _) (rowN_size _ _ _ _) (rowN_rowOne _ _ _ _)]; go_simp))
 refine hK.out _ _ ?_ (fun hHeld => ?_)
 ·((try dsimp only) <;> (first | exact ⟨⟨keep_alloc hHeld.1.1,keep_alloc hHeld.1.2⟩,hHeld.2.alloc _⟩ | exact ⟨⟨keep_row (by have := HG0.out; omega) hHeld.1.1,keep_row (by have := HG0.out; omega) hHeld.1.2⟩,hHeld.2.setRow (fun h => by have := HG0.out; omega) _⟩))
 clear hK K
 try (simp only [Act.put,aST]; dsimp only [aS0,aS1])
 refine rtake 12 ?_
 refine rdone ?_
 rotate_left
 go_simp
 refine hK.out _ _ ?_ (fun hHeld => ?_)
 ·((try dsimp only) <;> (first | exact ⟨⟨keep_alloc hHeld.1.1,keep_alloc hHeld.1.2⟩,hHeld.2.alloc _⟩ | exact ⟨⟨keep_row (by have := HG0.out; omega) hHeld.1.1,keep_row (by have := HG0.out; omega) hHeld.1.2⟩,hHeld.2.setRow (fun h => by have := HG0.out; omega) _⟩))
 clear hK K
 try (simp only [Act.put,aST]; dsimp only [aS0,aS1])
 refine rone 2 fun K hK => ?_
 go_simp
 (refine (HO.out _).mono ?_; rintro e w5 ⟨rfl,f5⟩; have z5 := f5.size; (try simp only [World.size_alloc,heap_drew'] at z5))
 refine hK.out _ _ ?_ (fun hHeld => ?_)
 ·((try dsimp only) <;> (exact ⟨⟨keep_fr f5 hHeld.1.1,keep_fr f5 hHeld.1.2⟩,hHeld.2.trans' f5⟩))
 clear hK K
 try (simp only [Act.put,aST]; dsimp only [aS0,aS1])
 refine rone 3 fun K hK => ?_
 go_simp
 (refine (HD.out _).mono ?_; rintro e w5 ⟨rfl,f5⟩; have z5 := f5.size; (try simp only [World.size_alloc,heap_drew'] at z5))
 refine hK.out _ _ ?_ (fun hHeld => ?_)
 ·((try dsimp only) <;> (exact ⟨⟨keep_fr f5 hHeld.1.1,keep_fr f5 hHeld.1.2⟩,hHeld.2.trans' f5⟩))
 clear hK K
 try (simp only [Act.put,aST]; dsimp only [aS0,aS1])
 refine rtake 4 ?_
 refine rtake 5 ?_
 refine rtake 6 ?_
 refine rtake 7 ?_
 refine rone 10 fun K hK => ?_
 go_simp
 (try (rw [rowIn_of (old := rowN .u64 64 4 0) (t' := 73) (by ((try rw [← Array.getElem?_eq_getElem]); repeat (first | exact heap_alloc_new _ _ | exact heap_alloc2_new _ _ _ | refine keep_alloc ?_ | refine keep_fr (by assumption) ?_))) (rowN_size _ _ _ _) (rowN_size _ _ _ _) (rowN_rowOne _ _ _ _)]; go_simp))
 refine hK.out _ _ ?_ (fun hHeld => ?_)
 ·((try dsimp only) <;> (first | exact ⟨⟨keep_alloc hHeld.1.1,keep_alloc hHeld.1.2⟩,hHeld.2.alloc _⟩ | exact ⟨⟨keep_row (by have := HG0.out; omega) hHeld.1.1,keep_row (by have := HG0.out; omega) hHeld.1.2⟩,hHeld.2.setRow (fun h => by have := HG0.out; omega) _⟩))
 clear hK K
 try (simp only [Act.put,aST]; dsimp only [aS0,aS1])
 refine rone 11 fun K hK => ?_
 go_simp
 (try (rw [rowIn_of (old := rowN .u64 64 4 0) (t' := 73) (by ((try rw [← Array.getElem?_eq_getElem]); repeat (first | exact heap_alloc_new _ _ | exact heap_alloc2_new _ _ _ | refine keep_row (by (try simp only [World.size_alloc]); omega) ?_ | refine keep_alloc ?_ | refine keep_fr (by assumption) ?_))) (rowN_size _ _ _ _) (rowN_size _ _ _ _) (rowN_rowOne _ _ _ _)]; go_simp))
 refine hK.out _ _ ?_ (fun hHeld => ?_)
 ·((try dsimp only) <;> (first | exact ⟨⟨keep_alloc hHeld.1.1,keep_alloc hHeld.1.2⟩,hHeld.2.alloc _⟩ | exact ⟨⟨keep_row (by have := HG0.out; omega) hHeld.1.1,keep_row (by have := HG0.out; omega) hHeld.1.2⟩,hHeld.2.setRow (fun h => by have := HG0.out; omega) _⟩))
 clear hK K
 try (simp only [Act.put,aST]; dsimp only [aS0,aS1])
 refine rtake 12 ?_
 refine rdone ?_
 rotate_left
 go_simp
 refine hK.out _ _ ?_ (fun hHeld => ?_)
 ·((try dsimp only) <;> (first | exact ⟨⟨keep_alloc hHeld.1.1,keep_alloc hHeld.1.2⟩,hHeld.2.alloc _⟩ | exact ⟨⟨keep_row (by have := HG0.out; omega) hHeld.1.1,keep_row (by have := HG0.out; omega) hHeld.1.2⟩,hHeld.2.setRow (fun h => by have := HG0.out; omega) _⟩))
 clear hK K
 try (simp only [Act.put,aST]; dsimp only [aS0,aS1])
 refine wpAnyH_ready (rs := [2,8]) (by kernel_rfl) (by simp) ?_
 refine AllReadyH.cons (o := ⟨_,_,_,_,_,_⟩) rfl (fun K hK => ?_) (AllReadyH.cons (o := ⟨_,_,_,_,_,_⟩) rfl (fun K hK => ?_) AllReadyH.nil)
 go_simp
 (refine (HO.out _).mono ?_; rintro e w5 ⟨rfl,f5⟩; have z5 := f5.size; (try simp only [World.size_alloc,heap_drew'] at z5))
 refine hK.out _ _ ?_ (fun hHeld => ?_)
 ·((try dsimp only) <;> (exact ⟨⟨keep_fr f5 hHeld.1.1,keep_fr f5 hHeld.1.2⟩,hHeld.2.trans' f5⟩))
 clear hK K
 try (simp only [Act.put,aST]; dsimp only [aS0,aS1])
 refine wpAnyH_ready (rs := [3,8]) (by kernel_rfl) (by simp) ?_
 refine AllReadyH.cons (o := ⟨_,_,_,_,_,_⟩) rfl (fun K hK => ?_) (AllReadyH.cons (o := ⟨_,_,_,_,_,_⟩) rfl (fun K hK => ?_) AllReadyH.nil)
 go_simp
 (refine (HD.out _).mono ?_; rintro e w5 ⟨rfl,f5⟩; have z5 := f5.size; (try simp only [World.size_alloc,heap_drew'] at z5))
 refine hK.out _ _ ?_ (fun hHeld => ?_)
 ·((try dsimp only) <;> (exact ⟨⟨keep_fr f5 hHeld.1.1,keep_fr f5 hHeld.1.2⟩,hHeld.2.trans' f5⟩))
 clear hK K
 try (simp only [Act.put,aST]; dsimp only [aS0,aS1])
 refine rtake 4 ?_
 refine rtake 5 ?_
 refine rtake 6 ?_
 refine rtake 7 ?_
 refine rone 8 fun K hK => ?_
 go_simp
 refine hK.out _ _ ?_ (fun hHeld => ?_)
 ·((try dsimp only) <;> (first | exact ⟨⟨keep_alloc hHeld.1.1,keep_alloc hHeld.1.2⟩,hHeld.2.alloc _⟩ | exact ⟨⟨keep_row (by have := HG0.out; omega) hHeld.1.1,keep_row (by have := HG0.out; omega) hHeld.1.2⟩,hHeld.2.setRow (fun h => by have := HG0.out; omega) _⟩))
 clear hK K
 try (simp only [Act.put,aST]; dsimp only [aS0,aS1])
 refine rone 10 fun K hK => ?_
 go_simp
 (try (rw [rowIn_of (old := rowN .u64 64 4 0) (t' := 73) (by ((try rw [← Array.getElem?_eq_getElem]); repeat (first | exact heap_alloc_new _ _ | exact heap_alloc2_new _ _ _ | refine keep_alloc ?_ | refine keep_fr (by assumption) ?_))) (rowN_size _ _ _ _) (rowN_size _ _ _ _) (rowN_rowOne _ _ _ _)]; go_simp))
 refine hK.out _ _ ?_ (fun hHeld => ?_)
 ·((try dsimp only) <;> (first | exact ⟨⟨keep_alloc hHeld.1.1,keep_alloc hHeld.1.2⟩,hHeld.2.alloc _⟩ | exact ⟨⟨keep_row (by have := HG0.out; omega) hHeld.1.1,keep_row (by have := HG0.out; omega) hHeld.1.2⟩,hHeld.2.setRow (fun h => by have := HG0.out; omega) _⟩))
 clear hK K
 try (simp only [Act.put,aST]; dsimp only [aS0,aS1])
 refine rone 11 fun K hK => ?_
 go_simp
 (try (rw [rowIn_of (old := rowN .u64 64 4 0) (t' := 73) (by ((try rw [← Array.getElem?_eq_getElem]); repeat (first | exact heap_alloc_new _ _ | exact heap_alloc2_new _ _ _ | refine keep_row (by (try simp only [World.size_alloc]); omega) ?_ | refine keep_alloc ?_ | refine keep_fr (by assumption) ?_))) (rowN_size _ _ _ _) (rowN_size _ _ _ _) (rowN_rowOne _ _ _ _)]; go_simp))
 refine hK.out _ _ ?_ (fun hHeld => ?_)
 ·((try dsimp only) <;> (first | exact ⟨⟨keep_alloc hHeld.1.1,keep_alloc hHeld.1.2⟩,hHeld.2.alloc _⟩ | exact ⟨⟨keep_row (by have := HG0.out; omega) hHeld.1.1,keep_row (by have := HG0.out; omega) hHeld.1.2⟩,hHeld.2.setRow (fun h => by have := HG0.out; omega) _⟩))
 clear hK K
 try (simp only [Act.put,aST]; dsimp only [aS0,aS1])
 refine rtake 12 ?_
 refine rdone ?_
 rotate_left
 go_simp
 refine hK.out _ _ ?_ (fun hHeld => ?_)
 ·((try dsimp only) <;> (first | exact ⟨⟨keep_alloc hHeld.1.1,keep_alloc hHeld.1.2⟩,hHeld.2.alloc _⟩ | exact ⟨⟨keep_row (by have := HG0.out; omega) hHeld.1.1,keep_row (by have := HG0.out; omega) hHeld.1.2⟩,hHeld.2.setRow (fun h => by have := HG0.out; omega) _⟩))
 clear hK K
 try (simp only [Act.put,aST]; dsimp only [aS0,aS1])
 refine rone 3 fun K hK => ?_
 go_simp
 (refine (HD.out _).mono ?_; rintro e w5 ⟨rfl,f5⟩; have z5 := f5.size; (try simp only [World.size_alloc,heap_drew'] at z5))
 refine hK.out _ _ ?_ (fun hHeld => ?_)
 ·((try dsimp only) <;> (exact ⟨⟨keep_fr f5 hHeld.1.1,keep_fr f5 hHeld.1.2⟩,hHeld.2.trans' f5⟩))
 clear hK K
 try (simp only [Act.put,aST]; dsimp only [aS0,aS1])
 refine rtake 4 ?_
 refine rtake 5 ?_
 refine rtake 6 ?_
 refine rtake 7 ?_
 refine rone 10 fun K hK => ?_
 go_simp
 (try (rw [rowIn_of (old := rowN .u64 64 4 0) (t' := 73) (by ((try rw [← Array.getElem?_eq_getElem]); repeat (first | exact heap_alloc_new _ _ | exact heap_alloc2_new _ _ _ | refine keep_alloc ?_ | refine keep_fr (by assumption) ?_))) (rowN_size _ _ _ _) (rowN_size _ _ _ _) (rowN_rowOne _ _ _ _)]; go_simp))
 refine hK.out _ _ ?_ (fun hHeld => ?_)
 ·((try dsimp only) <;> (first | exact ⟨⟨keep_alloc hHeld.1.1,keep_alloc hHeld.1.2⟩,hHeld.2.alloc _⟩ | exact ⟨⟨keep_row (by have := HG0.out; omega) hHeld.1.1,keep_row (by have := HG0.out; omega) hHeld.1.2⟩,hHeld.2.setRow (fun h => by have := HG0.out; omega) _⟩))
 clear hK K
 try (simp only [Act.put,aST]; dsimp only [aS0,aS1])
 refine rone 11 fun K hK => ?_
 go_simp
 (try (rw [rowIn_of (old := rowN .u64 64 4 0) (t' := 73) (by ((try rw [← Array.getElem?_eq_getElem]); repeat (first | exact heap_alloc_new _ _ | exact heap_alloc2_new _ _ _ | refine keep_row (by (try simp only [World.size_alloc]); omega) ?_ | refine keep_alloc ?_ | refine keep_fr (by assumption) ?_))) (rowN_size _ _ _ _) (rowN_size _ _ _ _) (rowN_rowOne _ _ _ _)]; go_simp))
 refine hK.out _ _ ?_ (fun hHeld => ?_)
 ·((try dsimp only) <;> (first | exact ⟨⟨keep_alloc hHeld.1.1,keep_alloc hHeld.1.2⟩,hHeld.2.alloc _⟩ | exact ⟨⟨keep_row (by have := HG0.out; omega) hHeld.1.1,keep_row (by have := HG0.out; omega) hHeld.1.2⟩,hHeld.2.setRow (fun h => by have := HG0.out; omega) _⟩))
 clear hK K
 try (simp only [Act.put,aST]; dsimp only [aS0,aS1])
 refine rtake 12 ?_
 refine rdone ?_
 rotate_left
 go_simp
 refine hK.out _ _ ?_ (fun hHeld => ?_)
 ·((try dsimp only) <;> (first | exact ⟨⟨keep_alloc hHeld.1.1,keep_alloc hHeld.1.2⟩,hHeld.2.alloc _⟩ | exact ⟨⟨keep_row (by have := HG0.out; omega) hHeld.1.1,keep_row (by have := HG0.out; omega) hHeld.1.2⟩,hHeld.2.setRow (fun h => by have := HG0.out; omega) _⟩))
 clear hK K
 try (simp only [Act.put,aST]; dsimp only [aS0,aS1])
 refine rone 2 fun K hK => ?_
 go_simp
 (refine (HO.out _).mono ?_; rintro e w5 ⟨rfl,f5⟩; have z5 := f5.size; (try simp only [World.size_alloc,heap_drew'] at z5))
 refine hK.out _ _ ?_ (fun hHeld => ?_)
 ·((try dsimp only) <;> (exact ⟨⟨keep_fr f5 hHeld.1.1,keep_fr f5 hHeld.1.2⟩,hHeld.2.trans' f5⟩))
 clear hK K
 try (simp only [Act.put,aST]; dsimp only [aS0,aS1])
 refine rone 3 fun K hK => ?_
 go_simp
 (refine (HD.out _).mono ?_; rintro e w5 ⟨rfl,f5⟩; have z5 := f5.size; (try simp only [World.size_alloc,heap_drew'] at z5))
 refine hK.out _ _ ?_ (fun hHeld => ?_)
 ·((try dsimp only) <;> (exact ⟨⟨keep_fr f5 hHeld.1.1,keep_fr f5 hHeld.1.2⟩,hHeld.2.trans' f5⟩))
 clear hK K
 try (simp only [Act.put,aST]; dsimp only [aS0,aS1])
 refine rtake 4 ?_
 refine rtake 5 ?_
 refine rtake 6 ?_
 refine rtake 7 ?_
 refine rone 10 fun K hK => ?_
 go_simp
 (try (rw [rowIn_of (old := rowN .u64 64 4 0) (t' := 73) (by ((try rw [← Array.getElem?_eq_getElem]); repeat (first | exact heap_alloc_new _ _ | exact heap_alloc2_new _ _ _ | refine keep_alloc ?_ | refine keep_fr (by assumption) ?_))) (rowN_size _ _ _ _) (rowN_size _ _ _ _) (rowN_rowOne _ _ _ _)]; go_simp))
 refine hK.out _ _ ?_ (fun hHeld => ?_)
 ·((try dsimp only) <;> (first | exact ⟨⟨keep_alloc hHeld.1.1,keep_alloc hHeld.1.2⟩,hHeld.2.alloc _⟩ | exact ⟨⟨keep_row (by have := HG0.out; omega) hHeld.1.1,keep_row (by have := HG0.out; omega) hHeld.1.2⟩,hHeld.2.setRow (fun h => by have := HG0.out; omega) _⟩))
 clear hK K
 try (simp only [Act.put,aST]; dsimp only [aS0,aS1])
 refine rone 11 fun K hK => ?_
 go_simp
 (try (rw [rowIn_of (old := rowN .u64 64 4 0) (t' := 73) (by ((try rw [← Array.getElem?_eq_getElem]); repeat (first | exact heap_alloc_new _ _ | exact heap_alloc2_new _ _ _ | refine keep_row (by (try simp only [World.size_alloc]); omega) ?_ | refine keep_alloc ?_ | refine keep_fr (by assumption) ?_))) (rowN_size _ _ _ _) (rowN_size _ _ _ _) (rowN_rowOne _ _ _ _)]; go_simp))
 refine hK.out _ _ ?_ (fun hHeld => ?_)
 ·((try dsimp only) <;> (first | exact ⟨⟨keep_alloc hHeld.1.1,keep_alloc hHeld.1.2⟩,hHeld.2.alloc _⟩ | exact ⟨⟨keep_row (by have := HG0.out; omega) hHeld.1.1,keep_row (by have := HG0.out; omega) hHeld.1.2⟩,hHeld.2.setRow (fun h => by have := HG0.out; omega) _⟩))
 clear hK K
 try (simp only [Act.put,aST]; dsimp only [aS0,aS1])
 refine rtake 12 ?_
 refine rdone ?_
 rotate_left
 all_goals
  refine hK.out ⟨⟨_,_,rfl,rfl,?_,?_⟩,hHeld.1,hHeld.2⟩
  ·refine keep_row (by (try simp only [World.size_alloc]); omega) (new_row (z := rowN .u64 64 4 0) (t := 73) (f := (0,0)) ?_)
   repeat (first | exact heap_alloc_new _ _ | exact heap_alloc2_new _ _ _ | refine keep_alloc ?_ | refine keep_fr (by assumption) ?_)
  ·refine new_row (z := rowN .u64 64 4 0) (t := 73) (f := (0,0)) (keep_row (by (try simp only [World.size_alloc]); omega) ?_)
   repeat (first | exact heap_alloc_new _ _ | exact heap_alloc2_new _ _ _ | refine keep_alloc ?_ | refine keep_fr (by assumption) ?_)
theorem times_core (t up by' Q R M X P r2' S : Nat) (bm bo o : Bool) (ho : (bm || bo) = o)
  (HO : Hid (∀ w,Calls Tryz.prog 56 #[.int .u64 (by' : Int)] w fun o w' => o = .returned (.agg (rowN .u64 64 4 by')) ∧ Fr F0 w w'))
  (HD : Hid (∀ w,Calls Tryz.prog 57 #[.agg (rowN .u64 64 4 t),.agg (rowN .u64 64 4 by')] w fun o w' => o = .returned (.tuple #[.agg (rowN .u64 64 4 Q),.agg (rowN .u64 64 4 R),.int .i64 0]) ∧ Fr F0 w w'))
  (HU : Hid (∀ w,Calls Tryz.prog 106 #[.agg (rowN .u64 64 4 R)] w fun o w' => o = .returned (.tuple #[.int .u64 (R : Int),.bool true]) ∧ Fr F0 w w'))
  (HM : Hid (∀ w,Calls Tryz.prog 101 #[.agg (rowN .u64 64 4 Q),.int .u64 (up : Int)] w fun o w' => o = .returned (.tuple #[.agg (rowN .u64 64 4 M),.bool bm]) ∧ Fr F0 w w'))
  (HP : Hid (∀ w,Calls Tryz.prog 118 #[.int .u64 (R : Int),.int .u64 (up : Int)] w fun o w' => o = .returned (.agg (rowN .u64 64 4 X)) ∧ Fr F0 w w'))
  (HE : Hid (∀ w,Calls Tryz.prog 57 #[.agg (rowN .u64 64 4 X),.agg (rowN .u64 64 4 by')] w fun o w' => o = .returned (.tuple #[.agg (rowN .u64 64 4 P),.agg (rowN .u64 64 4 r2'),.int .i64 0]) ∧ Fr F0 w w'))
  (HA : Hid (∀ w,Calls Tryz.prog 41 #[.agg (rowN .u64 64 4 M),.agg (rowN .u64 64 4 P)] w fun o w' => o = .returned (.tuple #[.agg (rowN .u64 64 4 S),.bool bo]) ∧ Fr F0 w w')) (w : World) :
  Calls Tryz.prog 104 #[.agg (rowN .u64 64 4 t),.int .u64 (up : Int),.int .u64 (by' : Int)] w fun e w' => e = .returned (.tuple #[.agg (rowN .u64 64 4 S),.bool o]) ∧ Fr F0 w w' := by
 have HO2 := Lib.hid ho
 clear ho
 go_enter Tryz.func104,Tryz.ntmps104
 go_upto_region 1 with fail
 obtain ⟨r0,r6⟩ := heap2 w (.cells (rowN .u64 64 4 t) 73) (.cells (rowN .u64 64 4 0) 73)
 have F := (((Fr.refl F0 w).alloc (.cells (rowN .u64 64 4 t) 73)).alloc (.cells (rowN .u64 64 4 0) 73))
 obtain ⟨W0,hW0⟩ : ∃ W,W = (w.alloc (.cells (rowN .u64 64 4 t) 73)).alloc (.cells (rowN .u64 64 4 0) 73) := ⟨_,rfl⟩
 rw [← hW0] at r0 r6 F
 refine wp_of_world W0 hW0 ?_
 clear hW0
 generalize hg6 : w.heap.size + 1 = g6 at *
 generalize hg0 : w.heap.size = g0 at *
 have HG := Lib.hid (show w.heap.size ≤ g6 by omega)
 clear hg0 hg6
 refine tm1 w W0 t by' Q R g0 g6 HO HD r0 r6 F (Lib.hid ?_)
 clear r0 r6 F
 rename_i w1
 rintro ⟨⟨p1,p2,rfl,rfl,r8,r9⟩,⟨r0,r6⟩,F⟩
 clear r0
 go_wp2_with fail
 (with_reducible refine (HU.out _).mono ?_); rintro e w2 ⟨rfl,f⟩
 replace r6 := keep_fr f r6
 replace r8 := keep_fr f r8
 replace F := F.trans' f
 clear f r9
 go_wp2_with fail
 (with_reducible refine (HM.out _).mono ?_); rintro e w3 ⟨rfl,f⟩
 replace r6 := keep_fr f r6
 replace F := F.trans' f
 clear f r8
 go_upto_region 4 with fail
 obtain ⟨W4,hW4⟩ : ∃ W,W = (w3.alloc (.cells (rowN .u64 64 4 0) 73)).setRow w3.heap.size (rowN .u64 64 4 M) := ⟨_,rfl⟩
 have N := put_new w3 (rowN .u64 64 4 0) (rowN .u64 64 4 M) 73
 rw [← hW4] at N
 refine wp_of_world W4 hW4 ?_
 have r13 := N.new
 replace r6 := N.old r6
 replace F := F.trans' N.fr
 clear N hW4
 generalize w3.heap.size = g13 at *
 go_wp2_with fail
 (with_reducible refine (HP.out _).mono ?_); rintro e w5 ⟨rfl,f⟩
 replace r6 := keep_fr f r6
 replace r13 := keep_fr f r13
 replace F := F.trans' f
 clear f
 go_wp2_with fail
 (with_reducible refine (HO.out _).mono ?_); rintro e w6 ⟨rfl,f⟩
 replace r6 := keep_fr f r6
 replace r13 := keep_fr f r13
 replace F := F.trans' f
 clear f
 go_wp2_with fail
 (with_reducible refine (HE.out _).mono ?_); rintro e w7 ⟨rfl,f⟩
 replace r6 := keep_fr f r6
 replace r13 := keep_fr f r13
 replace F := F.trans' f
 clear f
 go_upto_region 5 with fail
 obtain ⟨W8,hW8⟩ : ∃ W,W = (((w7.alloc (.cells (rowN .u64 64 4 0) 73)).alloc (.cells (rowN .u64 64 4 0) 73)).setRow w7.heap.size (rowN .u64 64 4 P)).setRow (w7.heap.size + 1) (rowN .u64 64 4 r2') := ⟨_,rfl⟩
 refine wp_of_world W8 hW8 ?_
 have hs := F.size
 have hl6 := (Array.getElem?_eq_some_iff.1 r6).1
 have hl13 := (Array.getElem?_eq_some_iff.1 r13).1
 replace F : Fr F0 w W8 := by rw [hW8]; exact ((F.alloc _).alloc _ |>.setRow (fun h => by omega) _).setRow (fun h => by omega) _
 replace r6 : W8.heap[g6]? = some (.cells (rowN .u64 64 4 0) 73 (0,0)) := by rw [hW8]; exact keep_row (by omega) (keep_row (by omega) (keep_alloc (keep_alloc r6)))
 replace r13 : W8.heap[g13]? = some (.cells (rowN .u64 64 4 M) 73 (0,0)) := by rw [hW8]; exact keep_row (by omega) (keep_row (by omega) (keep_alloc (keep_alloc r13)))
 obtain ⟨r15,r16⟩ := heap2 w7 (.cells (rowN .u64 64 4 0) 73) (.cells (rowN .u64 64 4 0) 73)
 clear r16
 replace r15 : W8.heap[w7.heap.size]? = some (.cells (rowN .u64 64 4 P) 73 (0,0)) := by rw [hW8,heap_setRow_ne _ _ _ _ (by omega),heap_setRow_at,r15]; rfl
 clear hW8 hs hl6 hl13
 generalize w7.heap.size + 1 = g16 at *
 generalize w7.heap.size = g15 at *
 go_wp2_with fail
 (with_reducible refine (HA.out _).mono ?_); rintro e w9 ⟨rfl,f⟩
 replace r6 := keep_fr f r6
 replace F := F.trans' f
 clear f r13 r15
 go_upto_region 6 with fail
 obtain ⟨W9,hW9⟩ : ∃ W,W = (w9.alloc (.cells (rowN .u64 64 4 0) 73)).setRow w9.heap.size (rowN .u64 64 4 S) := ⟨_,rfl⟩
 have N := put_new w9 (rowN .u64 64 4 0) (rowN .u64 64 4 S) 73
 rw [← hW9] at N
 refine wp_of_world W9 hW9 ?_
 have r18 := N.new
 replace r6 := N.old r6
 replace F := F.trans' N.fr
 clear N hW9
 generalize w9.heap.size = g18 at *
 cases bm
 ·go_wp2_with fail
  refine bodyPost_ret (res_row_tmp rfl _ _ g6 _ _ _ _ rfl (new_row r6) Tryz.underlying73 rfl (by rw [Tryz.szWide]; rfl)) rfl ⟨by rw [← HO2.out]; rfl,F.setRow (fun h => by have := HG.out; omega) _⟩
 ·go_wp2_with fail
  refine bodyPost_ret (res_row_tmp rfl _ _ g6 _ _ _ _ rfl (new_row r6) Tryz.underlying73 rfl (by rw [Tryz.szWide]; rfl)) rfl ⟨by rw [← HO2.out]; rfl,F.setRow (fun h => by have := HG.out; omega) _⟩
theorem times_num (t up b : Nat) (hb : 0 < b) : t * up / b = t / b * up + t % b * up / b := by
 have h := Nat.div_add_mod t b
 have e : t * up = b * (t / b * up) + t % b * up := by
  conv => lhs; rw [← h]
  rw [Nat.add_mul,Nat.mul_assoc]
 rw [e,Nat.mul_add_div hb]
theorem two_parts {a p n W : Nat} (hn : n = a + p) (hW : 0 < W) : (n < W → (a % W + p) % W = n) ∧ (decide (W ≤ a) || decide (W ≤ a % W + p)) = decide (W ≤ n) := by
 subst hn
 refine ⟨fun h => ?_,?_⟩
 ·rw [Nat.mod_eq_of_lt (show a < W by omega),Nat.mod_eq_of_lt h]
 ·by_cases h1 : W ≤ a
  ·rw [decide_eq_true h1,Bool.true_or,decide_eq_true (by omega)]
  ·rw [decide_eq_false h1,Bool.false_or,Nat.mod_eq_of_lt (by omega)]
theorem times_any (t up by' : Nat) (ht : t < W256) (hup : up < 18446744073709551616) (hby : by' < 18446744073709551616) (hb : 0 < by') :
  ∃ S,S < W256 ∧ (t * up / by' < W256 → S = t * up / by') ∧ ∀ w,Calls Tryz.prog 104 #[.agg (rowN .u64 64 4 t),.int .u64 (up : Int),.int .u64 (by' : Int)] w fun e w' => e = .returned (.tuple #[.agg (rowN .u64 64 4 S),.bool (decide (W256 ≤ t * up / by'))]) ∧ Fr F0 w w' := by
 have hR : t % by' < 18446744073709551616 := Nat.lt_trans (Nat.mod_lt _ hb) hby
 have hQ : t / by' < W256 := Nat.lt_of_le_of_lt (Nat.div_le_self _ _) ht
 have hbW := word_w hby
 have hX : t % by' * up < W256 := Nat.lt_of_lt_of_le (Nat.mul_lt_mul'' hR hup) (show 2 ^ 64 * 2 ^ 64 ≤ W256 by rw [← Nat.pow_add]; exact Nat.pow_le_pow_right (by omega) (by omega))
 have hP : t % by' * up / by' < W256 := Nat.lt_of_le_of_lt (Nat.div_le_self _ _) hX
 have hn := times_num t up by' hb
 have hM : t / by' * up % W256 < W256 := Nat.mod_lt _ W256_pos
 have h2 := two_parts hn W256_pos
 refine ⟨(t / by' * up % W256 + t % by' * up / by') % W256,Nat.mod_lt _ W256_pos,h2.1,fun w => ?_⟩
 ·refine times_core t up by' (t / by') (t % by') (t / by' * up % W256) (t % by' * up) (t % by' * up / by') (t % by' * up % by') _ (decide (W256 ≤ t / by' * up)) (decide (W256 ≤ t / by' * up % W256 + t % by' * up / by')) _ h2.2
   (Lib.hid fun w => wOf_any by' hby w) (Lib.hid fun w => wDiv_any t by' ht hbW hb w) (Lib.hid fun w => ?_) (Lib.hid fun w => wMul_any _ up hQ hup w) (Lib.hid fun w => wProduct_any _ up hR hup w) (Lib.hid fun w => wDiv_any _ by' hX hbW hb w) (Lib.hid fun w => wAdd_any _ _ hM hP w) w
  ·have := wUint_any (t % by') (word_w hR) w
   rwa [if_pos hR,decide_eq_true hR] at this
theorem tScale_core (t up most S R : Nat) (z : Int) (oz om oo os : Bool) (c : Int) (hz : decide (z = 0) = oz) (hm : rowEq 256 most 0 = om) (hs : rowEq 256 S 0 = os)
  (HT : Hid (oz = false → om = false → ∀ w,Calls Tryz.prog 104 #[.agg (rowN .u64 64 4 t),.int .u64 (up : Int),.int .u64 z] w fun e w' => e = .returned (.tuple #[.agg (rowN .u64 64 4 S),.bool oo]) ∧ Fr F0 w w'))
  (HC : Hid (∀ w,Calls Tryz.prog 58 #[.agg (rowN .u64 64 4 S),.agg (rowN .u64 64 4 most)] w fun e w' => e = .returned (.int .i64 c) ∧ Fr F0 w w'))
  (HO : Hid (∀ w,Calls Tryz.prog 56 #[.int .u64 1] w fun o w' => o = .returned (.agg (rowN .u64 64 4 1)) ∧ Fr F0 w w'))
  (oc : Bool) (hc : decide (0 < c) = oc) (E : Int) (HE : Hid (E = if oz = true then 5 else if om = true then 1 else 0)) (HV : Hid (R = if oz = true then 0 else if om = true then 0 else if (oo || oc) = true then most else if os = true then 1 else S)) (w : World) :
  Calls Tryz.prog 81 #[.agg (rowN .u64 64 4 t),.int .u64 (up : Int),.int .u64 z,.agg (rowN .u64 64 4 most)] w fun e w' => e = .returned (.tuple #[.agg (rowN .u64 64 4 R),.int .i64 E]) ∧ Fr F0 w w' := by
 go_enter Tryz.func81,Tryz.ntmps81
 go_upto_region 1 with fail
 obtain ⟨r4,r7,r8⟩ := heap3 w (.cells (rowN .u64 64 4 t) 73) (.cells (rowN .u64 64 4 most) 73) (.cells (rowN .u64 64 4 0) 73)
 have F := (((Fr.refl F0 w).alloc (.cells (rowN .u64 64 4 t) 73)).alloc (.cells (rowN .u64 64 4 most) 73)).alloc (.cells (rowN .u64 64 4 0) 73)
 obtain ⟨W0,hW0⟩ : ∃ W,W = ((w.alloc (.cells (rowN .u64 64 4 t) 73)).alloc (.cells (rowN .u64 64 4 most) 73)).alloc (.cells (rowN .u64 64 4 0) 73) := ⟨_,rfl⟩
 rw [← hW0] at r4 r7 r8 F
 refine wp_of_world W0 hW0 ?_
 clear hW0
 generalize hg8 : w.heap.size + 1 + 1 = g8 at *
 generalize hg7 : w.heap.size + 1 = g7 at *
 generalize hg4 : w.heap.size = g4 at *
 have HG := Lib.hid (show w.heap.size ≤ g8 by omega)
 clear hg4 hg7 hg8
 cases oz
 ·replace hz : ¬ z = 0 := of_decide_eq_false hz
  cases om
  ·have HT2 := Lib.hid (HT.out rfl rfl)
   clear HT
   go_wp2_with fail
   (with_reducible refine (HT2.out _).mono ?_); rintro e w1 ⟨rfl,f⟩
   replace r7 := keep_fr f r7
   replace r8 := keep_fr f r8
   replace F := F.trans' f
   clear f r4
   go_upto_region 6 with fail
   obtain ⟨W2,hW2⟩ : ∃ W,W = (w1.alloc (.cells (rowN .u64 64 4 0) 73)).setRow w1.heap.size (rowN .u64 64 4 S) := ⟨_,rfl⟩
   have N := put_new w1 (rowN .u64 64 4 0) (rowN .u64 64 4 S) 73
   rw [← hW2] at N
   refine wp_of_world W2 hW2 ?_
   have r10 := N.new
   replace r7 := N.old r7
   replace r8 := N.old r8
   replace F := F.trans' N.fr
   clear N hW2
   generalize w1.heap.size = g10 at *
   cases oo
   ·go_wp2_with fail
    (with_reducible refine (HC.out _).mono ?_); rintro e w3 ⟨rfl,f⟩
    replace r7 := keep_fr f r7
    replace r8 := keep_fr f r8
    replace r10 := keep_fr f r10
    replace F := F.trans' f
    clear f
    cases oc
    ·cases os
     ·go_wp2_with fail
      refine bodyPost_ret (res_row_tmp rfl _ _ g8 _ _ _ _ rfl (new_row r8) Tryz.underlying73 rfl (by rw [Tryz.szWide]; rfl)) rfl ⟨by rw [HV.out,HE.out]; rfl,F.setRow (fun h => by have := HG.out; omega) _⟩
     ·go_wp2_with fail
      (with_reducible refine (HO.out _).mono ?_); rintro e w4 ⟨rfl,f⟩
      replace r8 := keep_fr f r8
      replace F := F.trans' f
      clear f r7 r10
      go_wp2_with fail
      refine bodyPost_ret (res_row_tmp rfl _ _ g8 _ _ _ _ rfl (new_row r8) Tryz.underlying73 rfl (by rw [Tryz.szWide]; rfl)) rfl ⟨by rw [HV.out,HE.out]; rfl,F.setRow (fun h => by have := HG.out; omega) _⟩
    ·go_wp2_with fail
     refine bodyPost_ret (res_row_tmp rfl _ _ g8 _ _ _ _ rfl (new_row r8) Tryz.underlying73 rfl (by rw [Tryz.szWide]; rfl)) rfl ⟨by rw [HV.out,HE.out]; rfl,F.setRow (fun h => by have := HG.out; omega) _⟩
   ·go_wp2_with fail
    refine bodyPost_ret (res_row_tmp rfl _ _ g8 _ _ _ _ rfl (new_row r8) Tryz.underlying73 rfl (by rw [Tryz.szWide]; rfl)) rfl ⟨by rw [HV.out,HE.out]; rfl,F.setRow (fun h => by have := HG.out; omega) _⟩
  ·clear HT
   go_wp2_with fail
   refine bodyPost_ret (res_row_tmp rfl _ _ g8 _ _ _ _ rfl (new_row r8) Tryz.underlying73 rfl (by rw [Tryz.szWide]; rfl)) rfl ⟨by rw [HV.out,HE.out]; rfl,F.setRow (fun h => by have := HG.out; omega) _⟩
 ·replace hz : z = 0 := of_decide_eq_true hz
  clear HT
  go_wp2_with fail
  refine bodyPost_ret (res_row_tmp rfl _ _ g8 _ _ _ _ rfl (new_row r8) Tryz.underlying73 rfl (by rw [Tryz.szWide]; rfl)) rfl ⟨by rw [HV.out,HE.out]; rfl,F.setRow (fun h => by have := HG.out; omega) _⟩
theorem scaleC : ScaleC := by
 intro t up by' most ht hup hby hmost w
 have h1W : 1 < W256 := word_w (by omega)
 have hO := Lib.hid fun w => show Calls Tryz.prog 56 #[.int .u64 1] w fun o w' => o = .returned (.agg (rowN .u64 64 4 1)) ∧ Fr F0 w w' from wOf_any 1 (by omega) w
 have hdz : decide ((by' : Int) = 0) = decide (by' = 0) := decide_eq_decide.2 (by omega)
 have hE : scE by' most = if decide (by' = 0) = true then 5 else if decide (most = 0) = true then 1 else 0 := by
  unfold scE; simp only [decide_eq_true_iff]
 by_cases hb : 0 < by'
 ·obtain ⟨S,hS,hS2,hT⟩ := times_any t up by' ht hup hby hb
  refine tScale_core t up most S _ (by' : Int) (decide (by' = 0)) (decide (most = 0)) (decide (W256 ≤ t * up / by')) (decide (S = 0)) (sgn S most) hdz (rowEq_0 _ hmost _ rfl) (rowEq_0 _ hS _ rfl) (Lib.hid fun _ _ => hT) (Lib.hid fun w => wCmp_any S most hS hmost w) hO _ rfl _ (Lib.hid hE) (Lib.hid ?_) w
  have hc : decide (0 < sgn S most) = decide (most < S) := decide_eq_decide.2 (by have := sgn_le S most; omega)
  rw [hc]
  simp only [decide_eq_true_iff,Bool.or_eq_true]
  unfold scV scN
  by_cases h0 : by' = 0
  ·rw [if_pos h0,if_pos h0]
  ·rw [if_neg h0,if_neg h0]
   by_cases h1 : most = 0
   ·rw [if_pos h1,if_pos h1]
   ·rw [if_neg h1,if_neg h1]
    by_cases h2 : W256 ≤ t * up / by'
    ·rw [if_pos (by omega),if_pos (.inl h2)]
    ·rw [hS2 (by omega)]
     by_cases h3 : most < t * up / by'
     ·rw [if_pos h3,if_pos (.inr h3)]
     ·rw [if_neg h3,if_neg (show ¬ (W256 ≤ t * up / by' ∨ most < t * up / by') from fun h => h.elim h2 h3)]
 ·refine tScale_core t up most 0 _ (by' : Int) (decide (by' = 0)) (decide (most = 0)) false true (sgn 0 most) hdz (rowEq_0 _ hmost _ rfl) rfl (Lib.hid fun h => absurd (of_decide_eq_false h) (by omega)) (Lib.hid fun w => wCmp_any 0 most W256_pos hmost w) hO _ rfl _ (Lib.hid hE) (Lib.hid ?_) w
  rw [decide_eq_true (show by' = 0 by omega),if_pos rfl]
  exact if_pos (by omega)
end Go.Proofs.YtedffdlkmpmdlaaGreatDoor
