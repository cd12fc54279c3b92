import Derived.Test.YtohckefafbhooaaGreatR4
import Derived.Test.YtohckefafbhooaaGreatR2
set_option maxRecDepth 100000
set_option maxHeartbeats 64000000
namespace Go.Proofs.YtohckefafbhooaaGreat
set_option linter.unusedVariables false
set_option linter.unusedSimpArgs false
open Go.RowKit
theorem Tryz.infoU : ∃ i,Tryz.prog.info? 23 = some i := by
 cases h : Tryz.prog.info? 23 with
 |none => have := Tryz.szU64; rw [h] at this; cases this
 |some i => exact ⟨i,rfl⟩
@[simp high] theorem aCn (w : World) (x y : Nat) : (binOp .eql 134 (.agg (ig .u64 64 4 x)) (.agg (ig .u64 64 4 y))).run Tryz.prog w = .ok (.bool (ae9 256 x y)) w := by
 obtain ⟨i,hi⟩ := Tryz.infoU
 exact afs w 134 23 .u64 64 4 i Tryz.underlying134 hi (by kernel_rfl) (by kernel_rfl) Tryz.underlying23 x y
@[simp high] theorem aCm (w : World) (x y : Nat) : (binOp .neq 134 (.agg (ig .u64 64 4 x)) (.agg (ig .u64 64 4 y))).run Tryz.prog w = .ok (.bool (!ae9 256 x y)) w := by
 obtain ⟨i,hi⟩ := Tryz.infoU
 exact amx w 134 23 .u64 64 4 i Tryz.underlying134 hi (by kernel_rfl) (by kernel_rfl) Tryz.underlying23 x y
theorem aj9 (x y : Nat) (hx : x < oz) (hy : y < oz) : ae9 256 x y = decide (x = y) := by
 unfold ae9
 rw [Nat.mod_eq_of_lt (show x < 2 ^ 256 from hx),Nat.mod_eq_of_lt (show y < 2 ^ 256 from hy)]
theorem ajr (x : Nat) (hx : x < 2 ^ 64) (w : World) :
  Calls Tryz.prog 92 #[.int .u64 x] w fun e w' => e = .returned (.agg (ig .u64 64 4 x)) ∧ Fr F0 w w' := by
 go_enter Tryz.func92,Tryz.ntmps92
 go_wp2
 refine bodyPost_ret (results_cell_row rfl _ _ w.heap.size _ _ _ _ rfl (by rw [bf,heap_alloc_new]; rfl) Tryz.underlying134 rfl (by rw [Tryz.szWide]; rfl)) rfl ⟨rfl,?_⟩
 exact ((Fr.refl F0 w).alloc _).setRow (fun h => by omega) _
theorem mul_two (x y : Nat) : adi x y + 2 ^ 64 * ahz x y = x * y := Nat.mod_add_div _ _
theorem aAm (x y : Nat) (hx : x < 2 ^ 64) (hy : y < 2 ^ 64) : ahz x y < 2 ^ 64 := by
 unfold ahz
 rw [Nat.div_lt_iff_lt_mul (Nat.two_pow_pos _)]
 exact Nat.mul_lt_mul'' hx hy
theorem abv (x y : Nat) (hx : x < 2 ^ 64) (hy : y < 2 ^ 64) (w : World) :
  Calls Tryz.prog 90 #[.int .u64 x,.int .u64 y] w fun e w' => e = .returned (.agg (ig .u64 64 4 (x * y))) ∧ Fr F0 w w' := by
 have h1 := aAl x y
 have h2 := aAm x y hx hy
 have HM := Lib.hid (mul_two x y)
 go_enter Tryz.func90,Tryz.ntmps90
 go_wp2_with ((with_reducible refine (amn _ _ (by omega) (by omega) _).mono ?_); rintro e w' ⟨rfl,rfl⟩)
 refine bodyPost_ret (results_cell_row rfl _ _ w.heap.size _ _ _ _ rfl (by rw [bf,heap_alloc_new]; rfl) Tryz.underlying134 rfl (by rw [Tryz.szWide]; rfl)) rfl ⟨by rw [← HM.out],?_⟩
 exact ((Fr.refl F0 w).alloc _).setRow (fun h => by omega) _
end Go.Proofs.YtohckefafbhooaaGreat
namespace Go.Proofs.YtohckefafbhooaaGreat
set_option linter.unusedVariables false
set_option linter.unusedSimpArgs false
open Go.RowKit Go.Shelf
attribute [local go_sem] Oper.semAt_some
def sgn (x y : Nat) : Int := if x < y then -1 else if y < x then 1 else 0
theorem al9 (x : Nat) (w : World) : Calls Tryz.prog 178 #[.int .u64 x] w fun e w' => e = .returned (.bool false) ∧ w' = w := by
 go_enter Tryz.func178,Tryz.ntmps178
 go_wp2
 go_ret
 exact ⟨rfl,rfl⟩
theorem aFe (x y : Nat) (h : x < y) (w : World) : Calls Tryz.prog 157 #[.int .u64 x,.int .u64 y] w fun e w' => e = .returned (.int .i64 (-1)) ∧ w' = w := by
 have h1 : decide ((x : Int) < (y : Int)) = true := decide_eq_true (by omega)
 go_enter Tryz.func157,Tryz.ntmps157
 go_wp2_with ((with_reducible refine (al9 _ _).mono ?_); rintro e w' ⟨rfl,rfl⟩)
 go_ret
 exact ⟨rfl,rfl⟩
theorem aFf (x y : Nat) (h : y < x) (w : World) : Calls Tryz.prog 157 #[.int .u64 x,.int .u64 y] w fun e w' => e = .returned (.int .i64 1) ∧ w' = w := by
 have h1 : decide ((x : Int) < (y : Int)) = false := decide_eq_false (by omega)
 have h2 : decide ((y : Int) < (x : Int)) = true := decide_eq_true (by omega)
 go_enter Tryz.func157,Tryz.ntmps157
 go_wp2_with ((with_reducible refine (al9 _ _).mono ?_); rintro e w' ⟨rfl,rfl⟩)
 go_ret
 exact ⟨rfl,rfl⟩
theorem asi {a b i : Nat} (he : a / 2 ^ (64 * (i + 1)) = b / 2 ^ (64 * (i + 1))) (hd : dgt 64 a i ≠ dgt 64 b i) : sgn a b = sgn (dgt 64 a i) (dgt 64 b i) := by
 have key : ∀ x,x = x % 2 ^ (64 * i) + 2 ^ (64 * i) * (dgt 64 x i + 2 ^ 64 * (x / 2 ^ (64 * (i + 1)))) := by
  intro x
  have h1 := Nat.mod_add_div x (2 ^ (64 * i))
  have h2 := Nat.mod_add_div (x / 2 ^ (64 * i)) (2 ^ 64)
  rw [Nat.div_div_eq_div_mul,show 2 ^ (64 * i) * 2 ^ 64 = 2 ^ (64 * (i + 1)) by rw [← Nat.pow_add]; congr 1] at h2
  rw [dgt,h2,h1]
 have ka := key a
 have kb := key b
 rw [he] at ka
 have la := Nat.mod_lt a (Nat.two_pow_pos (64 * i))
 have lb := Nat.mod_lt b (Nat.two_pow_pos (64 * i))
 generalize dgt 64 a i = x at *
 generalize dgt 64 b i = y at *
 generalize b / 2 ^ (64 * (i + 1)) = q at *
 generalize a % 2 ^ (64 * i) = r at *
 generalize b % 2 ^ (64 * i) = s at *
 generalize 2 ^ (64 * i) = p at *
 rw [Nat.mul_add] at ka kb
 generalize p * (2 ^ 64 * q) = z at *
 unfold sgn
 by_cases h : x < y
 ·have : p * (x + 1) ≤ p * y := Nat.mul_le_mul_left _ h
  rw [Nat.mul_add] at this
  rw [if_pos (by omega),if_pos h]
 ·have : p * (y + 1) ≤ p * x := Nat.mul_le_mul_left _ (by omega)
  rw [Nat.mul_add] at this
  rw [if_neg (by omega),if_pos (by omega),if_neg h,if_pos (by omega)]
theorem aA4 {a b i : Nat} (he : a / 2 ^ (64 * (i + 1)) = b / 2 ^ (64 * (i + 1))) (hd : dgt 64 a i = dgt 64 b i) : a / 2 ^ (64 * i) = b / 2 ^ (64 * i) := by
 have key : ∀ x,x / 2 ^ (64 * i) = dgt 64 x i + 2 ^ 64 * (x / 2 ^ (64 * (i + 1))) := by
  intro x
  have h2 := Nat.mod_add_div (x / 2 ^ (64 * i)) (2 ^ 64)
  rw [Nat.div_div_eq_div_mul,show 2 ^ (64 * i) * 2 ^ 64 = 2 ^ (64 * (i + 1)) by rw [← Nat.pow_add]; congr 1] at h2
  rw [dgt,h2]
 rw [key a,key b,he,hd]
theorem aq1 (a b : Nat) (ha : a < oz) (hb : b < oz) (w : World) :
  Calls Tryz.prog 143 #[.agg (ig .u64 64 4 a),.agg (ig .u64 64 4 b)] w fun e w' => e = .returned (.int .i64 (sgn a b)) ∧ Fr F0 w w' := by
 have H4 := Lib.hid (show a / 2 ^ (64 * 4) = b / 2 ^ (64 * 4) by rw [← ab8,Nat.div_eq_of_lt ha,Nat.div_eq_of_lt hb])
 clear ha hb
 refine callsIn_wide (n := 6) |>.1 ?_
 refine callsIn_of_wp_marks Tryz.func143 rfl trivial ?_ rfl
 simp only [Tryz.ntmps143,List.size_toArray,List.length_cons,List.length_nil,Nat.reduceAdd,Nat.reduceSub,Array.replicate_succ,Array.replicate_zero,List.push_toArray,List.append_toArray,List.nil_append,List.cons_append]
 gi_wp2_with (refine ⟨trivial,?_⟩; gi_at_call 124; refine (agh _ _ trivial rfl _ _ _ _).mono ?_; rintro e w2 ⟨rfl,rfl⟩)
 obtain ⟨W1,hW1⟩ : ∃ W1,W1 = (((w.alloc (.cells (ig .u64 64 4 a) 134)).alloc (.cells (ig .u64 64 4 b) 134)).alloc (.cells #[.int .i64 0] 3)).alloc (.cells #[.slice (some ⟨w.heap.size,0,none⟩) 4 4] 172) := ⟨_,rfl⟩
 rw [← hW1]
 have f1 : Fr F0 w W1 := by rw [hW1]; exact ((((Fr.refl F0 w).alloc _).alloc _).alloc _).alloc _
 have hs1 : W1.heap.size = w.heap.size + 1 + 1 + 1 + 1 := by rw [hW1]; simp
 obtain ⟨r0,r1,r2,r3⟩ := aze w (.cells (ig .u64 64 4 a) 134) (.cells (ig .u64 64 4 b) 134) (.cells #[.int .i64 0] 3) (.cells #[.slice (some ⟨w.heap.size,0,none⟩) 4 4] 172)
 rw [← hW1] at r0 r1 r2 r3
 clear hW1
 generalize hg0 : w.heap.size = g0 at *
 generalize hg1 : g0 + 1 = g1 at *
 generalize hg2 : g1 + 1 = g2 at *
 generalize hg3 : g2 + 1 = g3 at *
 have n0 : g0 ≠ g2 := by omega
 have n1 : g1 ≠ g2 := by omega
 have n3 : g3 ≠ g2 := by omega
 have HG := Lib.hid (show g0 ≤ W1.heap.size ∧ g0 ≤ g2 ∧ w.heap.size = g0 by omega)
 clear hg0 hg1 hg2 hg3 hs1
 refine aep rfl (by omega) (gf := 144) (lb := #[.pointer (some ⟨g3,0,none⟩)]) rfl trivial (enters_of Tryz.func144 (by kernel_rfl) rfl)
  (adh Fence.wide 5 trivial rfl (by omega) (fun pre => dgt 64 a (3 - pre.length)) 4 g3 g0 0 4 (by omega)) (fun _ => rfl)
  (fun pre W => (W.heap[g0]? = some (.cells (ig .u64 64 4 a) 134 (0,0)) ∧ W.heap[g1]? = some (.cells (ig .u64 64 4 b) 134 (0,0)) ∧ W.heap[g2]? = some (.cells #[.int .i64 0] 3 (0,0)) ∧ W.heap[g3]? = some (.cells #[.slice (some ⟨g0,0,none⟩) 4 4] 172 (0,0))) ∧ (a / 2 ^ (64 * (4 - pre.length)) = b / 2 ^ (64 * (4 - pre.length))) ∧ Below g0 W1 W)
  (fun c _ W => c = .ret ∧ W.heap[g2]? = some (.cells #[.int .i64 (sgn a b)] 3 (0,0)) ∧ Below g0 W1 W)
  (OwnFrom.and (OwnFrom.and (qh _ _ _ _ _) (OwnFrom.and (qh _ _ _ _ _) (OwnFrom.and (qh _ _ _ _ _) (qh _ _ _ _ _)))) (OwnFrom.and (yu _ _) (own_below _ _ _ (Nat.le_refl _) HG.out.1)))
  (fun c => OwnFrom.and (yu _ _) (OwnFrom.and (qh _ _ _ _ _) (own_below _ _ _ (Nat.le_refl _) HG.out.1)))
  ?sees ⟨⟨r0,r1,r2,r3⟩,H4.out,Below.refl _ _⟩
  (fun x => { tmps := #[.agg (ig .u64 64 4 a),.agg (ig .u64 64 4 b),.pointer (some ⟨g0,0,none⟩),.pointer (some ⟨g1,0,none⟩),.pointer (some ⟨g2,0,none⟩),.int .i64 (x.1 : Int),.int .u64 (x.2 : Int),.slice (some ⟨g0,0,none⟩) 4 4,.func (.func 144) #[] #[.pointer (some ⟨g3,0,none⟩)],.int .i64 (x.1 : Int),.int .u64 (x.2 : Int),undef,undef,undef,undef,undef,undef,undef,undef,undef,undef],defers := [] }) ?assign ?body ?done ?stop
 case sees =>
  rintro pre W ⟨⟨q0,q1,q2,q3⟩,_,_⟩
  refine ⟨by rw [gq,q3]; rfl,fun hl => ?_⟩
  rw [gq,q0,jg,Nat.zero_add]
  exact yt _ _ _ _ _ (by omega)
 case assign =>
  intro l x W K hK
  gi_wp2
  exact hK
 case body =>
  rintro l pre x W ⟨⟨q0,q1,q2,q3⟩,he,hB⟩ ⟨hlen,rfl,_⟩
  obtain ⟨i,hi⟩ : ∃ i,i = 3 - pre.length := ⟨_,rfl⟩
  have hi4 : i < 4 := by omega
  have li : (i : Int) < 4 := by omega
  dsimp only
  rw [show 4 - 1 - pre.length = i by omega]
  rw [show 4 - pre.length = i + 1 by omega] at he
  have hl2 : 4 - (pre ++ [(i,dgt 64 a i)]).length = i := by simp; omega
  have HE := Lib.hid he
  have HL := Lib.hid hl2
  clear he hl2 hi hlen
  by_cases hd : dgt 64 a i = dgt 64 b i
  ·have hd' : ((dgt 64 a i : Int) != (dgt 64 b i : Int)) = false := by rw [hd]; simp
   have HD := Lib.hid hd
   clear hd
   gi_wp2
   refine ⟨KeepsFrom.refl _ _,trivial,⟨q0,q1,q2,q3⟩,?_,hB⟩
   rw [HL.out]
   exact aA4 HE.out HD.out
  ·have hd' : ((dgt 64 a i : Int) != (dgt 64 b i : Int)) = true := bne_iff_ne.2 (by omega)
   have HS := Lib.hid (asi HE.out hd)
   by_cases hlt : dgt 64 a i < dgt 64 b i
   ·have HV := Lib.hid (show sgn (dgt 64 a i) (dgt 64 b i) = -1 from if_pos hlt)
    clear hd
    gi_wp2_with (refine ⟨trivial,?_⟩; gi_at_call 157; refine (CallsIn.inRound l (callsIn_wide.2 (aFe _ _ hlt _))).mono ?_; rintro e w' ⟨rfl,rfl⟩)
    refine ⟨(KeepsOthers.setCell _ _ _).from _,rfl,?_,hB.setCell (p := ⟨g2,0,none⟩) (by have := HG.out; simp only; omega) _⟩
    rw [cu,q2,HS.out,HV.out]
    rfl
   ·have hgt : dgt 64 b i < dgt 64 a i := by omega
    have HV := Lib.hid (show sgn (dgt 64 a i) (dgt 64 b i) = 1 by rw [sgn,if_neg hlt,if_pos hgt])
    clear hd hlt
    gi_wp2_with (refine ⟨trivial,?_⟩; gi_at_call 157; refine (CallsIn.inRound l (callsIn_wide.2 (aFf _ _ hgt _))).mono ?_; rintro e w' ⟨rfl,rfl⟩)
    refine ⟨(KeepsOthers.setCell _ _ _).from _,rfl,?_,hB.setCell (p := ⟨g2,0,none⟩) (by have := HG.out; simp only; omega) _⟩
    rw [cu,q2,HS.out,HV.out]
    rfl
 case done =>
  rintro D ys W hD rfl ⟨⟨q0,q1,q2,q3⟩,he,hB⟩ hK
  rw [aah] at he
  have HE := Lib.hid he
  clear he
  gi_wp2
  have hD2 : D ≠ g2 := fun e => by subst e; rw [q2] at hK; cases hK
  have hK' : (W.setCell ⟨g2,0,none⟩ (.int .i64 0)).heap[D]? = some (.deferred (some [])) := by rw [bn _ _ _ _ _ hD2]; exact hK
  have hab : a = b := by have := HE.out; simpa using this
  have hB' := (hB.setCell (p := ⟨g2,0,none⟩) (by have := HG.out; simp only; omega) (.int .i64 0)).trans (belowK_b (w := W1) HG.out.1 (W.setCell ⟨g2,0,none⟩ (.int .i64 0)) D _ (.deferred none) hD hK' rfl rfl)
  have hR : ((W.setCell ⟨g2,0,none⟩ (.int .i64 0)).putObj D (.deferred none)).cell? ⟨g2,0,none⟩ = some (.int .i64 0) := by
   rw [gq,World.putObj_heap_other (fun e => hD2 e.symm),cu,q2]; rfl
  refine ⟨by simp,.inl ⟨_,_,rfl,run_takeDeferred hK',?_⟩⟩
  exact ⟨_,aeo rfl _ _ g2 _ rfl hR Tryz.underlying3,by rw [hab]; simp [sgn],f1.trans (Fr.aag hB') fun i hi hk => by have := HG.out; omega⟩
 case stop =>
  rintro D c pre W hD ⟨rfl,q2,hB⟩ hK
  gi_wp2
  have hD2 : D ≠ g2 := fun e => by subst e; rw [q2] at hK; cases hK
  have hB' := hB.trans (belowK_b (w := W1) HG.out.1 W D _ (.deferred none) hD hK rfl rfl)
  have hR : (W.putObj D (.deferred none)).cell? ⟨g2,0,none⟩ = some (.int .i64 (sgn a b)) := by
   rw [gq,World.putObj_heap_other (fun e => hD2 e.symm),q2]; rfl
  refine ⟨by simp,.inl ⟨_,_,rfl,run_takeDeferred hK,?_⟩⟩
  exact ⟨_,aeo rfl _ _ g2 _ rfl hR Tryz.underlying3,rfl,f1.trans (Fr.aag hB') fun i hi hk => by have := HG.out; omega⟩
end Go.Proofs.YtohckefafbhooaaGreat
