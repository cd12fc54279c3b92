import Derived.Test.YtohckefafbhooaaGreatR1
import Derived.Test.YtohckefafbhooaaGreatR5
import Derived.Laws.CopyRow
import Derived.Lib.Tables
import Derived.Lib.BitFns
import Derived.Test.YtohckefafbhooaaGreatR2
import Derived.Deep.CutBlock
import Derived.Deep.DeepCutAuto
import Derived.Test.YtohckefafbhooaaGreatR4
set_option maxRecDepth 100000
set_option maxHeartbeats 64000000
namespace Go.Proofs.YtohckefafbhooaaGreat
set_option linter.unusedVariables false
set_option linter.unusedSimpArgs false
open Go.RowKit
theorem ace (k : IntKind) (b n x : Nat) : (ig k b n x).toList = (List.range n).map fun i => Value.int k (dgt b x i : Nat) := by simp [ig]
theorem aFa (b x q i : Nat) : dgt b (x * 2 ^ (b * q)) i = if i < q then 0 else dgt b x (i - q) := by
 by_cases h : i < q
 ·rw [if_pos h,ac1 b _ 0 q i h (by simp)]
  simp [dgt]
 ·rw [if_neg h]
  obtain ⟨d,rfl⟩ : ∃ d,i = q + d := ⟨i - q,by omega⟩
  rw [dgt,Nat.mul_add,Nat.pow_add,← Nat.div_div_eq_div_mul,Nat.mul_div_cancel _ (Nat.two_pow_pos _),dgt,Nat.add_sub_cancel_left]
theorem aFb (b x q i : Nat) : dgt b (x / 2 ^ (b * q)) i = dgt b x (i + q) := by
 rw [dgt,dgt,Nat.div_div_eq_div_mul,← Nat.pow_add]
 congr 3
 rw [Nat.mul_add,Nat.add_comm]
theorem Tryz.szUs : (Tryz.prog.info? 23).map (·.size) = some 1 := Tryz.szU64
theorem apc (w : World) (ty : TypeId) (g h q a : Nat) (t t' : TypeId) (fr : Nat × Nat) (hq : q < 4) (hg : w.heap[g]? = some (.cells (ig .u64 64 4 0) t (0,0))) (hh : w.heap[h]? = some (.cells (ig .u64 64 4 a) t' fr)) :
  (Builtin.copy_ #[172,172] ty #[.slice (some ⟨g,q,none⟩) (4 - q) (4 - q),.slice (some ⟨h,0,none⟩) 4 4]).run Tryz.prog w = .ok (.int .i64 ((4 - q : Nat) : Int)) (w.setRow g (ig .u64 64 4 (a * 2 ^ (64 * q)))) := by
 have key := run_copy_row (P := Tryz.prog) w 172 172 ty 23 g q (4 - q) (4 - q) ⟨h,0,none⟩ 4 4 (ig .u64 64 4 0) t ((List.range (4 - q)).map fun i => Value.int .u64 (dgt 64 a i : Nat)) Tryz.underlying172 Tryz.szUs hg (by simp [Nat.min_def])
  (fun j v hj => by
   have hjl : j < 4 - q := by
    have := (List.getElem?_eq_some_iff.1 hj).1
    simpa using this
   rw [Addr.add_lit,Nat.zero_add,gq,hh,jg,yt _ _ _ _ _ (by omega)]
   simpa [List.getElem?_map,List.getElem?_range hjl] using hj)
  (by rw [aas]; simp; omega)
  (by
   intro v hv
   simp only [List.mem_map] at hv
   obtain ⟨i,_,rfl⟩ := hv
   rfl)
 have e : ((ig .u64 64 4 0).toList.take q ++ ((List.range (4 - q)).map fun i => Value.int .u64 (dgt 64 a i : Nat)) ++ (ig .u64 64 4 0).toList.drop (q + ((List.range (4 - q)).map fun i => Value.int .u64 (dgt 64 a i : Nat)).length)).toArray = ig .u64 64 4 (a * 2 ^ (64 * q)) := by
  apply Array.ext'
  rw [List.toList_toArray,ace,ace,List.drop_eq_nil_of_le (by simp; omega),List.append_nil]
  apply List.ext_getElem?
  intro j
  by_cases hj : j < 4
  ·rw [List.getElem?_map,List.getElem?_range hj,Option.map_some,aFa]
   by_cases hjq : j < q
   ·rw [List.getElem?_append_left (by simp; omega),if_pos hjq,List.getElem?_take,if_pos hjq,List.getElem?_map,List.getElem?_range hj]
    simp [dgt]
   ·rw [List.getElem?_append_right (by simp; omega),if_neg hjq]
    simp only [List.length_take,List.length_map,List.length_range]
    rw [Nat.min_eq_left (by omega),List.getElem?_map,List.getElem?_range (by omega),Option.map_some]
  ·rw [List.getElem?_eq_none (by simp; omega),List.getElem?_eq_none (by simp; omega)]
 rw [e] at key
 rw [key]
 simp [goInt]
@[simp high] theorem aCl (w : World) (g q : Nat) (k : IntKind) (hq : q < 4) :
  (Instr.sliceAt 134 (.pointer (some ⟨g,0,none⟩)) (some (.int k (q : Int))) none none).run Tryz.prog w = .ok (.slice (some ⟨g,q,none⟩) (4 - q) (4 - q)) w := by
 have h0 : (0 : Int) ≤ q := by omega
 have h1 : (q : Int) ≤ (4 : Nat) := by omega
 have hs : ∀ w,(sizeOf 23).run Tryz.prog w = .ok 1 w := fun w => by
  obtain ⟨i,hi⟩ : ∃ i,Tryz.prog.info? 23 = some i := Tryz.infoU
  have := Tryz.szU64
  rw [hi] at this
  simp [sizeOf,typeInfo,hi] at this ⊢
  exact this
 have hb := run_sliceBound (P := Tryz.prog) (w := w) k (q : Int) 4
 simp [Instr.sliceAt,Sem.run_bind,run_underlying Tryz.underlying134,Instr.sureAddr,Instr.sliceBounds,hs]
 rw [hb _ h0 h1]
 simp [show ¬ 4 = q by omega,Addr.add]
 try omega
theorem left4 {s0 s3 s4 s6 s7 s8 s9 s10 s11 s12 s13 s14 s15 s16 s17 s18 s19 s20 s21 s22 s23 s24 s25 s26 s27 s28 s29 s30 s31 s32 s33 s34 s35 s36 s37 : Value} {K : Act → World → Prop} {Q : Exit → Act → World → Prop} (w : World) (g h q n a : Nat) (hq : q < 4) (hd : IntKind.u64.wrap ((n : Int) / 64) = (q : Int)) (hgh : g ≠ h) (hg : w.heap[g]? = some (.cells (ig .u64 64 4 0) 134 (0,0))) (hh : w.heap[h]? = some (.cells (ig .u64 64 4 a) 134 (0,0)))
  (hK : RowKit.Hid (∀ {u13 u14 u15 u16 u17 : Value} {w' : World},(w'.heap = (w.setRow g (ig .u64 64 4 (a * 2 ^ (64 * q)))).heap ∧ Fr F0 (w.setRow g (ig .u64 64 4 (a * 2 ^ (64 * q)))) w') → K ⟨#[s0,.int .u64 n,.pointer (some ⟨h,0,none⟩),s3,s4,.pointer (some ⟨g,0,none⟩),s6,s7,s8,s9,s10,s11,s12,u13,u14,u15,u16,u17,s18,s19,s20,s21,s22,s23,s24,s25,s26,s27,s28,s29,s30,s31,s32,s33,s34,s35,s36,s37],[]⟩ w')) :
  Code.wp Tryz.prog ((((Tryz.f125.body.bind (qc 4)).getD .skip))) (Exit.then K Q) ⟨#[s0,.int .u64 n,.pointer (some ⟨h,0,none⟩),s3,s4,.pointer (some ⟨g,0,none⟩),s6,s7,s8,s9,s10,s11,s12,s13,s14,s15,s16,s17,s18,s19,s20,s21,s22,s23,s24,s25,s26,s27,s28,s29,s30,s31,s32,s33,s34,s35,s36,s37],[]⟩ w := by
 conv => arg 2; whnf
 have hc := apc w.drew 3 g h q a _ _ _ hq hg hh
 refine zn (S := (fun w' => True)) ?_ fun aj => ?_
 ·exact(by ((try dsimp only) <;> (trivial)))
 refine au 0 ?_
 refine au 1 ?_
 refine au 2 ?_
 refine au 3 ?_
 refine zi 4 fun K hK => ?_
 go_simp
 refine rpu hK (by ((try dsimp only) <;> (trivial))) fun aj => ?_
 clear hK K
 refine aap ?_
 all_goals exact hK.out ⟨rfl,(Fr.refl F0 (w.setRow g (ig .u64 64 4 (a * 2 ^ (64 * q))))).drew⟩
def shU (T x : Nat) : Nat → Nat
 |0 => T
 |i + 1 => ae5 64 (shU T x i) i (afb (adi (dgt 64 T i) x) (mlH T x i) 0)
theorem aop (T x : Nat) : ∀ i j,dgt 64 (shU T x i) j = if j < i then afb (adi (dgt 64 T j) x) (mlH T x j) 0 else dgt 64 T j
 |0,j => by simp [shU]
 |i + 1,j => by
  rw [shU,akc _ _ _ _ _ (aem _ _ _),aop T x i j]
  by_cases h : j = i
  ·subst h; simp
  ·simp only [h,if_false]
   by_cases h2 : j < i
   ·rw [if_pos h2,if_pos (by omega)]
   ·rw [if_neg h2,if_neg (by omega)]
theorem aEd (T x i j : Nat) (h : j < i) : dgt 64 (mlS T x i) j = afb (adi (dgt 64 T j) x) (mlH T x j) 0 := by
 induction i with
 |zero => omega
 |succ i ih =>
  rw [ari]
  by_cases e : j = i
  ·subst e
   rw [dgt,Nat.add_mul_div_left _ _ (Nat.two_pow_pos _),Nat.div_eq_of_lt (aqv _ _ _),Nat.zero_add,Nat.mod_eq_of_lt (aem _ _ _)]
  ·rw [← ih (by omega)]
   exact ac1 64 _ _ i j (by omega) (by rw [Nat.add_mul_mod_self_left])
theorem aDj (T x : Nat) (k : IntKind) : ig k 64 4 (shU T x 4) = ig k 64 4 (mlS T x 4) :=
 aiy _ _ _ _ _ (ade _ _ _ _ fun i hi => by rw [aop,if_pos hi,aEd _ _ _ _ hi])
theorem al6 (T x i : Nat) (hx : 0 < x) : mlH T x i < x := by
 unfold mlH mlT
 rw [Nat.div_lt_iff_lt_mul (Nat.two_pow_pos _),Nat.mul_comm]
 exact Nat.mul_lt_mul_of_pos_left (Nat.mod_lt _ (Nat.two_pow_pos _)) hx
theorem aes (r : Nat) (hr : r < 64) : 2 ^ 64 = 2 ^ r * 2 ^ (64 - r) := by rw [← Nat.pow_add]; congr 1; omega
theorem aEf (T r i : Nat) (hr : r < 64) : mlH T (2 ^ r) (i + 1) = dgt 64 T i / 2 ^ (64 - r) := by
 have hm := al6 T (2 ^ r) i (Nat.two_pow_pos r)
 rw [ark,(aoy _ _ _).2,aes r hr,← Nat.div_div_eq_div_mul,Nat.mul_comm,Nat.mul_add_div (Nat.two_pow_pos r),Nat.div_eq_of_lt hm,Nat.add_zero]
theorem azu (d m r : Nat) (hr : r < 64) (hm : m < 2 ^ r) : (d * 2 ^ r % 2 ^ 64) ||| m = afb (adi d (2 ^ r)) m 0 := by
 have e : d * 2 ^ r % 2 ^ 64 = 2 ^ r * (d % 2 ^ (64 - r)) := by rw [aes r hr,Nat.mul_comm d,Nat.mul_mod_mul_left]
 have h1 : 2 ^ r * (d % 2 ^ (64 - r)) ||| m = 2 ^ r * (d % 2 ^ (64 - r)) + m := (Nat.two_pow_add_eq_or_of_lt hm _).symm
 have h2 : 2 ^ r * (d % 2 ^ (64 - r)) + m < 2 ^ 64 := by
  have h3 : d % 2 ^ (64 - r) + 1 ≤ 2 ^ (64 - r) := Nat.mod_lt _ (Nat.two_pow_pos _)
  have h4 : 2 ^ r * (d % 2 ^ (64 - r) + 1) ≤ 2 ^ r * 2 ^ (64 - r) := Nat.mul_le_mul_left _ h3
  rw [← aes r hr,Nat.mul_add] at h4
  omega
 unfold afb adi
 rw [Nat.add_zero,e,h1,Nat.mod_eq_of_lt h2]
theorem or_val (d m r : Nat) (hm : m < 2 ^ 64) : bits BinOp.or IntKind.u64 (IntKind.u64.wrap ((d : Int) * 2 ^ r)) (m : Int) = ((d * 2 ^ r % 2 ^ 64 ||| m : Nat) : Int) := by
 have e : IntKind.u64.wrap ((d : Int) * 2 ^ r) = ((d * 2 ^ r % 2 ^ 64 : Nat) : Int) := by
  rw [IntKind.wrap_u64,Int.natCast_emod,Int.natCast_mul,Int.natCast_pow]
  rfl
 rw [e]
 exact u64_or_nat _ _ (Nat.mod_lt _ (Nat.two_pow_pos _)) hm
theorem alp (a n : Nat) (ha : a < oz) (hn : n < 256) (w : World) :
  Calls Tryz.prog 125 #[.agg (ig .u64 64 4 a),.int .u64 n] w fun e w' => e = .returned (.agg (ig .u64 64 4 (a * 2 ^ n % oz))) ∧ Fr F0 w w' := by
 obtain ⟨q,hq⟩ : ∃ q,q = n / 64 := ⟨_,rfl⟩
 obtain ⟨r,hr⟩ : ∃ r,r = n % 64 := ⟨_,rfl⟩
 have hd : IntKind.u64.wrap ((n : Int) / 64) = (q : Int) := by rw [IntWalk.u64_in _ (by omega)]; omega
 have hge : decide ((256 : Int) ≤ (n : Int)) = false := decide_eq_false (by omega)
 have HN := Lib.hid (show n = 64 * q + r ∧ q < 4 ∧ r < 64 by omega)
 go_enter Tryz.func125,Tryz.ntmps125
 go_wp2_with fail
 obtain ⟨W1,hW1⟩ : ∃ W1,W1 = ((w.alloc (.cells (ig .u64 64 4 a) 134)).alloc (.cells (ig .u64 64 4 0) 134)).alloc (.cells (ig .u64 64 4 0) 134) := ⟨_,rfl⟩
 refine bg W1 hW1 ?_
 have f1 : Fr F0 w W1 := by rw [hW1]; exact (((Fr.refl F0 w).alloc _).alloc _).alloc _
 obtain ⟨r0,r1,r2⟩ := aon w (.cells (ig .u64 64 4 a) 134) (.cells (ig .u64 64 4 0) 134) (.cells (ig .u64 64 4 0) 134)
 rw [← hW1] at r0 r1 r2
 have HR := Lib.hid hr
 clear hW1 hq hr
 generalize hg0 : w.heap.size = g0 at *
 generalize hg1 : g0 + 1 = g1 at *
 generalize hg2 : g1 + 1 = g2 at *
 have n1 : g1 ≠ g2 := by omega
 have HG := Lib.hid (show w.heap.size ≤ g1 ∧ w.heap.size ≤ g2 by omega)
 refine left4 W1 g2 g0 q n a HN.out.2.1 hd (by omega) r2 r0 (Lib.hid ?_)
 clear hg0 hg1 hg2 r0
 rename_i w2
 rintro ⟨hh,hf⟩
 replace r1 : w2.heap[g1]? = some (.cells (ig .u64 64 4 0) 134 (0,0)) := by rw [hh,dh _ _ _ _ n1]; exact r1
 replace r2 : w2.heap[g2]? = some (.cells (ig .u64 64 4 (a * 2 ^ (64 * q))) 134 (0,0)) := by rw [hh,bf,r2]; rfl
 have f2 : Fr F0 w w2 := (f1.setRow (fun h => by have := HG.out; omega) _).trans' hf
 have hfin : mlS (a * 2 ^ (64 * q)) (2 ^ r) 4 = a * 2 ^ n % oz := by
  unfold mlS mlT
  rw [← ab8,← Nat.mod_mul_mod,Nat.mod_mod,Nat.mod_mul_mod,Nat.mul_assoc,← Nat.pow_add,← HN.out.1]
 have HF := Lib.hid hfin
 clear hh hf f1 hfin hd
 generalize a * 2 ^ (64 * q) = T at *
 go_wp2_with fail
 go_loopw [7,21] (fun cv iv wr => ∃ i : Nat,i ≤ 4 ∧ iv = .int .i64 i ∧ cv = .int .u64 (mlH T (2 ^ r) i : Nat) ∧ wr.heap[g1]? = some (.cells (ig .u64 64 4 0) 134 (0,0)) ∧ wr.heap[g2]? = some (.cells (ig .u64 64 4 (shU T (2 ^ r) i)) 134 (0,0)) ∧ Fr F0 w wr) (fun cv iv _ => 4 - (intOf iv).toNat)
 case atStart => exact ⟨0,by omega,rfl,by rw [arj]; rfl,r1,r2,f2⟩
 case round =>
  clear r1 r2 f2
  obtain ⟨i,hi,rfl,rfl,r1,r2,f2⟩ := hrel
  by_cases hi4 : i < 4
  ·have li : (i : Int) < 4 := by omega
   have hdl := abf 64 T i
   have hmh := al6 T (2 ^ r) i (Nat.two_pow_pos r)
   have HP := Lib.hid (aEf T r i HN.out.2.2)
   have HJ := Lib.hid (azu (dgt 64 T i) (mlH T (2 ^ r) i) r HN.out.2.2 hmh)
   have hsd : dgt 64 (shU T (2 ^ r) i) i = dgt 64 T i := by rw [aop,if_neg (by omega)]
   go_wp2_with fail
   go_roundw
   case rel =>
    rw [← HR.out,or_val _ _ _ (by have := Nat.pow_lt_pow_right (a := 2) (by omega) HN.out.2.2; omega),HJ.out]
    refine ⟨i + 1,by omega,by go_num,?_,?_,?_,?_⟩
    ·rw [HP.out]
     congr 1
    ·rw [bn _ _ _ _ _ n1]; exact r1
    ·rw [cu,r2,jr,abr _ _ _ (aem _ _ _)]; rfl
    ·exact f2.setCell (p := ⟨g2,i,none⟩) (fun h => by have := HG.out; simp only at h; omega) _
   case measure => simp [intOf]; omega
  ·obtain rfl : i = 4 := by omega
   rw [aDj,HF.out] at r2
   go_wp2
   refine bodyPost_ret (results_cell_row rfl _ _ g1 _ _ _ _ rfl (by rw [bf,r1]; rfl) Tryz.underlying134 rfl (by rw [Tryz.szWide]; rfl)) rfl ⟨rfl,?_⟩
   exact f2.setRow (fun h => by have := HG.out; omega) _
theorem awp (a n : Nat) (hn : 256 ≤ n) (w : World) :
  Calls Tryz.prog 125 #[.agg (ig .u64 64 4 a),.int .u64 n] w fun e w' => e = .returned (.agg (ig .u64 64 4 0)) ∧ Fr F0 w w' := by
 have hge : decide ((256 : Int) ≤ (n : Int)) = true := decide_eq_true (by omega)
 go_enter Tryz.func125,Tryz.ntmps125
 go_wp2
 refine bodyPost_ret (results_cell_row rfl _ _ (w.heap.size + 1) _ _ _ _ rfl (by rw [bf,heap_alloc2_new]; rfl) Tryz.underlying134 rfl (by rw [Tryz.szWide]; rfl)) rfl ⟨rfl,?_⟩
 exact (((Fr.refl F0 w).alloc _).alloc _).setRow (fun h => by omega) _
end Go.Proofs.YtohckefafbhooaaGreat
namespace Go.Proofs.YtohckefafbhooaaGreat
set_option linter.unusedVariables false
set_option linter.unusedSimpArgs false
open Go.RowKit Go.Shelf
theorem aA7 (x i : Nat) (h : x < 2 ^ (64 * i)) : dgt 64 x i = 0 := by rw [dgt,Nat.div_eq_of_lt h]
theorem amh (x i : Nat) (h : x < oz) (hi : 4 ≤ i) : dgt 64 x i = 0 :=
 aA7 x i (Nat.lt_of_lt_of_le h (Nat.pow_le_pow_right (by omega) (by omega)))
theorem akp (w : World) (ty : TypeId) (g h q a : Nat) (t t' : TypeId) (fr : Nat × Nat) (ha : a < oz) (hq : q < 4) (hg : w.heap[g]? = some (.cells (ig .u64 64 4 0) t (0,0))) (hh : w.heap[h]? = some (.cells (ig .u64 64 4 a) t' fr)) :
  (Builtin.copy_ #[172,172] ty #[.slice (some ⟨g,0,none⟩) 4 4,.slice (some ⟨h,q,none⟩) (4 - q) (4 - q)]).run Tryz.prog w = .ok (.int .i64 ((4 - q : Nat) : Int)) (w.setRow g (ig .u64 64 4 (a / 2 ^ (64 * q)))) := by
 have key := run_copy_row (P := Tryz.prog) w 172 172 ty 23 g 0 4 4 ⟨h,q,none⟩ (4 - q) (4 - q) (ig .u64 64 4 0) t ((List.range (4 - q)).map fun i => Value.int .u64 (dgt 64 a (i + q) : Nat)) Tryz.underlying172 Tryz.szUs hg (by simp [Nat.min_def])
  (fun j v hj => by
   have hjl : j < 4 - q := by
    have := (List.getElem?_eq_some_iff.1 hj).1
    simpa using this
   rw [Addr.add_lit,gq,hh,jg,yt _ _ _ _ _ (by omega),Nat.add_comm q j]
   simpa [List.getElem?_map,List.getElem?_range hjl] using hj)
  (by rw [aas]; simp)
  (by
   intro v hv
   simp only [List.mem_map] at hv
   obtain ⟨i,_,rfl⟩ := hv
   rfl)
 have e : ((ig .u64 64 4 0).toList.take 0 ++ ((List.range (4 - q)).map fun i => Value.int .u64 (dgt 64 a (i + q) : Nat)) ++ (ig .u64 64 4 0).toList.drop (0 + ((List.range (4 - q)).map fun i => Value.int .u64 (dgt 64 a (i + q) : Nat)).length)).toArray = ig .u64 64 4 (a / 2 ^ (64 * q)) := by
  apply Array.ext'
  rw [List.toList_toArray,ace,ace,List.take_zero,List.nil_append]
  apply List.ext_getElem?
  intro j
  by_cases hj : j < 4
  ·rw [List.getElem?_map (l := List.range 4),List.getElem?_range hj,Option.map_some,aFb]
   by_cases hjq : j < 4 - q
   ·rw [List.getElem?_append_left (by simp; omega),List.getElem?_map,List.getElem?_range hjq,Option.map_some]
   ·rw [List.getElem?_append_right (by simp; omega),List.getElem?_drop]
    simp only [List.length_map,List.length_range]
    rw [show 0 + (4 - q) + (j - (4 - q)) = j by omega,List.getElem?_map,List.getElem?_range hj,Option.map_some,amh a (j + q) ha (by omega)]
    simp [dgt]
  ·rw [List.getElem?_eq_none (by simp; omega),List.getElem?_eq_none (by simp; omega)]
 rw [e] at key
 rw [key]
 simp [goInt]
theorem aJi {s0 s3 s4 s6 s7 s8 s9 s10 s11 s12 s13 s14 s15 s16 s17 s18 s19 s20 s21 s22 s23 s24 s25 s26 s27 s28 s29 s30 s31 s32 s33 s34 s35 : Value} {K : Act → World → Prop} {Q : Exit → Act → World → Prop} (w : World) (g h q n a : Nat) (ha : a < oz) (hq : q < 4) (hd : IntKind.u64.wrap ((n : Int) / 64) = (q : Int)) (hgh : g ≠ h) (hg : w.heap[g]? = some (.cells (ig .u64 64 4 0) 134 (0,0))) (hh : w.heap[h]? = some (.cells (ig .u64 64 4 a) 134 (0,0)))
  (hK : RowKit.Hid (∀ {u13 u14 u15 u16 u17 : Value} {w' : World},(w'.heap = (w.setRow g (ig .u64 64 4 (a / 2 ^ (64 * q)))).heap ∧ Fr F0 (w.setRow g (ig .u64 64 4 (a / 2 ^ (64 * q)))) w') → K ⟨#[s0,.int .u64 n,.pointer (some ⟨h,0,none⟩),s3,s4,.pointer (some ⟨g,0,none⟩),s6,s7,s8,s9,s10,s11,s12,u13,u14,u15,u16,u17,s18,s19,s20,s21,s22,s23,s24,s25,s26,s27,s28,s29,s30,s31,s32,s33,s34,s35],[]⟩ w')) :
  Code.wp Tryz.prog ((((Tryz.f179.body.bind (qc 4)).getD .skip))) (Exit.then K Q) ⟨#[s0,.int .u64 n,.pointer (some ⟨h,0,none⟩),s3,s4,.pointer (some ⟨g,0,none⟩),s6,s7,s8,s9,s10,s11,s12,s13,s14,s15,s16,s17,s18,s19,s20,s21,s22,s23,s24,s25,s26,s27,s28,s29,s30,s31,s32,s33,s34,s35],[]⟩ w := by
 conv => arg 2; whnf
 have hc := akp w.drew 3 g h q a _ _ _ ha hq hg hh
 refine zn (S := (fun w' => True)) ?_ fun aj => ?_
 ·exact(by ((try dsimp only) <;> (trivial)))
 refine au 0 ?_
 refine au 1 ?_
 refine au 2 ?_
 refine au 3 ?_
 refine zi 4 fun K hK => ?_
 go_simp
 refine rpu hK (by ((try dsimp only) <;> (trivial))) fun aj => ?_
 clear hK K
 refine aap ?_
 all_goals exact hK.out ⟨rfl,(Fr.refl F0 (w.setRow g (ig .u64 64 4 (a / 2 ^ (64 * q))))).drew⟩
def shR (T r : Nat) : Nat → Nat
 |0 => T
 |k + 1 => ae5 64 (shR T r k) (3 - k) (dgt 64 (T / 2 ^ r) (3 - k))
theorem aoq (T r : Nat) : ∀ k j,k ≤ 4 → j < 4 → dgt 64 (shR T r k) j = if 4 - k ≤ j then dgt 64 (T / 2 ^ r) j else dgt 64 T j
 |0,j,_,hj => by rw [if_neg (by omega)]; rfl
 |k + 1,j,hk,hj => by
  rw [shR,akc _ _ _ _ _ (abf _ _ _),aoq T r k j (by omega) hj]
  by_cases h : j = 3 - k
  ·rw [if_pos h,if_pos (by omega),h]
  ·rw [if_neg h]
   by_cases h2 : 4 - k ≤ j
   ·rw [if_pos h2,if_pos (by omega)]
   ·rw [if_neg h2,if_neg (by omega)]
theorem aDk (T r : Nat) (k : IntKind) : ig k 64 4 (shR T r 4) = ig k 64 4 (T / 2 ^ r) :=
 aiy _ _ _ _ _ (ade _ _ _ _ fun i hi => by rw [aoq _ _ _ _ (by omega) hi,if_pos (by omega)])
theorem aE9 (T r i : Nat) (hr : r < 64) : dgt 64 (T / 2 ^ r) i = dgt 64 T i / 2 ^ r ||| dgt 64 T (i + 1) * 2 ^ (64 - r) % 2 ^ 64 := by
 have e1 : T / 2 ^ r / 2 ^ (64 * i) = T / 2 ^ (64 * i) / 2 ^ r := by rw [Nat.div_div_eq_div_mul,Nat.mul_comm,← Nat.div_div_eq_div_mul]
 have e2 : T / 2 ^ (64 * (i + 1)) = T / 2 ^ (64 * i) / 2 ^ 64 := by rw [Nat.div_div_eq_div_mul,← Nat.pow_add]; congr 1
 unfold dgt
 rw [e1,e2]
 generalize T / 2 ^ (64 * i) = X
 have hx := Nat.mod_add_div X (2 ^ 64)
 have hm := Nat.mod_lt X (Nat.two_pow_pos 64)
 generalize X % 2 ^ 64 = m at *
 generalize X / 2 ^ 64 = Y at *
 have ps := aes r hr
 have l1 : m / 2 ^ r < 2 ^ (64 - r) := by rw [Nat.div_lt_iff_lt_mul (Nat.two_pow_pos _),Nat.mul_comm,← ps]; exact hm
 have e3 : X / 2 ^ r = m / 2 ^ r + 2 ^ (64 - r) * Y := by
  rw [← hx]
  conv => lhs; rw [ps]
  rw [Nat.mul_assoc,Nat.add_mul_div_left _ _ (Nat.two_pow_pos _)]
 have e4 : Y % 2 ^ 64 * 2 ^ (64 - r) % 2 ^ 64 = 2 ^ (64 - r) * (Y % 2 ^ r) := by
  rw [Nat.mod_mul_mod]
  conv => lhs; rw [ps]
  rw [Nat.mul_comm Y,Nat.mul_comm (2 ^ r),Nat.mul_mod_mul_left]
 rw [e3,e4]
 conv => lhs; rw [ps,Nat.mul_comm (2 ^ r),Nat.mod_mul,Nat.add_mul_mod_self_left,Nat.mod_eq_of_lt l1,Nat.add_mul_div_left _ _ (Nat.two_pow_pos _),Nat.div_eq_of_lt l1,Nat.zero_add]
 rw [Nat.or_comm,Nat.add_comm]
 exact Nat.two_pow_add_eq_or_of_lt l1 _
end Go.Proofs.YtohckefafbhooaaGreat
namespace Go.Proofs.YtohckefafbhooaaGreat
set_option linter.unusedVariables false
set_option linter.unusedSimpArgs false
open Go.RowKit Go.Shelf
attribute [local go_sem] Oper.semAt_some
theorem acf {F : Fence} {n : Nat} {P : Program} {c : Code} {Q : Exit → Act → World → Prop} {a : Act} {w : World} (W : World) (h : W = w) (k : Code.wpIn F n P c Q a W) : Code.wpIn F n P c Q a w := h ▸ k
theorem aD2 (d m r : Nat) (hd : d < 2 ^ 64) (hm : m < 2 ^ 64) : bits BinOp.or IntKind.u64 ((d : Int) / 2 ^ r) (m : Int) = ((d / 2 ^ r ||| m : Nat) : Int) := by
 have e : (d : Int) / 2 ^ r = ((d / 2 ^ r : Nat) : Int) := by rw [Int.natCast_ediv,Int.natCast_pow]; rfl
 rw [e]
 exact u64_or_nat _ _ (Nat.lt_of_le_of_lt (Nat.div_le_self _ _) hd) hm
theorem avu (d r : Nat) : IntKind.u64.wrap ((d : Int) * 2 ^ r) = ((d * 2 ^ r % 2 ^ 64 : Nat) : Int) := by
 rw [IntKind.wrap_u64,Int.natCast_emod,Int.natCast_mul,Int.natCast_pow]
 rfl
theorem ar8 (a n : Nat) (ha : a < oz) (hn : n < 256) (w : World) :
  Calls Tryz.prog 179 #[.agg (ig .u64 64 4 a),.int .u64 n] w fun e w' => e = .returned (.agg (ig .u64 64 4 (a / 2 ^ n))) ∧ Fr F0 w w' := by
 obtain ⟨q,hq⟩ : ∃ q,q = n / 64 := ⟨_,rfl⟩
 obtain ⟨r,hr⟩ : ∃ r,r = n % 64 := ⟨_,rfl⟩
 have hd : IntKind.u64.wrap ((n : Int) / 64) = (q : Int) := by rw [IntWalk.u64_in _ (by omega)]; omega
 have hge : decide ((256 : Int) ≤ (n : Int)) = false := decide_eq_false (by omega)
 have HN := Lib.hid (show n = 64 * q + r ∧ q < 4 ∧ r < 64 by omega)
 refine callsIn_wide (n := 6) |>.1 ?_
 refine callsIn_of_wp_marks Tryz.func179 rfl trivial ?_ rfl
 simp only [Tryz.ntmps179,List.size_toArray,List.length_cons,List.length_nil,Nat.reduceAdd,Nat.reduceSub,Array.replicate_succ,Array.replicate_zero,List.push_toArray,List.append_toArray,List.nil_append,List.cons_append]
 gi_wp2_with fail
 obtain ⟨W1,hW1⟩ : ∃ W1,W1 = ((w.alloc (.cells (ig .u64 64 4 a) 134)).alloc (.cells (ig .u64 64 4 0) 134)).alloc (.cells (ig .u64 64 4 0) 134) := ⟨_,rfl⟩
 refine acf W1 hW1 ?_
 have f1 : Fr F0 w W1 := by rw [hW1]; exact (((Fr.refl F0 w).alloc _).alloc _).alloc _
 obtain ⟨r0,r1,r2⟩ := aon w (.cells (ig .u64 64 4 a) 134) (.cells (ig .u64 64 4 0) 134) (.cells (ig .u64 64 4 0) 134)
 rw [← hW1] at r0 r1 r2
 have HR := Lib.hid hr
 clear hW1 hq hr
 generalize hg0 : w.heap.size = g0 at *
 generalize hg1 : g0 + 1 = g1 at *
 generalize hg2 : g1 + 1 = g2 at *
 have n1 : g1 ≠ g2 := by omega
 have HG := Lib.hid (show w.heap.size = g0 ∧ g0 ≤ g1 ∧ g0 ≤ g2 by omega)
 refine wpIn_wide.2 ?_
 refine aJi W1 g2 g0 q n a ha HN.out.2.1 hd (by omega) r2 r0 (Lib.hid ?_)
 clear hg0 hg1 hg2 r0
 rename_i u13 u14 u15 u16 u17 w2
 rintro ⟨hh,hf⟩
 replace r1 : w2.heap[g1]? = some (.cells (ig .u64 64 4 0) 134 (0,0)) := by rw [hh,dh _ _ _ _ n1]; exact r1
 replace r2 : w2.heap[g2]? = some (.cells (ig .u64 64 4 (a / 2 ^ (64 * q))) 134 (0,0)) := by rw [hh,bf,r2]; rfl
 have f2 : Fr F0 w w2 := (f1.setRow (fun h => by have := HG.out; omega) _).trans' hf
 have hfin : a / 2 ^ (64 * q) / 2 ^ r = a / 2 ^ n := by rw [Nat.div_div_eq_div_mul,← Nat.pow_add,← HN.out.1]
 have hT : a / 2 ^ (64 * q) < oz := Nat.lt_of_le_of_lt (Nat.div_le_self _ _) ha
 have HF := Lib.hid hfin
 clear hh hf f1 hfin hd
 generalize a / 2 ^ (64 * q) = T at *
 have hsz2 : g2 < w2.heap.size := (Array.getElem?_eq_some_iff.1 r2).1
 have hsz1 : g1 < w2.heap.size := (Array.getElem?_eq_some_iff.1 r1).1
 have HZ := Lib.hid (And.intro hsz1 hsz2)
 clear hsz1 hsz2
 gi_wp2_with (refine ⟨trivial,?_⟩; gi_at_call 124; refine (agh _ _ trivial rfl _ _ _ _).mono ?_; rintro e w4 ⟨rfl,rfl⟩)
 obtain ⟨W3,hW3⟩ : ∃ W3,W3 = ((w2.alloc (.cells #[.int .u64 ((n : Int) % 64)] 98)).alloc (.cells #[.int .u64 0] 23)).alloc (.cells #[.slice (some ⟨g2,0,none⟩) 4 4] 172) := ⟨_,rfl⟩
 rw [← hW3]
 have f3 : Fr F0 w W3 := by rw [hW3]; exact ((f2.alloc _).alloc _).alloc _
 obtain ⟨r4,r5,r6⟩ := aon w2 (.cells #[.int .u64 ((n : Int) % 64)] 98) (.cells #[.int .u64 0] 23) (.cells #[.slice (some ⟨g2,0,none⟩) 4 4] 172)
 rw [← hW3] at r4 r5 r6
 replace r1 : W3.heap[g1]? = some (.cells (ig .u64 64 4 0) 134 (0,0)) := by
  rw [hW3,heap_alloc_old _ _ (by have := HZ.out; simp; omega),heap_alloc_old _ _ (by have := HZ.out; simp; omega),heap_alloc_old _ _ HZ.out.1]; exact r1
 replace r2 : W3.heap[g2]? = some (.cells (ig .u64 64 4 (shR T r 0)) 134 (0,0)) := by
  rw [hW3,heap_alloc_old _ _ (by have := HZ.out; simp; omega),heap_alloc_old _ _ (by have := HZ.out; simp; omega),heap_alloc_old _ _ HZ.out.2]; exact r2
 have hs3 : W3.heap.size = w2.heap.size + 1 + 1 + 1 := by rw [hW3]; simp
 have hzz := HZ.out
 clear hW3 f2 HZ
 generalize hg4 : w2.heap.size = g4 at *
 generalize hg5 : g4 + 1 = g5 at *
 generalize hg6 : g5 + 1 = g6 at *
 have n2 : g1 ≠ g5 := by omega
 have n3 : g2 ≠ g5 := by omega
 have n4 : g4 ≠ g2 := by omega
 have n8 : g5 ≠ g2 := by omega
 have n5 : g4 ≠ g5 := by omega
 have n6 : g6 ≠ g2 := by omega
 have n7 : g6 ≠ g5 := by omega
 have hgg := HG.out
 have HG2 := Lib.hid (show g0 ≤ W3.heap.size ∧ g0 ≤ g2 ∧ g0 ≤ g5 ∧ g0 ≤ g1 by omega)
 clear hgg hzz hs3 hg4 hg5 hg6
 refine aep rfl (by omega) (gf := 144) (lb := #[.pointer (some ⟨g6,0,none⟩)]) rfl trivial (enters_of Tryz.func144 (by kernel_rfl) rfl)
  (adh Fence.wide 5 trivial rfl (by omega) (fun pre => dgt 64 T (3 - pre.length)) 4 g6 g2 0 4 (by omega)) (fun _ => rfl)
  (fun pre W => ((W.heap[g1]? = some (.cells (ig .u64 64 4 0) 134 (0,0)) ∧ W.heap[g2]? = some (.cells (ig .u64 64 4 (shR T r pre.length)) 134 (0,0))) ∧ (W.heap[g4]? = some (.cells #[.int .u64 ((n : Int) % 64)] 98 (0,0)) ∧ W.heap[g5]? = some (.cells #[.int .u64 ((dgt 64 T (4 - pre.length) * 2 ^ (64 - r) % 2 ^ 64 : Nat) : Int)] 23 (0,0)) ∧ W.heap[g6]? = some (.cells #[.slice (some ⟨g2,0,none⟩) 4 4] 172 (0,0)))) ∧ (pre.length ≤ 4) ∧ Below g0 W3 W)
  (fun c _ W => False)
  (OwnFrom.and (OwnFrom.and (OwnFrom.and (qh _ _ _ _ _) (qh _ _ (fun pre : List (Nat × Nat) => ig .u64 64 4 (shR T r pre.length)) _ _)) (OwnFrom.and (qh _ _ _ _ _) (OwnFrom.and (qh _ _ (fun pre : List (Nat × Nat) => #[.int .u64 ((dgt 64 T (4 - pre.length) * 2 ^ (64 - r) % 2 ^ 64 : Nat) : Int)]) _ _) (qh _ _ _ _ _)))) (OwnFrom.and (yu _ _) (own_below _ _ _ (Nat.le_refl _) HG2.out.1)))
  (fun c => yu _ _)
  ?sees ⟨⟨⟨r1,r2⟩,r4,by rw [show ([] : List (Nat × Nat)).length = 0 from rfl,amh T 4 hT (by omega),Nat.zero_mul,Nat.zero_mod]; exact r5,r6⟩,by simp,Below.refl _ _⟩
  (fun x => { tmps := #[.agg (ig .u64 64 4 a),.int .u64 n,.pointer (some ⟨g0,0,none⟩),undef,.pointer (some ⟨g1,0,none⟩),.pointer (some ⟨g2,0,none⟩),.pointer (some ⟨g4,0,none⟩),.pointer (some ⟨g5,0,none⟩),.int .i64 (x.1 : Int),.int .u64 (x.2 : Int),.int .u64 n,.bool false,undef,u13,u14,u15,u16,u17,.int .u64 n,.int .u64 ((n : Int) % 64),.slice (some ⟨g2,0,none⟩) 4 4,.func (.func 144) #[] #[.pointer (some ⟨g6,0,none⟩)],.int .i64 (x.1 : Int),.int .u64 (x.2 : Int),undef,undef,undef,undef,undef,undef,undef,undef,undef,undef,undef,undef],defers := [] }) ?assign ?body ?done ?stop
 case sees =>
  rintro pre W ⟨⟨⟨q1,q2⟩,q4,q5,q6⟩,hl4,_⟩
  refine ⟨by rw [gq,q6]; rfl,fun hl => ?_⟩
  rw [gq,q2,jg,Nat.zero_add,yt _ _ _ _ _ (by omega),aoq _ _ _ _ hl4 (by omega),if_neg (by omega)]
 case assign =>
  intro l x W K hK
  gi_wp2
  exact hK
 case body =>
  rintro l pre x W ⟨⟨⟨q1,q2⟩,q4,q5,q6⟩,hl4,hB⟩ ⟨hlen,rfl,_⟩
  obtain ⟨k,hk⟩ : ∃ k,k = pre.length := ⟨_,rfl⟩
  obtain ⟨i,hi⟩ : ∃ i,i = 3 - k := ⟨_,rfl⟩
  have hi4 : i < 4 := by omega
  have li : (i : Int) < 4 := by omega
  dsimp only
  rw [show 4 - 1 - pre.length = i by omega]
  have HSR := Lib.hid (show shR T r (k + 1) = ae5 64 (shR T r k) i (dgt 64 (T / 2 ^ r) i) by rw [shR,← hi])
  have HJ := Lib.hid (aE9 T r i HN.out.2.2)
  have HL := Lib.hid (show (pre ++ [(i,dgt 64 T i)]).length = k + 1 ∧ 4 - (k + 1) = i ∧ i + 1 = 4 - k by simp; omega)
  rw [← hk] at q2 q5
  rw [← HL.out.2.2] at q5
  have hU := abf 64 T i
  have hbl : dgt 64 T (i + 1) * 2 ^ (64 - r) % 2 ^ 64 < 2 ^ 64 := Nat.mod_lt _ (Nat.two_pow_pos _)
  obtain ⟨B,hBe⟩ : ∃ B,B = dgt 64 T (i + 1) * 2 ^ (64 - r) % 2 ^ 64 := ⟨_,rfl⟩
  rw [← hBe] at q5 hbl
  have HB := Lib.hid hBe
  clear hi hk hlen hl4 hBe
  gi_wp2
  rw [← HR.out,aD2 _ _ _ hU hbl]
  have hE : dgt 64 T i / 2 ^ r ||| B = dgt 64 (T / 2 ^ r) i := by rw [HB.out,HJ.out]
  rw [hE]
  refine ⟨((KeepsOthers.setCell _ _ _).trans (KeepsOthers.setCell _ _ _)).from _,trivial,⟨⟨?_,?_⟩,?_,?_,?_⟩,?_,?_⟩
  ·rw [bn _ _ _ _ _ n2,bn _ _ _ _ _ n1]; exact q1
  ·rw [HL.out.1,bn _ _ _ _ _ n3,cu,q2,jr,abr _ _ _ (abf _ _ _),HSR.out]
  ·rw [bn _ _ _ _ _ n5,bn _ _ _ _ _ n4]; exact q4
  ·rw [HL.out.1,HL.out.2.1,cu,bn _ _ _ _ _ n8,q5,jr,avu]
   rfl
  ·rw [bn _ _ _ _ _ n7,bn _ _ _ _ _ n6]; exact q6
  ·have := HL.out; omega
  ·exact (hB.setCell (p := ⟨g2,i,none⟩) HG2.out.2.1 _).setCell (p := ⟨g5,0,none⟩) HG2.out.2.2.1 _
 case done =>
  rintro D ys W hD rfl ⟨⟨⟨q1,q2⟩,q4,q5,q6⟩,hl4,hB⟩ hK
  rw [aah,aDk,HF.out] at q2
  clear q4 q5 q6
  gi_wp2
  have hD2 : D ≠ g1 := fun e => by subst e; rw [q1] at hK; cases hK
  have hK' : (W.setRow g1 (ig .u64 64 4 (a / 2 ^ n))).heap[D]? = some (.deferred (some [])) := by rw [dh _ _ _ _ hD2]; exact hK
  have hB' : Below g0 W3 ((W.setRow g1 (ig .u64 64 4 (a / 2 ^ n))).putObj D (.deferred none)) := by
   refine Below.trans (hB.trans ?_) (belowK_b (w := W3) HG2.out.1 _ D _ (.deferred none) hD hK' rfl rfl)
   exact ⟨rfl,rfl,rfl,by simp,fun k hk => setRow_other W g1 k _ (by have := HG2.out; omega)⟩
  have hR : ((W.setRow g1 (ig .u64 64 4 (a / 2 ^ n))).putObj D (.deferred none)).heap[g1]? = some (.cells (ig .u64 64 4 (a / 2 ^ n)) 134 (0,0)) := by
   rw [World.putObj_heap_other (fun e => hD2 e.symm),bf,q1]; rfl
  refine ⟨by simp,.inl ⟨_,_,rfl,run_takeDeferred hK',?_⟩⟩
  exact ⟨_,results_cell_row rfl _ _ g1 _ _ _ _ rfl hR Tryz.underlying134 rfl (by rw [Tryz.szWide]; rfl),rfl,f3.trans (Fr.aag hB') fun i hi hk => by have := HG.out; omega⟩
 case stop =>
  rintro D c pre W hD h hK
  exact h.elim
theorem ar7 (a n : Nat) (hn : 256 ≤ n) (w : World) :
  Calls Tryz.prog 179 #[.agg (ig .u64 64 4 a),.int .u64 n] w fun e w' => e = .returned (.agg (ig .u64 64 4 0)) ∧ Fr F0 w w' := by
 have hge : decide ((256 : Int) ≤ (n : Int)) = true := decide_eq_true (by omega)
 go_enter Tryz.func179,Tryz.ntmps179
 go_wp2
 refine bodyPost_ret (results_cell_row rfl _ _ (w.heap.size + 1) _ _ _ _ rfl (by rw [bf,heap_alloc2_new]; rfl) Tryz.underlying134 rfl (by rw [Tryz.szWide]; rfl)) rfl ⟨rfl,?_⟩
 exact (((Fr.refl F0 w).alloc _).alloc _).setRow (fun h => by omega) _
end Go.Proofs.YtohckefafbhooaaGreat
namespace Go.Proofs.YtohckefafbhooaaGreat
set_option linter.unusedVariables false
set_option linter.unusedSimpArgs false
open Go.RowKit
def aoi (a : Nat) (n : Int) : Nat := if n < 0 then (if -n < 256 then a / 2 ^ (-n).toNat else 0) else (if n < 256 then a * 2 ^ n.toNat % oz else 0)
theorem aAx (a n : Nat) (ha : a < oz) (hn : n < 18446744073709551616) (w : World) :
  Calls Tryz.prog 125 #[.agg (ig .u64 64 4 a),.int .u64 n] w fun e w' => e = .returned (.agg (ig .u64 64 4 (if n < 256 then a * 2 ^ n % oz else 0))) ∧ Fr F0 w w' := by
 by_cases h : n < 256
 ·rw [if_pos h]; exact alp a n ha h w
 ·rw [if_neg h]; exact awp a n (by omega) w
theorem aw7 (a n : Nat) (ha : a < oz) (hn : n < 18446744073709551616) (w : World) :
  Calls Tryz.prog 179 #[.agg (ig .u64 64 4 a),.int .u64 n] w fun e w' => e = .returned (.agg (ig .u64 64 4 (if n < 256 then a / 2 ^ n else 0))) ∧ Fr F0 w w' := by
 by_cases h : n < 256
 ·rw [if_pos h]; exact ar8 a n ha h w
 ·rw [if_neg h]; exact ar7 a n (by omega) w
theorem aB7 {w w2 : World} {A B : Obj} {c : Array Value} {g : Nat} (h : Fr F0 ((w.alloc A).alloc B) w2) (hg : w.heap.size ≤ g) : Fr F0 w (w2.setRow g c) :=
 ((((Fr.refl F0 w).alloc _).alloc _).trans' h).setRow (fun h => by omega) _
theorem ait (a : Nat) (n : Int) (ha : a < oz) (h1 : -9223372036854775808 ≤ n) (h2 : n ≤ 9223372036854775807) (w : World) :
  Calls Tryz.prog 159 #[.agg (ig .u64 64 4 a),.int .i64 n] w fun e w' => e = .returned (.agg (ig .u64 64 4 (aoi a (-n)))) ∧ Fr F0 w w' := by
 by_cases h : n < 0
 ·have hd : decide (n < 0) = true := decide_eq_true h
  obtain ⟨m,hm⟩ := Int.eq_ofNat_of_zero_le (show 0 ≤ -n by omega)
  have e2 : IntKind.u64.wrap n = n + 18446744073709551616 := by rw [IntKind.wrap_u64]; omega
  have e3 : IntKind.u64.wrap (-(n + 18446744073709551616)) = (m : Int) := by rw [IntKind.wrap_u64]; omega
  have hr : aoi a (-n) = if m < 256 then a * 2 ^ m % oz else 0 := by
   obtain rfl : n = -(m : Int) := by omega
   have hmp : 0 < m := by omega
   unfold aoi
   rw [Int.neg_neg,if_neg (by omega),Int.toNat_natCast]
   by_cases h3 : m < 256
   ·rw [if_pos h3,if_pos (by omega)]
   ·rw [if_neg h3,if_neg (by omega)]
  rw [hr]
  have HC := Lib.hid (aAx a m ha (by omega))
  generalize (if m < 256 then a * 2 ^ m % oz else 0) = R at *
  clear hr hm
  go_enter Tryz.func159,Tryz.ntmps159
  go_wp2_with ((with_reducible refine (HC.out _).mono ?_); rintro e w2 ⟨rfl,hf⟩; have hr1 := hf.keeps (fun f => f) (heap_alloc2_new w _ _))
  refine bodyPost_ret (results_cell_row rfl _ _ (w.heap.size + 1) _ _ _ _ rfl (by rw [bf,hr1]; rfl) Tryz.underlying134 rfl (by rw [Tryz.szWide]; rfl)) rfl ⟨rfl,aB7 hf (by omega)⟩
 ·have hd : decide (n < 0) = false := decide_eq_false h
  obtain ⟨m,rfl⟩ := Int.eq_ofNat_of_zero_le (show 0 ≤ n by omega)
  have e2 : IntKind.u64.wrap (m : Int) = (m : Int) := by rw [IntKind.wrap_u64]; omega
  have hr : aoi a (-(m : Int)) = if m < 256 then a / 2 ^ m else 0 := by
   unfold aoi
   by_cases h0 : m = 0
   ·subst h0
    simp [Nat.mod_eq_of_lt ha]
   ·rw [if_pos (by omega),Int.neg_neg,Int.toNat_natCast]
    by_cases h3 : m < 256
    ·rw [if_pos h3,if_pos (by omega)]
    ·rw [if_neg h3,if_neg (by omega)]
  rw [hr]
  have HC := Lib.hid (aw7 a m ha (by omega))
  generalize (if m < 256 then a / 2 ^ m else 0) = R at *
  clear hr
  go_enter Tryz.func159,Tryz.ntmps159
  go_wp2_with ((with_reducible refine (HC.out _).mono ?_); rintro e w2 ⟨rfl,hf⟩; have hr1 := hf.keeps (fun f => f) (heap_alloc2_new w _ _))
  refine bodyPost_ret (results_cell_row rfl _ _ (w.heap.size + 1) _ _ _ _ rfl (by rw [bf,hr1]; rfl) Tryz.underlying134 rfl (by rw [Tryz.szWide]; rfl)) rfl ⟨rfl,aB7 hf (by omega)⟩
end Go.Proofs.YtohckefafbhooaaGreat
namespace Go.Proofs.YtohckefafbhooaaGreat
set_option linter.unusedVariables false
set_option linter.unusedSimpArgs false
open Go.RowKit Go.Shelf
theorem ag7 (x : Nat) (hx : x < 18446744073709551616) (w : World) :
  Calls Tryz.prog 171 #[.int .u64 x] w fun e w' => e = .returned (.int .i64 (Lib.bitLen x : Nat)) ∧ w' = w := by
 by_cases c0 : 4294967296 ≤ x
 ·obtain ⟨x1,d0⟩ : ∃ q,q = x / 4294967296 := ⟨_,rfl⟩
  have e0 : (x : Int) / 4294967296 = (x1 : Int) := by omega
  have f0 : (4294967296 : Int) ≤ (x : Int) := by omega
  have g0 : x1 < 4294967296 := by omega
  have D0 := Lib.hid d0
  clear d0
  by_cases c1 : 65536 ≤ x1
  ·obtain ⟨x2,d1⟩ : ∃ q,q = x1 / 65536 := ⟨_,rfl⟩
   have e1 : (x1 : Int) / 65536 = (x2 : Int) := by omega
   have f1 : (65536 : Int) ≤ (x1 : Int) := by omega
   have g1 : x2 < 65536 := by omega
   have D1 := Lib.hid d1
   clear d1
   by_cases c2 : 256 ≤ x2
   ·obtain ⟨x3,d2⟩ : ∃ q,q = x2 / 256 := ⟨_,rfl⟩
    have e2 : (x2 : Int) / 256 = (x3 : Int) := by omega
    have f2 : (256 : Int) ≤ (x2 : Int) := by omega
    have g2 : x3 < 256 := by omega
    have D2 := Lib.hid d2
    clear d2
    have hl := Lib.len8_of (x3 : Int) (by omega) (by omega)
    have hl8 := Lib.bitLen_le8' (x3 : Int) (by omega) (by omega)
    rw [Int.toNat_natCast] at hl hl8
    have hc : (x3 : Int) ≤ 255 := by omega
    have q0 := D0.out
    have q1 := D1.out
    have q2 := D2.out
    have HS := Lib.hid (show Lib.bitLen x = 56 + Lib.bitLen x3 by have := Lib.bitLen_shift 56 x (by omega) (by omega); rw [show x / 2 ^ 56 = x3 by omega] at this; exact this)
    clear q0 q1 q2
    obtain ⟨B,hB⟩ : ∃ B,B = Lib.bitLen x3 := ⟨_,rfl⟩
    rw [← hB] at hl hl8
    have HB := Lib.hid hB
    clear hB
    clear c0 c1 c2
    try clear g0
    try clear g1
    try clear g2
    have z0 : (0 : Int) ≤ x := by omega
    have z0u : (x : Int) < 18446744073709551616 := by omega
    try (have z1 : (0 : Int) ≤ x1 := by omega)
    try (have z2 : (0 : Int) ≤ x2 := by omega)
    try (have z3 : (0 : Int) ≤ x3 := by omega)
    clear hx
    generalize (x : Int) = X at *
    try generalize (x1 : Int) = X1 at *
    try generalize (x2 : Int) = X2 at *
    try generalize (x3 : Int) = X3 at *
    go_enter Tryz.func171,Tryz.ntmps171
    go_wp2
    go_ret
    refine ⟨congrArg Ending.returned (congrArg (Value.int IntKind.i64) ?_),rfl⟩
    rw [HS.out,← HB.out]
    omega
   ·have f2 : (x2 : Int) < 256 := by omega
    have hl := Lib.len8_of (x2 : Int) (by omega) (by omega)
    have hl8 := Lib.bitLen_le8' (x2 : Int) (by omega) (by omega)
    rw [Int.toNat_natCast] at hl hl8
    have hc : (x2 : Int) ≤ 255 := by omega
    have q0 := D0.out
    have q1 := D1.out
    have HS := Lib.hid (show Lib.bitLen x = 48 + Lib.bitLen x2 by have := Lib.bitLen_shift 48 x (by omega) (by omega); rw [show x / 2 ^ 48 = x2 by omega] at this; exact this)
    clear q0 q1
    obtain ⟨B,hB⟩ : ∃ B,B = Lib.bitLen x2 := ⟨_,rfl⟩
    rw [← hB] at hl hl8
    have HB := Lib.hid hB
    clear hB
    clear c0 c1 c2
    try clear g0
    try clear g1
    try clear g2
    have z0 : (0 : Int) ≤ x := by omega
    have z0u : (x : Int) < 18446744073709551616 := by omega
    try (have z1 : (0 : Int) ≤ x1 := by omega)
    try (have z2 : (0 : Int) ≤ x2 := by omega)
    try (have z3 : (0 : Int) ≤ x3 := by omega)
    clear hx
    generalize (x : Int) = X at *
    try generalize (x1 : Int) = X1 at *
    try generalize (x2 : Int) = X2 at *
    try generalize (x3 : Int) = X3 at *
    go_enter Tryz.func171,Tryz.ntmps171
    go_wp2
    go_ret
    refine ⟨congrArg Ending.returned (congrArg (Value.int IntKind.i64) ?_),rfl⟩
    rw [HS.out,← HB.out]
    omega
  ·have f1 : (x1 : Int) < 65536 := by omega
   by_cases c2 : 256 ≤ x1
   ·obtain ⟨x3,d2⟩ : ∃ q,q = x1 / 256 := ⟨_,rfl⟩
    have e2 : (x1 : Int) / 256 = (x3 : Int) := by omega
    have f2 : (256 : Int) ≤ (x1 : Int) := by omega
    have g2 : x3 < 256 := by omega
    have D2 := Lib.hid d2
    clear d2
    have hl := Lib.len8_of (x3 : Int) (by omega) (by omega)
    have hl8 := Lib.bitLen_le8' (x3 : Int) (by omega) (by omega)
    rw [Int.toNat_natCast] at hl hl8
    have hc : (x3 : Int) ≤ 255 := by omega
    have q0 := D0.out
    have q2 := D2.out
    have HS := Lib.hid (show Lib.bitLen x = 40 + Lib.bitLen x3 by have := Lib.bitLen_shift 40 x (by omega) (by omega); rw [show x / 2 ^ 40 = x3 by omega] at this; exact this)
    clear q0 q2
    obtain ⟨B,hB⟩ : ∃ B,B = Lib.bitLen x3 := ⟨_,rfl⟩
    rw [← hB] at hl hl8
    have HB := Lib.hid hB
    clear hB
    clear c0 c1 c2
    try clear g0
    try clear g1
    try clear g2
    have z0 : (0 : Int) ≤ x := by omega
    have z0u : (x : Int) < 18446744073709551616 := by omega
    try (have z1 : (0 : Int) ≤ x1 := by omega)
    try (have z2 : (0 : Int) ≤ x2 := by omega)
    try (have z3 : (0 : Int) ≤ x3 := by omega)
    clear hx
    generalize (x : Int) = X at *
    try generalize (x1 : Int) = X1 at *
    try generalize (x2 : Int) = X2 at *
    try generalize (x3 : Int) = X3 at *
    go_enter Tryz.func171,Tryz.ntmps171
    go_wp2
    go_ret
    refine ⟨congrArg Ending.returned (congrArg (Value.int IntKind.i64) ?_),rfl⟩
    rw [HS.out,← HB.out]
    omega
   ·have f2 : (x1 : Int) < 256 := by omega
    have hl := Lib.len8_of (x1 : Int) (by omega) (by omega)
    have hl8 := Lib.bitLen_le8' (x1 : Int) (by omega) (by omega)
    rw [Int.toNat_natCast] at hl hl8
    have hc : (x1 : Int) ≤ 255 := by omega
    have q0 := D0.out
    have HS := Lib.hid (show Lib.bitLen x = 32 + Lib.bitLen x1 by have := Lib.bitLen_shift 32 x (by omega) (by omega); rw [show x / 2 ^ 32 = x1 by omega] at this; exact this)
    clear q0
    obtain ⟨B,hB⟩ : ∃ B,B = Lib.bitLen x1 := ⟨_,rfl⟩
    rw [← hB] at hl hl8
    have HB := Lib.hid hB
    clear hB
    clear c0 c1 c2
    try clear g0
    try clear g1
    try clear g2
    have z0 : (0 : Int) ≤ x := by omega
    have z0u : (x : Int) < 18446744073709551616 := by omega
    try (have z1 : (0 : Int) ≤ x1 := by omega)
    try (have z2 : (0 : Int) ≤ x2 := by omega)
    try (have z3 : (0 : Int) ≤ x3 := by omega)
    clear hx
    generalize (x : Int) = X at *
    try generalize (x1 : Int) = X1 at *
    try generalize (x2 : Int) = X2 at *
    try generalize (x3 : Int) = X3 at *
    go_enter Tryz.func171,Tryz.ntmps171
    go_wp2
    go_ret
    refine ⟨congrArg Ending.returned (congrArg (Value.int IntKind.i64) ?_),rfl⟩
    rw [HS.out,← HB.out]
    omega
 ·have f0 : (x : Int) < 4294967296 := by omega
  by_cases c1 : 65536 ≤ x
  ·obtain ⟨x2,d1⟩ : ∃ q,q = x / 65536 := ⟨_,rfl⟩
   have e1 : (x : Int) / 65536 = (x2 : Int) := by omega
   have f1 : (65536 : Int) ≤ (x : Int) := by omega
   have g1 : x2 < 65536 := by omega
   have D1 := Lib.hid d1
   clear d1
   by_cases c2 : 256 ≤ x2
   ·obtain ⟨x3,d2⟩ : ∃ q,q = x2 / 256 := ⟨_,rfl⟩
    have e2 : (x2 : Int) / 256 = (x3 : Int) := by omega
    have f2 : (256 : Int) ≤ (x2 : Int) := by omega
    have g2 : x3 < 256 := by omega
    have D2 := Lib.hid d2
    clear d2
    have hl := Lib.len8_of (x3 : Int) (by omega) (by omega)
    have hl8 := Lib.bitLen_le8' (x3 : Int) (by omega) (by omega)
    rw [Int.toNat_natCast] at hl hl8
    have hc : (x3 : Int) ≤ 255 := by omega
    have q1 := D1.out
    have q2 := D2.out
    have HS := Lib.hid (show Lib.bitLen x = 24 + Lib.bitLen x3 by have := Lib.bitLen_shift 24 x (by omega) (by omega); rw [show x / 2 ^ 24 = x3 by omega] at this; exact this)
    clear q1 q2
    obtain ⟨B,hB⟩ : ∃ B,B = Lib.bitLen x3 := ⟨_,rfl⟩
    rw [← hB] at hl hl8
    have HB := Lib.hid hB
    clear hB
    clear c0 c1 c2
    try clear g0
    try clear g1
    try clear g2
    have z0 : (0 : Int) ≤ x := by omega
    have z0u : (x : Int) < 18446744073709551616 := by omega
    try (have z1 : (0 : Int) ≤ x1 := by omega)
    try (have z2 : (0 : Int) ≤ x2 := by omega)
    try (have z3 : (0 : Int) ≤ x3 := by omega)
    clear hx
    generalize (x : Int) = X at *
    try generalize (x1 : Int) = X1 at *
    try generalize (x2 : Int) = X2 at *
    try generalize (x3 : Int) = X3 at *
    go_enter Tryz.func171,Tryz.ntmps171
    go_wp2
    go_ret
    refine ⟨congrArg Ending.returned (congrArg (Value.int IntKind.i64) ?_),rfl⟩
    rw [HS.out,← HB.out]
    omega
   ·have f2 : (x2 : Int) < 256 := by omega
    have hl := Lib.len8_of (x2 : Int) (by omega) (by omega)
    have hl8 := Lib.bitLen_le8' (x2 : Int) (by omega) (by omega)
    rw [Int.toNat_natCast] at hl hl8
    have hc : (x2 : Int) ≤ 255 := by omega
    have q1 := D1.out
    have HS := Lib.hid (show Lib.bitLen x = 16 + Lib.bitLen x2 by have := Lib.bitLen_shift 16 x (by omega) (by omega); rw [show x / 2 ^ 16 = x2 by omega] at this; exact this)
    clear q1
    obtain ⟨B,hB⟩ : ∃ B,B = Lib.bitLen x2 := ⟨_,rfl⟩
    rw [← hB] at hl hl8
    have HB := Lib.hid hB
    clear hB
    clear c0 c1 c2
    try clear g0
    try clear g1
    try clear g2
    have z0 : (0 : Int) ≤ x := by omega
    have z0u : (x : Int) < 18446744073709551616 := by omega
    try (have z1 : (0 : Int) ≤ x1 := by omega)
    try (have z2 : (0 : Int) ≤ x2 := by omega)
    try (have z3 : (0 : Int) ≤ x3 := by omega)
    clear hx
    generalize (x : Int) = X at *
    try generalize (x1 : Int) = X1 at *
    try generalize (x2 : Int) = X2 at *
    try generalize (x3 : Int) = X3 at *
    go_enter Tryz.func171,Tryz.ntmps171
    go_wp2
    go_ret
    refine ⟨congrArg Ending.returned (congrArg (Value.int IntKind.i64) ?_),rfl⟩
    rw [HS.out,← HB.out]
    omega
  ·have f1 : (x : Int) < 65536 := by omega
   by_cases c2 : 256 ≤ x
   ·obtain ⟨x3,d2⟩ : ∃ q,q = x / 256 := ⟨_,rfl⟩
    have e2 : (x : Int) / 256 = (x3 : Int) := by omega
    have f2 : (256 : Int) ≤ (x : Int) := by omega
    have g2 : x3 < 256 := by omega
    have D2 := Lib.hid d2
    clear d2
    have hl := Lib.len8_of (x3 : Int) (by omega) (by omega)
    have hl8 := Lib.bitLen_le8' (x3 : Int) (by omega) (by omega)
    rw [Int.toNat_natCast] at hl hl8
    have hc : (x3 : Int) ≤ 255 := by omega
    have q2 := D2.out
    have HS := Lib.hid (show Lib.bitLen x = 8 + Lib.bitLen x3 by have := Lib.bitLen_shift 8 x (by omega) (by omega); rw [show x / 2 ^ 8 = x3 by omega] at this; exact this)
    clear q2
    obtain ⟨B,hB⟩ : ∃ B,B = Lib.bitLen x3 := ⟨_,rfl⟩
    rw [← hB] at hl hl8
    have HB := Lib.hid hB
    clear hB
    clear c0 c1 c2
    try clear g0
    try clear g1
    try clear g2
    have z0 : (0 : Int) ≤ x := by omega
    have z0u : (x : Int) < 18446744073709551616 := by omega
    try (have z1 : (0 : Int) ≤ x1 := by omega)
    try (have z2 : (0 : Int) ≤ x2 := by omega)
    try (have z3 : (0 : Int) ≤ x3 := by omega)
    clear hx
    generalize (x : Int) = X at *
    try generalize (x1 : Int) = X1 at *
    try generalize (x2 : Int) = X2 at *
    try generalize (x3 : Int) = X3 at *
    go_enter Tryz.func171,Tryz.ntmps171
    go_wp2
    go_ret
    refine ⟨congrArg Ending.returned (congrArg (Value.int IntKind.i64) ?_),rfl⟩
    rw [HS.out,← HB.out]
    omega
   ·have f2 : (x : Int) < 256 := by omega
    have hl := Lib.len8_of (x : Int) (by omega) (by omega)
    have hl8 := Lib.bitLen_le8' (x : Int) (by omega) (by omega)
    rw [Int.toNat_natCast] at hl hl8
    have hc : (x : Int) ≤ 255 := by omega
    have HS := Lib.hid (show Lib.bitLen x = 0 + Lib.bitLen x by rw [Nat.zero_add])
    obtain ⟨B,hB⟩ : ∃ B,B = Lib.bitLen x := ⟨_,rfl⟩
    rw [← hB] at hl hl8
    have HB := Lib.hid hB
    clear hB
    clear c0 c1 c2
    try clear g0
    try clear g1
    try clear g2
    have z0 : (0 : Int) ≤ x := by omega
    have z0u : (x : Int) < 18446744073709551616 := by omega
    try (have z1 : (0 : Int) ≤ x1 := by omega)
    try (have z2 : (0 : Int) ≤ x2 := by omega)
    try (have z3 : (0 : Int) ≤ x3 := by omega)
    clear hx
    generalize (x : Int) = X at *
    try generalize (x1 : Int) = X1 at *
    try generalize (x2 : Int) = X2 at *
    try generalize (x3 : Int) = X3 at *
    go_enter Tryz.func171,Tryz.ntmps171
    go_wp2
    go_ret
    refine ⟨congrArg Ending.returned (congrArg (Value.int IntKind.i64) ?_),rfl⟩
    rw [HS.out,← HB.out]
    omega
end Go.Proofs.YtohckefafbhooaaGreat
namespace Go.Proofs.YtohckefafbhooaaGreat
set_option linter.unusedVariables false
set_option linter.unusedSimpArgs false
open Go.RowKit Go.Shelf
attribute [local go_sem] Oper.semAt_some
def nbits (n : Nat) : Nat := if n = 0 then 0 else n.log2 + 1
theorem wo (n k : Nat) : nbits n ≤ k ↔ n < 2 ^ k := by
 unfold nbits
 by_cases h : n = 0
 ·subst h; simp [Nat.two_pow_pos]
 ·rw [if_neg h]
  exact Nat.log2_lt h
theorem aAk {m n : Nat} (h : ∀ k,m ≤ k ↔ n ≤ k) : m = n := Nat.le_antisymm ((h n).2 (Nat.le_refl _)) ((h m).1 (Nat.le_refl _))
theorem ahi (a k : Nat) (h : 2 ^ k ≤ a) : nbits a = k + nbits (a / 2 ^ k) := by
 refine aAk fun j => ?_
 rw [wo]
 by_cases hj : k ≤ j
 ·obtain ⟨d,rfl⟩ : ∃ d,j = k + d := ⟨j - k,by omega⟩
  rw [Nat.add_le_add_iff_left,wo,Nat.div_lt_iff_lt_mul (Nat.two_pow_pos _),Nat.pow_add,Nat.mul_comm]
 ·have : 2 ^ j ≤ 2 ^ k := Nat.pow_le_pow_right (by omega) (by omega)
  constructor
  ·intro h2; omega
  ·intro h2; omega
theorem ate (x : Nat) (h : x ≠ 0) : nbits x = 1 + nbits (x / 2) := by
 by_cases h1 : x = 1
 ·subst h1; decide
 ·have := ahi x 1 (by omega)
  simpa using this
theorem ac5 : ∀ (n x : Nat),x < 2 ^ 64 → x ≤ n → Lib.bitLen x = nbits x
 |0,x,_,h => by
  obtain rfl : x = 0 := by omega
  decide
 |n + 1,x,hx,h => by
  by_cases h0 : x = 0
  ·subst h0; decide
  ·rw [Lib.bitLen_half x h0 hx,ate x h0,ac5 n (x / 2) (by omega) (by omega)]
theorem ae4 (x : Nat) (hx : x < 18446744073709551616) (w : World) :
  Calls Tryz.prog 180 #[.int .u64 x] w fun e w' => e = .returned (.int .i64 ((64 - nbits x : Nat) : Int)) ∧ w' = w := by
 have hb := ac5 x x hx (Nat.le_refl _)
 have hl := (wo x 64).2 hx
 have HC := Lib.hid (fun w => ag7 x hx w)
 rw [hb] at HC
 obtain ⟨B,hB⟩ : ∃ B,B = nbits x := ⟨_,rfl⟩
 rw [← hB] at HC hl ⊢
 clear hb hx hB
 have hw : IntKind.i64.wrap (64 - (B : Int)) = ((64 - B : Nat) : Int) := by rw [IntWalk.i64_in _ (by omega)]; omega
 go_enter Tryz.func180,Tryz.ntmps180
 go_wp2_with ((with_reducible refine (HC.out _).mono ?_); rintro e w' ⟨rfl,rfl⟩)
 go_ret
 refine ⟨congrArg Ending.returned (congrArg (Value.int IntKind.i64) ?_),rfl⟩
 omega
theorem aj3 (a i : Nat) (h : a < 2 ^ (64 * (i + 1))) : a / 2 ^ (64 * i) = dgt 64 a i := by
 rw [dgt,Nat.mod_eq_of_lt]
 rw [Nat.div_lt_iff_lt_mul (Nat.two_pow_pos _),Nat.mul_comm,← ab9]
 exact h
theorem aBh (a i : Nat) (h : a < 2 ^ (64 * (i + 1))) (h0 : dgt 64 a i ≠ 0) : nbits a = 64 * i + nbits (dgt 64 a i) := by
 rw [← aj3 a i h]
 refine ahi a (64 * i) ?_
 rw [← aj3 a i h] at h0
 exact Nat.le_of_not_lt fun hl => h0 (Nat.div_eq_of_lt hl)
theorem axv (a i : Nat) (h : a < 2 ^ (64 * (i + 1))) (h0 : dgt 64 a i = 0) : a < 2 ^ (64 * i) := by
 rw [← aj3 a i h] at h0
 rcases Nat.div_eq_zero_iff.1 h0 with h1 | h1
 ·exact absurd h1 (Nat.ne_of_gt (Nat.two_pow_pos _))
 ·exact h1
theorem awt (a : Nat) (ha : a < oz) (w : World) :
  Calls Tryz.prog 158 #[.agg (ig .u64 64 4 a)] w fun e w' => e = .returned (.int .i64 (nbits a : Nat)) ∧ Fr F0 w w' := by
 have H4 := Lib.hid (show a < 2 ^ (64 * 4) from ha)
 clear ha
 refine callsIn_wide (n := 6) |>.1 ?_
 refine callsIn_of_wp_marks Tryz.func158 rfl trivial ?_ rfl
 simp only [Tryz.ntmps158,List.size_toArray,List.length_cons,List.length_nil,Nat.reduceAdd,Nat.reduceSub,Array.replicate_succ,Array.replicate_zero,List.push_toArray,List.append_toArray,List.nil_append,List.cons_append]
 gi_wp2_with (refine ⟨trivial,?_⟩; gi_at_call 124; refine (agh _ _ trivial rfl _ _ _ _).mono ?_; rintro e w2 ⟨rfl,rfl⟩)
 obtain ⟨W1,hW1⟩ : ∃ W1,W1 = ((w.alloc (.cells (ig .u64 64 4 a) 134)).alloc (.cells #[.int .i64 0] 3)).alloc (.cells #[.slice (some ⟨w.heap.size,0,none⟩) 4 4] 172) := ⟨_,rfl⟩
 rw [← hW1]
 have f1 : Fr F0 w W1 := by rw [hW1]; exact (((Fr.refl F0 w).alloc _).alloc _).alloc _
 have hs1 : W1.heap.size = w.heap.size + 1 + 1 + 1 := by rw [hW1]; simp
 obtain ⟨r0,r2,r3⟩ := aon w (.cells (ig .u64 64 4 a) 134) (.cells #[.int .i64 0] 3) (.cells #[.slice (some ⟨w.heap.size,0,none⟩) 4 4] 172)
 rw [← hW1] at r0 r2 r3
 clear hW1
 generalize hg0 : w.heap.size = g0 at *
 generalize hg2 : g0 + 1 = g2 at *
 generalize hg3 : g2 + 1 = g3 at *
 have n0 : g0 ≠ g2 := by omega
 have n3 : g3 ≠ g2 := by omega
 have HG := Lib.hid (show g0 ≤ W1.heap.size ∧ g0 ≤ g2 ∧ w.heap.size = g0 by omega)
 clear hg0 hg2 hg3 hs1
 refine aep rfl (by omega) (gf := 144) (lb := #[.pointer (some ⟨g3,0,none⟩)]) rfl trivial (enters_of Tryz.func144 (by kernel_rfl) rfl)
  (adh Fence.wide 5 trivial rfl (by omega) (fun pre => dgt 64 a (3 - pre.length)) 4 g3 g0 0 4 (by omega)) (fun _ => rfl)
  (fun pre W => (W.heap[g0]? = some (.cells (ig .u64 64 4 a) 134 (0,0)) ∧ W.heap[g2]? = some (.cells #[.int .i64 0] 3 (0,0)) ∧ W.heap[g3]? = some (.cells #[.slice (some ⟨g0,0,none⟩) 4 4] 172 (0,0))) ∧ (a < 2 ^ (64 * (4 - pre.length))) ∧ Below g0 W1 W)
  (fun c _ W => c = .ret ∧ W.heap[g2]? = some (.cells #[.int .i64 (nbits a : Nat)] 3 (0,0)) ∧ Below g0 W1 W)
  (OwnFrom.and (OwnFrom.and (qh _ _ _ _ _) (OwnFrom.and (qh _ _ _ _ _) (qh _ _ _ _ _))) (OwnFrom.and (yu _ _) (own_below _ _ _ (Nat.le_refl _) HG.out.1)))
  (fun c => OwnFrom.and (yu _ _) (OwnFrom.and (qh _ _ _ _ _) (own_below _ _ _ (Nat.le_refl _) HG.out.1)))
  ?sees ⟨⟨r0,r2,r3⟩,H4.out,Below.refl _ _⟩
  (fun x => { tmps := #[.agg (ig .u64 64 4 a),.pointer (some ⟨g0,0,none⟩),.pointer (some ⟨g2,0,none⟩),.int .i64 (x.1 : Int),.int .u64 (x.2 : Int),.slice (some ⟨g0,0,none⟩) 4 4,.func (.func 144) #[] #[.pointer (some ⟨g3,0,none⟩)],.int .i64 (x.1 : Int),.int .u64 (x.2 : Int),undef,undef,undef,undef,undef,undef,undef],defers := [] }) ?assign ?body ?done ?stop
 case sees =>
  rintro pre W ⟨⟨q0,q2,q3⟩,_,_⟩
  refine ⟨by rw [gq,q3]; rfl,fun hl => ?_⟩
  rw [gq,q0,jg,Nat.zero_add]
  exact yt _ _ _ _ _ (by omega)
 case assign =>
  intro l x W K hK
  gi_wp2
  exact hK
 case body =>
  rintro l pre x W ⟨⟨q0,q2,q3⟩,he,hB⟩ ⟨hlen,rfl,_⟩
  obtain ⟨i,hi⟩ : ∃ i,i = 3 - pre.length := ⟨_,rfl⟩
  have hi4 : i < 4 := by omega
  have li : (i : Int) < 4 := by omega
  dsimp only
  rw [show 4 - 1 - pre.length = i by omega]
  rw [show 4 - pre.length = i + 1 by omega] at he
  have hl2 : 4 - (pre ++ [(i,dgt 64 a i)]).length = i := by simp; omega
  have HE := Lib.hid he
  have HL := Lib.hid hl2
  clear he hl2 hi hlen
  by_cases hd : dgt 64 a i = 0
  ·have hd' : ((dgt 64 a i : Int) != 0) = false := by rw [hd]; rfl
   have HD := Lib.hid hd
   clear hd
   gi_wp2
   refine ⟨KeepsFrom.refl _ _,trivial,⟨q0,q2,q3⟩,?_,hB⟩
   rw [HL.out]
   exact axv _ _ HE.out HD.out
  ·have hd' : ((dgt 64 a i : Int) != 0) = true := bne_iff_ne.2 (by omega)
   have hdl := abf 64 a i
   have hS := aBh a i HE.out hd
   have hbl := ac5 _ _ hdl (Nat.le_refl _)
   have hn64 := (wo _ _).2 hdl
   have hlen := ag7 _ hdl
   rw [hbl] at hlen
   have HLn := Lib.hid hlen
   generalize nbits (dgt 64 a i) = B at *
   have hw1 : IntKind.i64.wrap ((i : Int) * 64 + (B : Int)) = ((nbits a : Nat) : Int) := by rw [IntWalk.i64_in _ (by omega)]; omega
   have hw2 : (i : Int) * 64 + (B : Int) = ((nbits a : Nat) : Int) := by omega
   have HW := Lib.hid hw2
   clear hlen hbl hS hd hdl hw2
   gi_wp2_with (refine ⟨trivial,?_⟩; gi_at_call 171; refine (CallsIn.inRound l (callsIn_wide.2 (HLn.out _))).mono ?_; rintro e w' ⟨rfl,rfl⟩)
   refine ⟨(KeepsOthers.setCell _ _ _).from _,rfl,?_,hB.setCell (p := ⟨g2,0,none⟩) (by have := HG.out; simp only; omega) _⟩
   rw [cu,q2]
   first | (rw [HW.out]; rfl) | rfl
 case done =>
  rintro D ys W hD rfl ⟨⟨q0,q2,q3⟩,he,hB⟩ hK
  rw [aah] at he
  have hab : a = 0 := by simpa using he
  have HE := Lib.hid hab
  clear he hab
  gi_wp2
  have hD2 : D ≠ g2 := fun e => by subst e; rw [q2] at hK; cases hK
  have hK' : (W.setCell ⟨g2,0,none⟩ (.int .i64 0)).heap[D]? = some (.deferred (some [])) := by rw [bn _ _ _ _ _ hD2]; exact hK
  have hB' := (hB.setCell (p := ⟨g2,0,none⟩) (by have := HG.out; simp only; omega) (.int .i64 0)).trans (belowK_b (w := W1) HG.out.1 (W.setCell ⟨g2,0,none⟩ (.int .i64 0)) D _ (.deferred none) hD hK' rfl rfl)
  have hR : ((W.setCell ⟨g2,0,none⟩ (.int .i64 0)).putObj D (.deferred none)).cell? ⟨g2,0,none⟩ = some (.int .i64 0) := by
   rw [gq,World.putObj_heap_other (fun e => hD2 e.symm),cu,q2]; rfl
  refine ⟨by simp,.inl ⟨_,_,rfl,run_takeDeferred hK',?_⟩⟩
  exact ⟨_,aeo rfl _ _ g2 _ rfl hR Tryz.underlying3,by rw [HE.out]; rfl,f1.trans (Fr.aag hB') fun i hi hk => by have := HG.out; omega⟩
 case stop =>
  rintro D c pre W hD ⟨rfl,q2,hB⟩ hK
  gi_wp2
  have hD2 : D ≠ g2 := fun e => by subst e; rw [q2] at hK; cases hK
  have hB' := hB.trans (belowK_b (w := W1) HG.out.1 W D _ (.deferred none) hD hK rfl rfl)
  have hR : (W.putObj D (.deferred none)).cell? ⟨g2,0,none⟩ = some (.int .i64 (nbits a : Nat)) := by
   rw [gq,World.putObj_heap_other (fun e => hD2 e.symm),q2]; rfl
  refine ⟨by simp,.inl ⟨_,_,rfl,run_takeDeferred hK,?_⟩⟩
  exact ⟨_,aeo rfl _ _ g2 _ rfl hR Tryz.underlying3,rfl,f1.trans (Fr.aag hB') fun i hi hk => by have := HG.out; omega⟩
end Go.Proofs.YtohckefafbhooaaGreat
namespace Go.Proofs.YtohckefafbhooaaGreat
set_option linter.unusedVariables false
set_option linter.unusedSimpArgs false
open Go.RowKit
theorem ayk (lo y : Nat) (hy : 0 < y) (hlo : lo < 18446744073709551616) (w : World) :
  Calls Tryz.prog 160 #[.int .u64 0,.int .u64 lo,.int .u64 y] w fun e w' => e = .returned (.tuple #[.int .u64 ((lo / y : Nat) : Int),.int .u64 ((lo % y : Nat) : Int)]) ∧ Fr F0 w w' := by
 have z0 : ((y : Int) == 0) = false := by simp; omega
 have z1 : ¬ (y : Int) = 0 := by omega
 have z4 : ¬ y = 0 := by omega
 have z5 : IntKind.u64.wrap ((lo : Int) / (y : Int)) = ((lo / y : Nat) : Int) := by
  have := Nat.div_le_self lo y
  rw [← Int.natCast_ediv]
  generalize lo / y = z at *
  exact IntWalk.u64_in _ (by omega)
 clear hlo
 have z2 : decide ((y : Int) ≤ 0) = false := decide_eq_false (by omega)
 go_enter Tryz.func160,Tryz.ntmps160
 go_wp2_with fail
 go_region
 all_goals go_wp2
 all_goals go_ret2
 all_goals refine ⟨?_,(Fr.refl F0 w).drew⟩
 all_goals (rw [Int.natCast_emod]; rfl)
theorem abq (x : Int) : IntKind.u64.wrap x = x % 18446744073709551616 := IntKind.wrap_u64 x
theorem auw (hi lo y : Nat) (hh : 0 < hi) (hlt : hi < y) (hlo : lo < 18446744073709551616) (hy : y < 18446744073709551616) (w : World) :
  Calls Tryz.prog 160 #[.int .u64 hi,.int .u64 lo,.int .u64 y] w fun e w' => e = .returned (.tuple #[.int .u64 (((hi * 18446744073709551616 + lo) / y : Nat) : Int),.int .u64 (((hi * 18446744073709551616 + lo) % y : Nat) : Int)]) ∧ Fr F0 w w' := by
 have z0 : ((y : Int) == 0) = false := by simp; omega
 have z2 : decide (y ≤ hi) = false := decide_eq_false (by omega)
 have z3 : ((hi : Int) == 0) = false := by simp; omega
 have HLZ := Lib.hid (ae4 y hy)
 obtain ⟨s,hs⟩ : ∃ s,s = 64 - nbits y := ⟨_,rfl⟩
 rw [← hs] at HLZ
 have hnb : 0 < nbits y := Nat.pos_of_ne_zero fun e => by have := (wo y 0).1 (by omega); omega
 have hnb2 := (wo y 64).2 hy
 have hs64 : (s : Int) < 64 := by omega
 obtain ⟨Y,hY⟩ : ∃ Y,Y = y * 2 ^ s := ⟨_,rfl⟩
 obtain ⟨U,hU⟩ : ∃ U,U = hi * 2 ^ s + lo / 2 ^ (64 - s) := ⟨_,rfl⟩
 obtain ⟨V,hV⟩ : ∃ V,V = lo * 2 ^ s % 2 ^ 64 := ⟨_,rfl⟩
 obtain ⟨nUY,nE,nL⟩ := aAj hlt (by omega) hY hU hV hlo
 have hYb : 2 ^ 63 ≤ Y ∧ Y < 2 ^ 64 := by
  have h1 := (wo y (nbits y)).1 (Nat.le_refl _)
  have h2 : 2 ^ (nbits y - 1) ≤ y := Nat.le_of_not_lt fun h => by have := (wo y (nbits y - 1)).2 h; omega
  have e1 : (2 : Nat) ^ 64 = 2 ^ nbits y * 2 ^ s := by rw [← Nat.pow_add]; congr 1; omega
  have e2 : (2 : Nat) ^ 63 = 2 ^ (nbits y - 1) * 2 ^ s := by rw [← Nat.pow_add]; congr 1; omega
  rw [hY,e1,e2]
  exact ⟨Nat.mul_le_mul_right _ h2,Nat.mul_lt_mul_of_pos_right h1 (Nat.two_pow_pos s)⟩
 have hres : (hi * 18446744073709551616 + lo) / y = (U * 18446744073709551616 + V) / Y ∧ (hi * 18446744073709551616 + lo) % y = (U * 18446744073709551616 + V) % Y / 2 ^ s := by
  rw [← nE,hY]
  exact ⟨(ag9 _ _ _).1.symm,(ag9 _ _ _).2.symm⟩
 have hVl : V < 2 ^ 64 := by rw [hV]; exact Nat.mod_lt _ (Nat.two_pow_pos _)
 -- what the walk reckons
 have x1 : IntKind.u64.wrap ((y : Int) * 2 ^ s) = (Y : Int) := by
  have e : (y : Int) * 2 ^ s = ((y * 2 ^ s : Nat) : Int) := by rw [Int.natCast_mul,Int.natCast_pow]; rfl
  rw [e,← hY,IntWalk.u64_in _ (by omega)]
 have x2 : bits BinOp.or IntKind.u64 (IntKind.u64.wrap ((hi : Int) * 2 ^ s)) ((lo : Int) / 2 ^ (64 - s)) = (U : Int) := by
  have e2 : (lo : Int) / 2 ^ (64 - s) = ((lo / 2 ^ (64 - s) : Nat) : Int) := by rw [Int.natCast_ediv,Int.natCast_pow]; rfl
  have hp := Nat.two_pow_pos s
  have hps : 2 ^ s ≤ 2 ^ 64 := Nat.pow_le_pow_right (by omega) (by omega)
  rw [e2,or_val hi (lo / 2 ^ (64 - s)) s (by omega)]
  have h4 : hi * 2 ^ s ≤ U := by rw [hU]; exact Nat.le_add_right _ _
  have h3 : hi * 2 ^ s < 2 ^ 64 := by omega
  rw [Nat.mod_eq_of_lt h3,Nat.mul_comm,← Nat.two_pow_add_eq_or_of_lt nL,Nat.mul_comm,← hU]
 have x3 : IntKind.u64.wrap ((lo : Int) * 2 ^ s) = (V : Int) := by rw [avu,← hV]
 obtain ⟨y1,hy1⟩ : ∃ q,q = Y / 4294967296 := ⟨_,rfl⟩
 obtain ⟨y0,hy0⟩ : ∃ q,q = Y % 4294967296 := ⟨_,rfl⟩
 obtain ⟨v1,hv1⟩ : ∃ q,q = V / 4294967296 := ⟨_,rfl⟩
 obtain ⟨v0,hv0⟩ : ∃ q,q = V % 4294967296 := ⟨_,rfl⟩
 have x4 : (Y : Int) / 4294967296 = (y1 : Int) := by omega
 have x5 : bits BinOp.and IntKind.u64 (Y : Int) 4294967295 = (y0 : Int) := by rw [ael _ (by omega),← hy0]
 have x6 : (V : Int) / 4294967296 = (v1 : Int) := by omega
 have x7 : bits BinOp.and IntKind.u64 (V : Int) 4294967295 = (v0 : Int) := by rw [ael _ (by omega),← hv0]
 have hYe : Y = y1 * 4294967296 + y0 := by omega
 have hVe : V = v1 * 4294967296 + v0 := by omega
 have B0 : y0 < 4294967296 ∧ v0 < 4294967296 ∧ v1 < 4294967296 ∧ 2147483648 ≤ y1 ∧ y1 < 4294967296 := by omega
 have hz1 : (y1 : Int) ≠ 0 := by omega
 have g0 := ahl (y1 := y1) (y0 := y0) (u := U) (d := v1) (by omega) B0.1 B0.2.2.1
 have s0 := ahk (u := U) B0.2.2.2.1 B0.1 (by omega)
 have r0 := Nat.mod_lt U (show 0 < y1 by omega)
 obtain ⟨q0,hq0⟩ : ∃ q,q = U / y1 := ⟨_,rfl⟩
 obtain ⟨t0,ht0⟩ : ∃ q,q = U % y1 := ⟨_,rfl⟩
 have x8 : (U : Int) / (y1 : Int) = (q0 : Int) := by rw [hq0,Int.natCast_ediv]
 rw [← hq0] at g0 s0
 rw [← ht0] at g0 r0
 have xq : IntKind.u64.wrap (q0 : Int) = (q0 : Int) := IntWalk.u64_in _ (by omega)
 have e9 : (q0 : Int) * (y1 : Int) = ((q0 * y1 : Nat) : Int) := (Int.natCast_mul _ _).symm
 have x9 : IntKind.u64.wrap ((U : Int) - IntKind.u64.wrap ((q0 : Int) * (y1 : Int))) = (t0 : Int) := by
  have := g0.eq
  rw [e9,IntWalk.u64_in ((q0 * y1 : Nat) : Int) (by omega),IntWalk.u64_in _ (by omega)]
  omega
 have HF := Lib.hid (And.intro hres (And.intro hYe (And.intro hVe (And.intro B0 (And.intro g0 (And.intro s0 (And.intro r0 (And.intro nUY hYb))))))))
 clear hres hYe hVe B0 g0 s0 r0 nUY hYb e9 hq0 ht0 hy1 hy0 hv1 hv0 hVl hnb hnb2 nE nL hV hU hY hs hlt hlo hy hh
 go_enter Tryz.func160,Tryz.ntmps160
 go_upto_block 0 with ((with_reducible refine (HLZ.out _).mono ?_); rintro e w' ⟨rfl,rfl⟩)
 go_cut [15,16] (fun qv rv w'' => qv = .int .u64 (((U * 4294967296 + v1) / Y : Nat) : Int) ∧ w'' = w')
 case first =>
  go_wp2_with fail
  go_loopw [15,16] (fun qv rv wr => ∃ q r : Nat,qv = .int .u64 (q : Int) ∧ rv = .int .u64 (r : Int) ∧ aee y1 y0 U v1 q r ∧ q ≤ 4294967297 ∧ r < 4294967296 ∧ wr = w') (fun qv _ _ => (intOf qv).toNat)
  case atStart =>
   obtain ⟨_,_,_,B0,g0,s0,r0,_⟩ := HF.out
   exact ⟨q0,t0,rfl,rfl,g0,s0,by omega,rfl⟩
  case round =>
   obtain ⟨q,r,rfl,rfl,g,hq,hr,rfl⟩ := hrel
   obtain ⟨_,hYe,_,B0,_,_,_,nUY,hYb⟩ := HF.out
   have hYp : 0 < y1 * 4294967296 + y0 := by omega
   have hm1 : q * y0 ≤ 4294967297 * 4294967295 := Nat.mul_le_mul hq (by omega)
   have w3 : IntKind.u64.wrap ((q : Int) * (y0 : Int)) = ((q * y0 : Nat) : Int) := by rw [← Int.natCast_mul,IntWalk.u64_in _ (by omega)]
   have w4 : IntKind.u64.wrap (4294967296 * (r : Int)) = ((4294967296 * r : Nat) : Int) := by rw [IntWalk.u64_in _ (by omega)]; omega
   have w5 : IntKind.u64.wrap (((4294967296 * r : Nat) : Int) + (v1 : Int)) = ((4294967296 * r + v1 : Nat) : Int) := by rw [IntWalk.u64_in _ (by omega)]; omega
   have ht := afi g
   have HQ := Lib.hid (show q * y0 > r * 4294967296 + v1 ↔ 4294967296 * r + v1 < q * y0 by omega)
   obtain ⟨m,hm⟩ : ∃ m,m = q * y0 := ⟨_,rfl⟩
   obtain ⟨n1,hn1⟩ : ∃ m,m = 4294967296 * r := ⟨_,rfl⟩
   obtain ⟨n2,hn2⟩ : ∃ m,m = n1 + v1 := ⟨_,rfl⟩
   rw [← hm] at w3
   rw [← hn1] at w4 w5
   rw [← hn2] at w5
   have hdo : ∀ (hG : 0 < q ∧ aee y1 y0 U v1 (q - 1) (r + y1)),IntKind.u64.wrap ((q : Int) - 1) = ((q - 1 : Nat) : Int) := fun hG => by rw [IntWalk.u64_in _ (by omega)]; omega
   have w2 : IntKind.u64.wrap ((r : Int) + (y1 : Int)) = ((r + y1 : Nat) : Int) := by rw [IntWalk.u64_in _ (by omega)]; omega
   obtain ⟨r',hr'⟩ : ∃ q,q = r + y1 := ⟨_,rfl⟩
   rw [← hr'] at w2
   have T3 : (4294967296 ≤ r' ∧ decide ((4294967296 : Int) ≤ (r' : Int)) = true) ∨ (r' < 4294967296 ∧ decide ((4294967296 : Int) ≤ (r' : Int)) = false) := by
    by_cases h : 4294967296 ≤ r'
    ·exact .inl ⟨h,decide_eq_true (by omega)⟩
    ·exact .inr ⟨by omega,decide_eq_false (by omega)⟩
   have T1 : (∃ hG : 0 < q ∧ aee y1 y0 U v1 (q - 1) (r + y1),(decide ((4294967296 : Int) ≤ (q : Int)) = true) ∨ (decide ((4294967296 : Int) ≤ (q : Int)) = false ∧ decide (n2 < m) = true)) ∨ (q = (U * 4294967296 + v1) / Y ∧ decide ((4294967296 : Int) ≤ (q : Int)) = false ∧ decide (n2 < m) = false) := by
    by_cases hb : 4294967296 ≤ q
    ·exact .inl ⟨amc hYp (by omega) (by omega) g hb,.inl (decide_eq_true (by omega))⟩
    ·by_cases hc : q * y0 > r * 4294967296 + v1
     ·exact .inl ⟨afj hYp g (ht.1 hc),.inr ⟨decide_eq_false (by omega),decide_eq_true (by have := HQ.out.1 hc; omega)⟩⟩
     ·refine .inr ⟨?_,decide_eq_false (by omega),decide_eq_false (by have := HQ.out; omega)⟩
      rw [hYe]
      exact ag3 hYp g fun h => hc (ht.2 h)
   have HB := Lib.hid (And.intro hYp (And.intro B0.1 (And.intro hq (And.intro hYe hr'))))
   have HT3 := Lib.hid T3
   have HT1 := Lib.hid T1
   have HD := Lib.hid hdo
   clear hYe B0 nUY hYb hYp hm1 ht hm hn1 hn2 T3 T1 hdo hr' g hr hq HQ
   rcases HT1.out with ⟨hG,hA⟩ | ⟨hR,hA,hA2⟩
   ·have w1 := HD.out hG
    have HG := Lib.hid hG
    obtain ⟨q',hq'⟩ : ∃ p,p = q - 1 := ⟨_,rfl⟩
    rw [← hq'] at w1 HG
    have HQ' := Lib.hid hq'
    clear hG hq'
    rcases HT3.out with ⟨h3,hB3⟩ | ⟨h3,hB3⟩
    ·have H3 := Lib.hid h3
     clear h3
     rcases hA with hA | ⟨hA,hA2⟩
     all_goals
      go_wp2
      go_meet
      case rel =>
       refine ⟨?_,rfl⟩
       obtain ⟨b1,b2,b3,b4,b5⟩ := HB.out
       rw [b4,← aja b1 b2 (by have := HQ'.out; omega) HG.out.2 (by have := H3.out; omega)]
    ·have H3 := Lib.hid h3
     clear h3
     rcases hA with hA | ⟨hA,hA2⟩
     all_goals
      go_wp2
      go_roundw
      case rel =>
       obtain ⟨b1,b2,b3,b4,b5⟩ := HB.out
       refine ⟨q',r',rfl,rfl,by rw [b5]; exact HG.out.2,by have := HQ'.out; omega,H3.out,by first | rfl | trivial⟩
      case measure =>
       have h1 := HG.out.1
       have h2 := HQ'.out
       simp [intOf]
       omega
   ·have HR := Lib.hid hR
    clear hR
    go_wp2
    go_meet
    case rel => exact ⟨by rw [← HR.out],rfl⟩
 case rest =>
  obtain ⟨rfl,hw⟩ := hcut
  rw [hw]
  clear hw
  obtain ⟨hres,hYe,hVe,B0,_,_,_,nUY,hYb⟩ := HF.out
  have hlt1 := Nat.mod_lt (U * 4294967296 + v1) (show 0 < Y by omega)
  obtain ⟨Q1,hQ1⟩ : ∃ q,q = (U * 4294967296 + v1) / Y := ⟨_,rfl⟩
  rw [← hQ1]
  obtain ⟨R1,hR1⟩ : ∃ q,q = (U * 4294967296 + v1) % Y := ⟨_,rfl⟩
  have hd1 := arv (u := U) (d := v1) (y := Y) (q := Q1) (by omega) (by omega) (by omega) hQ1
  rw [← hR1] at hd1 hlt1
  have hq1 : Q1 < 4294967296 := by rw [hQ1]; exact avm (by omega) (by omega) (by omega)
  obtain ⟨A1,hA1⟩ : ∃ z : Int,z = (U : Int) * 4294967296 % 18446744073709551616 := ⟨_,rfl⟩
  have a1 : IntKind.u64.wrap ((U : Int) * 4294967296) = A1 := by rw [abq,hA1]
  rw [← hA1] at hd1
  obtain ⟨B1,hB1⟩ : ∃ z : Int,z = (A1 + (v1 : Int)) % 18446744073709551616 := ⟨_,rfl⟩
  have b1 : IntKind.u64.wrap (A1 + (v1 : Int)) = B1 := by rw [abq,hB1]
  rw [← hB1] at hd1
  obtain ⟨C1,hC1⟩ : ∃ z : Int,z = (Q1 : Int) * (Y : Int) % 18446744073709551616 := ⟨_,rfl⟩
  have c1 : IntKind.u64.wrap ((Q1 : Int) * (Y : Int)) = C1 := by rw [abq,hC1]
  rw [← hC1] at hd1
  have d1 : IntKind.u64.wrap (B1 - C1) = (R1 : Int) := by rw [abq,hd1]
  have g2 := ahl (y1 := y1) (y0 := y0) (u := R1) (d := v0) (by omega) B0.1 B0.2.1
  have s2 := ahk (u := R1) B0.2.2.2.1 B0.1 (by omega)
  have r2 := Nat.mod_lt R1 (show 0 < y1 by omega)
  obtain ⟨q2,hq2⟩ : ∃ q,q = R1 / y1 := ⟨_,rfl⟩
  obtain ⟨t2,ht2⟩ : ∃ q,q = R1 % y1 := ⟨_,rfl⟩
  have x8' : (R1 : Int) / (y1 : Int) = (q2 : Int) := by rw [hq2,Int.natCast_ediv]
  rw [← hq2] at g2 s2
  rw [← ht2] at g2 r2
  have xq' : IntKind.u64.wrap (q2 : Int) = (q2 : Int) := IntWalk.u64_in _ (by omega)
  have e9' : (q2 : Int) * (y1 : Int) = ((q2 * y1 : Nat) : Int) := (Int.natCast_mul _ _).symm
  have x9' : IntKind.u64.wrap ((R1 : Int) - IntKind.u64.wrap ((q2 : Int) * (y1 : Int))) = (t2 : Int) := by
   have := g2.eq
   rw [e9',IntWalk.u64_in ((q2 * y1 : Nat) : Int) (by omega),IntWalk.u64_in _ (by omega)]
   omega
  have H12 := ase U v1 v0 Y (by omega)
  rw [← hVe,← hR1,← hQ1] at H12
  have HH2 := Lib.hid (And.intro hres H12)
  have HF2 := Lib.hid (And.intro hq1 (And.intro hYe (And.intro hVe (And.intro B0 (And.intro g2 (And.intro s2 (And.intro r2 (And.intro hlt1 hYb))))))))
  clear hres hYe hVe B0 g2 s2 r2 nUY hYb e9' hq2 ht2 hlt1 hQ1 hR1 hd1 hq1 hA1 hB1 hC1 H12
  go_upto_block 2 with fail
  go_cut [18,16] (fun qv rv w2 => qv = .int .u64 (((R1 * 4294967296 + v0) / Y : Nat) : Int) ∧ w2 = w')
  case first =>
   go_wp2_with fail
   go_loopw [18,16] (fun qv rv wr => ∃ q r : Nat,qv = .int .u64 (q : Int) ∧ rv = .int .u64 (r : Int) ∧ aee y1 y0 R1 v0 q r ∧ q ≤ 4294967297 ∧ r < 4294967296 ∧ wr = w') (fun qv _ _ => (intOf qv).toNat)
   case atStart =>
    obtain ⟨_,_,_,B0,g0,s0,r0,_⟩ := HF2.out
    exact ⟨q2,t2,rfl,rfl,g0,s0,by omega,rfl⟩
   case round =>
    obtain ⟨q,r,rfl,rfl,g,hq,hr,rfl⟩ := hrel
    obtain ⟨_,hYe,_,B0,_,_,_,nUY,hYb⟩ := HF2.out
    have hYp : 0 < y1 * 4294967296 + y0 := by omega
    have hm1 : q * y0 ≤ 4294967297 * 4294967295 := Nat.mul_le_mul hq (by omega)
    have w3 : IntKind.u64.wrap ((q : Int) * (y0 : Int)) = ((q * y0 : Nat) : Int) := by rw [← Int.natCast_mul,IntWalk.u64_in _ (by omega)]
    have w4 : IntKind.u64.wrap (4294967296 * (r : Int)) = ((4294967296 * r : Nat) : Int) := by rw [IntWalk.u64_in _ (by omega)]; omega
    have w5 : IntKind.u64.wrap (((4294967296 * r : Nat) : Int) + (v0 : Int)) = ((4294967296 * r + v0 : Nat) : Int) := by rw [IntWalk.u64_in _ (by omega)]; omega
    have ht := afi g
    have HQ := Lib.hid (show q * y0 > r * 4294967296 + v0 ↔ 4294967296 * r + v0 < q * y0 by omega)
    obtain ⟨m,hm⟩ : ∃ m,m = q * y0 := ⟨_,rfl⟩
    obtain ⟨n1,hn1⟩ : ∃ m,m = 4294967296 * r := ⟨_,rfl⟩
    obtain ⟨n2,hn2⟩ : ∃ m,m = n1 + v0 := ⟨_,rfl⟩
    rw [← hm] at w3
    rw [← hn1] at w4 w5
    rw [← hn2] at w5
    have hdo : ∀ (hG : 0 < q ∧ aee y1 y0 R1 v0 (q - 1) (r + y1)),IntKind.u64.wrap ((q : Int) - 1) = ((q - 1 : Nat) : Int) := fun hG => by rw [IntWalk.u64_in _ (by omega)]; omega
    have w2 : IntKind.u64.wrap ((r : Int) + (y1 : Int)) = ((r + y1 : Nat) : Int) := by rw [IntWalk.u64_in _ (by omega)]; omega
    obtain ⟨r',hr'⟩ : ∃ q,q = r + y1 := ⟨_,rfl⟩
    rw [← hr'] at w2
    have T3 : (4294967296 ≤ r' ∧ decide ((4294967296 : Int) ≤ (r' : Int)) = true) ∨ (r' < 4294967296 ∧ decide ((4294967296 : Int) ≤ (r' : Int)) = false) := by
     by_cases h : 4294967296 ≤ r'
     ·exact .inl ⟨h,decide_eq_true (by omega)⟩
     ·exact .inr ⟨by omega,decide_eq_false (by omega)⟩
    have T1 : (∃ hG : 0 < q ∧ aee y1 y0 R1 v0 (q - 1) (r + y1),(decide ((4294967296 : Int) ≤ (q : Int)) = true) ∨ (decide ((4294967296 : Int) ≤ (q : Int)) = false ∧ decide (n2 < m) = true)) ∨ (q = (R1 * 4294967296 + v0) / Y ∧ decide ((4294967296 : Int) ≤ (q : Int)) = false ∧ decide (n2 < m) = false) := by
     by_cases hb : 4294967296 ≤ q
     ·exact .inl ⟨amc hYp (by omega) (by omega) g hb,.inl (decide_eq_true (by omega))⟩
     ·by_cases hc : q * y0 > r * 4294967296 + v0
      ·exact .inl ⟨afj hYp g (ht.1 hc),.inr ⟨decide_eq_false (by omega),decide_eq_true (by have := HQ.out.1 hc; omega)⟩⟩
      ·refine .inr ⟨?_,decide_eq_false (by omega),decide_eq_false (by have := HQ.out; omega)⟩
       rw [hYe]
       exact ag3 hYp g fun h => hc (ht.2 h)
    have HB := Lib.hid (And.intro hYp (And.intro B0.1 (And.intro hq (And.intro hYe hr'))))
    have HT3 := Lib.hid T3
    have HT1 := Lib.hid T1
    have HD := Lib.hid hdo
    clear hYe B0 nUY hYb hYp hm1 ht hm hn1 hn2 T3 T1 hdo hr' g hr hq HQ
    rcases HT1.out with ⟨hG,hA⟩ | ⟨hR,hA,hA2⟩
    ·have w1 := HD.out hG
     have HG := Lib.hid hG
     obtain ⟨q',hq'⟩ : ∃ p,p = q - 1 := ⟨_,rfl⟩
     rw [← hq'] at w1 HG
     have HQ' := Lib.hid hq'
     clear hG hq'
     rcases HT3.out with ⟨h3,hB3⟩ | ⟨h3,hB3⟩
     ·have H3 := Lib.hid h3
      clear h3
      rcases hA with hA | ⟨hA,hA2⟩
      all_goals
       go_wp2
       go_meet
       case rel =>
        refine ⟨?_,rfl⟩
        obtain ⟨b1,b2,b3,b4,b5⟩ := HB.out
        rw [b4,← aja b1 b2 (by have := HQ'.out; omega) HG.out.2 (by have := H3.out; omega)]
     ·have H3 := Lib.hid h3
      clear h3
      rcases hA with hA | ⟨hA,hA2⟩
      all_goals
       go_wp2
       go_roundw
       case rel =>
        obtain ⟨b1,b2,b3,b4,b5⟩ := HB.out
        refine ⟨q',r',rfl,rfl,by rw [b5]; exact HG.out.2,by have := HQ'.out; omega,H3.out,by first | rfl | trivial⟩
       case measure =>
        have h1 := HG.out.1
        have h2 := HQ'.out
        simp [intOf]
        omega
    ·have HR := Lib.hid hR
     clear hR
     go_wp2
     go_meet
     case rel => exact ⟨by rw [← HR.out],rfl⟩
  case rest =>
   obtain ⟨rfl,hw⟩ := hcut
   rw [hw]
   clear hw
   obtain ⟨hq1,hYe,hVe,B0,_,_,_,nUY,hYb⟩ := HF2.out
   have hlt2 := Nat.mod_lt (R1 * 4294967296 + v0) (show 0 < Y by omega)
   obtain ⟨Q2,hQ2⟩ : ∃ q,q = (R1 * 4294967296 + v0) / Y := ⟨_,rfl⟩
   rw [← hQ2]
   obtain ⟨R2,hR2⟩ : ∃ q,q = (R1 * 4294967296 + v0) % Y := ⟨_,rfl⟩
   have hd2 := arv (u := R1) (d := v0) (y := Y) (q := Q2) (by omega) (by omega) (by omega) hQ2
   rw [← hR2] at hd2 hlt2
   have hq2 : Q2 < 4294967296 := by rw [hQ2]; exact avm (by omega) (by omega) (by omega)
   obtain ⟨A2,hA2⟩ : ∃ z : Int,z = (R1 : Int) * 4294967296 % 18446744073709551616 := ⟨_,rfl⟩
   have a2 : IntKind.u64.wrap ((R1 : Int) * 4294967296) = A2 := by rw [abq,hA2]
   rw [← hA2] at hd2
   obtain ⟨B2,hB2⟩ : ∃ z : Int,z = (A2 + (v0 : Int)) % 18446744073709551616 := ⟨_,rfl⟩
   have b2 : IntKind.u64.wrap (A2 + (v0 : Int)) = B2 := by rw [abq,hB2]
   rw [← hB2] at hd2
   obtain ⟨C2,hC2⟩ : ∃ z : Int,z = (Q2 : Int) * (Y : Int) % 18446744073709551616 := ⟨_,rfl⟩
   have c2 : IntKind.u64.wrap ((Q2 : Int) * (Y : Int)) = C2 := by rw [abq,hC2]
   rw [← hC2] at hd2
   have d2 : IntKind.u64.wrap (B2 - C2) = (R2 : Int) := by rw [abq,hd2]
   have k1 : IntKind.u64.wrap ((Q1 : Int) * 4294967296) = ((Q1 * 4294967296 : Nat) : Int) := by rw [IntWalk.u64_in _ (by omega)]; omega
   have k2 : IntKind.u64.wrap (((Q1 * 4294967296 : Nat) : Int) + (Q2 : Int)) = ((Q1 * 4294967296 + Q2 : Nat) : Int) := by rw [IntWalk.u64_in _ (by omega)]; omega
   have hfin : Q1 * 4294967296 + Q2 = (hi * 18446744073709551616 + lo) / y ∧ R2 / 2 ^ s = (hi * 18446744073709551616 + lo) % y := by
    obtain ⟨⟨f1,f2⟩,f3,f4⟩ := HH2.out
    rw [f1,f2,f3,f4,← hQ2,← hR2]
    exact ⟨rfl,rfl⟩
   obtain ⟨N1,hN1⟩ : ∃ z,z = Q1 * 4294967296 := ⟨_,rfl⟩
   obtain ⟨N2,hN2⟩ : ∃ z,z = N1 + Q2 := ⟨_,rfl⟩
   rw [← hN1] at k1 k2 hfin
   rw [← hN2] at k2 hfin
   have HFIN := Lib.hid hfin
   clear hfin hN1 hN2 hq1 hYe hVe B0 nUY hYb hlt2 hQ2 hR2 hd2 hq2 hA2 hB2 hC2
   go_wp2
   go_ret2
   refine ⟨congrArg Ending.returned (congrArg Value.tuple ?_),Fr.refl _ _⟩
   rw [← HFIN.out.1,← HFIN.out.2]
   rfl
theorem ayl (hi lo y : Nat) (hlt : hi < y) (hlo : lo < 18446744073709551616) (hy : y < 18446744073709551616) (w : World) :
  Calls Tryz.prog 160 #[.int .u64 hi,.int .u64 lo,.int .u64 y] w fun e w' => e = .returned (.tuple #[.int .u64 (((hi * 18446744073709551616 + lo) / y : Nat) : Int),.int .u64 (((hi * 18446744073709551616 + lo) % y : Nat) : Int)]) ∧ Fr F0 w w' := by
 by_cases h : hi = 0
 ·subst h
  have := ayk lo y hlt hlo w
  simpa using this
 ·exact auw hi lo y (by omega) hlt hlo hy w
theorem alq (x k : Nat) (hx : x < oz) (hk : k < 256) : aoi x (-(k : Int)) = x / 2 ^ k := by
 unfold aoi
 by_cases h : k = 0
 ·subst h; simp [Nat.mod_eq_of_lt hx]
 ·rw [if_pos (by omega),if_pos (by omega),Int.neg_neg,Int.toNat_natCast]
theorem avs (x k : Nat) (hk : k < 256) : aoi x (k : Int) = x * 2 ^ k % oz := by
 unfold aoi
 rw [if_neg (by omega),if_pos (by omega),Int.toNat_natCast]
theorem al5 {b : Nat} (h : 0 < b) : 0 < nbits b := Nat.pos_of_ne_zero fun e => by have := (wo b 0).1 (by omega); omega
theorem axo {b : Nat} (h : 0 < b) : 2 ^ (nbits b - 1) ≤ b := Nat.le_of_not_lt fun hl => by have := (wo b (nbits b - 1)).2 hl; have := al5 h; omega
theorem atd (b : Nat) : b < 2 ^ nbits b := (wo b (nbits b)).1 (Nat.le_refl _)
theorem atl (a b : Nat) (ha : a < oz) (hb : b < oz) (hb0 : 0 < b) (hab : a < 2 ^ 64 * b) :
  let l : Int := (nbits b : Int) - 64
  2 ^ 63 ≤ aoi b (-l) ∧ aoi b (-l) < 2 ^ 64 ∧ aoi a (-l) < 2 ^ 128 ∧ a / b ≤ aoi a (-l) / aoi b (-l) := by
 intro l
 have hn := al5 hb0
 have hlo := axo hb0
 have hhi := atd b
 have h256 := (wo b 256).2 hb
 by_cases h : 64 ≤ nbits b
 ·obtain ⟨k,hk⟩ : ∃ k,nbits b = 64 + k := ⟨nbits b - 64,by omega⟩
  have hl : l = (k : Int) := by omega
  rw [hl,alq b k hb (by omega),alq a k ha (by omega)]
  rw [hk] at hlo hhi
  have hp := Nat.two_pow_pos k
  have e1 : (2 : Nat) ^ (64 + k) = 2 ^ 64 * 2 ^ k := Nat.pow_add _ _ _
  have e2 : (2 : Nat) ^ (64 + k - 1) = 2 ^ 63 * 2 ^ k := by rw [← Nat.pow_add]; congr 1; omega
  have t1 : 2 ^ 63 ≤ b / 2 ^ k := by rw [Nat.le_div_iff_mul_le hp,← e2]; exact hlo
  have t2 : b / 2 ^ k < 2 ^ 64 := by rw [Nat.div_lt_iff_lt_mul hp,← e1]; exact hhi
  refine ⟨t1,t2,?_,?_⟩
  ·rw [Nat.div_lt_iff_lt_mul hp]
   have : 2 ^ 64 * b < 2 ^ 64 * (2 ^ 64 * 2 ^ k) := by rw [← e1]; exact Nat.mul_lt_mul_of_pos_left hhi (Nat.two_pow_pos 64)
   rw [← Nat.mul_assoc] at this
   exact Nat.lt_trans hab this
  ·rw [Nat.le_div_iff_mul_le (by omega),Nat.le_div_iff_mul_le hp]
   calc a / b * (b / 2 ^ k) * 2 ^ k = a / b * (b / 2 ^ k * 2 ^ k) := Nat.mul_assoc _ _ _
    _ ≤ a / b * b := Nat.mul_le_mul_left _ (Nat.div_mul_le_self _ _)
    _ ≤ a := Nat.div_mul_le_self _ _
 ·obtain ⟨k,hk⟩ : ∃ k,nbits b + k = 64 := ⟨64 - nbits b,by omega⟩
  have hl : -l = (k : Int) := by omega
  have hp := Nat.two_pow_pos k
  have e1 : (2 : Nat) ^ 64 = 2 ^ nbits b * 2 ^ k := by rw [← Nat.pow_add,hk]
  have e2 : (2 : Nat) ^ 63 = 2 ^ (nbits b - 1) * 2 ^ k := by rw [← Nat.pow_add]; congr 1; omega
  have t2 : b * 2 ^ k < 2 ^ 64 := by rw [e1]; exact Nat.mul_lt_mul_of_pos_right hhi hp
  have t3 : a * 2 ^ k < 2 ^ 128 := by
   have h1 : a * 2 ^ k < 2 ^ 64 * b * 2 ^ k := Nat.mul_lt_mul_of_pos_right hab hp
   rw [Nat.mul_assoc] at h1
   have h2 : 2 ^ 64 * (b * 2 ^ k) ≤ 2 ^ 64 * 2 ^ 64 := Nat.mul_le_mul_left _ (by omega)
   exact Nat.lt_of_lt_of_le h1 h2
  have w1 : (2 : Nat) ^ 64 ≤ oz := Nat.pow_le_pow_right (by omega) (by omega)
  have w2 : (2 : Nat) ^ 128 ≤ oz := Nat.pow_le_pow_right (by omega) (by omega)
  rw [hl,avs b k (by omega),avs a k (by omega),Nat.mod_eq_of_lt (Nat.lt_of_lt_of_le t2 w1),Nat.mod_eq_of_lt (Nat.lt_of_lt_of_le t3 w2)]
  refine ⟨by rw [e2]; exact Nat.mul_le_mul_right _ hlo,t2,t3,?_⟩
  rw [Nat.mul_div_mul_right _ _ hp]
  exact Nat.le_refl _
def aFt (a b : Nat) (w : World) (e : Ending) (w' : World) : Prop := ∃ g : Nat,e = .returned (.int .u64 (g : Int)) ∧ a / b ≤ g ∧ g < 2 ^ 64 ∧ Fr F0 w w'
theorem aA5 (x : Nat) (h : x < 2 ^ 64) : dgt 64 x 0 = x := by
 rw [dgt,Nat.mul_zero,Nat.pow_zero,Nat.div_one,Nat.mod_eq_of_lt h]
theorem awu (x : Nat) (h : x < 2 ^ 128) : dgt 64 x 1 * 2 ^ 64 + dgt 64 x 0 = x := by
 have h1 : x / 2 ^ 64 < 2 ^ 64 := by rw [Nat.div_lt_iff_lt_mul (Nat.two_pow_pos _)]; exact h
 simp only [dgt,Nat.mul_one,Nat.mul_zero,Nat.pow_zero,Nat.div_one]
 rw [Nat.mod_eq_of_lt h1]
 have := Nat.mod_add_div x (2 ^ 64)
 omega
theorem asa (a b : Nat) (ha : a < oz) (hb : b < oz) (hb0 : 0 < b) (hab : a < 2 ^ 64 * b) (w : World) :
  Calls Tryz.prog 145 #[.agg (ig .u64 64 4 a),.agg (ig .u64 64 4 b)] w (aFt a b w) := by
 obtain ⟨t1,t2,t3,t4⟩ := atl a b ha hb hb0 hab
 have h256 := (wo b 256).2 hb
 obtain ⟨l,hl⟩ : ∃ l : Int,l = (nbits b : Int) - 64 := ⟨_,rfl⟩
 rw [← hl] at t1 t2 t3 t4
 have HB := Lib.hid (awt b hb)
 have HR1 := Lib.hid (ait b l hb (by omega) (by omega))
 have HR2 := Lib.hid (ait a l ha (by omega) (by omega))
 have x1 : IntKind.i64.wrap ((nbits b : Int) - 64) = l := by rw [IntWalk.i64_in _ (by omega)]; omega
 have x1' : (nbits b : Int) - 64 = l := hl.symm
 generalize nbits b = nb at *
 generalize aoi b (-l) = top at *
 generalize aoi a (-l) = part at *
 have d0 : dgt 64 top 0 = top := aA5 top t2
 have HW := Lib.hid (awu part t3)
 have p1 := abf 64 part 1
 have p0 := abf 64 part 0
 obtain ⟨ph,hph⟩ : ∃ p,p = dgt 64 part 1 := ⟨_,rfl⟩
 obtain ⟨pl,hpl⟩ : ∃ p,p = dgt 64 part 0 := ⟨_,rfl⟩
 rw [← hph] at p1 HW
 rw [← hpl] at p0 HW
 have d1 : dgt 64 part 1 = ph := hph.symm
 have d2 : dgt 64 part 0 = pl := hpl.symm
 have HF := Lib.hid (And.intro t1 (And.intro t2 (And.intro t3 (And.intro t4 (And.intro p1 p0)))))
 have HAB := Lib.hid hab
 have HB0 := Lib.hid hb0
 clear t1 t2 t3 t4 p1 p0 hph hpl hl h256 ha hb hab hb0 x1'
 go_enter Tryz.func145,Tryz.ntmps145
 go_wp2_with fail
 obtain ⟨r0,r1⟩ := heap2 w (.cells (ig .u64 64 4 a) 134) (.cells (ig .u64 64 4 b) 134)
 refine (HB.out _).mono ?_
 rintro e w1 ⟨rfl,f1⟩
 replace r0 := f1.keeps (fun f => f) r0
 replace r1 := f1.keeps (fun f => f) r1
 have F1 : Fr F0 w w1 := (((Fr.refl F0 w).alloc _).alloc _).trans' f1
 clear f1
 generalize w.heap.size = g0 at *
 generalize g0 + 1 = g1 at *
 go_wp2_with fail
 refine (HR1.out _).mono ?_
 rintro e w2 ⟨rfl,f2⟩
 replace r0 := f2.keeps (fun f => f) r0
 have F2 : Fr F0 w w2 := F1.trans' f2
 clear f2 F1 r1
 go_wp2_with fail
 refine (HR2.out _).mono ?_
 rintro e w3 ⟨rfl,f3⟩
 have F3 : Fr F0 w w3 := F2.trans' f3
 clear f3 F2 r0
 by_cases hbig : top ≤ ph
 ·have hc : decide (top ≤ ph) = true := decide_eq_true hbig
  go_wp2_with fail
  go_ret
  obtain ⟨t1,t2,t3,t4,p1,p0⟩ := HF.out
  have hq : a / b < 2 ^ 64 := by rw [Nat.div_lt_iff_lt_mul HB0.out]; exact HAB.out
  refine ⟨18446744073709551615,rfl,by omega,by omega,?_⟩
  exact (F3.alloc _).setRow (fun h => by have := F3.size; omega) _
 ·have hc : decide (top ≤ ph) = false := decide_eq_false hbig
  obtain ⟨t1,t2,t3,t4,p1,p0⟩ := HF.out
  have HD := Lib.hid (ayl ph pl top (by omega) (by omega) (by omega))
  have hpp : (ph * 18446744073709551616 + pl) / top = part / top := by rw [← HW.out]
  have hqb : part / top < 2 ^ 64 := by
   rw [Nat.div_lt_iff_lt_mul (by omega),← HW.out]
   have : (ph + 1) * 2 ^ 64 ≤ top * 2 ^ 64 := Nat.mul_le_mul_right _ (by omega)
   omega
  rw [hpp] at HD
  generalize (ph * 18446744073709551616 + pl) % top = rr at *
  generalize part / top = qq at *
  have HQ := Lib.hid (And.intro t4 hqb)
  clear t1 t2 t3 t4 p1 p0 hpp hqb hbig
  go_wp2_with fail
  refine (HD.out _).mono ?_
  rintro e w4 ⟨rfl,f4⟩
  go_wp2_with fail
  go_ret
  exact ⟨qq,rfl,HQ.out.1,HQ.out.2,((F3.alloc _).setRow (fun h => by have := F3.size; omega) _).trans' f4⟩
theorem apt {P : Program} {fn : Func} {p u : Tmp} {ty : TypeId} (h : fn.results = #[.tmp u,.cell p ty]) (tmps : Array Value) (w : World) (g : Nat) (t : TypeId) (cs : Array Value) (fr : Nat × Nat) (d : TypeDesc)
  (hp : tmps.getD p undef = .pointer (some ⟨g,0,none⟩)) (hg : w.heap[g]? = some (.cells cs t fr))
  (hu : P.underlying ty = some d) (hd : (match d with | .struct _ | .array _ _ => true | _ => false) = true) (hi : (P.info? ty).map (·.size) = some cs.size) :
  (results fn tmps).run P w = .ok (.tuple #[tmps.getD u undef,.agg cs]) w := by
 have hp' : tmps[p]?.getD undef = .pointer (some ⟨g,0,none⟩) := by simpa using hp
 simp [results,h,hp',asAddr,run_loadVar_row w g t ty cs fr d hg hu hd hi]
theorem aDl {x y : Nat} (h : y < x) : sgn x y = 1 := by unfold sgn; rw [if_neg (by omega),if_pos h]
theorem aDm {x y : Nat} (h : x ≤ y) : sgn x y ≤ 0 := by unfold sgn; split <;> (try split) <;> omega
theorem amo (a b : Nat) (ha : a < oz) (hb : b < oz) (hb0 : 0 < b) (hab : a < 2 ^ 64 * b) (w : World) :
  Calls Tryz.prog 126 #[.agg (ig .u64 64 4 a),.agg (ig .u64 64 4 b)] w fun e w' => e = .returned (.tuple #[.int .u64 ((a / b : Nat) : Int),.agg (ig .u64 64 4 (a % b))]) ∧ Fr F0 w w' := by
 have HG := Lib.hid (asa a b ha hb hb0 hab)
 have HM := Lib.hid (fun x (hx : x < 2 ^ 64) w => azi b x hb hx w)
 have HC := Lib.hid (fun x (hx : x < oz) w => aq1 x a hx ha w)
 have HS := Lib.hid (fun x (hx : x < oz) w => azh a x ha hx w)
 have HF := Lib.hid (And.intro ha (And.intro hb (And.intro hb0 hab)))
 clear ha hb hb0 hab
 go_enter Tryz.func126,Tryz.ntmps126
 go_wp2_with fail
 obtain ⟨r0,r1,r2⟩ := aon w (.cells (ig .u64 64 4 a) 134) (.cells (ig .u64 64 4 b) 134) (.cells (ig .u64 64 4 0) 134)
 refine (HG.out _).mono ?_
 rintro e w1 ⟨g,rfl,hg1,hg2,f1⟩
 replace r0 := f1.keeps (fun f => f) r0
 replace r1 := f1.keeps (fun f => f) r1
 replace r2 := f1.keeps (fun f => f) r2
 have F1 : Fr F0 w w1 := ((((Fr.refl F0 w).alloc _).alloc _).alloc _).trans' f1
 clear f1
 generalize hn0 : w.heap.size = g0 at *
 generalize hn1 : g0 + 1 = g1 at *
 generalize hn2 : g1 + 1 = g2 at *
 have HG1 := Lib.hid hg1
 have HG2 := Lib.hid hg2
 have HN := Lib.hid (show w.heap.size = g0 ∧ g0 < g1 ∧ g1 < g2 by omega)
 clear hg1 hg2 hn0 hn1 hn2
 go_wp2_with fail
 refine (HM.out g HG2.out _).mono ?_
 rintro e w2 ⟨rfl,f2⟩
 replace r0 := f2.keeps (fun f => f) r0
 replace r1 := f2.keeps (fun f => f) r1
 replace r2 := f2.keeps (fun f => f) r2
 have F2 : Fr F0 w w2 := F1.trans' f2
 clear f2 F1
 have hs2 : g2 < w2.heap.size := (Array.getElem?_eq_some_iff.1 r2).1
 have HS2 := Lib.hid hs2
 clear hs2
 go_wp2_with fail
 obtain ⟨W3,hW3⟩ : ∃ W3,W3 = (w2.alloc (.cells (ig .u64 64 4 0) 134)).setRow w2.heap.size (ig .u64 64 4 (b * g % oz)) := ⟨_,rfl⟩
 refine bg W3 hW3 ?_
 have s0 : W3.heap[g0]? = some (.cells (ig .u64 64 4 a) 134 (0,0)) := by
  have := HS2.out; have := HN.out
  rw [hW3,dh _ _ _ _ (by omega),heap_alloc_old _ _ (by omega)]; exact r0
 have s1 : W3.heap[g1]? = some (.cells (ig .u64 64 4 b) 134 (0,0)) := by
  have := HS2.out; have := HN.out
  rw [hW3,dh _ _ _ _ (by omega),heap_alloc_old _ _ (by omega)]; exact r1
 have s2 : W3.heap[g2]? = some (.cells (ig .u64 64 4 0) 134 (0,0)) := by
  have := HS2.out; have := HN.out
  rw [hW3,dh _ _ _ _ (by omega),heap_alloc_old _ _ (by omega)]; exact r2
 have s3 : W3.heap[w2.heap.size]? = some (.cells (ig .u64 64 4 (b * g % oz)) 134 (0,0)) := by
  rw [hW3,bf,heap_alloc_new]; rfl
 have F3 : Fr F0 w W3 := by rw [hW3]; exact (F2.alloc _).setRow (fun h => by have := F2.size; omega) _
 have hx3 := F2.size
 generalize hn3 : w2.heap.size = g3 at *
 have n0 : g0 ≠ g3 := by have := HS2.out; have := HN.out; omega
 have n1 : g1 ≠ g3 := by have := HS2.out; have := HN.out; omega
 have n2 : g2 ≠ g3 := by have := HS2.out; have := HN.out; omega
 have HX := Lib.hid (show w.heap.size ≤ g3 ∧ w.heap.size ≤ g2 by have := HN.out; omega)
 clear hW3 F2 r0 r1 r2 hx3 hn3
 go_loopw [6,8] (fun gv ov wr => ∃ g : Nat,gv = .int .u64 (g : Int) ∧ ov = .bool (decide (oz ≤ b * g)) ∧ a / b ≤ g ∧ g < 2 ^ 64 ∧ wr.heap[g0]? = some (.cells (ig .u64 64 4 a) 134 (0,0)) ∧ wr.heap[g1]? = some (.cells (ig .u64 64 4 b) 134 (0,0)) ∧ wr.heap[g2]? = some (.cells (ig .u64 64 4 0) 134 (0,0)) ∧ wr.heap[g3]? = some (.cells (ig .u64 64 4 (b * g % oz)) 134 (0,0)) ∧ Fr F0 w wr) (fun gv _ _ => (intOf gv).toNat)
 case atStart => exact ⟨g,rfl,rfl,HG1.out,HG2.out,s0,s1,s2,s3,F3⟩
 case round =>
  clear s0 s1 s2 s3 F3
  obtain ⟨g,rfl,rfl,hq,hl,s0,s1,s2,s3,F3⟩ := hrel
  have HQ := Lib.hid (And.intro hq hl)
  clear hq hl
  have go : ∀ (wx : World),a < b * g → 0 < g ∧ a / b ≤ g - 1 ∧ g - 1 < 2 ^ 64 ∧ IntKind.u64.wrap ((g : Int) - 1) = ((g - 1 : Nat) : Int) := fun wx h => by
   have hb0 := HF.out.2.2.1
   have hlt : a / b < g := by rw [Nat.div_lt_iff_lt_mul hb0,Nat.mul_comm]; exact h
   have := HQ.out
   generalize a / b = z at *
   refine ⟨by omega,by omega,by omega,?_⟩
   rw [IntWalk.u64_in _ (by omega)]
   omega
  have GO := Lib.hid (go W3)
  clear go
  by_cases ho : oz ≤ b * g
  ·have hov : decide (oz ≤ b * g) = true := decide_eq_true ho
   obtain ⟨k1,k2,k3,k4⟩ := GO.out (Nat.lt_of_lt_of_le HF.out.1 ho)
   obtain ⟨g',hg'⟩ : ∃ q,q = g - 1 := ⟨_,rfl⟩
   rw [← hg'] at k2 k3 k4
   have HK := Lib.hid (And.intro k1 (And.intro k2 (And.intro k3 hg')))
   rw [hov]
   clear ho hov k1 k2 k3 hg'
   go_wp2_with fail
   refine (HM.out g' HK.out.2.2.1 _).mono ?_
   rintro e w4 ⟨rfl,f4⟩
   replace s0 := f4.keeps (fun f => f) s0
   replace s1 := f4.keeps (fun f => f) s1
   replace s2 := f4.keeps (fun f => f) s2
   replace s3 := f4.keeps (fun f => f) s3
   have F4 : Fr F0 w w4 := F3.trans' f4
   clear f4 F3
   go_wp2_with fail
   go_roundw
   case rel =>
    refine ⟨g',rfl,rfl,HK.out.2.1,HK.out.2.2.1,?_,?_,?_,?_,F4.setRow (fun h => by have := HX.out; omega) _⟩
    ·rw [dh _ _ _ _ n0]; exact s0
    ·rw [dh _ _ _ _ n1]; exact s1
    ·rw [dh _ _ _ _ n2]; exact s2
    ·rw [bf,s3]; rfl
   case measure =>
    have := HK.out
    simp [intOf]
    omega
  ·have hov : decide (oz ≤ b * g) = false := decide_eq_false ho
   have hbg : b * g < oz := by omega
   rw [Nat.mod_eq_of_lt hbg] at s3
   have HBG := Lib.hid hbg
   rw [hov]
   clear ho hov hbg
   go_wp2_with fail
   refine (HC.out (b * g) HBG.out _).mono ?_
   rintro e w4 ⟨rfl,f4⟩
   replace s0 := f4.keeps (fun f => f) s0
   replace s1 := f4.keeps (fun f => f) s1
   replace s2 := f4.keeps (fun f => f) s2
   replace s3 := f4.keeps (fun f => f) s3
   have F4 : Fr F0 w w4 := F3.trans' f4
   clear f4 F3
   by_cases hc : a < b * g
   ·obtain ⟨k1,k2,k3,k4⟩ := GO.out hc
    obtain ⟨g',hg'⟩ : ∃ q,q = g - 1 := ⟨_,rfl⟩
    rw [← hg'] at k2 k3 k4
    have HK := Lib.hid (And.intro k1 (And.intro k2 (And.intro k3 hg')))
    have hsg := aDl hc
    clear k1 k2 k3 hg' hc
    go_wp2_with fail
    refine (HM.out g' HK.out.2.2.1 _).mono ?_
    rintro e w5 ⟨rfl,f5⟩
    replace s0 := f5.keeps (fun f => f) s0
    replace s1 := f5.keeps (fun f => f) s1
    replace s2 := f5.keeps (fun f => f) s2
    replace s3 := f5.keeps (fun f => f) s3
    have F5 : Fr F0 w w5 := F4.trans' f5
    clear f5 F4
    go_wp2_with fail
    go_roundw
    case rel =>
     refine ⟨g',rfl,rfl,HK.out.2.1,HK.out.2.2.1,?_,?_,?_,?_,F5.setRow (fun h => by have := HX.out; omega) _⟩
     ·rw [dh _ _ _ _ n0]; exact s0
     ·rw [dh _ _ _ _ n1]; exact s1
     ·rw [dh _ _ _ _ n2]; exact s2
     ·rw [bf,s3]; rfl
    case measure =>
     have := HK.out
     simp [intOf]
     omega
   ·have hgq : g = a / b := by
     have h1 : g ≤ a / b := by rw [Nat.le_div_iff_mul_le HF.out.2.2.1,Nat.mul_comm]; omega
     exact Nat.le_antisymm h1 HQ.out.1
    have hres : (a + oz - b * g) % oz = a % b := by
     have h1 := Nat.mod_add_div a b
     rw [← hgq] at h1
     have h2 := HF.out.1
     rw [show a + oz - b * g = a % b + oz by omega,Nat.add_mod_right,Nat.mod_eq_of_lt (by omega)]
    have hsg := aDm (show b * g ≤ a by omega)
    have hsg2 : decide (0 < sgn (b * g) a) = false := decide_eq_false (by omega)
    have HR := Lib.hid hres
    have HGQ := Lib.hid hgq
    clear hc hgq hres
    go_wp2_with fail
    refine (HS.out (b * g) HBG.out _).mono ?_
    rintro e w5 ⟨rfl,f5⟩
    rw [HR.out]
    replace s2 := f5.keeps (fun f => f) s2
    have F5 : Fr F0 w w5 := F4.trans' f5
    have hs5 : g2 < w5.heap.size := (Array.getElem?_eq_some_iff.1 s2).1
    have HS5 := Lib.hid hs5
    clear f5 F4 hs5 s0 s1 s3
    go_wp2_with fail
    obtain ⟨W7,hW7⟩ : ∃ W7,W7 = (w5.alloc (.cells (ig .u64 64 4 0) 134)).setRow w5.heap.size (ig .u64 64 4 (a % b)) := ⟨_,rfl⟩
    refine bg W7 hW7 ?_
    have q2 : W7.heap[g2]? = some (.cells (ig .u64 64 4 0) 134 (0,0)) := by
     rw [hW7,dh _ _ _ _ (by have := HS5.out; omega),heap_alloc_old _ _ HS5.out]; exact s2
    have q5 : W7.heap[w5.heap.size]? = some (.cells (ig .u64 64 4 (a % b)) 134 (0,0)) := by
     rw [hW7,bf,heap_alloc_new]; rfl
    have F7 : Fr F0 w W7 := by rw [hW7]; exact (F5.alloc _).setRow (fun h => by have := F5.size; omega) _
    have n5 : w5.heap.size ≠ g2 := by have := HS5.out; omega
    generalize w5.heap.size = g5 at *
    clear hW7 F5 s2
    refine zn (S := (fun w' => w'.heap[g5]? = some (.cells (ig .u64 64 4 (a % b)) 134 (0,0)))) ?_ fun aj => ?_
    ·exact(by ((try dsimp only) <;> (exact q5)))
    refine au 0 ?_
    refine au 1 ?_
    refine au 2 ?_
    refine zi 3 fun K hK => ?_
    go_simp
    refine rpu hK (by ((try dsimp only) <;> (first | exact q5 | (rw [dh _ _ _ _ (by assumption)]; exact q5)))) fun aj => ?_
    clear hK K
    refine aap ?_
    all_goals
     go_wp2_with fail
     refine bodyPost_ret (apt rfl _ _ g2 _ _ (0,0) _ rfl (by rw [bf,show (World.drew W7).heap = W7.heap from rfl,q2]; rfl) Tryz.underlying134 rfl (by rw [Tryz.szWide]; rfl)) rfl ⟨?_,?_⟩
     ·rw [← HGQ.out]; rfl
     ·exact (Fr.drew F7).setRow (fun h => by have := HX.out; omega) _
end Go.Proofs.YtohckefafbhooaaGreat
namespace Go.Proofs.YtohckefafbhooaaGreat
set_option linter.unusedVariables false
set_option linter.unusedSimpArgs false
open Go.RowKit Go.Shelf
attribute [local go_sem] Oper.semAt_some
theorem ar9 (a i : Nat) : a / 2 ^ (64 * i) = a / 2 ^ (64 * (i + 1)) * 2 ^ 64 + dgt 64 a i := by
 have h2 := Nat.mod_add_div (a / 2 ^ (64 * i)) (2 ^ 64)
 rw [Nat.div_div_eq_div_mul,show 2 ^ (64 * i) * 2 ^ 64 = 2 ^ (64 * (i + 1)) by rw [← Nat.pow_add]; congr 1] at h2
 rw [dgt]
 omega
theorem ax2 (A d b : Nat) (hb : 0 < b) : (A * 2 ^ 64 + d) / b = A / b * 2 ^ 64 + (A % b * 2 ^ 64 + d) / b ∧ (A * 2 ^ 64 + d) % b = (A % b * 2 ^ 64 + d) % b := by
 have h := Nat.mod_add_div A b
 have e : A * 2 ^ 64 + d = (A % b * 2 ^ 64 + d) + b * (A / b * 2 ^ 64) := by
  rw [← Nat.mul_assoc]
  generalize b * (A / b) = z at *
  omega
 rw [e,Nat.add_mul_div_left _ _ hb,Nat.add_mul_mod_self_left]
 exact ⟨Nat.add_comm _ _,rfl⟩
theorem akb (q v i : Nat) : ae5 64 (q * 2 ^ (64 * (i + 1))) i v = (q * 2 ^ 64 + v) * 2 ^ (64 * i) := by
 have e : 2 ^ (64 * (i + 1)) = 2 ^ 64 * 2 ^ (64 * i) := by rw [← Nat.pow_add]; congr 1; omega
 rw [ae5,Nat.mul_div_cancel _ (Nat.two_pow_pos _)]
 conv => lhs; rw [e]
 rw [← Nat.mul_assoc,Nat.mul_mod_left,Nat.zero_add,Nat.mul_comm,Nat.add_comm v,Nat.mul_comm (2 ^ 64) q]
theorem as8 (z v : Nat) : ae5 64 (z * 2 ^ 64) 0 v = z * 2 ^ 64 + v := by
 have := akb z v 0
 simpa using this
theorem ac6 {P : Program} {fn : Func} {p q u : Tmp} {ty : TypeId} (h : fn.results = #[.cell p ty,.cell q ty,.tmp u]) (tmps : Array Value) (w : World) (g g' : Nat) (t t' : TypeId) (cs cs' : Array Value) (fr fr' : Nat × Nat) (d : TypeDesc)
  (hp : tmps.getD p undef = .pointer (some ⟨g,0,none⟩)) (hq : tmps.getD q undef = .pointer (some ⟨g',0,none⟩)) (hg : w.heap[g]? = some (.cells cs t fr)) (hg' : w.heap[g']? = some (.cells cs' t' fr'))
  (hu : P.underlying ty = some d) (hd : (match d with | .struct _ | .array _ _ => true | _ => false) = true) (hi : (P.info? ty).map (·.size) = some cs.size) (hi' : (P.info? ty).map (·.size) = some cs'.size) :
  (results fn tmps).run P w = .ok (.tuple #[.agg cs,.agg cs',tmps.getD u undef]) w := by
 have hp' : tmps[p]?.getD undef = .pointer (some ⟨g,0,none⟩) := by simpa using hp
 have hq' : tmps[q]?.getD undef = .pointer (some ⟨g',0,none⟩) := by simpa using hq
 simp [results,h,hp',hq',asAddr,run_loadVar_row w g t ty cs fr d hg hu hd hi,run_loadVar_row w g' t' ty cs' fr' d hg' hu hd hi']
theorem Fr.ag2 {W W' : World} (h : Fr F0 W W') (B : Nat) : KeepsFrom B W W' :=
 ⟨h.size,fun k o _ hk _ => h.keeps (fun f => f) hk⟩
theorem below_setRow {n g : Nat} (W : World) (c : Array Value) (h : n ≤ g) : Below n W (W.setRow g c) := ⟨rfl,rfl,rfl,by simp,fun k hk => setRow_other W g k c (by omega)⟩
theorem KeepsFrom.avv (B : Nat) (W : World) (g : Nat) (c cs : Array Value) (t : TypeId) (f : Nat × Nat) (hg : W.heap[g]? = some (.cells c t f)) : KeepsFrom B W (W.setRow g cs) :=
 ⟨by simp,fun k o _ hk ho => by
  by_cases e : k = g
  ·subst e
   rw [hg] at hk
   cases hk
   cases ho
  ·rw [setRow_other W g k cs e]; exact hk⟩
theorem aws (a b : Nat) (hb : b = 0) (w : World) :
  Calls Tryz.prog 91 #[.agg (ig .u64 64 4 a),.agg (ig .u64 64 4 b)] w fun e w' => e = .returned (.tuple #[.agg (ig .u64 64 4 0),.agg (ig .u64 64 4 0),.int .i64 5]) ∧ Fr F0 w w' := by
 have hE : ae9 256 b 0 = true := by subst hb; rfl
 clear hb
 obtain ⟨r0,r1,r2,r3⟩ := aze w (.cells (ig .u64 64 4 a) 134) (.cells (ig .u64 64 4 b) 134) (.cells (ig .u64 64 4 0) 134) (.cells (ig .u64 64 4 0) 134)
 have HR := Lib.hid (And.intro r2 r3)
 clear r0 r1 r2 r3
 go_enter Tryz.func91,Tryz.ntmps91
 go_wp2_with fail
 refine bodyPost_ret (ac6 rfl _ _ (w.heap.size + 1 + 1) (w.heap.size + 1 + 1 + 1) _ _ _ _ (0,0) (0,0) _ rfl rfl (by rw [dh _ _ _ _ (by omega),bf,HR.out.1]; rfl) (by rw [bf,dh _ _ _ _ (by omega),HR.out.2]; rfl) Tryz.underlying134 rfl (by rw [Tryz.szWide]; rfl) (by rw [Tryz.szWide]; rfl)) rfl ⟨rfl,?_⟩
 exact ((((((Fr.refl F0 w).alloc _).alloc _).alloc _).alloc _).setRow (fun h => by omega) _).setRow (fun h => by omega) _
theorem azj (a b : Nat) (ha : a < oz) (hb : b < oz) (hb0 : 0 < b) (w : World) :
  Calls Tryz.prog 91 #[.agg (ig .u64 64 4 a),.agg (ig .u64 64 4 b)] w fun e w' => e = .returned (.tuple #[.agg (ig .u64 64 4 (a / b)),.agg (ig .u64 64 4 (a % b)),.int .i64 0]) ∧ Fr F0 w w' := by
 have hE : ae9 256 b 0 = false := by
  rw [aj9 b 0 hb akk]
  exact decide_eq_false (by omega)
 have HA := Lib.hid (And.intro ha (And.intro hb hb0))
 have HL := Lib.hid (fun r (hr : r < oz) w => show Calls Tryz.prog 125 #[.agg (ig .u64 64 4 r),.int .u64 64] w _ from alp r 64 hr (by omega) w)
 have HD := Lib.hid (fun x (hx : x < oz) (h : x < 2 ^ 64 * b) w => amo x b hx hb hb0 h w)
 have ha4 : a / 2 ^ (64 * 4) = 0 := Nat.div_eq_of_lt ha
 have HA4 := Lib.hid ha4
 clear ha hb hb0 ha4
 refine callsIn_wide (n := 6) |>.1 ?_
 refine callsIn_of_wp_marks Tryz.func91 rfl trivial ?_ rfl
 simp only [Tryz.ntmps91,List.size_toArray,List.length_cons,List.length_nil,Nat.reduceAdd,Nat.reduceSub,Array.replicate_succ,Array.replicate_zero,List.push_toArray,List.append_toArray,List.nil_append,List.cons_append]
 gi_wp2_with (refine ⟨trivial,?_⟩; gi_at_call 124; refine (agh _ _ trivial rfl _ _ _ _).mono ?_; rintro e w4 ⟨rfl,rfl⟩)
 obtain ⟨W1,hW1⟩ : ∃ W1,W1 = [Obj.cells (ig .u64 64 4 a) 134,.cells (ig .u64 64 4 b) 134,.cells (ig .u64 64 4 0) 134,.cells (ig .u64 64 4 0) 134,.cells (ig .u64 64 4 0) 134,.cells (ig .u64 64 4 0) 134,.cells #[.slice (some ⟨w.heap.size,0,none⟩) 4 4] 172].foldl World.alloc w := ⟨_,rfl⟩
 refine acf W1 hW1 ?_
 have f1 : Fr F0 w W1 := by rw [hW1]; exact (Fr.refl F0 w).allocs _
 have hs1 := ao8 [Obj.cells (ig .u64 64 4 a) 134,.cells (ig .u64 64 4 b) 134,.cells (ig .u64 64 4 0) 134,.cells (ig .u64 64 4 0) 134,.cells (ig .u64 64 4 0) 134,.cells (ig .u64 64 4 0) 134,.cells #[.slice (some ⟨w.heap.size,0,none⟩) 4 4] 172] w
 have hr := ap2 [Obj.cells (ig .u64 64 4 a) 134,.cells (ig .u64 64 4 b) 134,.cells (ig .u64 64 4 0) 134,.cells (ig .u64 64 4 0) 134,.cells (ig .u64 64 4 0) 134,.cells (ig .u64 64 4 0) 134,.cells #[.slice (some ⟨w.heap.size,0,none⟩) 4 4] 172] w
 rw [← hW1] at hs1 hr
 clear hW1
 have r0 := hr 0 (by simp)
 have r1 := hr 1 (by simp)
 have r2 := hr 2 (by simp)
 have r3 := hr 3 (by simp)
 have r4 := hr 4 (by simp)
 have r5 := hr 5 (by simp)
 have r6 := hr 6 (by simp)
 replace r0 : W1.heap[w.heap.size]? = some (.cells (ig .u64 64 4 a) 134 (0,0)) := r0
 replace r1 : W1.heap[w.heap.size + 1]? = some (.cells (ig .u64 64 4 b) 134 (0,0)) := r1
 replace r2 : W1.heap[w.heap.size + 1 + 1]? = some (.cells (ig .u64 64 4 0) 134 (0,0)) := r2
 replace r3 : W1.heap[w.heap.size + 1 + 1 + 1]? = some (.cells (ig .u64 64 4 0) 134 (0,0)) := r3
 replace r4 : W1.heap[w.heap.size + 1 + 1 + 1 + 1]? = some (.cells (ig .u64 64 4 0) 134 (0,0)) := r4
 replace r5 : W1.heap[w.heap.size + 1 + 1 + 1 + 1 + 1]? = some (.cells (ig .u64 64 4 0) 134 (0,0)) := r5
 replace r6 : W1.heap[w.heap.size + 1 + 1 + 1 + 1 + 1 + 1]? = some (.cells #[.slice (some ⟨w.heap.size,0,none⟩) 4 4] 172 (0,0)) := r6
 clear hr
 generalize hn0 : w.heap.size = g0 at *
 generalize hn1 : g0 + 1 = g1 at *
 generalize hn2 : g1 + 1 = g2 at *
 generalize hn3 : g2 + 1 = g3 at *
 generalize hn4 : g3 + 1 = g4 at *
 generalize hn5 : g4 + 1 = g5 at *
 generalize hn6 : g5 + 1 = g6 at *
 have HN := Lib.hid (show w.heap.size = g0 ∧ g0 ≤ g4 ∧ g0 ≤ g5 ∧ g0 ≤ W1.heap.size ∧ g0 ≤ g2 ∧ g0 ≤ g3 by simp at hs1; omega)
 have m4 : g0 ≠ g4 ∧ g1 ≠ g4 ∧ g2 ≠ g4 ∧ g3 ≠ g4 ∧ g5 ≠ g4 ∧ g6 ≠ g4 ∧ g4 ≠ g5 := by omega
 have m5 : g0 ≠ g5 ∧ g1 ≠ g5 ∧ g2 ≠ g5 ∧ g3 ≠ g5 ∧ g6 ≠ g5 ∧ g2 ≠ g3 ∧ g3 ≠ g2 ∧ g4 ≠ g2 ∧ g5 ≠ g2 ∧ g4 ≠ g3 ∧ g5 ≠ g3 := by omega
 obtain ⟨a04,a14,a24,a34,a54,a64,a45⟩ := m4
 obtain ⟨a05,a15,a25,a35,a65,a23,a32,a42,a52,a43,a53⟩ := m5
 clear hn0 hn1 hn2 hn3 hn4 hn5 hn6 hs1
 refine aep rfl (by omega) (gf := 144) (lb := #[.pointer (some ⟨g6,0,none⟩)]) rfl trivial (enters_of Tryz.func144 (by kernel_rfl) rfl)
  (adh Fence.wide 5 trivial rfl (by omega) (fun pre => dgt 64 a (3 - pre.length)) 4 g6 g0 0 4 (by omega)) (fun _ => rfl)
  (fun pre W => ((W.heap[g0]? = some (.cells (ig .u64 64 4 a) 134 (0,0)) ∧ W.heap[g1]? = some (.cells (ig .u64 64 4 b) 134 (0,0))) ∧ (W.heap[g2]? = some (.cells (ig .u64 64 4 0) 134 (0,0)) ∧ W.heap[g3]? = some (.cells (ig .u64 64 4 0) 134 (0,0))) ∧ (W.heap[g4]? = some (.cells (ig .u64 64 4 (a / 2 ^ (64 * (4 - pre.length)) / b * 2 ^ (64 * (4 - pre.length)))) 134 (0,0)) ∧ W.heap[g5]? = some (.cells (ig .u64 64 4 (a / 2 ^ (64 * (4 - pre.length)) % b)) 134 (0,0)) ∧ W.heap[g6]? = some (.cells #[.slice (some ⟨g0,0,none⟩) 4 4] 172 (0,0)))) ∧ (pre.length ≤ 4) ∧ Below g0 W1 W)
  (fun c _ W => False)
  (OwnFrom.and (OwnFrom.and (OwnFrom.and (qh _ _ _ _ _) (qh _ _ _ _ _)) (OwnFrom.and (OwnFrom.and (qh _ _ _ _ _) (qh _ _ _ _ _)) (OwnFrom.and (qh _ _ (fun pre : List (Nat × Nat) => ig .u64 64 4 (a / 2 ^ (64 * (4 - pre.length)) / b * 2 ^ (64 * (4 - pre.length)))) _ _) (OwnFrom.and (qh _ _ (fun pre : List (Nat × Nat) => ig .u64 64 4 (a / 2 ^ (64 * (4 - pre.length)) % b)) _ _) (qh _ _ _ _ _))))) (OwnFrom.and (yu _ _) (own_below _ _ _ (Nat.le_refl _) HN.out.2.2.2.1)))
  (fun c => yu _ _)
  ?sees ⟨⟨⟨r0,r1⟩,⟨r2,r3⟩,by rw [show 4 - ([] : List (Nat × Nat)).length = 4 from rfl,HA4.out,Nat.zero_div,Nat.zero_mul]; exact r4,by rw [show 4 - ([] : List (Nat × Nat)).length = 4 from rfl,HA4.out,Nat.zero_mod]; exact r5,r6⟩,by simp,Below.refl _ _⟩
  (fun x => { tmps := #[.agg (ig .u64 64 4 a),.agg (ig .u64 64 4 b),.pointer (some ⟨g0,0,none⟩),.pointer (some ⟨g1,0,none⟩),.pointer (some ⟨g2,0,none⟩),.pointer (some ⟨g3,0,none⟩),.int .i64 0,.pointer (some ⟨g4,0,none⟩),.pointer (some ⟨g5,0,none⟩),.int .i64 (x.1 : Int),.int .u64 (x.2 : Int),.agg (ig .u64 64 4 b),.agg (ig .u64 64 4 0),.bool false,undef,undef,.slice (some ⟨g0,0,none⟩) 4 4,.func (.func 144) #[] #[.pointer (some ⟨g6,0,none⟩)],.int .i64 (x.1 : Int),.int .u64 (x.2 : Int),undef,undef,undef,undef,undef,undef,undef,undef,undef,undef,undef,undef,undef,undef],defers := [] }) ?assign ?body ?done ?stop
 case sees =>
  rintro pre W ⟨⟨⟨q0,q1⟩,_,q4,q5,q6⟩,hl4,_⟩
  refine ⟨by rw [gq,q6]; rfl,fun hl => ?_⟩
  rw [gq,q0,jg,Nat.zero_add]
  exact yt _ _ _ _ _ (by omega)
 case assign =>
  intro l x W K hK
  gi_wp2
  exact hK
 case body =>
  rintro l pre x W ⟨⟨⟨q0,q1⟩,⟨q2,q3⟩,q4,q5,q6⟩,hl4,hB⟩ ⟨hlen,rfl,_⟩
  obtain ⟨k,hk⟩ : ∃ k,k = pre.length := ⟨_,rfl⟩
  obtain ⟨i,hi⟩ : ∃ i,i = 3 - k := ⟨_,rfl⟩
  have hi4 : i < 4 := by omega
  have li : (i : Int) < 4 := by omega
  dsimp only
  rw [show 4 - 1 - pre.length = i by omega]
  rw [show 4 - pre.length = i + 1 by omega] at q4 q5
  have HI := Lib.hid (show (pre ++ [(i,dgt 64 a i)]).length = k + 1 ∧ 4 - (k + 1) = i ∧ k + 1 ≤ 4 by simp; omega)
  have hws := ar9 a i
  have hd := abf 64 a i
  have hAb : a / 2 ^ (64 * (i + 1)) < 2 ^ 192 := by
   rw [Nat.div_lt_iff_lt_mul (Nat.two_pow_pos _)]
   refine Nat.lt_of_lt_of_le HA.out.1 ?_
   rw [ab8,← Nat.pow_add]
   exact Nat.pow_le_pow_right (by omega) (by omega)
  obtain ⟨A,hA⟩ : ∃ A,A = a / 2 ^ (64 * (i + 1)) := ⟨_,rfl⟩
  rw [← hA] at q4 q5 hws hAb
  obtain ⟨rr,hrr⟩ : ∃ r,r = A % b := ⟨_,rfl⟩
  rw [← hrr] at q5
  have hrb : rr < b := by rw [hrr]; exact Nat.mod_lt _ HA.out.2.2
  have hrA : rr < 2 ^ 192 := by rw [hrr]; exact Nat.lt_of_le_of_lt (Nat.mod_le _ _) hAb
  have e256 : (2 : Nat) ^ 192 * 2 ^ 64 = oz := by rw [← Nat.pow_add]; rfl
  have hr2 : rr * 2 ^ 64 + 2 ^ 64 ≤ oz := by
   have : (rr + 1) * 2 ^ 64 ≤ 2 ^ 192 * 2 ^ 64 := Nat.mul_le_mul_right _ hrA
   rw [e256,Nat.add_mul] at this
   omega
  have hr3 : rr * 2 ^ 64 + 2 ^ 64 ≤ 2 ^ 64 * b := by
   have : (rr + 1) * 2 ^ 64 ≤ b * 2 ^ 64 := Nat.mul_le_mul_right _ hrb
   rw [Nat.add_mul,Nat.mul_comm b] at this
   omega
  have dv := ax2 A (dgt 64 a i) b HA.out.2.2
  rw [← hrr,← hws] at dv
  obtain ⟨d,hdd⟩ : ∃ d,d = dgt 64 a i := ⟨_,rfl⟩
  rw [← hdd] at hd dv HI ⊢
  obtain ⟨x,hx⟩ : ∃ x,x = rr * 2 ^ 64 + d := ⟨_,rfl⟩
  rw [← hx] at dv
  have hxq : x / b < 2 ^ 64 := by rw [Nat.div_lt_iff_lt_mul HA.out.2.2]; omega
  have HX := Lib.hid (show rr < oz ∧ x < oz ∧ x < 2 ^ 64 * b ∧ rr * 2 ^ 64 % oz = rr * 2 ^ 64 from ⟨by omega,by omega,by omega,Nat.mod_eq_of_lt (by omega)⟩)
  have HDV := Lib.hid dv
  have HPX := Lib.hid hx
  clear hws hAb hrb hrA e256 hr2 hr3 dv hx hl4 hlen hi hk hA hrr hdd
  gi_wp2_with (refine ⟨trivial,?_⟩; gi_at_call 125; refine (CallsIn.inRound l (callsIn_wide.2 (HL.out rr HX.out.1 _))).mono ?_; rintro e w4 ⟨rfl,f4⟩; rw [HX.out.2.2.2]; replace q0 := f4.keeps (fun f => f) q0; replace q1 := f4.keeps (fun f => f) q1; replace q2 := f4.keeps (fun f => f) q2; replace q3 := f4.keeps (fun f => f) q3; replace q4 := f4.keeps (fun f => f) q4; replace q5 := f4.keeps (fun f => f) q5; replace q6 := f4.keeps (fun f => f) q6; have H4 := Lib.hid f4; clear f4)
  refine ⟨trivial,?_⟩
  have hpx : ae5 64 (rr * 18446744073709551616) 0 d = x := by rw [HPX.out]; exact as8 rr d
  rw [hpx]
  obtain ⟨W5,hW5⟩ : ∃ W5,W5 = ((w4.setRow g5 (ig .u64 64 4 (rr * 18446744073709551616))).setCell ⟨g5,0,none⟩ (.int .u64 (d : Int))) := ⟨_,rfl⟩
  rw [← hW5]
  have k5 : W5.heap[g5]? = some (.cells (ig .u64 64 4 x) 134 (0,0)) := by
   rw [hW5,cu,bf,q5,acg,jr,abr _ _ _ hd,hpx]
  have ko : ∀ g,g ≠ g5 → W5.heap[g]? = w4.heap[g]? := fun g hg => by rw [hW5,bn _ _ _ _ _ hg,dh _ _ _ _ hg]
  have b4 : Below g0 W1 w4 := hB.trans (H4.out.below (Nat.le_trans HN.out.2.2.2.1 hB.size) fun _ _ f => f)
  have b5 : Below g0 W1 W5 := by
   rw [hW5]
   exact (b4.trans (below_setRow _ _ HN.out.2.2.1)).setCell (p := ⟨g5,0,none⟩) HN.out.2.2.1 _
  have kf5 : KeepsFrom W1.heap.size W W5 := by
   rw [hW5]
   exact ((H4.out.ag2 _).trans (KeepsFrom.avv _ _ _ _ _ _ _ q5)).trans ((KeepsOthers.setCell _ _ _).from _)
  replace q0 := (ko g0 a05).trans q0
  replace q1 := (ko g1 a15).trans q1
  replace q2 := (ko g2 a25).trans q2
  replace q3 := (ko g3 a35).trans q3
  replace q4 := (ko g4 a45).trans q4
  replace q6 := (ko g6 a65).trans q6
  have HBB := Lib.hid (And.intro b5 kf5)
  clear hW5 ko q5 b4 b5 kf5 hpx hB
  refine (CallsIn.inRound l (callsIn_wide.2 (HD.out x HX.out.2.1 HX.out.2.2.1 W5))).mono ?_
  rintro e w6 ⟨rfl,f6⟩
  replace q0 := f6.keeps (fun f => f) q0
  replace q1 := f6.keeps (fun f => f) q1
  replace q2 := f6.keeps (fun f => f) q2
  replace q3 := f6.keeps (fun f => f) q3
  replace q4 := f6.keeps (fun f => f) q4
  replace k5 := f6.keeps (fun f => f) k5
  replace q6 := f6.keeps (fun f => f) q6
  have H6 := Lib.hid f6
  clear f6
  gi_wp2
  have b6 : Below g0 W1 w6 := HBB.out.1.trans (H6.out.below (Nat.le_trans HN.out.2.2.2.1 HBB.out.1.size) fun _ _ f => f)
  have b7 := b6.setCell (p := ⟨g4,i,none⟩) HN.out.2.1 (.int .u64 ((x / b : Nat) : Int))
  have kf6 := (HBB.out.2.trans (H6.out.ag2 _)).trans ((KeepsOthers.setCell w6 ⟨g4,i,none⟩ (.int .u64 ((x / b : Nat) : Int))).from W1.heap.size)
  have k5' : (w6.setCell ⟨g4,i,none⟩ (.int .u64 ((x / b : Nat) : Int))).heap[g5]? = some (.cells (ig .u64 64 4 x) 134 (0,0)) := by
   rw [bn _ _ _ _ _ a54]; exact k5
  refine ⟨kf6.trans (KeepsFrom.avv _ _ _ _ _ _ _ k5'),trivial,⟨⟨?_,?_⟩,⟨?_,?_⟩,?_,?_,?_⟩,?_,?_⟩
  ·rw [dh _ _ _ _ a05,bn _ _ _ _ _ a04]; exact q0
  ·rw [dh _ _ _ _ a15,bn _ _ _ _ _ a14]; exact q1
  ·rw [dh _ _ _ _ a25,bn _ _ _ _ _ a24]; exact q2
  ·rw [dh _ _ _ _ a35,bn _ _ _ _ _ a34]; exact q3
  ·rw [dh _ _ _ _ a45,cu,q4,jr,HI.out.1,HI.out.2.1,HDV.out.1]
   first | rw [abr _ _ _ hxq,akb] | (rw [← akb,← abr _ _ _ hxq]; rfl)
  ·rw [HI.out.1,HI.out.2.1,HDV.out.2,bf,bn _ _ _ _ _ a54,k5]; rfl
  ·rw [dh _ _ _ _ a65,bn _ _ _ _ _ a64]; exact q6
  ·rw [HI.out.1]; exact HI.out.2.2
  ·exact b7.trans (below_setRow _ _ HN.out.2.2.1)
 case done =>
  rintro D ys W hD rfl ⟨⟨⟨q0,q1⟩,⟨q2,q3⟩,q4,q5,q6⟩,hl4,hB⟩ hK
  rw [aah,Nat.sub_self,Nat.mul_zero,Nat.pow_zero,Nat.div_one,Nat.mul_one] at q4
  rw [aah,Nat.sub_self,Nat.mul_zero,Nat.pow_zero,Nat.div_one] at q5
  clear q0 q1 q6 hl4
  gi_wp2
  refine wpIn_wide.2 ?_
  refine zn (S := (fun w' => w'.heap[g4]? = some (.cells (ig .u64 64 4 (a / b)) 134 (0,0)) ∧ w'.heap[g5]? = some (.cells (ig .u64 64 4 (a % b)) 134 (0,0)))) ?_ fun aj => ?_
  ·exact(by ((try dsimp only) <;> (exact ⟨q4,q5⟩)))
  refine au 0 ?_
  refine au 1 ?_
  refine zi 2 fun K hK => ?_
  go_simp
  refine rpu hK (by ((try dsimp only) <;> (first | exact ⟨q4,q5⟩ | (refine ⟨?_,?_⟩ <;> (repeat rw [dh _ _ _ _ (by assumption)]) <;> assumption)))) fun aj => ?_
  clear hK K
  refine zi 3 fun K hK => ?_
  go_simp
  refine rpu hK (by ((try dsimp only) <;> (first | exact ⟨q4,q5⟩ | (refine ⟨?_,?_⟩ <;> (repeat rw [dh _ _ _ _ (by assumption)]) <;> assumption)))) fun aj => ?_
  clear hK K
  refine au 4 ?_
  refine aap ?_
  all_goals
   generalize hW9 : World.setRow (World.setRow _ _ _) _ _ = W9
   have c2 : W9.heap[g2]? = some (.cells (ig .u64 64 4 (a / b)) 134 (0,0)) := by
    rw [← hW9]
    first
     |(rw [dh _ _ _ _ a23,bf,show W.drew.heap = W.heap from rfl,q2]; rfl)
     |(rw [bf,dh _ _ _ _ a23,show W.drew.heap = W.heap from rfl,q2]; rfl)
   have c3 : W9.heap[g3]? = some (.cells (ig .u64 64 4 (a % b)) 134 (0,0)) := by
    rw [← hW9]
    first
     |(rw [dh _ _ _ _ a32,bf,show W.drew.heap = W.heap from rfl,q3]; rfl)
     |(rw [bf,dh _ _ _ _ a32,show W.drew.heap = W.heap from rfl,q3]; rfl)
   have hD2 : D ≠ g2 := fun e => by subst e; rw [q2] at hK; cases hK
   have hD3 : D ≠ g3 := fun e => by subst e; rw [q3] at hK; cases hK
   have hK' : W9.heap[D]? = some (.deferred (some [])) := by
    rw [← hW9]
    first
     |(rw [dh _ _ _ _ hD2,dh _ _ _ _ hD3]; exact hK)
     |(rw [dh _ _ _ _ hD3,dh _ _ _ _ hD2]; exact hK)
   have b9 : Below g0 W1 W9 := by
    rw [← hW9]
    exact ((hB.drew).trans (below_setRow _ _ (by have := HN.out; omega))).trans (below_setRow _ _ (by have := HN.out; omega))
   clear hW9
   have b10 := b9.trans (belowK_b (w := W1) HN.out.2.2.2.1 W9 D _ (.deferred none) hD hK' rfl rfl)
   have e2 : (W9.putObj D (.deferred none)).heap[g2]? = some (.cells (ig .u64 64 4 (a / b)) 134 (0,0)) := (World.putObj_heap_other (fun e => hD2 e.symm)).trans c2
   have e3 : (W9.putObj D (.deferred none)).heap[g3]? = some (.cells (ig .u64 64 4 (a % b)) 134 (0,0)) := (World.putObj_heap_other (fun e => hD3 e.symm)).trans c3
   gi_wp2
   refine ⟨by simp,.inl ⟨_,_,rfl,run_takeDeferred hK',?_⟩⟩
   exact ⟨_,ac6 rfl _ _ g2 g3 _ _ _ _ (0,0) (0,0) _ rfl rfl e2 e3 Tryz.underlying134 rfl (by rw [Tryz.szWide]; rfl) (by rw [Tryz.szWide]; rfl),rfl,f1.trans (Fr.aag b10) fun i hi hk => by have := HN.out; omega⟩
 case stop =>
  rintro D c pre W hD h hK
  exact h.elim
end Go.Proofs.YtohckefafbhooaaGreat
namespace Go.Proofs.YtohckefafbhooaaGreat
set_option linter.unusedVariables false
set_option linter.unusedSimpArgs false
open Go.RowKit
theorem aJx (a : Nat) (ha : a < oz) : ae9 256 a (dgt 64 a 0) = decide (a < 18446744073709551616) := by
 have h0 : dgt 64 a 0 = a % 18446744073709551616 := by unfold dgt; rw [Nat.mul_zero,Nat.pow_zero,Nat.div_one]
 have hl : dgt 64 a 0 < oz := Nat.lt_of_le_of_lt (by rw [h0]; exact Nat.mod_le _ _) ha
 rw [aj9 a _ ha hl,h0]
 by_cases h : a < 18446744073709551616
 ·rw [decide_eq_true h,decide_eq_true (Nat.mod_eq_of_lt h).symm]
 ·rw [decide_eq_false h,decide_eq_false]
  intro e
  have := Nat.mod_lt a (show 0 < 18446744073709551616 by omega)
  omega
theorem asb (a d u : Nat) (o : Bool) (hE : ae9 256 a d = o) (hd : dgt 64 a 0 = d) (hu : u = if o then d else 0) (w : World) :
  Calls Tryz.prog 94 #[.agg (ig .u64 64 4 a)] w fun e w' => e = .returned (.tuple #[.int .u64 (u : Int),.bool o]) ∧ Fr F0 w w' := by
 have HO := Lib.hid (fun w => show Calls Tryz.prog 92 #[.int .u64 (dgt 64 a 0 : Nat)] w _ from ajr (dgt 64 a 0) (abf _ _ _) w)
 rw [hd] at HO
 have HU := Lib.hid hu
 clear hu
 go_enter Tryz.func94,Tryz.ntmps94
 go_wp2_with fail
 have r0 := heap_alloc_new w (.cells (ig .u64 64 4 a) 134)
 have F := (Fr.refl F0 w).alloc (.cells (ig .u64 64 4 a) 134)
 obtain ⟨W1,hW1⟩ : ∃ W1,W1 = w.alloc (.cells (ig .u64 64 4 a) 134) := ⟨_,rfl⟩
 rw [← hW1] at r0 F
 refine bg W1 hW1 ?_
 clear hW1
 generalize w.heap.size = g0 at *
 refine zn (S := (fun w' => w'.heap[g0]? = some (.cells (ig .u64 64 4 a) 134 (0,0)) ∧ Fr F0 w w')) ?_ fun aj => ?_
 ·exact(by ((try dsimp only) <;> (exact ⟨r0,F.drew⟩)))
 refine au 0 ?_
 refine au 1 ?_
 refine au 2 ?_
 refine zi 3 fun K hK => ?_
 go_simp
 ((with_reducible refine (HO.out _).mono ?_); rintro e w5 ⟨rfl,f5⟩)
 refine rpu hK (by ((try dsimp only) <;> (exact ⟨dn f5 aj.1,aj.2.trans' f5⟩))) fun aj => ?_
 clear hK K
 refine au 4 ?_
 refine aap ?_
 all_goals
  clear r0 F
  obtain ⟨r0,F⟩ := aj
  cases o
  ·go_wp2
   go_ret2
   exact ⟨by rw [HU.out]; rfl,F⟩
  ·go_wp2
   go_ret2
   exact ⟨by rw [HU.out]; rfl,F⟩
theorem awr (a : Nat) (ha : a < oz) (w : World) :
  Calls Tryz.prog 94 #[.agg (ig .u64 64 4 a)] w fun e w' => e = .returned (.tuple #[.int .u64 ((if a < 18446744073709551616 then a else 0 : Nat) : Int),.bool (decide (a < 18446744073709551616))]) ∧ Fr F0 w w' := by
 refine asb a (dgt 64 a 0) _ _ (aJx a ha) rfl ?_ w
 have h0 : dgt 64 a 0 = a % 18446744073709551616 := by unfold dgt; rw [Nat.mul_zero,Nat.pow_zero,Nat.div_one]
 by_cases h : a < 18446744073709551616
 ·rw [decide_eq_true h,if_pos h,if_pos rfl,h0,Nat.mod_eq_of_lt h]
 ·rw [decide_eq_false h,if_neg h]; rfl
theorem iy (x : Nat) (o : Bool) (ho : decide (x ≤ 4611686018427387904) = o) (w : World) :
  Calls Tryz.prog 78 #[.int .u64 (x : Int)] w fun e w' => e = .returned (.bool o) ∧ w' = w := by
 cases o
 ·have l1 : ¬ (x : Int) ≤ 4611686018427387904 := by have := of_decide_eq_false ho; omega
  clear ho
  go_enter Tryz.func78,Tryz.ntmps78
  go_wp2
  go_ret
  exact ⟨rfl,rfl⟩
 ·have l1 : (x : Int) ≤ 4611686018427387904 := by have := of_decide_eq_true ho; omega
  clear ho
  go_enter Tryz.func78,Tryz.ntmps78
  go_wp2
  go_ret
  exact ⟨rfl,rfl⟩
def adV (a b : Nat) : Nat := if a ≤ 4611686018427387904 ∧ b ≤ 4611686018427387904 ∧ a + b ≤ 4611686018427387904 then a + b else 0
def adE (a b : Nat) : Int := if a ≤ 4611686018427387904 ∧ b ≤ 4611686018427387904 then (if a + b ≤ 4611686018427387904 then 0 else 4) else 1
def sbV (a b : Nat) : Nat := if a ≤ 4611686018427387904 ∧ b ≤ 4611686018427387904 ∧ b ≤ a then a - b else 0
def sbE (a b : Nat) : Int := if a ≤ 4611686018427387904 ∧ b ≤ 4611686018427387904 then (if b ≤ a then 0 else 16) else 1
theorem aak (a b : Nat) (ha : a < 18446744073709551616) (hb : b < 18446744073709551616) (w : World) :
  Calls Tryz.prog 76 #[.int .u64 (a : Int),.int .u64 (b : Int)] w fun e w' => e = .returned (.tuple #[.int .u64 (adV a b : Nat),.int .i64 (adE a b)]) ∧ Fr F0 w w' := by
 by_cases h1 : a ≤ 4611686018427387904
 ·have HA := Lib.hid (iy a true (decide_eq_true h1))
  by_cases h2 : b ≤ 4611686018427387904
  ·have HB := Lib.hid (iy b true (decide_eq_true h2))
   have hw : IntKind.u64.wrap ((a : Int) + (b : Int)) = ((a + b : Nat) : Int) := by rw [IntWalk.u64_in _ (by omega)]; omega
   by_cases h3 : a + b ≤ 4611686018427387904
   ·have ev : adV a b = a + b := if_pos ⟨h1,h2,h3⟩
    have ee : adE a b = 0 := by unfold adE; rw [if_pos ⟨h1,h2⟩,if_pos h3]
    rw [ev,ee]
    have HC := Lib.hid (iy (a + b) true (decide_eq_true h3))
    generalize a + b = s at *
    clear ev ee h1 h2 h3 ha hb
    go_enter Tryz.func76,Tryz.ntmps76
    go_wp2_with fail
    (with_reducible refine (HA.out _).mono ?_); rintro e w1 ⟨rfl,rfl⟩
    go_wp2_with fail
    (with_reducible refine (HB.out _).mono ?_); rintro e w1 ⟨rfl,rfl⟩
    go_wp2_with fail
    (with_reducible refine (HC.out _).mono ?_); rintro e w1 ⟨rfl,rfl⟩
    go_wp2_with fail
    go_ret2
    exact ⟨rfl,Fr.refl _ _⟩
   ·have ev : adV a b = 0 := if_neg fun h => h3 h.2.2
    have ee : adE a b = 4 := by unfold adE; rw [if_pos ⟨h1,h2⟩,if_neg h3]
    rw [ev,ee]
    have HC := Lib.hid (iy (a + b) false (decide_eq_false h3))
    generalize a + b = s at *
    clear ev ee h1 h2 h3 ha hb
    go_enter Tryz.func76,Tryz.ntmps76
    go_wp2_with fail
    (with_reducible refine (HA.out _).mono ?_); rintro e w1 ⟨rfl,rfl⟩
    go_wp2_with fail
    (with_reducible refine (HB.out _).mono ?_); rintro e w1 ⟨rfl,rfl⟩
    go_wp2_with fail
    (with_reducible refine (HC.out _).mono ?_); rintro e w1 ⟨rfl,rfl⟩
    go_wp2_with fail
    go_ret2
    exact ⟨rfl,Fr.refl _ _⟩
  ·have HB := Lib.hid (iy b false (decide_eq_false h2))
   have ev : adV a b = 0 := if_neg fun h => h2 h.2.1
   have ee : adE a b = 1 := if_neg fun h => h2 h.2
   rw [ev,ee]
   clear ev ee h1 h2 ha hb
   go_enter Tryz.func76,Tryz.ntmps76
   go_wp2_with fail
   (with_reducible refine (HA.out _).mono ?_); rintro e w1 ⟨rfl,rfl⟩
   go_wp2_with fail
   (with_reducible refine (HB.out _).mono ?_); rintro e w1 ⟨rfl,rfl⟩
   go_wp2_with fail
   go_ret2
   exact ⟨rfl,Fr.refl _ _⟩
 ·have HA := Lib.hid (iy a false (decide_eq_false h1))
  have ev : adV a b = 0 := if_neg fun h => h1 h.1
  have ee : adE a b = 1 := if_neg fun h => h1 h.1
  rw [ev,ee]
  clear ev ee h1 ha hb
  go_enter Tryz.func76,Tryz.ntmps76
  go_wp2_with fail
  (with_reducible refine (HA.out _).mono ?_); rintro e w1 ⟨rfl,rfl⟩
  go_wp2_with fail
  go_ret2
  exact ⟨rfl,Fr.refl _ _⟩
theorem vw (a b : Nat) (ha : a < 18446744073709551616) (hb : b < 18446744073709551616) (w : World) :
  Calls Tryz.prog 85 #[.int .u64 (a : Int),.int .u64 (b : Int)] w fun e w' => e = .returned (.tuple #[.int .u64 (sbV a b : Nat),.int .i64 (sbE a b)]) ∧ Fr F0 w w' := by
 by_cases h1 : a ≤ 4611686018427387904
 ·have HA := Lib.hid (iy a true (decide_eq_true h1))
  by_cases h2 : b ≤ 4611686018427387904
  ·have HB := Lib.hid (iy b true (decide_eq_true h2))
   by_cases h3 : b ≤ a
   ·have hw : IntKind.u64.wrap ((a : Int) - (b : Int)) = ((a - b : Nat) : Int) := by rw [IntWalk.u64_in _ (by omega)]; omega
    have l1 : ¬ (a : Int) < (b : Int) := by omega
    have ev : sbV a b = a - b := if_pos ⟨h1,h2,h3⟩
    have ee : sbE a b = 0 := by unfold sbE; rw [if_pos ⟨h1,h2⟩,if_pos h3]
    rw [ev,ee]
    generalize a - b = s at *
    clear ev ee h1 h2 h3 ha hb
    go_enter Tryz.func85,Tryz.ntmps85
    go_wp2_with fail
    (with_reducible refine (HA.out _).mono ?_); rintro e w1 ⟨rfl,rfl⟩
    go_wp2_with fail
    (with_reducible refine (HB.out _).mono ?_); rintro e w1 ⟨rfl,rfl⟩
    go_wp2_with fail
    go_ret2
    exact ⟨rfl,Fr.refl _ _⟩
   ·have l1 : (a : Int) < (b : Int) := by omega
    have ev : sbV a b = 0 := if_neg fun h => h3 h.2.2
    have ee : sbE a b = 16 := by unfold sbE; rw [if_pos ⟨h1,h2⟩,if_neg h3]
    rw [ev,ee]
    clear ev ee h1 h2 h3 ha hb
    go_enter Tryz.func85,Tryz.ntmps85
    go_wp2_with fail
    (with_reducible refine (HA.out _).mono ?_); rintro e w1 ⟨rfl,rfl⟩
    go_wp2_with fail
    (with_reducible refine (HB.out _).mono ?_); rintro e w1 ⟨rfl,rfl⟩
    go_wp2_with fail
    go_ret2
    exact ⟨rfl,Fr.refl _ _⟩
  ·have HB := Lib.hid (iy b false (decide_eq_false h2))
   have ev : sbV a b = 0 := if_neg fun h => h2 h.2.1
   have ee : sbE a b = 1 := if_neg fun h => h2 h.2
   rw [ev,ee]
   clear ev ee h1 h2 ha hb
   go_enter Tryz.func85,Tryz.ntmps85
   go_wp2_with fail
   (with_reducible refine (HA.out _).mono ?_); rintro e w1 ⟨rfl,rfl⟩
   go_wp2_with fail
   (with_reducible refine (HB.out _).mono ?_); rintro e w1 ⟨rfl,rfl⟩
   go_wp2_with fail
   go_ret2
   exact ⟨rfl,Fr.refl _ _⟩
 ·have HA := Lib.hid (iy a false (decide_eq_false h1))
  have ev : sbV a b = 0 := if_neg fun h => h1 h.1
  have ee : sbE a b = 1 := if_neg fun h => h1 h.1
  rw [ev,ee]
  clear ev ee h1 ha hb
  go_enter Tryz.func85,Tryz.ntmps85
  go_wp2_with fail
  (with_reducible refine (HA.out _).mono ?_); rintro e w1 ⟨rfl,rfl⟩
  go_wp2_with fail
  go_ret2
  exact ⟨rfl,Fr.refl _ _⟩
def bs (n x : Nat) : List Nat := (List.range n).map (dgt 1 x)
theorem aai (n x : Nat) : (bs n x).length = n := by simp [bs]
theorem aFo (n x : Nat) : bs (n + 1) x = bs n x ++ [dgt 1 x n] := by simp [bs,List.range_succ]
theorem dgt1 (x i : Nat) : dgt 1 x i = x / 2 ^ i % 2 := by simp [dgt]
theorem ao7 {w : World} {ops : Array Oper} {rest : List Oper} {o : Oper} {a : Act} {Q : Exit → Act → World → Prop} (hgd : o.guard = none) (s x : Operand)
  (ho : o.op = .call { callee := .builtin .append,args := #[s,x],argTypes := #[172,172] })
  (v : Value) (b0 : List Nat) (hs : a.eval s = v) (hown : aoj w v b0) (ad : Option Addr) (m c : Nat) (l : List Nat) (hx : a.eval x = .slice ad m c) (hsl : Us w ad c l) (hm : m = l.length)
  (hb : b0.length + l.length ≤ 1000000)
  (h : ∀ a' c' w',aoj w' (.slice a' (b0.length + l.length) c') (b0 ++ l) → w.grownBy w' v.ownBlock → (∀ k,aqn a' = some k → v.ownBlock = some k ∨ w.heap.size ≤ k) →
   wpList Tryz.prog ops Q rest (a.put o.dst (.slice a' (b0.length + l.length) c')) w') : wpList Tryz.prog ops Q (o :: rest) a w := by
 subst hm
 obtain ⟨i0,hi,hz0,hz1,hz2⟩ := info_parts Tryz.infoU64
 refine ais hgd s x 172 ho 23 i0 (.int .u64 0) 1 8 Tryz.underlying172 hi hz0 hz1 hz2 rfl (by decide) v _ _ hs hown ad c _ _ hx hsl Us.one (by unfold maxLen; omega) (by omega) ?_
 intro a' c' w' h1 h2 h3
 exact h a' c' w' (by simpa [aoj] using h1) h2 h3
theorem arp (x i : Nat) : x / 2 ^ i / 2 = x / 2 ^ (i + 1) := by rw [Nat.div_div_eq_div_mul,← Nat.pow_succ]
theorem arf {x n : Nat} (h : lg x ≤ n) : nbits x ≤ 16 * n := (wo x (16 * n)).2 (Nat.lt_of_lt_of_le (adu x) (Nat.pow_le_pow_right (by omega) (by omega)))
theorem as7 (x : Nat) (a : Option Addr) (c : Nat) (hlx : lg x ≤ 10000) (w : World) (hx : Ns w a c x) :
  Calls Tryz.prog 186 #[.slice a (lg x) c] w fun e w' => ∃ a' c',e = .returned (.slice a' (nbits x) c') ∧ Us w' a' c' (bs (nbits x) x) ∧ Fr F0 w w' := by
 have hn : nbits x ≤ 160000 := arf hlx
 have hlk : ∀ i,lg (x / 2 ^ i) ≤ 10000 := fun i => Nat.le_trans (afm (Nat.lt_of_le_of_lt (Nat.div_le_self _ _) (adu x))) hlx
 have HL := Lib.hid hlk
 clear hlk
 go_enter Tryz.func186,Tryz.ntmps186
 go_wp2_with fail
 go_loopw [0,3] (fun sv bv wr => ∃ i : Nat,i ≤ nbits x ∧ (∃ a' c',sv = .slice a' (lg (x / 2 ^ i)) c' ∧ Ns wr a' c' (x / 2 ^ i)) ∧ Row w (bs i x) bv wr ∧ Fr F0 w wr) (fun _ bv _ => nbits x - vlen bv)
 case atStart => exact ⟨0,Nat.zero_le _,⟨a,c,by rw [Nat.pow_zero,Nat.div_one],by rw [Nat.pow_zero,Nat.div_one]; exact hx.fr ((Fr.refl F0 w).alloc _)⟩,Row.nil w 0,(Fr.refl F0 w).alloc _⟩
 case round =>
  obtain ⟨i,hi,⟨a1,c1,rfl,hn1⟩,⟨a,c,rfl,hown,hblk⟩,hf⟩ := hrel
  rw [aai] at hown ⊢
  have HB := Lib.hid hblk
  have HF := Lib.hid hf
  have HI := Lib.hid hi
  have HN := Lib.hid hn
  have HO := Lib.hid hown
  have hi2 : i ≤ 160000 := by omega
  clear hblk hf hx hn hown
  by_cases h0 : lg (x / 2 ^ i) = 0
  ·have hz : x / 2 ^ i = 0 := aJz h0
   have hxi : x < 2 ^ i := by
    rcases Nat.lt_or_ge x (2 ^ i) with h | h
    ·exact h
    ·have := Nat.div_pos h (Nat.two_pow_pos i); omega
   have he : i = nbits x := Nat.le_antisymm hi ((wo x i).2 hxi)
   have HE := Lib.hid he
   rw [h0]
   clear hz hxi he hi hn1 h0
   go_wp2_with fail
   go_ret
   refine ⟨a,c,by rw [← HE.out]; rfl,?_,HF.out⟩
   rw [← HE.out]
   exact HO.out.us.2
  ·have hne : x / 2 ^ i ≠ 0 := fun h => h0 (by rw [h]; rfl)
   have hi1 : i + 1 ≤ nbits x := by
    refine Nat.lt_of_not_le fun h => ?_
    have := (wo x i).1 h
    exact hne (Nat.div_eq_of_lt this)
   have HI1 := Lib.hid hi1
   have l1 : (0 : Int) < ((lg (x / 2 ^ i) : Nat) : Int) := by omega
   have HH := Lib.hid (as6 (x / 2 ^ i) a1 c1 (HL.out i) wr hn1)
   rw [arp,← dgt1] at HH
   generalize lg (x / 2 ^ i) = n0 at *
   generalize hr : dgt 1 x i = r at *
   have HR := Lib.hid hr
   clear hne hi1 hi hn1 h0 hr
   go_wp2_with fail
   (with_reducible refine HH.out.mono ?_)
   rintro e w5 ⟨a2,c2,rfl,hn2,hnew,f5⟩
   have hown := HO.out.fr f5 (fun _ _ f => f)
   have F5 := Lib.hid f5
   have N2 := Lib.hid (And.intro hn2 hnew)
   clear f5 hn2 hnew
   go_wp2_with (at_builtin; refine ao7 rfl _ _ rfl _ (bs i x) rfl (hown.fr ((Fr.refl F0 w5).alloc _) (fun _ _ f => f)) _ _ _ [r] rfl (Us.aio w5 r) rfl (by rw [aai]; simp; omega) ?_; intro a3 c3 w3 ho hg hb)
   go_roundw
   case rel =>
    rw [aai] at *
    refine ⟨i + 1,HI1.out,⟨a2,c2,rfl,?_⟩,?_,Row.frame HB.out (HF.out.trans' F5.out) hg⟩
    ·refine Sl.fr (N2.out.1) (((Fr.refl (fun k => aqn a = some k) w5).alloc _).grown hg fun k e _ => by rw [← e]; exact (aen a _ _).symm) fun k hk e => ?_
     have h1 := N2.out.2 k hk
     have h2 := HO.out.lt k (by rw [aen]; exact e)
     omega
    ·rw [aFo,HR.out]
     have := Row.app (l := bs i x) HB.out (HF.out.trans' F5.out) (by rw [aai]; exact ho) hb
     rwa [aai] at this
   case measure => have := HI1.out; simp [vlen,aai]; omega
theorem aqx : lg 1 = 1 := by
 have h1 := afm (x := 1) (n := 1) (by omega)
 have h2 := avj (x := 1) (by omega)
 omega
theorem aKg : dg 1 = [1] := by unfold dg; rw [aqx]; simp [ds,dgt]
theorem arz (v j : Nat) : v / 2 ^ j = v / 2 ^ (j + 1) + v / 2 ^ (j + 1) + dgt 1 v j := by
 rw [← arp,dgt1]; omega
theorem aCa (v j : Nat) : dgt 1 v j < 2 := by rw [dgt1]; exact Nat.mod_lt _ (by omega)
theorem bs_getD (n x i : Nat) (h : i < n) : (bs n x).getD i 0 = dgt 1 x i := by simp [bs,List.getD,h]
theorem alz (x : Nat) (a1 : Option Addr) (c1 : Nat) (a2 : Option Addr) (c2 : Nat) (hlx : lg x ≤ 10000) (w : World) (hx : Ns w a1 c1 x) (hy : Us w a2 c2 [1]) :
  Calls Tryz.prog 175 #[.slice a1 (lg x) c1,.slice a2 1 c2] w fun e w' => NN (x + 1) w e w' := by
 have h := aer x 1 a1 c1 a2 c2 hlx (by rw [aqx]; omega) w hx (by unfold Ns; rw [aKg]; exact hy)
 rwa [aqx] at h
theorem ah7 (v n : Nat) (a : Option Addr) (c : Nat) (hv : v < 2 ^ n) (hn : n ≤ 100000) (hl : lg v ≤ 10000) (w : World) (hx : Us w a c (bs n v)) :
  Calls Tryz.prog 188 #[.slice a n c] w fun e w' => NN v w e w' := by
 have HL := Lib.hid (fun z (h : z ≤ v) => Nat.le_trans (afm (Nat.lt_of_le_of_lt h (adu v))) hl)
 have HX := Lib.hid hx
 have HV := Lib.hid hv
 clear hl hx hv
 go_enter Tryz.func188,Tryz.ntmps188
 go_wp2_with fail
 go_loopw [3,4] (fun ov iv wr => ∃ k : Nat,k ≤ n ∧ iv = .int .i64 ((k : Int) - 1) ∧ (∃ a' c',ov = .slice a' (lg (v / 2 ^ k)) c' ∧ Ns wr a' c' (v / 2 ^ k)) ∧ Fr F0 w wr) (fun _ iv _ => (intOf iv + 1).toNat)
 case atStart =>
  refine ⟨n,Nat.le_refl _,rfl,⟨_,_,by rw [Nat.div_eq_of_lt HV.out,ao0],?_⟩,(Fr.refl F0 w).alloc _⟩
  rw [Nat.div_eq_of_lt HV.out]
  exact (Row.nil w 0).elim fun _ h => h.elim fun _ h => by obtain ⟨e,ho,_⟩ := h; cases e; exact ho.us.2
 case round =>
  obtain ⟨k,hk,rfl,⟨a1,c1,rfl,hn1⟩,hf⟩ := hrel
  cases k with
  |zero =>
   rw [Nat.pow_zero,Nat.div_one] at *
   go_wp2_with fail
   go_ret
   exact ⟨a1,c1,rfl,hn1,hf⟩
  |succ j =>
   obtain ⟨b,off,ea,hc⟩ := (HX.out.fr hf).get j (by rw [aai]; omega)
   rw [bs_getD _ _ _ (by omega)] at hc
   subst ea
   have hst := arz v j
   have hb2 := aCa v j
   have hle : v / 2 ^ j ≤ v := Nat.div_le_self _ _
   generalize v / 2 ^ (j + 1) = u at *
   generalize dgt 1 v j = d at *
   have HA := Lib.hid (aer u u a1 c1 a1 c1 (HL.out u (by omega)) (HL.out u (by omega)) wr hn1 hn1)
   have hl2 := HL.out (u + u) (by omega)
   have HK := Lib.hid hk
   have lj : (j : Int) < (n : Int) := by omega
   have ljn : j < n := by omega
   have hj : j ≤ 100000 := by omega
   have HF := Lib.hid hf
   rw [show ((j + 1 : Nat) : Int) - 1 = (j : Int) by omega]
   clear hn1 hk hf hle
   have hd : d = 1 ∨ d = 0 := by omega
   rcases hd with rfl | rfl
   ·have HS := Lib.hid hst
    clear hst hb2
    go_wp2_with fail
    (with_reducible refine HA.out.mono ?_)
    rintro e w5 ⟨a5,c5,rfl,n5,f5⟩
    have hc5 : Obj.cellAt (off + j) w5.heap[b]? = some (.int .u64 ((1 : Nat) : Int)) := by
     rw [← gq]; rw [← gq] at hc
     exact f5.cell (fun f => f) hc
    clear hc
    generalize hq : lg (u + u) = q at *
    have HQ := Lib.hid hq
    clear hq
    go_wp2_with fail
    have h6 := alz (u + u) a5 c5 _ 1 (by rw [HQ.out]; exact hl2) _ (n5.fr ((Fr.refl F0 w5).alloc (.cells #[.int .u64 ((1 : Nat) : Int)] 23))) (Us.aio w5 1)
    rw [HQ.out] at h6
    rw [show ((1 : Nat) : Int) = 1 from rfl] at h6
    (with_reducible refine h6.mono ?_)
    rintro e w7 ⟨a7,c7,rfl,n7,f7⟩
    rw [← HS.out] at *
    have F7 := (HF.out.trans' f5).trans' (((Fr.refl F0 w5).alloc _).trans' f7)
    generalize hq7 : lg (v / 2 ^ j) = q7 at *
    have HQ7 := Lib.hid hq7
    clear hq7
    go_wp2_with fail
    go_roundw
    case rel => exact ⟨j,by omega,rfl,⟨a7,c7,by rw [HQ7.out],n7⟩,F7⟩
    case measure => simp [intOf]
   ·have HS := Lib.hid hst
    clear hst hb2
    go_wp2_with fail
    (with_reducible refine HA.out.mono ?_)
    rintro e w5 ⟨a5,c5,rfl,n5,f5⟩
    have hc5 : Obj.cellAt (off + j) w5.heap[b]? = some (.int .u64 ((0 : Nat) : Int)) := by
     rw [← gq]; rw [← gq] at hc
     exact f5.cell (fun f => f) hc
    clear hc
    rw [Nat.add_zero] at HS
    rw [← HS.out] at *
    have F7 := HF.out.trans' f5
    generalize hq7 : lg (v / 2 ^ j) = q7 at *
    have HQ7 := Lib.hid hq7
    clear hq7
    go_wp2_with fail
    go_roundw
    case rel => exact ⟨j,by omega,rfl,⟨a5,c5,by rw [HQ7.out],n5⟩,F7⟩
    case measure => simp [intOf]
theorem axc (X y d : Nat) (hy : 0 < y) (hd : d < 2) :
  (y ≤ X % y + X % y + d → (X + X + d) / y = X / y + X / y + 1 ∧ (X + X + d) % y = X % y + X % y + d - y) ∧
  (X % y + X % y + d < y → (X + X + d) / y = X / y + X / y ∧ (X + X + d) % y = X % y + X % y + d) := by
 have h1 := Nat.mod_add_div X y
 have h2 := Nat.mod_lt X hy
 have e : X + X + d = X % y + X % y + d + y * (X / y + X / y) := by rw [Nat.mul_add]; omega
 have h3 : X % y + X % y + d < y + y := by omega
 generalize X % y + X % y + d = t at *
 have e1 : (X + X + d) / y = t / y + (X / y + X / y) := by rw [e,Nat.add_mul_div_left _ _ hy]
 have e2 : (X + X + d) % y = t % y := by rw [e,Nat.add_mul_mod_self_left]
 rw [e1,e2]
 constructor
 ·intro h
  obtain ⟨s,rfl⟩ : ∃ s,t = s + y := ⟨t - y,by omega⟩
  have hs : s < y := by omega
  rw [Nat.add_div_right _ hy,Nat.div_eq_of_lt hs,Nat.add_mod_right,Nat.mod_eq_of_lt hs]; omega
 ·intro h
  rw [Nat.div_eq_of_lt h,Nat.mod_eq_of_lt h]; omega
theorem Us.aD5 {w : World} {g n V : Nat} {t : TypeId} {f : Nat × Nat} (h : w.heap[g]? = some (.cells (ig .u64 1 n V) t f)) (hn : n ≤ 1000000) : Us w (some ⟨g,0,none⟩) n (bs n V) :=
 ⟨by simp,by rw [aai]; omega,by unfold maxLen; omega,(fun e => by cases e),fun j u hj => ⟨g,0,rfl,by
  have hjn : j < n := by have := (List.getElem?_eq_some_iff.1 hj).1; simpa [aai] using this
  rw [Nat.zero_add,gq,h,jg,yt _ _ _ _ _ hjn]
  simpa [bs,hjn,U64] using hj⟩⟩
theorem axr (n : Nat) : madeCells (Value.int .u64 0).cells (n * 1) = ig .u64 1 n 0 := by
 apply Array.toList_inj.1
 rw [show (Value.int .u64 0).cells = #[.int .u64 0] from rfl,toList_madeCells_one,Nat.mul_one]
 unfold ig
 rw [List.toList_toArray]
 apply List.ext_getElem
 ·simp
 ·intro i h1 h2
  simp [dgt]
theorem asy (n : Nat) (z : Int) (hz : z = n) (hn : n ≤ 1000000) (w : World) :
  (Instr.makeSlice 172 (.int .i64 z) (.int .i64 z)).run Tryz.prog w = .ok (.slice (some ⟨w.heap.size,0,none⟩) n n) (w.alloc (.cells (ig .u64 1 n 0) 23)) := by
 subst hz
 obtain ⟨i0,hi,hz0,hz1,hz2⟩ := info_parts Tryz.infoU64
 have := run_make (P := Tryz.prog) w 172 23 i0 (.int .u64 0) Tryz.underlying172 hi hz0 .i64 .i64 (n : Int) (n : Int) (by omega) (Int.le_refl _) (by rw [hz2]; omega) (by omega)
 rw [hz1,Int.toNat_natCast,axr] at this
 exact this
theorem arn (j q : Nat) : 2 ^ (j + 1) * q = 2 ^ j * (q + q) := by rw [Nat.pow_succ,Nat.mul_assoc,Nat.two_mul]
theorem avx (V j q : Nat) (h : V = 2 ^ (j + 1) * q) : ae5 1 V j 1 = 2 ^ j * (q + q + 1) := by
 have e : ae5 1 V j 1 = V % 2 ^ (1 * j) + 2 ^ (1 * j) * (1 + 2 ^ 1 * (V / 2 ^ (1 * (j + 1)))) := rfl
 rw [e,Nat.one_mul,Nat.one_mul,h,Nat.mul_div_cancel_left _ (Nat.two_pow_pos _),Nat.pow_succ,Nat.mul_assoc,Nat.mul_mod_right,Nat.zero_add]
 congr 1
 omega
theorem axe (x y : Nat) (a1 : Option Addr) (c1 : Nat) (a2 : Option Addr) (c2 : Nat) (hy0 : 0 < y) (hlx : lg x ≤ 5000) (hl : ∀ z,z < y + y → lg z ≤ 10000) (w : World) (hx : Ns w a1 c1 x) (hy : Ns w a2 c2 y) :
  Calls Tryz.prog 174 #[.slice a1 (lg x) c1,.slice a2 (lg y) c2] w fun e w' => ∃ a3 c3 a4 c4,e = .returned (.tuple #[.slice a3 (lg (x / y)) c3,.slice a4 (lg (x % y)) c4]) ∧ Ns w' a3 c3 (x / y) ∧ Ns w' a4 c4 (x % y) ∧ Fr F0 w w' := by
 have HL := Lib.hid hl
 have HY := Lib.hid hy
 have HLY := Lib.hid (hl y (by omega))
 have HB := Lib.hid (as7 x a1 c1 (by omega) w hx)
 have hnb : nbits x ≤ 80000 := arf hlx
 have HNB := Lib.hid ((wo x (nbits x)).1 (Nat.le_refl _))
 have HLD := Lib.hid (Nat.le_trans (afm (Nat.lt_of_le_of_lt (Nat.div_le_self x y) (adu x))) hlx)
 clear hx hy hl hlx
 generalize nbits x = n at *
 have hmk := fun w => asy n (n : Int) rfl (by omega) w
 go_enter Tryz.func174,Tryz.ntmps174
 go_wp2_with fail
 (with_reducible refine HB.out.mono ?_)
 rintro e w1 ⟨a5,c5,rfl,hb,f1⟩
 have HBS := Lib.hid hb
 have HF1 := Lib.hid f1
 clear hb HB
 go_wp2_with fail
 clear hmk
 obtain ⟨W2,hW⟩ : ∃ W,W = (w1.alloc (.cells (ig .u64 1 n 0) 23)).alloc (.cells #[] 23) := ⟨_,rfl⟩
 refine bg W2 hW ?_
 have r1 : W2.heap[w1.heap.size]? = some (.cells (ig .u64 1 n 0) 23 (0,0)) := by rw [hW]; exact heap_alloc2_old _ _ _
 have f2 : Fr F0 w1 W2 := by rw [hW]; exact ((Fr.refl F0 w1).alloc _).alloc _
 have n0 : Us W2 (some ⟨w1.heap.size + 1,0,none⟩) 0 [] := by
  rw [hW]
  obtain ⟨a,c,e,ho,_⟩ := Row.nil (w1.alloc (.cells (ig .u64 1 n 0) 23)) 0
  cases e
  have := ho.us.2
  rwa [World.size_alloc] at this
 clear hW
 generalize w1.heap.size + 1 = g' at *
 generalize hgg : w1.heap.size = g at *
 have HGS := Lib.hid hgg
 clear hgg f1
 go_loopw [8,9] (fun ov iv wr => ∃ k : Nat,k ≤ n ∧ iv = .int .i64 ((k : Int) - 1) ∧ (∃ a' c',ov = .slice a' (lg (x / 2 ^ k % y)) c' ∧ Ns wr a' c' (x / 2 ^ k % y)) ∧ wr.heap[g]? = some (.cells (ig .u64 1 n (2 ^ k * (x / 2 ^ k / y))) 23 (0,0)) ∧ Fr F0 w1 wr) (fun _ iv _ => (intOf iv + 1).toNat)
 case atStart =>
  refine ⟨n,Nat.le_refl _,rfl,⟨_,_,by rw [Nat.div_eq_of_lt HNB.out,Nat.zero_mod,ao0],?_⟩,?_,f2⟩
  ·rw [Nat.div_eq_of_lt HNB.out,Nat.zero_mod]; exact n0
  ·rw [Nat.div_eq_of_lt HNB.out,Nat.zero_div,Nat.mul_zero]; exact r1
 case round =>
  clear r1 n0 f2
  obtain ⟨k,hk,rfl,⟨a3,c3,rfl,hn3⟩,r1,hf⟩ := hrel
  cases k with
  |zero =>
   rw [Nat.pow_zero,Nat.div_one,Nat.one_mul] at r1
   rw [Nat.pow_zero,Nat.div_one] at hn3 ⊢
   have HQ := Lib.hid (ah7 (x / y) n (some ⟨g,0,none⟩) n (Nat.lt_of_le_of_lt (Nat.div_le_self _ _) HNB.out) (by omega) (Nat.le_trans HLD.out (by omega)) wr (Us.aD5 r1 (by omega)))
   go_wp2_with fail
   (with_reducible refine HQ.out.mono ?_)
   rintro e w9 ⟨a9,c9,rfl,n9,f9⟩
   have n4 := hn3.fr f9
   go_wp2_with fail
   go_ret2
   exact ⟨a9,c9,a3,c3,rfl,n9,n4,HF1.out.trans' (hf.trans' f9)⟩
  |succ j =>
   obtain ⟨b,off,ea,hc⟩ := (HBS.out.fr hf).get j (by rw [aai]; omega)
   rw [bs_getD _ _ _ (by omega)] at hc
   subst ea
   have hst := arz x j
   have hb2 := aCa x j
   generalize dgt 1 x j = d at *
   have hds := axc (x / 2 ^ (j + 1)) y d hy0 hb2
   rw [← hst] at hds
   have hRy := Nat.mod_lt (x / 2 ^ (j + 1)) hy0
   have HV := Lib.hid (rfl : 2 ^ (j + 1) * (x / 2 ^ (j + 1) / y) = 2 ^ (j + 1) * (x / 2 ^ (j + 1) / y))
   generalize x / 2 ^ (j + 1) % y = R at *
   generalize hV : 2 ^ (j + 1) * (x / 2 ^ (j + 1) / y) = V at *
   replace HV := Lib.hid hV.symm
   clear hV
   generalize x / 2 ^ (j + 1) / y = q at *
   have HA := Lib.hid (aer R R a3 c3 a3 c3 (HL.out R (by omega)) (HL.out R (by omega)) wr hn3 hn3)
   have hl2 := HL.out (R + R) (by omega)
   have lj : (j : Int) < (n : Int) := by omega
   have ljn : j < n := by omega
   have hj : j ≤ 80000 := by omega
   have HF := Lib.hid hf
   have HG := Lib.hid hds
   rw [show ((j + 1 : Nat) : Int) - 1 = (j : Int) by omega]
   clear hn3 hf hds hk
   have hd : d = 1 ∨ d = 0 := by omega
   rcases hd with rfl | rfl
   ·clear hb2
    have HST := Lib.hid hst
    clear hst
    go_wp2_with fail
    (with_reducible refine HA.out.mono ?_)
    rintro e w5 ⟨a6,c6,rfl,n6,f6⟩
    have hc5 : Obj.cellAt (off + j) w5.heap[b]? = some (.int .u64 ((1 : Nat) : Int)) := by
     rw [← gq]; rw [← gq] at hc
     exact f6.cell (fun f => f) hc
    clear hc
    generalize hq : lg (R + R) = q6 at *
    have HQ := Lib.hid hq
    clear hq
    go_wp2_with fail
    have h6 := alz (R + R) a6 c6 _ 1 (by rw [HQ.out]; exact hl2) _ (n6.fr ((Fr.refl F0 w5).alloc (.cells #[.int .u64 ((1 : Nat) : Int)] 23))) (Us.aio w5 1)
    rw [HQ.out] at h6
    rw [show ((1 : Nat) : Int) = 1 from rfl] at h6
    (with_reducible refine h6.mono ?_)
    rintro e w7 ⟨a7,c7,rfl,n7,f7⟩
    have FR := f6.trans' (((Fr.refl F0 w5).alloc _).trans' f7)
    have F7 := HF.out.trans' FR
    clear f6 f7 n6 h6 hl2
    generalize ht : R + R + 1 = t at *
    have htl : t < y + y := by omega
    have hcz : (0 ≤ aea t y) = (y ≤ t) := by unfold aea; apply propext; split <;> (try split) <;> omega
    have HC := Lib.hid (acz t y a7 c7 a2 c2 (HL.out t (by omega)) HLY.out w7 n7 (HY.out.fr (HF1.out.trans' F7)))
    have HCZ := Lib.hid hcz
    have HS := fun h => Lib.hid (aly t y a7 c7 a2 c2 (HL.out t (by omega)) h w7 n7 (HY.out.fr (HF1.out.trans' F7)))
    have hr7 := dn FR r1
    have HF7 := Lib.hid F7
    have HN7 := Lib.hid n7
    clear F7 hcz FR r1 n7
    generalize hlt : lg t = lt at *
    have HT := Lib.hid hlt
    clear hlt
    by_cases hge : y ≤ t
    ·have lz : (0 : Int) ≤ aea t y := by rw [HCZ.out]; exact hge
     have HS := HS hge
     obtain ⟨g1,g2⟩ := HG.out.1 hge
     generalize aea t y = z at *
     have HGE := Lib.hid (And.intro g1 g2)
     clear g1 g2 hge HCZ
     go_wp2_with fail
     (with_reducible refine HC.out.mono ?_)
     rintro e w8 ⟨rfl,hw⟩
     have hw := hw.symm
     subst hw
     go_wp2_with fail
     (with_reducible refine HS.out.mono ?_)
     rintro e w9 ⟨a9,c9,rfl,n9,hnew,f9⟩
     have hgl := (Array.getElem?_eq_some_iff.1 hr7).1
     have n9' := Sl.fr n9 ((Fr.refl (fun k => k = g) w9).setCell (p := ⟨g,j,none⟩) (fun _ => rfl) (.int .u64 1)) (fun b hb e => by have := hnew b hb; omega)
     have hr9 := dn f9 hr7
     have F9 := HF7.out.trans' f9
     generalize hl9 : lg (t - y) = l9 at *
     have HT9 := Lib.hid hl9
     have HN9 := Lib.hid n9'
     clear hl9 hr7 hgl hnew n9 n9'
     go_wp2_with fail
     go_roundw
     case rel =>
      refine ⟨j,by omega,rfl,⟨a9,c9,by rw [HGE.out.2,HT9.out],by rw [HGE.out.2]; exact HN9.out⟩,?_,?_⟩
      ·have := aei .u64 1 n V j 1 (by omega)
       rw [show ((1 : Nat) : Int) = 1 from rfl] at this
       rw [cu,hr9,jr,this,avx V j _ HV.out,HGE.out.1]
      ·exact F9.setCell (p := ⟨g,j,none⟩) (fun h => by have h' : g < w1.heap.size := h; have := HGS.out; omega) _
     case measure => simp [intOf]
    ·have lz : ¬ (0 : Int) ≤ aea t y := by rw [HCZ.out]; exact hge
     obtain ⟨g1,g2⟩ := HG.out.2 (by omega)
     generalize aea t y = z at *
     have HGE := Lib.hid (And.intro g1 g2)
     clear g1 g2 hge HCZ HS
     go_wp2_with fail
     (with_reducible refine HC.out.mono ?_)
     rintro e w8 ⟨rfl,hw⟩
     have hw := hw.symm
     subst hw
     go_wp2_with fail
     go_roundw
     case rel =>
      refine ⟨j,by omega,rfl,⟨a7,c7,by rw [HGE.out.2,HT.out],by rw [HGE.out.2]; exact HN7.out⟩,?_,HF7.out⟩
      rw [HGE.out.1,hr7,HV.out,arn]
     case measure => simp [intOf]
   ·clear hb2
    have HST := Lib.hid hst
    clear hst
    simp only [Nat.add_zero] at HG HST
    go_wp2_with fail
    (with_reducible refine HA.out.mono ?_)
    rintro e w7 ⟨a7,c7,rfl,n7,FR⟩
    have hc5 : Obj.cellAt (off + j) w7.heap[b]? = some (.int .u64 ((0 : Nat) : Int)) := by
     rw [← gq]; rw [← gq] at hc
     exact FR.cell (fun f => f) hc
    clear hc
    have F7 := HF.out.trans' FR
    generalize ht : R + R = t at *
    have htl : t < y + y := by omega
    have hcz : (0 ≤ aea t y) = (y ≤ t) := by unfold aea; apply propext; split <;> (try split) <;> omega
    have HC := Lib.hid (acz t y a7 c7 a2 c2 (HL.out t (by omega)) HLY.out w7 n7 (HY.out.fr (HF1.out.trans' F7)))
    have HCZ := Lib.hid hcz
    have HS := fun h => Lib.hid (aly t y a7 c7 a2 c2 (HL.out t (by omega)) h w7 n7 (HY.out.fr (HF1.out.trans' F7)))
    have hr7 := dn FR r1
    have HF7 := Lib.hid F7
    have HN7 := Lib.hid n7
    clear F7 hcz FR r1 n7
    generalize hlt : lg t = lt at *
    have HT := Lib.hid hlt
    clear hlt
    by_cases hge : y ≤ t
    ·have lz : (0 : Int) ≤ aea t y := by rw [HCZ.out]; exact hge
     have HS := HS hge
     obtain ⟨g1,g2⟩ := HG.out.1 hge
     generalize aea t y = z at *
     have HGE := Lib.hid (And.intro g1 g2)
     clear g1 g2 hge HCZ
     go_wp2_with fail
     (with_reducible refine HC.out.mono ?_)
     rintro e w8 ⟨rfl,hw⟩
     have hw := hw.symm
     subst hw
     go_wp2_with fail
     (with_reducible refine HS.out.mono ?_)
     rintro e w9 ⟨a9,c9,rfl,n9,hnew,f9⟩
     have hgl := (Array.getElem?_eq_some_iff.1 hr7).1
     have n9' := Sl.fr n9 ((Fr.refl (fun k => k = g) w9).setCell (p := ⟨g,j,none⟩) (fun _ => rfl) (.int .u64 1)) (fun b hb e => by have := hnew b hb; omega)
     have hr9 := dn f9 hr7
     have F9 := HF7.out.trans' f9
     generalize hl9 : lg (t - y) = l9 at *
     have HT9 := Lib.hid hl9
     have HN9 := Lib.hid n9'
     clear hl9 hr7 hgl hnew n9 n9'
     go_wp2_with fail
     go_roundw
     case rel =>
      refine ⟨j,by omega,rfl,⟨a9,c9,by rw [HGE.out.2,HT9.out],by rw [HGE.out.2]; exact HN9.out⟩,?_,?_⟩
      ·have := aei .u64 1 n V j 1 (by omega)
       rw [show ((1 : Nat) : Int) = 1 from rfl] at this
       rw [cu,hr9,jr,this,avx V j _ HV.out,HGE.out.1]
      ·exact F9.setCell (p := ⟨g,j,none⟩) (fun h => by have h' : g < w1.heap.size := h; have := HGS.out; omega) _
     case measure => simp [intOf]
    ·have lz : ¬ (0 : Int) ≤ aea t y := by rw [HCZ.out]; exact hge
     obtain ⟨g1,g2⟩ := HG.out.2 (by omega)
     generalize aea t y = z at *
     have HGE := Lib.hid (And.intro g1 g2)
     clear g1 g2 hge HCZ HS
     go_wp2_with fail
     (with_reducible refine HC.out.mono ?_)
     rintro e w8 ⟨rfl,hw⟩
     have hw := hw.symm
     subst hw
     go_wp2_with fail
     go_roundw
     case rel =>
      refine ⟨j,by omega,rfl,⟨a7,c7,by rw [HGE.out.2,HT.out],by rw [HGE.out.2]; exact HN7.out⟩,?_,HF7.out⟩
      rw [HGE.out.1,hr7,HV.out,arn]
     case measure => simp [intOf]
theorem aBi (x : Nat) (h : x < 18446744073709551616) (w : World) : Calls Tryz.prog 150 #[.int .u64 (x : Int)] w fun e w' => e = .returned (.int .i64 (Lib.bitLen x : Nat)) ∧ w' = w := by
 have H := Lib.hid (fun w => ag7 x h w)
 clear h
 go_enter Tryz.func150,Tryz.ntmps150
 go_wp2_with fail
 (with_reducible refine (H.out _).mono ?_); rintro e w1 ⟨rfl,hw⟩; subst hw
 go_wp2
 go_ret
 exact ⟨rfl,rfl⟩
end Go.Proofs.YtohckefafbhooaaGreat
