import Derived.Test.YtfjcplfhkahamaaGreatDoorQ2
import Derived.Test.YtfjcplfhkahamaaGreatDoorQ1
import Derived.Deep.RegionHeld3
import Derived.OrdersHeld
import Derived.Laws.Rows
import Derived.Below
import Derived.Laws.Tables
import Derived.OwnWalk
import Derived.Deep.CutBlock
import Derived.Deep.DeepCutAuto
import Derived.Laws.CopyOwn
set_option maxRecDepth 100000
set_option maxHeartbeats 64000000
namespace Go.Proofs.YtfjcplfhkahamaaGreatDoor
set_option linter.unusedVariables false
set_option linter.unusedSimpArgs false
open Go.RowKit
abbrev Wd := BitVec 32
def wi (x : Wd) : Int := (x.toNat : Int)
def w8 (b : UInt8) : Wd := b.toBitVec.setWidth 32
def lo8 (x : Wd) : UInt8 := UInt8.ofBitVec (x.setWidth 8)
@[reducible] def W32 (x : Wd) : Value := .int .u32 (wi x)
theorem wd_wrap (n : Nat) (h : n < 4294967296) : IntKind.u32.wrap (n : Int) = (n : Int) := IntWalk.u32_in _ (by omega)
theorem wd_ofInt (x : Wd) : BitVec.ofInt 32 (wi x) = x := by
 unfold wi
 apply BitVec.eq_of_toNat_eq
 have := x.isLt
 simp
section
variable (t : TypeId) (x y : Wd)
theorem wd_and : bits .and .u32 (wi x) (wi y) = wi (x &&& y) := by
 show IntKind.u32.wrap (BitVec.toNat (BitVec.ofInt 32 _ &&& BitVec.ofInt 32 _) : Int) = _
 rw [wd_ofInt,wd_ofInt]; exact wd_wrap _ (BitVec.isLt _)
theorem wd_or : bits .or .u32 (wi x) (wi y) = wi (x ||| y) := by
 show IntKind.u32.wrap (BitVec.toNat (BitVec.ofInt 32 _ ||| BitVec.ofInt 32 _) : Int) = _
 rw [wd_ofInt,wd_ofInt]; exact wd_wrap _ (BitVec.isLt _)
theorem wd_xor : bits .xor .u32 (wi x) (wi y) = wi (x ^^^ y) := by
 show IntKind.u32.wrap (BitVec.toNat (BitVec.ofInt 32 _ ^^^ BitVec.ofInt 32 _) : Int) = _
 rw [wd_ofInt,wd_ofInt]; exact wd_wrap _ (BitVec.isLt _)
theorem wd_not : bits .xor .u32 4294967295 (wi x) = wi (~~~ x) := by
 show IntKind.u32.wrap (BitVec.toNat (BitVec.ofInt 32 _ ^^^ BitVec.ofInt 32 _) : Int) = _
 rw [wd_ofInt,show BitVec.ofInt 32 4294967295 = BitVec.allOnes 32 from by decide,BitVec.allOnes_xor]; exact wd_wrap _ (BitVec.isLt _)
theorem wdv_and : binOp .and t (.int .u32 (wi x)) (.int .u32 (wi y)) = pure (.int .u32 (wi (x &&& y))) := by
 rw [binOp_and,intBits_and,wd_and]
theorem wdv_or : binOp .or t (.int .u32 (wi x)) (.int .u32 (wi y)) = pure (.int .u32 (wi (x ||| y))) := by
 rw [binOp_or,intBits_or,wd_or]
theorem wdv_xor : binOp .xor t (.int .u32 (wi x)) (.int .u32 (wi y)) = pure (.int .u32 (wi (x ^^^ y))) := by
 rw [binOp_xor,intBits_xor,wd_xor]
theorem wdv_not : Op.unary .xor (.int .u32 (wi x)) = pure (.int .u32 (wi (~~~ x))) := by
 rw [unary_xor,intBits_xor,← wd_not]; rfl
theorem wdv_add : binOp .add t (.int .u32 (wi x)) (.int .u32 (wi y)) = pure (.int .u32 (wi (x + y))) := by
 rw [binOp_add]
 simp only [Op.intArith]
 unfold wi
 rw [IntKind.wrap_u32,BitVec.toNat_add]
 rw [Int.natCast_emod,Int.natCast_add]
 rfl
theorem wdv_shl (yk : IntKind) (n : Int) (h0 : 0 ≤ n) (h1 : n < 32) : binOp .shl t (.int .u32 (wi x)) (.int yk n) = pure (.int .u32 (wi (x <<< n.toNat))) := by
 rw [binOp_shl]
 have h2 : ¬ n < 0 := by omega
 have h3 : min n.toNat 32 = n.toNat := by omega
 simp only [Op.shift,h2,if_false,IntKind.bits,h3]
 unfold wi
 rw [IntKind.wrap_u32,BitVec.toNat_shiftLeft,Nat.shiftLeft_eq,Int.natCast_emod,Int.natCast_mul,Int.natCast_pow]
 rfl
theorem wdv_shr (yk : IntKind) (n : Int) (h0 : 0 ≤ n) (h1 : n < 32) : binOp .shr t (.int .u32 (wi x)) (.int yk n) = pure (.int .u32 (wi (x >>> n.toNat))) := by
 rw [binOp_shr]
 have h2 : ¬ n < 0 := by omega
 have h3 : min n.toNat 32 = n.toNat := by omega
 simp only [Op.shift,h2,if_false,IntKind.bits,h3]
 unfold wi
 rw [BitVec.toNat_ushiftRight,Nat.shiftRight_eq_div_pow,Int.fdiv_eq_ediv_of_nonneg _ (by exact Int.le_of_lt (Int.pow_pos (by omega)))]
 norm_cast
end
section
variable {P : Program} (w : World)
theorem wdv_of8 (src dst : TypeId) (b : UInt8) (hs : (P.underlying src).isSome = true) (hd : P.underlying dst = some (.int .u32)) :
  (convert src dst (.int .u8 (b.toNat : Int))).run P w = .ok (.int .u32 (wi (w8 b))) w := by
 obtain ⟨d,hd'⟩ := Option.isSome_iff_exists.mp hs
 have h := b.toNat_lt
 have e : wi (w8 b) = (b.toNat : Int) := by
  show (((b.toBitVec.setWidth 32 : Wd)).toNat : Int) = _
  rw [BitVec.toNat_setWidth]
  congr 1
  exact Nat.mod_eq_of_lt (by show b.toNat < 4294967296; omega)
 simp only [convert,Sem.run_bind,run_underlying hd',run_underlying hd,Result.andThen_ok,Conv.intToInt,Sem.run_pure,e]
 rw [wd_wrap _ (by omega)]
theorem wdv_to8 (src dst : TypeId) (x : Wd) (hs : (P.underlying src).isSome = true) (hd : P.underlying dst = some (.int .u8)) :
  (convert src dst (.int .u32 (wi x))).run P w = .ok (.int .u8 ((lo8 x).toNat : Int)) w := by
 obtain ⟨d,hd'⟩ := Option.isSome_iff_exists.mp hs
 have e : ((lo8 x).toNat : Int) = wi x % 256 := by
  show (((x.setWidth 8).toNat : Nat) : Int) = _
  unfold wi
  rw [BitVec.toNat_setWidth,Int.natCast_emod]
  rfl
 simp only [convert,Sem.run_bind,run_underlying hd',run_underlying hd,Result.andThen_ok,Conv.intToInt,Sem.run_pure,e]
 rw [IntKind.wrap_u8]
end
attribute [local go_sem high] wdv_and wdv_or wdv_xor wdv_not wdv_add wdv_shl wdv_shr
def rotr (x : Wd) (n : Nat) : Wd := x >>> n ||| x <<< (32 - n)
theorem rot_amount : ∀ i : Nat,i < 32 → 1 ≤ i → bits .and .u64 (IntKind.u64.wrap (-(i : Int))) 31 = 32 - i := by decide +kernel
theorem RotL32_right (x : Wd) (i : Nat) (w : World) (h0 : 1 ≤ i) (h1 : i < 32) :
  Calls Tryz.prog 150 #[.int .u32 (wi x),.int .i64 (-(i : Int))] w fun e w' => e = .returned (.int .u32 (wi (rotr x i))) ∧ w' = w := by
 obtain ⟨j,hj⟩ : ∃ j,j = 32 - i := ⟨_,rfl⟩
 have HJ := Lib.hid hj
 have hb : bits .and .u64 (IntKind.u64.wrap (-(i : Int))) 31 = (j : Int) := by rw [rot_amount i h1 h0]; omega
 have f2 : (j : Int) < 32 := by omega
 have f4 : (i : Int) < 32 := by omega
 have f3 : IntKind.u64.wrap (32 - (j : Int)) = (i : Int) := by rw [IntWalk.u64_in _ (by omega)]; omega
 clear hj
 go_enter Tryz.func150,Tryz.ntmps150
 go_wp2
 go_ret
 refine ⟨?_,rfl⟩
 show Ending.returned (.int .u32 (wi _)) = _
 rw [BitVec.or_comm,HJ.out]
 rfl
theorem turned_any (x : Wd) (i j k : Nat) (w : World) (hi : 1 ≤ i ∧ i < 32) (hj : 1 ≤ j ∧ j < 32) (hk : 1 ≤ k ∧ k < 32) :
  Calls Tryz.prog 133 #[.int .u32 (wi x),.int .i64 (i : Int),.int .i64 (j : Int),.int .i64 (k : Int)] w fun e w' => e = .returned (.int .u32 (wi (rotr x i ^^^ rotr x j ^^^ rotr x k))) ∧ w' = w := by
 have f1 : IntKind.i64.wrap (-(i : Int)) = -(i : Int) := IntWalk.i64_in _ (by omega)
 have f2 : IntKind.i64.wrap (-(j : Int)) = -(j : Int) := IntWalk.i64_in _ (by omega)
 have f3 : IntKind.i64.wrap (-(k : Int)) = -(k : Int) := IntWalk.i64_in _ (by omega)
 go_enter Tryz.func133,Tryz.ntmps133
 go_wp2_with fail
 refine (RotL32_right x i _ hi.1 hi.2).mono ?_
 rintro e w1 ⟨rfl,rfl⟩
 go_wp2_with fail
 refine (RotL32_right x j _ hj.1 hj.2).mono ?_
 rintro e w1 ⟨rfl,rfl⟩
 go_wp2_with fail
 refine (RotL32_right x k _ hk.1 hk.2).mono ?_
 rintro e w1 ⟨rfl,rfl⟩
 go_wp2
 go_ret
 exact ⟨rfl,rfl⟩
theorem r2turn_any (x : Wd) (i : Nat) (w : World) (h0 : 1 ≤ i) (h1 : i < 32) :
  Calls Tryz.prog 130 #[.int .u32 (wi x),.int .i64 (i : Int)] w fun e w' => e = .returned (.int .u32 (wi (rotr x i))) ∧ w' = w.drew := by
 obtain ⟨j,hj⟩ : ∃ j,j = 32 - i := ⟨_,rfl⟩
 have HJ := Lib.hid hj
 have f2 : (j : Int) < 32 := by omega
 have f4 : (i : Int) < 32 := by omega
 have f3 : IntKind.i64.wrap (32 - (i : Int)) = (j : Int) := by rw [IntWalk.i64_in _ (by omega)]; omega
 clear hj
 go_enter Tryz.func130,Tryz.ntmps130
 go_wp2_with fail
 refine rbegin (S := (fun w' => w' = w.drew)) ?_ fun hHeld => ?_
 ·((try dsimp only) <;> (rfl))
 refine rtake 0 ?_
 refine rtake 1 ?_
 refine rtake 2 ?_
 refine rtake 3 ?_
 refine rtake 4 ?_
 refine rtake 5 ?_
 refine rtake 6 ?_
 refine rtake 7 ?_
 refine rtake 8 ?_
 refine rdone ?_
 go_wp2
 go_ret
 refine ⟨?_,rfl⟩
 rw [rotr,← HJ.out]
 rfl
end Go.Proofs.YtfjcplfhkahamaaGreatDoor
namespace Go.Proofs.YtfjcplfhkahamaaGreatDoor
set_option linter.unusedVariables false
set_option linter.unusedSimpArgs false
def cubesN : List Nat := [1116352408,1899447441,3049323471,3921009573,961987163,1508970993,2453635748,2870763221,3624381080,310598401,607225278,1426881987,1925078388,2162078206,2614888103,3248222580,3835390401,4022224774,264347078,604807628,770255983,1249150122,1555081692,1996064986,2554220882,2821834349,2952996808,3210313671,3336571891,3584528711,113926993,338241895,666307205,773529912,1294757372,1396182291,1695183700,1986661051,2177026350,2456956037,2730485921,2820302411,3259730800,3345764771,3516065817,3600352804,4094571909,275423344,430227734,506948616,659060556,883997877,958139571,1322822218,1537002063,1747873779,1955562222,2024104815,2227730452,2361852424,2428436474,2756734187,3204031479,3329325298]
def squaresN : List Nat := [1779033703,3144134277,1013904242,2773480762,1359893119,2600822924,528734635,1541459225]
def cubesL : List Wd := cubesN.map (BitVec.ofNat 32)
def H0 : List Wd := squaresN.map (BitVec.ofNat 32)
theorem cubesL_length : cubesL.length = 64 := rfl
theorem H0_length : H0.length = 8 := rfl
def wordAt (b : List UInt8) (i : Nat) : Wd := w8 (b.getD (4 * i) 0) <<< 24 ||| w8 (b.getD (4 * i + 1) 0) <<< 16 ||| w8 (b.getD (4 * i + 2) 0) <<< 8 ||| w8 (b.getD (4 * i + 3) 0)
def sig0 (x : Wd) : Wd := rotr x 7 ^^^ rotr x 18 ^^^ x >>> 3
def sig1 (x : Wd) : Wd := rotr x 17 ^^^ rotr x 19 ^^^ x >>> 10
def nextW (s : List Wd) (t : Nat) : Wd := s.getD (t - 16) 0 + sig0 (s.getD (t - 15) 0) + s.getD (t - 7) 0 + sig1 (s.getD (t - 2) 0)
def sch (b : List UInt8) : Nat → List Wd
 |0 => []
 |t + 1 => sch b t ++ [if t < 16 then wordAt b t else nextW (sch b t) t]
theorem sch_length (b : List UInt8) : ∀ t,(sch b t).length = t
 |0 => rfl
 |t + 1 => by simp [sch,sch_length b t]
theorem sch_add (b : List UInt8) (t : Nat) : ∀ u,∃ r,sch b (t + u) = sch b t ++ r
 |0 => ⟨[],by simp⟩
 |u + 1 => by
  obtain ⟨r,h⟩ := sch_add b t u
  refine ⟨r ++ [if t + u < 16 then wordAt b (t + u) else nextW (sch b (t + u)) (t + u)],?_⟩
  rw [← Nat.add_assoc,sch,h,List.append_assoc]
theorem sch_get (b : List UInt8) (t n i : Nat) (h : i < t) (h' : t ≤ n) : (sch b n).getD i 0 = (sch b t).getD i 0 := by
 obtain ⟨u,rfl⟩ : ∃ u,n = t + u := ⟨n - t,by omega⟩
 obtain ⟨r,e⟩ := sch_add b t u
 rw [e,List.getD_eq_getElem?_getD,List.getD_eq_getElem?_getD,List.getElem?_append_left (by rw [sch_length]; exact h)]
def stp (k w : Wd) : List Wd → List Wd
 |[a,b,c,d,e,f,g,h] =>
  [h + (rotr e 6 ^^^ rotr e 11 ^^^ rotr e 25) + (e &&& f ^^^ ~~~ e &&& g) + k + w + ((rotr a 2 ^^^ rotr a 13 ^^^ rotr a 22) + (a &&& b ^^^ a &&& c ^^^ b &&& c)),a,b,c,
   d + (h + (rotr e 6 ^^^ rotr e 11 ^^^ rotr e 25) + (e &&& f ^^^ ~~~ e &&& g) + k + w),e,f,g]
 |l => l
theorem stp_length (k w : Wd) (l : List Wd) : (stp k w l).length = l.length := by
 unfold stp
 split <;> rfl
def rnds (b : List UInt8) (s : List Wd) : Nat → List Wd
 |0 => s
 |t + 1 => stp (cubesL.getD t 0) ((sch b 64).getD t 0) (rnds b s t)
theorem rnds_length (b : List UInt8) (s : List Wd) : ∀ t,(rnds b s t).length = s.length
 |0 => rfl
 |t + 1 => by rw [rnds,stp_length,rnds_length b s t]
def compress (b : List UInt8) (s : List Wd) : List Wd := List.zipWith (· + ·) s (rnds b s 64)
theorem compress_length (b : List UInt8) (s : List Wd) : (compress b s).length = s.length := by simp [compress,rnds_length]
def blk (m : List UInt8) (n : Nat) : List UInt8 := (m.drop (64 * n)).take 64
def runB (m : List UInt8) (s : List Wd) : Nat → List Wd
 |0 => s
 |n + 1 => compress (blk m n) (runB m s n)
theorem runB_length (m : List UInt8) (s : List Wd) : ∀ n,(runB m s n).length = s.length
 |0 => rfl
 |n + 1 => by rw [runB,compress_length,runB_length m s n]
theorem eight {l : List Wd} (h : l.length = 8) : ∃ a b c d e f g i,l = [a,b,c,d,e,f,g,i] := by
 match l,h with
 |[a,b,c,d,e,f,g,i],_ => exact ⟨a,b,c,d,e,f,g,i,rfl⟩
theorem runB_left (A B : List UInt8) (s : List Wd) : ∀ p,64 * p ≤ A.length → runB (A ++ B) s p = runB A s p
 |0,_ => rfl
 |p + 1,h => by
  rw [runB,runB,runB_left A B s p (by omega)]
  congr 1
  simp only [blk]
  rw [List.drop_append_of_le_length (by omega),List.take_append_of_le_length (by simp; omega)]
theorem runB_append (A B : List UInt8) (s : List Wd) (p : Nat) (hA : A.length = 64 * p) : ∀ q,runB (A ++ B) s (p + q) = runB B (runB A s p) q
 |0 => by rw [Nat.add_zero,runB_left A B s p (by omega)]; rfl
 |q + 1 => by
  rw [← Nat.add_assoc,runB,runB_append A B s p hA q,runB]
  congr 1
  simp only [blk]
  rw [List.drop_append,List.drop_eq_nil_of_le (by omega),hA,List.nil_append]
  congr 2
  omega
def be8 (x : Nat) : List UInt8 := (List.range 8).map fun i => UInt8.ofNat (x / 2 ^ (56 - 8 * i))
theorem be8_length (x : Nat) : (be8 x).length = 8 := by simp [be8]
def padZ (n : Nat) : Nat := (119 - n % 64) % 64
def pad (bs : List UInt8) : List UInt8 := bs ++ [128] ++ List.replicate (padZ bs.length) 0 ++ be8 (8 * bs.length)
theorem pad_length (bs : List UInt8) : (pad bs).length = bs.length + 9 + padZ bs.length := by simp [pad,be8_length]; omega
def fsize (r : Nat) : Nat := if 56 ≤ r then 128 else 64
def fil (r : List UInt8) (n : Nat) : List UInt8 := r ++ [128] ++ List.replicate (fsize r.length - 9 - r.length) 0 ++ be8 (8 * n)
theorem fil_length (r : List UInt8) (n : Nat) (h : r.length < 64) : (fil r n).length = fsize r.length := by
 simp [fil,be8_length,fsize]
 split <;> omega
theorem pad_cut (bs : List UInt8) : pad bs = bs.take (64 * (bs.length / 64)) ++ fil (bs.drop (64 * (bs.length / 64))) bs.length := by
 have h : padZ bs.length = fsize (bs.drop (64 * (bs.length / 64))).length - 9 - (bs.drop (64 * (bs.length / 64))).length := by
  simp only [padZ,fsize,List.length_drop]
  split <;> omega
 rw [pad,fil,h]
 simp only [List.append_assoc]
 rw [← List.append_assoc (bs.take _),List.take_append_drop]
def bytesOf (s : List Wd) : List UInt8 := s.flatMap fun x : Wd => [lo8 (x >>> 24),lo8 (x >>> 16),lo8 (x >>> 8),lo8 x]
theorem bytesOf_length (s : List Wd) : (bytesOf s).length = 4 * s.length := by
 induction s with
 |nil => rfl
 |cons x s ih => simp only [bytesOf,List.flatMap_cons,List.length_append,List.length_cons,List.length_nil] at *; omega
def sha (bs : List UInt8) : List UInt8 := bytesOf (runB (pad bs) H0 ((pad bs).length / 64))
theorem sha_length (bs : List UInt8) : (sha bs).length = 32 := by rw [sha,bytesOf_length,runB_length,H0_length]
theorem sha_cut (bs : List UInt8) : sha bs = bytesOf (runB (fil (bs.drop (64 * (bs.length / 64))) bs.length) (runB (bs.take (64 * (bs.length / 64))) H0 (bs.length / 64)) (fsize (bs.length % 64) / 64)) := by
 rw [sha,← runB_append _ _ _ _ (by simp; omega),← pad_cut,pad_length]
 congr 2
 simp only [padZ,fsize]
 split <;> omega
def sha2 (bs : List UInt8) : List UInt8 := sha (sha bs)
end Go.Proofs.YtfjcplfhkahamaaGreatDoor
namespace Go.Proofs.YtfjcplfhkahamaaGreatDoor
set_option linter.unusedVariables false
set_option linter.unusedSimpArgs false
def hh (a b : List UInt8) : List UInt8 := sha2 (a ++ b)
def up : List (List UInt8) → List (List UInt8)
 |[] => []
 |[a] => [hh a a]
 |a :: b :: r => hh a b :: up r
theorem up_length : ∀ l,(up l).length = (l.length + 1) / 2
 |[] => rfl
 |[_] => by simp [up]
 |a :: b :: r => by
  simp only [up,List.length_cons,up_length r]
  omega
def rows (n : Nat) : Nat := if h : n ≤ 1 then 0 else rows ((n + 1) / 2) + 1
termination_by n
def alone (i n : Nat) : Bool := decide (n % 2 = 1 ∧ i + 1 = n)
def oth (i n : Nat) : Nat := if alone i n = true then i else if i % 2 = 1 then i - 1 else i + 1
def wayM (l : List (List UInt8)) (i : Nat) : List (List UInt8) := if h : l.length ≤ 1 then [] else l.getD (oth i l.length) [] :: wayM (up l) (i / 2)
termination_by l.length
decreasing_by rw [up_length]; omega
def stpM (i : Nat) (h x : List UInt8) : List UInt8 := if i % 2 = 1 then hh x h else hh h x
def climbM : List (List UInt8) → List UInt8 → Nat → Nat → Option (List UInt8)
 |[],h,_,n => if n = 1 then some h else none
 |x :: r,h,i,n => if n = 1 then none else if (decide (x = h) != alone i n) = true then none else climbM r (stpM i h x) (i / 2) ((n + 1) / 2)
def all32 (l : List (List UInt8)) : Prop := ∀ h ∈ l,h.length = 32
theorem all32.get {l : List (List UInt8)} (h : all32 l) {k : Nat} (hk : k < l.length) : (l.getD k []).length = 32 := by
 rw [List.getD_eq_getElem?_getD,List.getElem?_eq_getElem hk]
 exact h _ (List.getElem_mem hk)
end Go.Proofs.YtfjcplfhkahamaaGreatDoor
namespace Go.Proofs.YtfjcplfhkahamaaGreatDoor
set_option linter.unusedVariables false
set_option linter.unusedSimpArgs false
def dig : Nat → Nat → List Nat
 |0,_ => []
 |f + 1,c => if c = 0 then [] else c % 65536 :: dig f (c / 65536)
def mulL : List Nat → Nat → Nat → List Nat
 |[],x,c => dig 8 c
 |d :: l,x,c => (c + d * x) % 65536 :: mulL l x ((c + d * x) / 65536)
def powL (x : Nat) : Nat → List Nat
 |0 => [1]
 |n + 1 => mulL (powL x n) x 0
theorem dig_fuel : ∀ f c,c < 65536 ^ f → dig (f + 1) c = dig f c
 |0,c,h => by
  have : c = 0 := by simpa using h
  subst this
  rfl
 |f + 1,c,h => by
  show (if c = 0 then [] else c % 65536 :: dig (f + 1) (c / 65536)) = (if c = 0 then [] else c % 65536 :: dig f (c / 65536))
  split
  ·rfl
  ·rw [dig_fuel f (c / 65536) (by rw [Nat.div_lt_iff_lt_mul (by omega)]; rw [Nat.pow_succ] at h; exact h)]
theorem dig_step (c : Nat) (h0 : 0 < c) (h : c < 18446744073709551616) : dig 8 c = c % 65536 :: dig 8 (c / 65536) := by
 have e : dig 8 c = c % 65536 :: dig 7 (c / 65536) := by
  show (if c = 0 then [] else c % 65536 :: dig 7 (c / 65536)) = _
  rw [if_neg (by omega)]
 rw [e,dig_fuel 7 _ (by
  have : (65536 : Nat) ^ 7 = 5192296858534827628530496329220096 := by decide
  omega)]
theorem dig_small : ∀ f c,∀ d ∈ dig f c,d < 65536
 |0,_ => by simp [dig]
 |f + 1,c => by
  intro d hd
  rw [dig] at hd
  split at hd
  ·cases hd
  ·rcases List.mem_cons.1 hd with rfl | hd
   ·omega
   ·exact dig_small f _ d hd
theorem mulL_small : ∀ l x c,∀ d ∈ mulL l x c,d < 65536
 |[],x,c => dig_small 8 c
 |e :: l,x,c => by
  intro d hd
  rcases List.mem_cons.1 hd with rfl | hd
  ·omega
  ·exact mulL_small l x _ d hd
theorem powL_small (x : Nat) : ∀ n,∀ d ∈ powL x n,d < 65536
 |0 => by simp [powL]
 |n + 1 => mulL_small _ _ _
theorem dig_length : ∀ f c,(dig f c).length ≤ f
 |0,_ => by simp [dig]
 |f + 1,c => by
  rw [dig]
  split
  ·simp
  ·simp only [List.length_cons]
   have := dig_length f (c / 65536)
   omega
theorem mulL_length : ∀ l x c,(mulL l x c).length ≤ l.length + 8
 |[],x,c => by have := dig_length 8 c; simpa [mulL] using this
 |e :: l,x,c => by have := mulL_length l x ((c + e * x) / 65536); simp only [mulL,List.length_cons]; omega
theorem powL_length (x : Nat) : ∀ n,(powL x n).length ≤ 1 + 8 * n
 |0 => by simp [powL]
 |n + 1 => by have := mulL_length (powL x n) x 0; have := powL_length x n; simp only [powL]; omega
def ovr (a b : List Nat) : Nat → Bool
 |0 => false
 |i + 1 => if a.getD i 0 = b.getD i 0 then ovr a b i else decide (b.getD i 0 < a.getD i 0)
def wantL (p n : Nat) : List Nat := List.replicate (2 * n) 0 ++ [p]
def rootX (p n : Nat) : Nat → Nat → Nat
 |0,x => x
 |b + 1,x => rootX p n b (if ovr (powL (x + 2 ^ b) n) (wantL p n) 16 then x else x + 2 ^ b)
def rootN (p n : Nat) : Nat := rootX p n 36 0 % 4294967296
def primesB : Nat → List Nat
 |0 => []
 |p + 1 => if p < 2 then [] else if (primesB p).all (fun q => decide (p % q ≠ 0)) then primesB p ++ [p] else primesB p
theorem primesB_pos : ∀ p,∀ q ∈ primesB p,2 ≤ q ∧ q < p
 |0 => by simp [primesB]
 |p + 1 => by
  intro q hq
  rw [primesB] at hq
  split at hq
  ·cases hq
  ·split at hq
   ·rcases List.mem_append.1 hq with hq | hq
    ·have := primesB_pos p q hq; omega
    ·have : q = p := by simpa using hq
     omega
   ·have := primesB_pos p q hq; omega
theorem primesB_step (p : Nat) (h : 2 ≤ p) : primesB (p + 1) = if (primesB p).all (fun q => decide (p % q ≠ 0)) then primesB p ++ [p] else primesB p := by
 rw [primesB,if_neg (by omega)]
theorem primesB_mono (p : Nat) (h : 2 ≤ p) : ∀ u,(primesB p).length ≤ (primesB (p + u)).length
 |0 => Nat.le_refl _
 |u + 1 => by
  refine Nat.le_trans (primesB_mono p h u) ?_
  rw [← Nat.add_assoc,primesB_step _ (by omega)]
  split <;> simp
theorem primes_311 : (primesB 311).length = 63 := by decide +kernel
theorem primes_312 : (primesB 312).length = 64 := by decide +kernel
theorem primes_few (p : Nat) (h : 2 ≤ p) (h' : p < 312) : (primesB p).length < 64 := by
 have := primesB_mono p h (311 - p)
 rw [show p + (311 - p) = 311 by omega,primes_311] at this
 omega
theorem cubes_right : (primesB 312).map (fun p => rootN p 3) = cubesN := by decide +kernel
theorem squares_right : ((primesB 312).take 8).map (fun p => rootN p 2) = squaresN := by decide +kernel
theorem primes_small : ∀ p ∈ primesB 312,p < 312 := fun p h => (primesB_pos 312 p h).2
theorem cubes_at (i : Nat) (h : i < 64) : BitVec.ofNat 32 (rootN ((primesB 312).getD i 0) 3) = cubesL.getD i 0 := by
 rw [cubesL,← cubes_right]
 simp [List.getD,List.getElem?_eq_getElem (show i < (primesB 312).length by rw [primes_312]; exact h)]
theorem squares_at (i : Nat) (h : i < 8) : BitVec.ofNat 32 (rootN ((primesB 312).getD i 0) 2) = H0.getD i 0 := by
 rw [H0,← squares_right]
 have h8 : i < ((primesB 312).take 8).length := by rw [List.length_take,primes_312]; omega
 simp [List.getD,List.getElem?_take,h,List.getElem?_eq_getElem (show i < (primesB 312).length by rw [primes_312]; omega)]
end Go.Proofs.YtfjcplfhkahamaaGreatDoor
namespace Go.Proofs.YtfjcplfhkahamaaGreatDoor
set_option linter.unusedVariables false
set_option linter.unusedSimpArgs false
open Go.RowKit
def arrV (l : List Value) (z : Value) (n : Nat) : Array Value := (l ++ List.replicate (n - l.length) z).toArray
theorem arrV_size (l : List Value) (z : Value) (n : Nat) (h : l.length ≤ n) : (arrV l z n).size = n := by simp [arrV]; omega
theorem arrV_get (l : List Value) (z : Value) (n i : Nat) (h : i < l.length) : (arrV l z n)[i]? = some (l[i]) := by
 simp [arrV,List.getElem?_append_left,h]
theorem arrV_get0 (l : List Value) (z : Value) (n i : Nat) (h : l.length ≤ i) (h' : i < n) : (arrV l z n)[i]? = some z := by
 simp [arrV,List.getElem?_append_right,h,List.getElem?_replicate]
 omega
theorem arrV_set (l : List Value) (z : Value) (n k : Nat) (x : Value) (hk : k = l.length) (h : l.length < n) : (arrV l z n).setIfInBounds k x = arrV (l ++ [x]) z n := by
 subst hk
 apply Array.ext_getElem?
 intro i
 by_cases hi : i = l.length
 ·subst hi
  rw [Array.getElem?_setIfInBounds_self_of_lt (by rw [arrV_size l z n (by omega)]; exact h),arrV_get _ _ _ _ (by simp)]
  simp
 ·rw [Array.getElem?_setIfInBounds_ne (by omega)]
  by_cases hl : i < l.length
  ·rw [arrV_get l z n i hl,arrV_get _ _ _ _ (by simp; omega)]
   simp [List.getElem_append_left,hl]
  ·by_cases hn : i < n
   ·rw [arrV_get0 l z n i (by omega) hn,arrV_get0 _ z n i (by simp; omega) hn]
   ·rw [Array.getElem?_eq_none (by rw [arrV_size l z n (by omega)]; omega),Array.getElem?_eq_none (by rw [arrV_size _ z n (by simp; omega)]; omega)]
theorem arrV_full (l : List Value) (z : Value) (n : Nat) (h : l.length = n) : arrV l z n = l.toArray := by simp [arrV,h]
def arrW (l : List Wd) (n : Nat) : Array Value := arrV (l.map W32) (.int .u32 0) n
def arrB (l : List UInt8) (n : Nat) : Array Value := arrV (l.map B8) (.int .u8 0) n
theorem arrW_size (l : List Wd) (n : Nat) (h : l.length ≤ n) : (arrW l n).size = n := arrV_size _ _ _ (by simpa using h)
theorem arrW_get (l : List Wd) (n i : Nat) (h : i < l.length) : (arrW l n)[i]? = some (.int .u32 (wi (l.getD i 0))) := by
 rw [arrW,arrV_get _ _ _ _ (by simpa using h)]
 simp [List.getD,List.getElem?_eq_getElem h]
theorem arrW_get0 (l : List Wd) (n i : Nat) (h : l.length ≤ i) (h' : i < n) : (arrW l n)[i]? = some (.int .u32 0) := arrV_get0 _ _ _ _ (by simpa using h) h'
theorem arrW_set (l : List Wd) (n k : Nat) (x : Wd) (hk : k = l.length) (h : l.length < n) : (arrW l n).setIfInBounds k (.int .u32 (wi x)) = arrW (l ++ [x]) n := by
 rw [arrW,arrV_set _ _ _ _ _ (by simpa using hk) (by simpa using h)]
 simp [arrW,W32]
theorem arrW_full (l : List Wd) (n : Nat) (h : l.length = n) : arrW l n = (l.map W32).toArray := arrV_full _ _ _ (by simpa using h)
theorem arrB_set (l : List UInt8) (n k : Nat) (x : UInt8) (hk : k = l.length) (h : l.length < n) : (arrB l n).setIfInBounds k (.int .u8 (x.toNat : Int)) = arrB (l ++ [x]) n := by
 rw [arrB,arrV_set _ _ _ _ _ (by simpa using hk) (by simpa using h)]
 simp [arrB,B8]
theorem arrB_full (l : List UInt8) (n : Nat) (h : l.length = n) : arrB l n = (l.map B8).toArray := arrV_full _ _ _ (by simpa using h)
theorem arrB_get0 (l : List UInt8) (n i : Nat) (h : l.length ≤ i) (h' : i < n) : (arrB l n)[i]? = some (.int .u8 0) := arrV_get0 _ _ _ _ (by simpa using h) h'
theorem arrB_size (l : List UInt8) (n : Nat) (h : l.length ≤ n) : (arrB l n).size = n := arrV_size _ _ _ (by simpa using h)
theorem heap_setCell_in (w : World) (g i : Nat) (cs : Array Value) (t : TypeId) (fr : Nat × Nat) (v : Value) (hg : w.heap[g]? = some (.cells cs t fr)) :
  (w.setCell ⟨g,i,none⟩ v).heap[g]? = some (.cells (cs.setIfInBounds i v) t fr) := by
 rw [setCell_eq_setRow w g i cs t fr v hg]
 exact setRow_heap w g cs _ t fr hg
theorem oneW (l : List Value) (h : ∀ v ∈ l,v.oneCell' = true) : l.toArray.all (·.oneCell') = true := by
 simpa using h
theorem oneW_map (l : List Wd) : (l.map W32).toArray.all (·.oneCell') = true := oneW _ fun v h => by
 simp only [List.mem_map] at h
 obtain ⟨x,_,rfl⟩ := h
 rfl
theorem oneB_map (l : List UInt8) : (l.map B8).toArray.all (·.oneCell') = true := oneW _ Bs.one
theorem row_get {w : World} {g n : Nat} {t : TypeId} {fr : Nat × Nat} {l : List Wd} (hg : w.heap[g]? = some (.cells (arrW l n) t fr)) (i : Nat) (h : i < l.length) : w.cell? ⟨g,i,none⟩ = some (.int .u32 (wi (l.getD i 0))) := by
 rw [cell_of_row w g i _ t fr hg]
 exact arrW_get l n i h
theorem rowB_get0 {w : World} {g i n : Nat} {l : List UInt8} {t : TypeId} {fr : Nat × Nat} (hg : w.heap[g]? = some (.cells (arrB l n) t fr)) (h : l.length ≤ i) (h' : i < n) : w.cell? ⟨g,i,none⟩ = some (.int .u8 0) := by
 rw [cell_of_row w g i _ t fr hg]
 exact arrB_get0 l n i h h'
theorem rowW_get0 {w : World} {g i n : Nat} {l : List Wd} {t : TypeId} {fr : Nat × Nat} (hg : w.heap[g]? = some (.cells (arrW l n) t fr)) (h : l.length ≤ i) (h' : i < n) : w.cell? ⟨g,i,none⟩ = some (.int .u32 0) := by
 rw [cell_of_row w g i _ t fr hg]
 exact arrW_get0 l n i h h'
theorem cell_setCell_ne (w : World) (p q : Addr) (v : Value) (h : q.block ≠ p.block) : (w.setCell p v).cell? q = w.cell? q :=
 World.cell?_of_block (Below.heap_setCell _ _ _ _ h)
theorem cell_drew (w : World) (p : Addr) : w.drew.cell? p = w.cell? p := rfl
theorem heap_drew (w : World) : w.drew.heap = w.heap := rfl
theorem cell_set_off (w : World) (g i j : Nat) (v : Value) (h : j ≠ i) : (w.setCell ⟨g,i,none⟩ v).cell? ⟨g,j,none⟩ = w.cell? ⟨g,j,none⟩ :=
 World.cell?_setCell_other w _ _ v (fun e => by cases e; exact h rfl)
theorem free_row {w : World} {g i : Nat} {cs : Array Value} {t : TypeId} (hg : w.heap[g]? = some (.cells cs t (0,0))) : w.frozen? ⟨g,i,none⟩ = false := by
 simp [World.frozen?,hg]
theorem heap3_0 (w : World) (A B C : Obj) : (((w.alloc A).alloc B).alloc C).heap[w.heap.size]? = some A := by
 rw [heap_alloc_old _ _ (by simp; omega),heap_alloc_old _ _ (by simp),heap_alloc_new]
theorem heap3_1 (w : World) (A B C : Obj) : (((w.alloc A).alloc B).alloc C).heap[w.heap.size + 1]? = some B := by
 rw [heap_alloc_old _ _ (by simp),heap_alloc2_new]
theorem heap3_2 (w : World) (A B C : Obj) : (((w.alloc A).alloc B).alloc C).heap[w.heap.size + 1 + 1]? = some C := by
 have := heap_alloc_new ((w.alloc A).alloc B) C
 simpa using this
theorem Tryz.infoU64b : (Tryz.prog.info? 49).map (fun i => (i.zero,i.size,i.bytes)) = some (some (.int .u64 0),1,8) := by kernel_rfl
def U64b (x : Nat) : Value := .int .u64 (x : Int)
def Us2 (w : World) (a : Option Addr) (c : Nat) (l : List Nat) : Prop := Sl w 1 a c l.length (l.map U64b)
def OwnU2 (w : World) (v : Value) (l : List Nat) : Prop := w.ownsRow 0 49 1 v l.length (l.map U64b)
theorem OwnU2.us {w : World} {a : Option Addr} {n c : Nat} {l : List Nat} (h : OwnU2 w (.slice a n c) l) : n = l.length ∧ Us2 w a c l := by
 obtain ⟨rfl,hs⟩ := Sl.of_own h
 exact ⟨rfl,hs⟩
theorem OwnU2.fr {S : Nat → Prop} {w w' : World} {v : Value} {l : List Nat} (h : OwnU2 w v l) (hf : Fr S w w') (hs : ∀ k,v.ownBlock = some k → ¬ S k) : OwnU2 w' v l := by
 refine ⟨h.1,?_⟩
 rcases h.2 with hn | ⟨g,cap,cur,rfl,hb,hg,r⟩
 ·exact .inl hn
 ·exact .inr ⟨g,cap,cur,rfl,hb,hf.keeps (hs g rfl) hg,r⟩
theorem Us2.one {l : List Nat} : ∀ u ∈ l.map U64b,u.oneCell' = true := by
 intro u hu
 simp only [List.mem_map] at hu
 obtain ⟨x,_,rfl⟩ := hu
 rfl
theorem Us2.get {w : World} {a : Option Addr} {c : Nat} {l : List Nat} (h : Us2 w a c l) (j : Nat) (hj : j < l.length) : ∃ b off,a = some ⟨b,off,none⟩ ∧ w.cell? ⟨b,off + j,none⟩ = some (.int .u64 (l.getD j 0 : Nat)) :=
 h.cell j (U64b (l.getD j 0)) (by simp [List.getElem?_map,List.getElem?_eq_getElem hj,List.getD])
theorem wpList_appU2 {w : World} {ops : Array Oper} {rest : List Oper} {o : Oper} {a : Act} {Q : Exit → Act → World → Prop} (hgd : o.guard = none) (s x : Operand)
  (ho : o.op = .call { callee := .builtin .append,args := #[s,x],argTypes := #[92,92] })
  (v : Value) (b0 : List Nat) (hs : a.eval s = v) (hown : OwnU2 w v b0) (ad : Option Addr) (m c : Nat) (l : List Nat) (hx : a.eval x = .slice ad m c) (hsl : Us2 w ad c l) (hm : m = l.length)
  (hb : b0.length + l.length ≤ 1000000)
  (h : ∀ a' c' w',OwnU2 w' (.slice a' (b0.length + l.length) c') (b0 ++ l) → w.grownBy w' v.ownBlock → (∀ k,ablk a' = some k → v.ownBlock = some k ∨ w.heap.size ≤ k) →
   wpList Tryz.prog ops Q rest (a.put o.dst (.slice a' (b0.length + l.length) c')) w') : wpList Tryz.prog ops Q (o :: rest) a w := by
 subst hm
 obtain ⟨i0,hi,hz0,hz1,hz2⟩ := info_parts Tryz.infoU64b
 refine wpList_app hgd s x 92 ho 49 i0 (.int .u64 0) 1 8 Tryz.underlying92 hi hz0 hz1 hz2 rfl (by decide) v _ _ hs hown ad c _ _ hx hsl Us2.one (by unfold maxLen; omega) (by omega) ?_
 intro a' c' w' h1 h2 h3
 exact h a' c' w' (by simpa [OwnU2] using h1) h2 h3
theorem Us2.of_new (w : World) (x : Nat) : Us2 (w.alloc (.cells #[.int .u64 (x : Int)] 49)) (some ⟨w.heap.size,0,none⟩) 1 [x] :=
 ⟨rfl,Nat.le_refl _,by unfold maxLen; omega,(fun e => by cases e),fun j u hj => ⟨w.heap.size,0,rfl,by
  rw [Nat.zero_add,cell_of_row _ _ j _ _ _ (heap_alloc_new w _)]
  match j,hj with
  |0,hj => simpa [U64b] using hj⟩⟩
theorem digit2_any (a : Option Addr) (n c : Nat) (l : List Nat) (i : Nat) (hn : n = l.length) (w : World) (h : Us2 w a c l) :
  Calls Tryz.prog 149 #[.slice a n c,.int .i64 (i : Int)] w fun e w' => e = .returned (.int .u64 (l.getD i 0 : Nat)) ∧ w' = w := by
 subst hn
 by_cases hi : i < l.length
 ·obtain ⟨b,off,rfl,hc⟩ := h.get i hi
  have l1 : (i : Int) < l.length := by omega
  clear h
  generalize l.getD i 0 = v at *
  go_enter Tryz.func149,Tryz.ntmps149
  go_wp2
  go_ret
  exact ⟨rfl,rfl⟩
 ·have l1 : ¬ (i : Int) < l.length := by omega
  have e : l.getD i 0 = 0 := by simp [List.getD,List.getElem?_eq_none (show l.length ≤ i by omega)]
  rw [e]
  clear h e
  go_enter Tryz.func149,Tryz.ntmps149
  go_wp2
  go_ret
  exact ⟨rfl,rfl⟩
def restL (l : List Nat) (x i c : Nat) : List Nat := mulL (l.drop i) x c
theorem restL_in (l : List Nat) (x i c : Nat) (h : i < l.length) : restL l x i c = (c + l.getD i 0 * x) % 65536 :: restL l x (i + 1) ((c + l.getD i 0 * x) / 65536) := by
 rw [restL,List.drop_eq_getElem_cons h]
 simp [mulL,restL,List.getD,List.getElem?_eq_getElem h]
theorem restL_out (l : List Nat) (x i c : Nat) (h : l.length ≤ i) (h0 : 0 < c) (hc : c < 18446744073709551616) : restL l x i c = c % 65536 :: restL l x (i + 1) (c / 65536) := by
 rw [restL,restL,List.drop_eq_nil_of_le h,List.drop_eq_nil_of_le (by omega)]
 exact dig_step c h0 hc
theorem restL_end (l : List Nat) (x i : Nat) (h : l.length ≤ i) : restL l x i 0 = [] := by
 rw [restL,List.drop_eq_nil_of_le h]
 rfl
theorem power_any (x n : Nat) (hx : x < 1099511627776) (hn : n ≤ 3) (w : World) :
  Calls Tryz.prog 148 #[.int .u64 (x : Int),.int .i64 (n : Int)] w fun e w' => ∃ a c,e = .returned (.slice a (powL x n).length c) ∧ Us2 w' a c (powL x n) ∧ Fr F0 w w' := by
 go_enter Tryz.func148,Tryz.ntmps148
 go_wp2_with fail
 go_loopw [1,5] (fun nv ov wr => ∃ k : Nat,k ≤ n ∧ nv = .int .i64 ((n - k : Nat) : Int) ∧ (∃ a c,ov = .slice a (powL x k).length c ∧ Us2 wr a c (powL x k)) ∧ Fr F0 w wr) (fun nv _ _ => (intOf nv).toNat)
 case atStart => exact ⟨0,Nat.zero_le _,rfl,⟨_,_,rfl,Us2.of_new w 1⟩,(Fr.refl F0 w).alloc _⟩
 case round =>
  obtain ⟨k,hk,rfl,⟨a,c,rfl,hu⟩,hf⟩ := hrel
  obtain ⟨w1,hw1⟩ : ∃ w1,w1 = wr := ⟨_,rfl⟩
  subst hw1
  by_cases hkn : k < n
  ·obtain ⟨d,hd⟩ : ∃ d,n - k = d := ⟨_,rfl⟩
   have l1 : (0 : Int) < (d : Int) := by omega
   have HD := Lib.hid hd
   have hsm := powL_small x k
   have hln := powL_length x k
   have hln2 := powL_length x (k + 1)
   have HP := Lib.hid (show powL x (k + 1) = restL (powL x k) x 0 0 by simp [restL,powL])
   generalize powL x k = L at *
   rw [hd]
   clear hd
   have HU := Lib.hid hu
   have HF := Lib.hid hf
   clear hu hf
   go_wp2_with fail
   rw [show decide (0 < d) = true from decide_eq_true (by omega)]
   go_loopw [6,7,8] (fun nv cv iv w2 => ∃ (i c' : Nat) (nx : List Nat),iv = .int .i64 i ∧ cv = .int .u64 c' ∧ (c' ≤ x ∧ nx.length = i) ∧ (∃ a2 c2,nv = .slice a2 nx.length c2 ∧ OwnU2 w2 (.slice a2 nx.length c2) nx ∧ ∀ g,ablk a2 = some g → w1.heap.size ≤ g) ∧ nx ++ restL L x i c' = powL x (k + 1) ∧ Fr F0 w1 w2)
    (fun _ cv iv _ => (L.length - (intOf iv).toNat) * 18446744073709551616 + (intOf cv).toNat)
   case atStart => exact ⟨0,0,[],rfl,rfl,⟨Nat.zero_le _,rfl⟩,⟨_,_,rfl,World.ownsRow_made w1 #[] 0 (Nat.zero_le _) (Nat.zero_le _) rfl,fun g e => by cases e; exact Nat.le_refl _⟩,HP.out.symm,(Fr.refl F0 w1).alloc _⟩
   case round =>
    obtain ⟨i,c',nx,rfl,rfl,⟨hcx,hni⟩,⟨a2,c2,rfl,hown,hblk⟩,hres,hf2⟩ := hrel
    have hnl : nx.length ≤ 1 + 8 * (k + 1) := by have := congrArg List.length hres; simp at this; omega
    have hil : i ≤ 1000 := by omega
    have HNI := Lib.hid hni
    clear hni
    have HR := Lib.hid hres
    have HB := Lib.hid hblk
    clear hres hblk
    have hu2 : Us2 wr a c L := Sl.fr HU.out hf2 fun _ _ f => f
    by_cases hin : i < L.length
    ·obtain ⟨b,off,ea,hc⟩ := hu2.get i hin
     have hd := hsm _ (List.getElem_mem hin)
     have e1 : L.getD i 0 = L[i] := by simp [List.getD,List.getElem?_eq_getElem hin]
     have hst := restL_in L x i c' hin
     rw [e1] at hst hc
     generalize L[i] = dd at *
     have hmul : dd * x ≤ 65535 * x := Nat.mul_le_mul_right _ (by omega)
     generalize hpr : dd * x = pr at *
     have m1 : IntKind.u64.wrap ((dd : Int) * x) = (pr : Int) := by
      rw [← Int.natCast_mul,hpr]
      exact IntWalk.u64_in _ (by omega)
     have m2 : IntKind.u64.wrap ((c' : Int) + pr) = ((c' + pr : Nat) : Int) := by rw [IntWalk.u64_in _ (by omega)]; omega
     obtain ⟨sm,hsmm⟩ : ∃ sm,c' + pr = sm := ⟨_,rfl⟩
     rw [hsmm] at m2 hst
     have hq : sm / 65536 ≤ x := by omega
     obtain ⟨r,hr⟩ : ∃ r,sm % 65536 = r := ⟨_,rfl⟩
     obtain ⟨z,hz⟩ : ∃ z,sm / 65536 = z := ⟨_,rfl⟩
     have mr : (sm : Int) % 65536 = (r : Int) := by omega
     have mz : (sm : Int) / 65536 = (z : Int) := by omega
     rw [hr,hz] at hst
     have l2 : (i : Int) < L.length := by omega
     have HST := Lib.hid hst
     have HZ := Lib.hid hz
     have hzx : z ≤ x := by omega
     clear hst hsmm hpr hmul e1 hr hz
     subst ea
     go_wp2_with (at_builtin; refine wpList_appU2 rfl _ _ rfl _ nx rfl (hown.fr ((Fr.refl F0 wr).alloc _) (fun _ _ f => f)) _ _ _ [r] rfl (Us2.of_new wr r) rfl (by simp; omega) ?_; intro a3 c3 w3 ho hg hb)
     go_roundw
     case rel =>
      refine ⟨i + 1,z,nx ++ [r],by go_num,rfl,⟨by omega,by have := HNI.out; simp; omega⟩,⟨a3,c3,by simp,by simpa using ho,fun g hg' => ?_⟩,?_,(hf2.alloc _).grown hg fun g e hl => ?_⟩
      ·rcases hb g hg' with h | h
       ·exact HB.out g (by rw [← ablk_own]; exact h)
       ·have := hf2.size; simp only [World.size_alloc] at h; omega
      ·rw [← HR.out,HST.out,List.append_assoc]; rfl
      ·have := HB.out g (by rw [← ablk_own]; exact e)
       omega
     case measure => simp [intOf]; omega
    ·by_cases hc0 : 0 < c'
     ·have hst := restL_out L x i c' (by omega) hc0 (by omega)
      obtain ⟨r,hr⟩ : ∃ r,c' % 65536 = r := ⟨_,rfl⟩
      obtain ⟨z,hz⟩ : ∃ z,c' / 65536 = z := ⟨_,rfl⟩
      have mr : (c' : Int) % 65536 = (r : Int) := by omega
      have mz : (c' : Int) / 65536 = (z : Int) := by omega
      rw [hr,hz] at hst
      have l2 : ¬ (i : Int) < L.length := by omega
      have HLE := Lib.hid (show L.length ≤ i by omega)
      have l3 : (0 : Int) < (c' : Int) := by omega
      have HST := Lib.hid hst
      have HZ := Lib.hid hz
      have hzx : z ≤ x := by omega
      clear hst hr hz
      go_wp2_with (at_builtin; refine wpList_appU2 rfl _ _ rfl _ nx rfl (hown.fr ((Fr.refl F0 wr).alloc _) (fun _ _ f => f)) _ _ _ [r] rfl (Us2.of_new wr r) rfl (by simp; omega) ?_; intro a3 c3 w3 ho hg hb)
      go_roundw
      case rel =>
       refine ⟨i + 1,z,nx ++ [r],by go_num,rfl,⟨by have := HZ.out; omega,by have := HNI.out; simp; omega⟩,⟨a3,c3,by simp,by simpa using ho,fun g hg' => ?_⟩,?_,(hf2.alloc _).grown hg fun g e hl => ?_⟩
       ·rcases hb g hg' with h | h
        ·exact HB.out g (by rw [← ablk_own]; exact h)
        ·have := hf2.size; simp only [World.size_alloc] at h; omega
       ·rw [← HR.out,HST.out,List.append_assoc]; rfl
       ·have := HB.out g (by rw [← ablk_own]; exact e)
        omega
      case measure =>
       have := HZ.out
       have := HLE.out
       simp [intOf]; omega
     ·have l2 : ¬ (i : Int) < L.length := by omega
      have l3 : ¬ (0 : Int) < (c' : Int) := by omega
      have hc00 : c' = 0 := by omega
      have hfin : nx = powL x (k + 1) := by
       have := HR.out
       rw [hc00,restL_end _ _ _ (by omega),List.append_nil] at this
       exact this
      have HFIN := Lib.hid hfin
      clear hfin hc00
      have hdn : IntKind.i64.wrap ((d : Int) - 1) = ((d - 1 : Nat) : Int) := by rw [IntWalk.i64_in _ (by have := HD.out; omega)]; omega
      generalize hd1 : d - 1 = d1 at *
      have HD1 := Lib.hid hd1
      clear hd1
      go_wp2
      go_roundw
      case rel =>
       have := HD.out
       have := HD1.out
       refine ⟨k + 1,by omega,by go_num,⟨a2,c2,by rw [← HFIN.out],?_⟩,HF.out.trans' hf2⟩
       rw [← HFIN.out]
       exact hown.us.2
      case measure =>
       have := HD1.out
       simp [intOf]; omega
  ·obtain rfl : k = n := by omega
   rw [Nat.sub_self]
   go_wp2
   go_ret
   exact ⟨a,c,rfl,hu,hf⟩
theorem made_zeros (q : Nat) : (madeCells #[Value.int IntKind.u64 0] q).toList = (List.replicate q 0).map U64b := by
 apply List.ext_getElem
 ·simp [madeCells]
 ·intro i h1 h2
  simp [madeCells,Nat.mod_one]
  rfl
theorem ovr_step (a b : List Nat) (i : Nat) (h : a.getD i 0 ≠ b.getD i 0) : ovr a b (i + 1) = decide (b.getD i 0 < a.getD i 0) := by rw [ovr,if_neg h]
theorem ovr_same (a b : List Nat) (i : Nat) (h : a.getD i 0 = b.getD i 0) : ovr a b (i + 1) = ovr a b i := by rw [ovr,if_pos h]
theorem root_any (p n : Nat) (hp : p < 1099511627776) (hn : n ≤ 3) (w : World) :
  Calls Tryz.prog 129 #[.int .u64 (p : Int),.int .i64 (n : Int)] w fun e w' => e = .returned (.int .u32 (wi (BitVec.ofNat 32 (rootN p n)))) ∧ Fr F0 w w' := by
 obtain ⟨i0,hi,hz0,hz1,hz2⟩ := info_parts Tryz.infoU64b
 obtain ⟨q,hq⟩ : ∃ q,q = 2 * n := ⟨_,rfl⟩
 have mq : IntKind.i64.wrap (2 * (n : Int)) = (q : Int) := by rw [IntWalk.i64_in _ (by omega)]; omega
 have hq6 : q ≤ 6 := by omega
 have HQ := Lib.hid hq
 clear hq
 go_enter Tryz.func129,Tryz.ntmps129
 go_wp2_with (first | (at_make; refine wpList_make_full w rfl _ _ _ rfl 0 49 i0 _ 1 Tryz.underlying92 hi hz0 hz1 .i64 .i64 q q q rfl rfl rfl rfl (by rw [hz2]; omega) (by unfold maxLen; omega) (Nat.zero_le _) ?_; intro w1 ho hg; have hoU : OwnU2 w1 (.slice (some ⟨w.heap.size,0,none⟩) q q) (List.replicate q 0) := (by unfold OwnU2; rw [← made_zeros,List.length_replicate]; simpa [Value.cells] using ho)) | (at_builtin; refine wpList_appU2 rfl _ _ rfl _ (List.replicate q 0) rfl (hoU.fr ((Fr.refl F0 w1).alloc _) (fun _ _ f => f)) _ _ _ [p] rfl (Us2.of_new w1 p) rfl (by simp; omega) ?_; intro a3 c3 w3 ho3 hg3 hb3))
 have hF3 : Fr F0 w w3 := ((((Fr.refl F0 w).grown hg (fun k e => by cases e)).alloc _).grown hg3 fun k e hl => by cases e; simp at hl)
 have hW3 : Us2 w3 a3 c3 (wantL p n) := by
  have := ho3.us.2
  rwa [HQ.out] at this
 have hwl : (wantL p n).length = q + 1 := by simp [wantL,HQ.out]
 have hwl' : q + 1 = (wantL p n).length := hwl.symm
 generalize hQ1 : q + 1 = Q1 at *
 clear hQ1 ho hoU ho3 hg hg3 hb3 hwl
 have HF3 := Lib.hid hF3
 have HW3 := Lib.hid hW3
 have HWL := Lib.hid hwl'
 clear hF3 hW3 hwl'
 go_loopw [6,7] (fun xv bv wr => ∃ b x : Nat,b ≤ 36 ∧ bv = .int .i64 ((b : Int) - 1) ∧ xv = .int .u64 (x : Int) ∧ x + 2 ^ b ≤ 2 ^ 36 ∧ rootX p n b x = rootX p n 36 0 ∧ Fr F0 w3 wr) (fun _ bv _ => (intOf bv + 1).toNat)
 case atStart => exact ⟨36,0,by omega,rfl,rfl,by omega,rfl,Fr.refl _ _⟩
 case round =>
  obtain ⟨b,x,hb,rfl,rfl,hxb,hres,hf⟩ := hrel
  obtain ⟨w4,hw4⟩ : ∃ w4,w4 = wr := ⟨_,rfl⟩
  subst hw4
  have HR := Lib.hid hres
  clear hres
  cases b with
  |zero =>
   have hx : x < 2 ^ 36 := by simp at hxb; omega
   have hN : wi (BitVec.ofNat 32 (rootN p n)) = (x : Int) % 4294967296 := by
    have := HR.out
    rw [rootX] at this
    rw [wi,rootN,← this,BitVec.toNat_ofNat]
    show ((x % 4294967296 % 4294967296 : Nat) : Int) = _
    rw [Nat.mod_mod]
    rfl
   have HN := Lib.hid hN
   clear hN
   go_wp2
   go_ret
   refine ⟨?_,HF3.out.trans' hf⟩
   rw [HN.out]
   rfl
  |succ b =>
   have hb1 : ((b + 1 : Nat) : Int) - 1 = (b : Int) := by omega
   have hp0 : 0 < 2 ^ b := Nat.pow_pos (by omega)
   rw [Nat.pow_succ] at hxb
   obtain ⟨P2,hP2⟩ : ∃ P2,2 ^ b = P2 := ⟨_,rfl⟩
   have HP2 := Lib.hid hP2
   rw [hP2] at hxb hp0
   have mb : IntKind.u64.wrap ((2 : Int) ^ b) = (P2 : Int) := by
    rw [← hP2,show (2 : Int) ^ b = ((2 ^ b : Nat) : Int) by rw [Int.natCast_pow]; rfl]
    exact IntWalk.u64_in _ (by omega)
   have mx : IntKind.u64.wrap ((x : Int) + (P2 : Int)) = ((x + P2 : Nat) : Int) := by rw [IntWalk.u64_in _ (by omega)]; omega
   obtain ⟨y,hy⟩ : ∃ y,x + P2 = y := ⟨_,rfl⟩
   rw [hy] at mx
   have HY := Lib.hid hy
   have hyl : y < 1099511627776 := by omega
   have lb : (b : Int) < 64 := by omega
   clear hy hP2
   rw [hb1]
   clear hb1
   go_wp2_with fail
   refine (power_any y n hyl hn w4).mono ?_
   rintro e w5 ⟨aA,cA,rfl,hA,hf5⟩
   have hf5' := hf.trans' hf5
   have HA := Lib.hid hA
   obtain ⟨LA,hLA⟩ : ∃ l,(powL y n).length = l := ⟨_,rfl⟩
   rw [hLA]
   have HLA := Lib.hid hLA
   clear hA hf hf5 hLA
   go_wp2_with fail
   go_loopw [9,10] (fun ov iv wr => ∃ i : Nat,i ≤ 16 ∧ iv = .int .i64 i ∧ ov = .bool (ovr (powL y n) (wantL p n) i) ∧ wr = w5) (fun _ iv _ => 16 - (intOf iv).toNat)
   case atStart => exact ⟨0,by omega,rfl,rfl,rfl⟩
   case round =>
    obtain ⟨i,hi,rfl,rfl,rfl⟩ := hrel
    have hWr : Us2 wr a3 c3 (wantL p n) := Sl.fr HW3.out hf5' fun _ _ f => f
    by_cases hi16 : i < 16
    ·have l1 : (i : Int) < 16 := by omega
     have C1 := digit2_any aA LA cA (powL y n) i HLA.out.symm wr HA.out
     have C2 := digit2_any a3 Q1 c3 (wantL p n) i HWL.out wr hWr
     have S1 := ovr_step (powL y n) (wantL p n) i
     have S2 := ovr_same (powL y n) (wantL p n) i
     generalize (powL y n).getD i 0 = da at *
     generalize (wantL p n).getD i 0 = db at *
     have D1 := Lib.hid C1
     have D2 := Lib.hid C2
     by_cases hdd : da = db
     ·have HS := Lib.hid (S2 hdd)
      subst hdd
      clear C1 C2 S1 S2 hWr
      go_wp2_with fail
      refine D1.out.mono ?_
      rintro e w6 ⟨rfl,rfl⟩
      go_wp2_with fail
      refine D2.out.mono ?_
      rintro e w6 ⟨rfl,rfl⟩
      go_wp2
      go_roundw
      case rel => exact ⟨i + 1,by omega,by go_num,by rw [HS.out],trivial⟩
      case measure => simp [intOf]; omega
     ·have HS := Lib.hid (S1 hdd)
      clear C1 C2 S1 S2 hWr
      go_wp2_with fail
      refine D1.out.mono ?_
      rintro e w6 ⟨rfl,rfl⟩
      go_wp2_with fail
      refine D2.out.mono ?_
      rintro e w6 ⟨rfl,rfl⟩
      go_wp2_with fail
      refine D1.out.mono ?_
      rintro e w6 ⟨rfl,rfl⟩
      go_wp2_with fail
      refine D2.out.mono ?_
      rintro e w6 ⟨rfl,rfl⟩
      go_wp2
      go_roundw
      case rel => exact ⟨i + 1,by omega,by go_num,by rw [HS.out],trivial⟩
      case measure => simp [intOf]; omega
    ·have hi0 : i = 16 := by omega
     have HO : ovr (powL y n) (wantL p n) i = ovr (powL y n) (wantL p n) 16 := by rw [hi0]
     have HX := Lib.hid (show rootX p n (b + 1) x = rootX p n b (if ovr (powL (x + 2 ^ b) n) (wantL p n) 16 then x else x + 2 ^ b) from rfl)
     rw [HO]
     have HXY : x + 2 ^ b = y := by rw [HP2.out]; exact HY.out
     have HXY' := Lib.hid HXY
     clear hi0 HO hWr HXY
     generalize hov : ovr (powL y n) (wantL p n) 16 = ov at *
     have HOV := Lib.hid hov
     clear hov
     have mb1 : IntKind.i64.wrap ((b : Int) - 1) = (b : Int) - 1 := IntWalk.i64_in _ (by omega)
     cases ov with
     |true =>
      go_wp2
      go_roundw
      case rel =>
       refine ⟨b,x,by omega,by go_num,rfl,by have := HP2.out; omega,?_,hf5'⟩
       rw [← HR.out,HX.out,HXY'.out,HOV.out]
       rfl
      case measure => simp [intOf] <;> omega
     |false =>
      go_wp2
      go_roundw
      case rel =>
       refine ⟨b,y,by omega,by go_num,rfl,by have := HP2.out; have := HY.out; omega,?_,hf5'⟩
       rw [← HR.out,HX.out,HXY'.out,HOV.out]
       rfl
      case measure => simp [intOf] <;> omega
theorem all_take_succ (f : Nat → Bool) (l : List Nat) (k : Nat) (h : k < l.length) : (l.take (k + 1)).all f = ((l.take k).all f && f (l.getD k 0)) := by
 rw [List.take_succ_eq_append_getElem h,List.all_append]
 simp [List.getD,List.getElem?_eq_getElem h]
theorem primes_any (w : World) :
  Calls Tryz.prog 128 #[.int .i64 64] w fun e w' => ∃ a c,e = .returned (.slice a 64 c) ∧ Us2 w' a c (primesB 312) ∧ Fr F0 w w' ∧ ∀ g,ablk a = some g → w.heap.size ≤ g := by
 go_enter Tryz.func128,Tryz.ntmps128
 go_wp2_with fail
 go_loopw [3,4] (fun ov pv wr => ∃ p : Nat,2 ≤ p ∧ p ≤ 312 ∧ pv = .int .u64 p ∧ (∃ a c,ov = .slice a (primesB p).length c ∧ OwnU2 wr (.slice a (primesB p).length c) (primesB p) ∧ ∀ g,ablk a = some g → w.heap.size ≤ g) ∧ Fr F0 w wr) (fun _ pv _ => 312 - (intOf pv).toNat)
 case atStart => exact ⟨2,by omega,by omega,rfl,⟨_,_,rfl,World.ownsRow_made w #[] 0 (Nat.zero_le _) (Nat.zero_le _) rfl,fun g e => by cases e; exact Nat.le_refl _⟩,(Fr.refl F0 w).alloc _⟩
 case round =>
  obtain ⟨p,hp2,hp,rfl,⟨a,c,rfl,hown,hblk⟩,hf⟩ := hrel
  by_cases hlt : p < 312
  ·have hfew := primes_few p hp2 hlt
   have hpos := primesB_pos p
   have HST := Lib.hid (primesB_step p hp2)
   obtain ⟨w4,hw4⟩ : ∃ w4,w4 = wr := ⟨_,rfl⟩
   subst hw4
   generalize hL : primesB p = L at *
   have HBK := Lib.hid hblk
   have HU := Lib.hid hown.us.2
   have HO := Lib.hid hown
   clear hblk hown
   have l1 : (L.length : Int) < 64 := by omega
   go_wp2_with fail
   go_loopw [5,17] (fun bv iv wr => ∃ k : Nat,k ≤ L.length ∧ iv = .int .i64 k ∧ bv = .bool ((L.take k).all fun q => decide (p % q ≠ 0)) ∧ wr = w4) (fun _ iv _ => L.length - (intOf iv).toNat)
   case atStart => exact ⟨0,by omega,rfl,by simp,rfl⟩
   case round =>
    obtain ⟨k,hk,rfl,rfl,rfl⟩ := hrel
    by_cases hkl : k < L.length
    ·obtain ⟨b,off,ea,hc⟩ := HU.out.get k hkl
     obtain ⟨hq,hqp⟩ := hpos (L.getD k 0) (by simp [List.getD,List.getElem?_eq_getElem hkl])
     have HS := Lib.hid (all_take_succ (fun q => decide (p % q ≠ 0)) L k hkl)
     generalize L.getD k 0 = q at *
     generalize (L.take k).all (fun q => decide (p % q ≠ 0)) = bv at *
     have lk : (k : Int) < L.length := by omega
     have lq : ¬ (q : Int) = 0 := by omega
     obtain ⟨r,hr⟩ : ∃ r,p % q = r := ⟨_,rfl⟩
     have mr : IntKind.u64.wrap (Int.tmod (p : Int) q) = (r : Int) := by
      rw [Int.tmod_eq_emod_of_nonneg (by omega),← hr,← Int.natCast_emod]
      have := Nat.mod_lt p (show q > 0 by omega)
      exact IntWalk.u64_in _ (by omega)
     have HR := Lib.hid hr
     clear hr hpos
     subst ea
     cases bv with
     |true =>
      go_wp2
      go_roundw
      case rel =>
       refine ⟨k + 1,by omega,by go_num,?_,trivial⟩
       rw [HS.out,Bool.true_and,← Int.natCast_emod]
       by_cases h0 : p % q = 0 <;> simp [h0] <;> omega
      case measure => simp [intOf] <;> omega
     |false =>
      go_wp2
      go_roundw
      case rel => exact ⟨k + 1,by omega,by go_num,by rw [HS.out]; rfl,trivial⟩
      case measure => simp [intOf] <;> omega
    ·have hkL : L.take k = L := List.take_of_length_le (by omega)
     rw [hkL]
     have lk : ¬ (k : Int) < L.length := by omega
     have mp : IntKind.u64.wrap ((p : Int) + 1) = ((p + 1 : Nat) : Int) := by rw [IntWalk.u64_in _ (by omega)]; omega
     obtain ⟨p1,hp1⟩ : ∃ p1,p1 = p + 1 := ⟨_,rfl⟩
     rw [← hp1] at mp
     have HP1 := Lib.hid hp1
     have HLL := Lib.hid hL
     clear hkL hp1 hL hpos
     generalize hall : (L.all fun q => decide (p % q ≠ 0)) = al at *
     have HAL := Lib.hid hall
     clear hall
     cases al with
     |true =>
      go_wp2_with (at_builtin; refine wpList_appU2 rfl _ _ rfl _ L rfl (HO.out.fr ((Fr.refl F0 wr).alloc _) (fun _ _ f => f)) _ _ _ [p] rfl (Us2.of_new wr p) rfl (by simp; omega) ?_; intro a3 c3 w3 ho hg hb)
      go_roundw
      case rel =>
       have e1 := HP1.out
       have hn : primesB p1 = L ++ [p] := by rw [e1,HST.out]; rfl
       refine ⟨p1,by omega,by omega,rfl,⟨a3,c3,by rw [hn]; simp,by rw [hn]; simpa using ho,fun g hg' => ?_⟩,(hf.alloc _).grown hg fun g e hl => ?_⟩
       ·rcases hb g hg' with h | h
        ·exact HBK.out g (by rw [← ablk_own]; exact h)
        ·have := hf.size; simp only [World.size_alloc] at h; omega
       ·have := HBK.out g (by rw [← ablk_own]; exact e)
        omega
      case measure =>
       have e1 := HP1.out
       simp [intOf] <;> omega
     |false =>
      go_wp2
      go_roundw
      case rel =>
       have e1 := HP1.out
       have hn : primesB p1 = L := by rw [e1,HST.out]; rfl
       exact ⟨p1,by omega,by omega,rfl,⟨a,c,by rw [hn],by rw [hn]; exact HO.out,HBK.out⟩,hf⟩
      case measure =>
       have e1 := HP1.out
       simp [intOf] <;> omega
  ·obtain rfl : p = 312 := by omega
   have h64 := primes_312
   have hU := hown.us.2
   have HU := Lib.hid hU
   clear hU hown
   rw [h64]
   go_wp2
   go_ret
   exact ⟨a,c,rfl,HU.out,hf,hblk⟩
attribute [local go_sem high] wdv_and wdv_or wdv_xor wdv_not wdv_add wdv_shl wdv_shr wdv_to8 wdv_of8
theorem Tryz.sz8 : (Tryz.prog.info? 168).map (·.size) = some 8 := by kernel_rfl
theorem Tryz.sz32 : (Tryz.prog.info? 26).map (·.size) = some 32 := by kernel_rfl
theorem Tryz.sz64 : (Tryz.prog.info? 187).map (·.size) = some 64 := by kernel_rfl
theorem begin_any (w : World) : Calls Tryz.prog 110 #[] w fun e w' => e = .returned (.agg (H0.map W32).toArray) ∧ Fr F0 w w' := by
 go_enter Tryz.func110,Tryz.ntmps110
 go_wp2
 refine bodyPost_ret (results_cell_row rfl _ _ _ _ _ _ _ rfl (heap_alloc_new w _) Tryz.underlying168 rfl Tryz.sz8) rfl ⟨rfl,(Fr.refl F0 w).alloc _⟩
theorem bytesOf_snoc (s : List Wd) (x : Wd) : bytesOf (s ++ [x]) = bytesOf s ++ [lo8 (x >>> 24)] ++ [lo8 (x >>> 16)] ++ [lo8 (x >>> 8)] ++ [lo8 x] := by simp [bytesOf]
theorem hash_any (s : List Wd) (hs : s.length = 8) (w : World) :
  Calls Tryz.prog 114 #[.agg (s.map W32).toArray] w fun e w' => e = .returned (.agg ((bytesOf s).map B8).toArray) ∧ Fr F0 w w' := by
 go_enter Tryz.func114,Tryz.ntmps114
 go_wp2_with (refine wpList_load_row rfl 168 (.tmp 1) rfl w.heap.size rfl 168 (s.map W32).toArray (0,0) _ (heap3_0 _ _ _ _) Tryz.underlying168 rfl (by rw [Tryz.sz8]; simp [hs]) ?_)
 generalize hX : w.heap.size + 1 + 1 = X
 generalize hY : w.heap.size + 1 = Y
 go_loopw [7] (fun i wr => ∃ k : Nat,k ≤ 8 ∧ i = .int .i64 k ∧ wr.heap[X]? = some (.cells (arrB (bytesOf (s.take k)) 32) 26 (0,0)) ∧ (∃ cs,wr.heap[Y]? = some (.cells cs 26 (0,0)) ∧ cs.size = 32) ∧ Fr F0 w wr) (fun i _ => 8 - (intOf i).toNat)
 case atStart => exact ⟨0,by omega,rfl,by subst hX; exact heap3_2 _ _ _ _,⟨_,by subst hY; exact heap3_1 _ _ _ _,rfl⟩,(((Fr.refl F0 w).alloc _).alloc _).alloc _⟩
 case round =>
  obtain ⟨k,hk,rfl,h2,⟨cs,h1,hz⟩,hf⟩ := hrel
  by_cases hk8 : k < 8
  ·have hx : (s.map W32).toArray[k]? = some (.int .u32 (wi (s.getD k 0))) := by
    simp [List.getD,List.getElem?_eq_getElem (show k < s.length by omega)]
   have hL : (bytesOf (s.take k)).length = 4 * k := by rw [bytesOf_length]; simp; omega
   have hst : s.take (k + 1) = s.take k ++ [s.getD k 0] := by
    rw [List.take_succ_eq_append_getElem (show k < s.length by omega)]
    simp [List.getD,List.getElem?_eq_getElem (show k < s.length by omega)]
   generalize s.getD k 0 = x at *
   have HS := Lib.hid hst
   have hi := fun w => run_index_row (P := Tryz.prog) w 168 22 8 _ .i64 k _ Tryz.underlying168 Tryz.underlying22 rfl (by kernel_rfl) _ hk8 hx
   have b0 := rowB_get0 (i := 4 * k) h2 (by omega) (by omega)
   have z0 := free_row (i := 4 * k) h2
   have b1 := rowB_get0 (i := 4 * k + 1) h2 (by omega) (by omega)
   have z1 := free_row (i := 4 * k + 1) h2
   have b2 := rowB_get0 (i := 4 * k + 2) h2 (by omega) (by omega)
   have z2 := free_row (i := 4 * k + 2) h2
   have b3 := rowB_get0 (i := 4 * k + 3) h2 (by omega) (by omega)
   have z3 := free_row (i := 4 * k + 3) h2
   have HH := Lib.hid (And.intro h2 (And.intro h1 hf))
   have HL := Lib.hid hL
   clear hst hx hL h2 h1 hf
   go_wp2
   go_roundw
   case rel =>
    obtain ⟨h2,h1,hf⟩ := HH.out
    have hne : Y ≠ X := by omega
    refine ⟨k + 1,by omega,by go_num,?_,⟨cs,?_,hz⟩,?_⟩
    ·rw [HS.out,bytesOf_snoc]
     have hL := HL.out
     have g0 := heap_setCell_in wr X (4 * k) _ _ _ (.int .u8 ((lo8 (x >>> 24)).toNat : Int)) h2
     rw [arrB_set _ _ _ _ (by omega) (by omega)] at g0
     have g1 := heap_setCell_in _ X (4 * k + 1) _ _ _ (.int .u8 ((lo8 (x >>> 16)).toNat : Int)) g0
     rw [arrB_set _ _ _ _ (by simp; omega) (by simp; omega)] at g1
     have g2 := heap_setCell_in _ X (4 * k + 2) _ _ _ (.int .u8 ((lo8 (x >>> 8)).toNat : Int)) g1
     rw [arrB_set _ _ _ _ (by simp; omega) (by simp; omega)] at g2
     have g3 := heap_setCell_in _ X (4 * k + 3) _ _ _ (.int .u8 ((lo8 x).toNat : Int)) g2
     rw [arrB_set _ _ _ _ (by simp; omega) (by simp; omega)] at g3
     exact g3
    ·rw [Below.heap_setCell _ _ _ _ hne,Below.heap_setCell _ _ _ _ hne,Below.heap_setCell _ _ _ _ hne,Below.heap_setCell _ _ _ _ hne]
     exact h1
    ·exact (((hf.setCell (p := ⟨X,_,none⟩) (fun h => by simp only at h; omega) _).setCell (p := ⟨X,_,none⟩) (fun h => by simp only at h; omega) _).setCell (p := ⟨X,_,none⟩) (fun h => by simp only at h; omega) _).setCell (p := ⟨X,_,none⟩) (fun h => by simp only at h; omega) _
   case measure => simp [intOf]; omega
  ·obtain rfl : k = 8 := by omega
   have hfull : arrB (bytesOf (s.take 8)) 32 = ((bytesOf s).map B8).toArray := by
    rw [List.take_of_length_le (by omega)]
    exact arrB_full _ _ (by rw [bytesOf_length,hs])
   rw [hfull] at h2
   have hb : ((bytesOf s).map B8).toArray.size = 32 := by simp [bytesOf_length,hs]
   go_wp2_with (first | refine wpList_load_row rfl 26 (.tmp 3) rfl X rfl 26 _ (0,0) _ h2 Tryz.underlying26 rfl (by rw [Tryz.sz32,hb]) ?_ | refine wpList_store_row rfl 26 (.tmp 2) (.tmp 38) rfl Y _ rfl rfl 26 cs h1 (by rw [Tryz.sz32,hb]) (by rw [hz,hb]) (oneB_map _) ?_)
   refine bodyPost_ret (results_cell_row rfl _ _ Y _ _ _ _ rfl (setRow_heap _ _ _ _ _ _ h1) Tryz.underlying26 rfl (by rw [Tryz.sz32,hb])) rfl ⟨rfl,?_⟩
   exact hf.setRow (fun h => by omega) _
attribute [local go_sem high] wdv_and wdv_or wdv_xor wdv_not wdv_add wdv_shl wdv_shr wdv_to8 wdv_of8
theorem Bs.of_new (w : World) (x : UInt8) : Bs (w.alloc (.cells #[.int .u8 (x.toNat : Int)] 5)) (some ⟨w.heap.size,0,none⟩) 1 [x] :=
 ⟨rfl,Nat.le_refl _,by unfold maxLen; omega,(fun e => by cases e),fun j u hj => ⟨w.heap.size,0,rfl,by
  rw [Nat.zero_add,cell_of_row _ _ j _ _ _ (heap_alloc_new w _)]
  match j,hj with
  |0,hj => simpa [B8] using hj⟩⟩
theorem wpList_build_none {P : Program} {w : World} {ops : Array Oper} {rest : List Oper} {o : Oper} {a : Act} {Q : Exit → Act → World → Prop} (hg : o.guard = none) (t : TypeId) (ho : o.op = .build t #[]) (cells : Array Value)
  (hb : P.built t [] = some cells) (h : wpList P ops Q rest (a.put o.dst (.agg cells)) w) : wpList P ops Q (o :: rest) a w := by
 refine wpList_build hg t #[] ho (by simp [hb]) ?_
 simpa [hb] using h
theorem Tryz.built64 : Tryz.prog.built 187 [] = some (arrW [] 64) := by kernel_rfl
theorem Tryz.built8 : Tryz.prog.built 167 [] = some (arrW [] 8) := by kernel_rfl
theorem Tryz.built32 : Tryz.prog.built 25 [] = some (arrB [] 32) := by kernel_rfl
theorem Tryz.sz8w : (Tryz.prog.info? 167).map (·.size) = some 8 := by kernel_rfl
theorem Tryz.sz32w : (Tryz.prog.info? 25).map (·.size) = some 32 := by kernel_rfl
theorem oneV (l : List Value) (z : Value) (n : Nat) (h : ∀ v ∈ l,v.oneCell' = true) (hz : z.oneCell' = true) : (arrV l z n).all (·.oneCell') = true := oneW _ fun v hv => by
 rcases List.mem_append.1 hv with hv | hv
 ·exact h v hv
 ·rw [List.eq_of_mem_replicate hv]
  exact hz
theorem oneAW (l : List Wd) (n : Nat) : (arrW l n).all (·.oneCell') = true := oneV _ _ _ (fun v h => by
 simp only [List.mem_map] at h
 obtain ⟨x,_,rfl⟩ := h
 rfl) rfl
theorem oneAB (l : List UInt8) (n : Nat) : (arrB l n).all (·.oneCell') = true := oneV _ _ _ Bs.one rfl
theorem Calls.of_world_2 {P : Program} {f : FuncId} {args : Array Value} {w : World} {R : Ending → World → Prop} (W : World) (h : W = w) (k : Calls P f args W R) : Calls P f args w R := h ▸ k
theorem be8_take (x j : Nat) (h : j < 8) : (be8 x).take (j + 1) = (be8 x).take j ++ [UInt8.ofNat (x / 2 ^ (56 - 8 * j))] := by
 rw [List.take_succ_eq_append_getElem (by rw [be8_length]; exact h)]
 simp [be8]
theorem byte_at (x s : Nat) : ((x : Int) * 8 / 2 ^ s % 256) = (((UInt8.ofNat (8 * x / 2 ^ s)).toNat : Nat) : Int) := by
 show _ = ((8 * x / 2 ^ s % 256 : Nat) : Int)
 rw [Int.natCast_emod,Int.natCast_ediv,Int.natCast_pow,Int.natCast_mul,Int.mul_comm]
 rfl
theorem wp_of_world_2 {P : Program} {c : Code} {Q : Exit → Act → World → Prop} {a : Act} {w : World} (W : World) (h : W = w) (k : Code.wp P c Q a W) : Code.wp P c Q a w := h ▸ k
theorem blk_get (m : List UInt8) (k i : Nat) (h : i < 64) : (blk m k).getD i 0 = m.getD (64 * k + i) 0 := by
 simp [blk,List.getD,List.getElem?_take,h]
theorem cell_heap {w w' : World} (h : w'.heap = w.heap) (p : Addr) : w'.cell? p = w.cell? p := by simp [World.cell?,h]
theorem take_succD (l : List Wd) (k : Nat) (h : k < l.length) : l.take (k + 1) = l.take k ++ [l.getD k 0] := by
 rw [List.take_succ_eq_append_getElem h]
 simp [List.getD,List.getElem?_eq_getElem h]
theorem Bs.getD {w : World} {c : Nat} {bs : List UInt8} {b off : Nat} (h : Bs w (some ⟨b,off,none⟩) c bs) (j : Nat) (hj : j < bs.length) : w.cell? ⟨b,off + j,none⟩ = some (.int .u8 ((bs.getD j 0).toNat : Int)) := by
 obtain ⟨b',off',e,hc⟩ := h.at j hj
 cases e
 rw [hc]
 simp [List.getD,List.getElem?_eq_getElem hj]
theorem rowW_set (L : List Wd) (p : Nat) (v : Wd) : ((L.map W32).toArray.setIfInBounds p (.int .u32 (wi v))) = ((L.set p v).map W32).toArray := by
 apply Array.ext'
 simp only [Array.toList_setIfInBounds]
 rw [List.map_set]
theorem arrW_setIn (L : List Wd) (n p : Nat) (v : Wd) (h : L.length = n) : (arrW L n).setIfInBounds p (.int .u32 (wi v)) = arrW (L.set p v) n := by
 rw [arrW_full _ _ h,arrW_full _ _ (by simpa using h),rowW_set]
theorem mix_set (c s : List Wd) (i : Nat) (hi : i < c.length) (hs : s.length = c.length) : (c.take i ++ s.drop i).set i (c.getD i 0) = c.take (i + 1) ++ s.drop (i + 1) := by
 have hl : (c.take i).length = i := by simp; omega
 rw [List.set_append_right _ _ (by omega),hl,Nat.sub_self,List.drop_eq_getElem_cons (by omega),List.set_cons_zero,take_succD c i hi,List.append_assoc]
 rfl
theorem zip_getD (s v : List Wd) (i : Nat) (h : i < s.length) (h' : i < v.length) : (List.zipWith (· + ·) s v).getD i 0 = s.getD i 0 + v.getD i 0 := by
 simp [List.getD,List.getElem?_zipWith,List.getElem?_eq_getElem h,List.getElem?_eq_getElem h']
theorem bytesOf_get : ∀ (s : List Wd) (j r : Nat),j < s.length → r < 4 → (bytesOf s)[4 * j + r]? = some (lo8 (s.getD j 0 >>> (24 - 8 * r)))
 |[],j,r,h,_ => by simp at h
 |x :: s,0,r,_,hr => by
  have e : bytesOf (x :: s) = [lo8 (x >>> 24),lo8 (x >>> 16),lo8 (x >>> 8),lo8 x] ++ bytesOf s := rfl
  rw [e,List.getElem?_append_left (by simp; omega)]
  match r,hr with
  |0,_ => rfl
  |1,_ => rfl
  |2,_ => rfl
  |3,_ => simp
 |x :: s,j + 1,r,h,hr => by
  have e : bytesOf (x :: s) = [lo8 (x >>> 24),lo8 (x >>> 16),lo8 (x >>> 8),lo8 x] ++ bytesOf s := rfl
  rw [e,List.getElem?_append_right (by simp; omega)]
  have := bytesOf_get s j r (by simpa using h) hr
  rw [← show 4 * (j + 1) + r - [lo8 (x >>> 24),lo8 (x >>> 16),lo8 (x >>> 8),lo8 x].length = 4 * j + r by simp; omega] at this
  rw [this]
  simp [List.getD]
theorem take_succB (l : List UInt8) (k : Nat) (x : UInt8) (h : l[k]? = some x) : l.take (k + 1) = l.take k ++ [x] := by
 obtain ⟨hk,e⟩ := List.getElem?_eq_some_iff.1 h
 rw [List.take_succ_eq_append_getElem hk,e]
attribute [local go_sem high] wdv_and wdv_or wdv_xor wdv_not wdv_add wdv_shl wdv_shr wdv_to8 wdv_of8
theorem reg26 {s0 s1 s2 s3 s4 s5 s6 s8 s11 s13 s14 s15 s16 s17 s18 s19 s20 s21 s22 s23 s24 s25 s26 s27 s28 s29 s30 s31 s32 s33 s34 s35 s36 s37 s38 s39 s40 s41 s42 s43 s44 s45 s46 s47 s48 s49 s50 s51 s52 s53 s54 s55 s56 s57 s58 s59 s60 s61 s62 s63 s64 s65 s66 s67 s68 s69 s70 s71 s72 s73 s74 s75 s76 s77 s78 s79 s80 s81 s82 s83 s84 s85 s86 s87 s88 s89 s90 s91 s92 s93 s94 s95 s96 s97 s98 s99 s100 s101 s102 s103 s104 s105 s106 s107 s108 s109 s110 s111 s112 s113 s114 s115 s116 s117 s118 s119 s120 s121 s122 s123 s124 s125 s126 s127 s128 s129 s130 s131 s132 s133 s134 s135 s136 s137 s138 s139 s140 s141 s142 s143 s144 s145 s146 s147 s148 s149 s150 s151 s152 s153 s154 s155 s156 s157 s158 s159 s160 s161 s162 s163 s164 s165 s166 s167 s168 s169 s170 s171 s172 s173 s174 s175 s176 s177 s178 s179 s180 s181 s182 s183 s184 s185 s186 s187 s188 s189 s190 s191 s192 s193 s194 s195 s196 s197 s198 s199 s200 s201 s202 s203 s204 s205 s206 s207 s208 s209 s210 s211 s212 s213 s214 s215 s216 s217 s218 s219 s220 s221 s222 s223 s224 s225 s226 s227 s228 s229 s230 s231 s232 s233 s234 s235 s236 s237 s238 s239 s240 s241 s242 s243 s244 s245 s246 s247 s248 s249 s250 s251 s252 s253 s254 s255 s256 s257 s258 s259 s260 s261 s262 s263 s264 s265 s266 s267 s268 s269 s270 s271 s272 s273 s274 s275 s276 s277 s278 s279 s280 s281 s282 s283 : Value} {K : Act → World → Prop} {Q : Exit → Act → World → Prop} (wr : World) (Wb t b8 off8 L c8 p q0 r0 r1 r2 r3 : Nat) (x0 x1 x2 x3 : UInt8) (lt64 : (t : Int) < 64) (hneW : b8 ≠ Wb) (m0 : IntKind.i64.wrap (4 * (t : Int)) = (q0 : Int)) (m1 : IntKind.i64.wrap ((p : Int) + (q0 : Int)) = (r0 : Int)) (m2 : IntKind.i64.wrap ((r0 : Int) + 1) = (r1 : Int)) (m3 : IntKind.i64.wrap ((r0 : Int) + 2) = (r2 : Int)) (m4 : IntKind.i64.wrap ((r0 : Int) + 3) = (r3 : Int)) (n0 : (r0 : Int) < (L : Int)) (n1 : (r1 : Int) < (L : Int)) (n2 : (r2 : Int) < (L : Int)) (n3 : (r3 : Int) < (L : Int)) (k0 : wr.drew.cell? ⟨Wb,t,none⟩ = some (.int .u32 0)) (z0 : wr.drew.frozen? ⟨Wb,t,none⟩ = false) (c0 : wr.drew.cell? ⟨b8,off8 + r0,none⟩ = some (.int .u8 (x0.toNat : Int))) (c1 : wr.drew.cell? ⟨b8,off8 + r1,none⟩ = some (.int .u8 (x1.toNat : Int))) (c2 : wr.drew.cell? ⟨b8,off8 + r2,none⟩ = some (.int .u8 (x2.toNat : Int))) (c3 : wr.drew.cell? ⟨b8,off8 + r3,none⟩ = some (.int .u8 (x3.toNat : Int)))
  (hK : RowKit.Hid (∀ {u79 u80 u81 u82 u83 u84 u85 u86 u87 u88 u89 u90 u91 u92 u93 u94 u95 u96 u97 u98 u99 u100 u101 u102 u103 u104 u105 u106 u107 u108 u109 u110 u111 u112 u113 u114 u115 u116 u117 u118 u119 u120 u121 : Value} {w' : World},(w'.heap = (wr.setCell ⟨Wb,t,none⟩ (.int .u32 (wi (w8 x0 <<< 24 ||| w8 x1 <<< 16 ||| w8 x2 <<< 8 ||| w8 x3)))).heap ∧ Fr F0 (wr.setCell ⟨Wb,t,none⟩ (.int .u32 (wi (w8 x0 <<< 24 ||| w8 x1 <<< 16 ||| w8 x2 <<< 8 ||| w8 x3)))) w') → K ⟨#[s0,s1,s2,s3,s4,s5,s6,.slice (some ⟨b8,off8,none⟩) L c8,s8,.int .i64 p,.pointer (some ⟨Wb,0,none⟩),s11,.int .i64 t,s13,s14,s15,s16,s17,s18,s19,s20,s21,s22,s23,s24,s25,s26,s27,s28,s29,s30,s31,s32,s33,s34,s35,s36,s37,s38,s39,s40,s41,s42,s43,s44,s45,s46,s47,s48,s49,s50,s51,s52,s53,s54,s55,s56,s57,s58,s59,s60,s61,s62,s63,s64,s65,s66,s67,s68,s69,s70,s71,s72,s73,s74,s75,s76,s77,s78,u79,u80,u81,u82,u83,u84,u85,u86,u87,u88,u89,u90,u91,u92,u93,u94,u95,u96,u97,u98,u99,u100,u101,u102,u103,u104,u105,u106,u107,u108,u109,u110,u111,u112,u113,u114,u115,u116,u117,u118,u119,u120,u121,s122,s123,s124,s125,s126,s127,s128,s129,s130,s131,s132,s133,s134,s135,s136,s137,s138,s139,s140,s141,s142,s143,s144,s145,s146,s147,s148,s149,s150,s151,s152,s153,s154,s155,s156,s157,s158,s159,s160,s161,s162,s163,s164,s165,s166,s167,s168,s169,s170,s171,s172,s173,s174,s175,s176,s177,s178,s179,s180,s181,s182,s183,s184,s185,s186,s187,s188,s189,s190,s191,s192,s193,s194,s195,s196,s197,s198,s199,s200,s201,s202,s203,s204,s205,s206,s207,s208,s209,s210,s211,s212,s213,s214,s215,s216,s217,s218,s219,s220,s221,s222,s223,s224,s225,s226,s227,s228,s229,s230,s231,s232,s233,s234,s235,s236,s237,s238,s239,s240,s241,s242,s243,s244,s245,s246,s247,s248,s249,s250,s251,s252,s253,s254,s255,s256,s257,s258,s259,s260,s261,s262,s263,s264,s265,s266,s267,s268,s269,s270,s271,s272,s273,s274,s275,s276,s277,s278,s279,s280,s281,s282,s283],[]⟩ w')) :
  Code.wp Tryz.prog ((Tryz.f107.body.bind (findRegion 26)).getD .skip) (Exit.then K Q) ⟨#[s0,s1,s2,s3,s4,s5,s6,.slice (some ⟨b8,off8,none⟩) L c8,s8,.int .i64 p,.pointer (some ⟨Wb,0,none⟩),s11,.int .i64 t,s13,s14,s15,s16,s17,s18,s19,s20,s21,s22,s23,s24,s25,s26,s27,s28,s29,s30,s31,s32,s33,s34,s35,s36,s37,s38,s39,s40,s41,s42,s43,s44,s45,s46,s47,s48,s49,s50,s51,s52,s53,s54,s55,s56,s57,s58,s59,s60,s61,s62,s63,s64,s65,s66,s67,s68,s69,s70,s71,s72,s73,s74,s75,s76,s77,s78,s79,s80,s81,s82,s83,s84,s85,s86,s87,s88,s89,s90,s91,s92,s93,s94,s95,s96,s97,s98,s99,s100,s101,s102,s103,s104,s105,s106,s107,s108,s109,s110,s111,s112,s113,s114,s115,s116,s117,s118,s119,s120,s121,s122,s123,s124,s125,s126,s127,s128,s129,s130,s131,s132,s133,s134,s135,s136,s137,s138,s139,s140,s141,s142,s143,s144,s145,s146,s147,s148,s149,s150,s151,s152,s153,s154,s155,s156,s157,s158,s159,s160,s161,s162,s163,s164,s165,s166,s167,s168,s169,s170,s171,s172,s173,s174,s175,s176,s177,s178,s179,s180,s181,s182,s183,s184,s185,s186,s187,s188,s189,s190,s191,s192,s193,s194,s195,s196,s197,s198,s199,s200,s201,s202,s203,s204,s205,s206,s207,s208,s209,s210,s211,s212,s213,s214,s215,s216,s217,s218,s219,s220,s221,s222,s223,s224,s225,s226,s227,s228,s229,s230,s231,s232,s233,s234,s235,s236,s237,s238,s239,s240,s241,s242,s243,s244,s245,s246,s247,s248,s249,s250,s251,s252,s253,s254,s255,s256,s257,s258,s259,s260,s261,s262,s263,s264,s265,s266,s267,s268,s269,s270,s271,s272,s273,s274,s275,s276,s277,s278,s279,s280,s281,s282,s283],[]⟩ wr := by
 conv => arg 2; whnf
 refine rbegin (S := (fun w' => w'.cell? ⟨b8,off8 + r0,none⟩ = some (.int .u8 (x0.toNat : Int)) ∧ w'.cell? ⟨b8,off8 + r1,none⟩ = some (.int .u8 (x1.toNat : Int)) ∧ w'.cell? ⟨b8,off8 + r2,none⟩ = some (.int .u8 (x2.toNat : Int)) ∧ w'.cell? ⟨b8,off8 + r3,none⟩ = some (.int .u8 (x3.toNat : Int)))) ?_ fun hHeld => ?_
 ·((try dsimp only) <;> (exact ⟨c0,c1,c2,c3⟩))
 refine rtake 0 ?_
 refine rtake 1 ?_
 refine rtake 2 ?_
 refine rtake 3 ?_
 refine rtake 4 ?_
 refine rtake 5 ?_
 refine rtake 6 ?_
 refine rtake 7 ?_
 refine rtake 8 ?_
 refine rtake 9 ?_
 refine rtake 10 ?_
 refine rtake 11 ?_
 refine rtake 12 ?_
 refine rtake 13 ?_
 refine rtake 14 ?_
 refine rtake 15 ?_
 refine rtake 16 ?_
 refine rtake 17 ?_
 refine rtake 18 ?_
 refine rtake 19 ?_
 refine rtake 20 ?_
 refine rtake 21 ?_
 refine rtake 22 ?_
 refine rtake 23 ?_
 refine rtake 24 ?_
 refine rtake 25 ?_
 refine rtake 26 ?_
 refine rtake 27 ?_
 refine rtake 28 ?_
 refine rtake 29 ?_
 refine rtake 30 ?_
 refine rtake 31 ?_
 refine rtake 32 ?_
 refine rtake 33 ?_
 refine rtake 34 ?_
 refine rtake 35 ?_
 refine rtake 36 ?_
 refine rtake 37 ?_
 refine rtake 38 ?_
 refine rtake 39 ?_
 refine rtake 40 ?_
 refine rtake 41 ?_
 refine rtake 42 ?_
 refine rone 43 fun K hK => ?_
 go_simp
 refine hK.out _ _ ?_ (fun hHeld => ?_)
 ·((try dsimp only) <;> (first | exact ⟨c0,c1,c2,c3⟩ | (refine ⟨?_,?_,?_,?_⟩ <;> rw [cell_drew,cell_setCell_ne _ _ _ _ hneW] <;> assumption)))
 clear hK K
 try (simp only [Act.put,aST]; dsimp only [aS0,aS1])
 refine rdone ?_
 all_goals exact hK.out ⟨by simp only [heap_drew],(Fr.refl F0 _).drew⟩
attribute [local go_sem high] wdv_and wdv_or wdv_xor wdv_not wdv_add wdv_shl wdv_shr wdv_to8 wdv_of8
theorem reg27 {s0 s1 s2 s3 s4 s5 s6 s7 s8 s9 s11 s13 s14 s15 s16 s17 s18 s19 s20 s21 s22 s23 s24 s25 s26 s27 s28 s29 s30 s31 s32 s33 s34 s35 s36 s37 s38 s39 s40 s41 s42 s43 s44 s45 s46 s47 s48 s49 s50 s51 s52 s53 s54 s55 s56 s57 s58 s59 s60 s61 s62 s63 s64 s65 s66 s67 s68 s69 s70 s71 s72 s73 s74 s75 s76 s77 s78 s79 s80 s81 s82 s83 s84 s85 s86 s87 s88 s89 s90 s91 s92 s93 s94 s95 s96 s97 s98 s99 s100 s101 s102 s103 s104 s105 s106 s107 s108 s109 s110 s111 s112 s113 s114 s115 s116 s117 s118 s119 s120 s121 s122 s123 s124 s125 s126 s127 s128 s129 s130 s131 s132 s133 s134 s135 s136 s137 s138 s139 s140 s141 s142 s143 s144 s145 s146 s147 s148 s149 s150 s151 s152 s153 s154 s155 s156 s157 s158 s159 s160 s161 s162 s163 s164 s165 s166 s167 s168 s169 s170 s171 s172 s173 s174 s175 s176 s177 s178 s179 s180 s181 s182 s183 s184 s185 s186 s187 s188 s189 s190 s191 s192 s193 s194 s195 s196 s197 s198 s199 s200 s201 s202 s203 s204 s205 s206 s207 s208 s209 s210 s211 s212 s213 s214 s215 s216 s217 s218 s219 s220 s221 s222 s223 s224 s225 s226 s227 s228 s229 s230 s231 s232 s233 s234 s235 s236 s237 s238 s239 s240 s241 s242 s243 s244 s245 s246 s247 s248 s249 s250 s251 s252 s253 s254 s255 s256 s257 s258 s259 s260 s261 s262 s263 s264 s265 s266 s267 s268 s269 s270 s271 s272 s273 s274 s275 s276 s277 s278 s279 s280 s281 s282 s283 : Value} {K : Act → World → Prop} {Q : Exit → Act → World → Prop} (wr : World) (Wb t q2 q7 q15 q16 : Nat) (x2 x7 x15 x16 : Wd) (lt64 : (t : Int) < 64) (m2 : IntKind.i64.wrap ((t : Int) - 2) = (q2 : Int)) (m7 : IntKind.i64.wrap ((t : Int) - 7) = (q7 : Int)) (m15 : IntKind.i64.wrap ((t : Int) - 15) = (q15 : Int)) (m16 : IntKind.i64.wrap ((t : Int) - 16) = (q16 : Int)) (o2 : (q2 : Int) < 64) (o7 : (q7 : Int) < 64) (o15 : (q15 : Int) < 64) (o16 : (q16 : Int) < 64) (n2 : q2 ≠ t) (n7 : q7 ≠ t) (n15 : q15 ≠ t) (n16 : q16 ≠ t) (k0 : wr.drew.cell? ⟨Wb,t,none⟩ = some (.int .u32 0)) (z0 : wr.drew.frozen? ⟨Wb,t,none⟩ = false) (d2 : wr.drew.cell? ⟨Wb,q2,none⟩ = some (.int .u32 (wi x2))) (d7 : wr.drew.cell? ⟨Wb,q7,none⟩ = some (.int .u32 (wi x7))) (d15 : wr.drew.cell? ⟨Wb,q15,none⟩ = some (.int .u32 (wi x15))) (d16 : wr.drew.cell? ⟨Wb,q16,none⟩ = some (.int .u32 (wi x16)))
  (hK : RowKit.Hid (∀ {u122 u123 u124 u125 u126 u127 u128 u129 u130 u131 u132 u133 u134 u135 u136 u137 u138 u139 u140 u141 u142 u143 u144 u145 u146 u147 u148 u149 u150 u151 u152 u153 u154 u155 u156 u157 u158 u159 u160 u161 u162 u163 u164 u165 u166 u167 u168 : Value} {w' : World},(w'.heap = (wr.setCell ⟨Wb,t,none⟩ (.int .u32 (wi ((rotr x2 17 ^^^ rotr x2 19 ^^^ x2 >>> 10) + x7 + (rotr x15 7 ^^^ rotr x15 18 ^^^ x15 >>> 3) + x16)))).heap ∧ Fr F0 (wr.setCell ⟨Wb,t,none⟩ (.int .u32 (wi ((rotr x2 17 ^^^ rotr x2 19 ^^^ x2 >>> 10) + x7 + (rotr x15 7 ^^^ rotr x15 18 ^^^ x15 >>> 3) + x16)))) w') → K ⟨#[s0,s1,s2,s3,s4,s5,s6,s7,s8,s9,.pointer (some ⟨Wb,0,none⟩),s11,.int .i64 t,s13,s14,s15,s16,s17,s18,s19,s20,s21,s22,s23,s24,s25,s26,s27,s28,s29,s30,s31,s32,s33,s34,s35,s36,s37,s38,s39,s40,s41,s42,s43,s44,s45,s46,s47,s48,s49,s50,s51,s52,s53,s54,s55,s56,s57,s58,s59,s60,s61,s62,s63,s64,s65,s66,s67,s68,s69,s70,s71,s72,s73,s74,s75,s76,s77,s78,s79,s80,s81,s82,s83,s84,s85,s86,s87,s88,s89,s90,s91,s92,s93,s94,s95,s96,s97,s98,s99,s100,s101,s102,s103,s104,s105,s106,s107,s108,s109,s110,s111,s112,s113,s114,s115,s116,s117,s118,s119,s120,s121,u122,u123,u124,u125,u126,u127,u128,u129,u130,u131,u132,u133,u134,u135,u136,u137,u138,u139,u140,u141,u142,u143,u144,u145,u146,u147,u148,u149,u150,u151,u152,u153,u154,u155,u156,u157,u158,u159,u160,u161,u162,u163,u164,u165,u166,u167,u168,s169,s170,s171,s172,s173,s174,s175,s176,s177,s178,s179,s180,s181,s182,s183,s184,s185,s186,s187,s188,s189,s190,s191,s192,s193,s194,s195,s196,s197,s198,s199,s200,s201,s202,s203,s204,s205,s206,s207,s208,s209,s210,s211,s212,s213,s214,s215,s216,s217,s218,s219,s220,s221,s222,s223,s224,s225,s226,s227,s228,s229,s230,s231,s232,s233,s234,s235,s236,s237,s238,s239,s240,s241,s242,s243,s244,s245,s246,s247,s248,s249,s250,s251,s252,s253,s254,s255,s256,s257,s258,s259,s260,s261,s262,s263,s264,s265,s266,s267,s268,s269,s270,s271,s272,s273,s274,s275,s276,s277,s278,s279,s280,s281,s282,s283],[]⟩ w')) :
  Code.wp Tryz.prog ((Tryz.f107.body.bind (findRegion 27)).getD .skip) (Exit.then K Q) ⟨#[s0,s1,s2,s3,s4,s5,s6,s7,s8,s9,.pointer (some ⟨Wb,0,none⟩),s11,.int .i64 t,s13,s14,s15,s16,s17,s18,s19,s20,s21,s22,s23,s24,s25,s26,s27,s28,s29,s30,s31,s32,s33,s34,s35,s36,s37,s38,s39,s40,s41,s42,s43,s44,s45,s46,s47,s48,s49,s50,s51,s52,s53,s54,s55,s56,s57,s58,s59,s60,s61,s62,s63,s64,s65,s66,s67,s68,s69,s70,s71,s72,s73,s74,s75,s76,s77,s78,s79,s80,s81,s82,s83,s84,s85,s86,s87,s88,s89,s90,s91,s92,s93,s94,s95,s96,s97,s98,s99,s100,s101,s102,s103,s104,s105,s106,s107,s108,s109,s110,s111,s112,s113,s114,s115,s116,s117,s118,s119,s120,s121,s122,s123,s124,s125,s126,s127,s128,s129,s130,s131,s132,s133,s134,s135,s136,s137,s138,s139,s140,s141,s142,s143,s144,s145,s146,s147,s148,s149,s150,s151,s152,s153,s154,s155,s156,s157,s158,s159,s160,s161,s162,s163,s164,s165,s166,s167,s168,s169,s170,s171,s172,s173,s174,s175,s176,s177,s178,s179,s180,s181,s182,s183,s184,s185,s186,s187,s188,s189,s190,s191,s192,s193,s194,s195,s196,s197,s198,s199,s200,s201,s202,s203,s204,s205,s206,s207,s208,s209,s210,s211,s212,s213,s214,s215,s216,s217,s218,s219,s220,s221,s222,s223,s224,s225,s226,s227,s228,s229,s230,s231,s232,s233,s234,s235,s236,s237,s238,s239,s240,s241,s242,s243,s244,s245,s246,s247,s248,s249,s250,s251,s252,s253,s254,s255,s256,s257,s258,s259,s260,s261,s262,s263,s264,s265,s266,s267,s268,s269,s270,s271,s272,s273,s274,s275,s276,s277,s278,s279,s280,s281,s282,s283],[]⟩ wr := by
 conv => arg 2; whnf
 refine rbegin (S := (fun w' => w'.cell? ⟨Wb,q2,none⟩ = some (.int .u32 (wi x2)) ∧ w'.cell? ⟨Wb,q7,none⟩ = some (.int .u32 (wi x7)) ∧ w'.cell? ⟨Wb,q15,none⟩ = some (.int .u32 (wi x15)) ∧ w'.cell? ⟨Wb,q16,none⟩ = some (.int .u32 (wi x16)))) ?_ fun hHeld => ?_
 ·((try dsimp only) <;> (exact ⟨d2,d7,d15,d16⟩))
 refine rtake 0 ?_
 refine rtake 1 ?_
 refine rtake 2 ?_
 refine rtake 3 ?_
 refine rtake 4 ?_
 refine rtake 6 ?_
 refine rtake 7 ?_
 refine rtake 8 ?_
 refine rtake 9 ?_
 refine rtake 12 ?_
 refine rtake 13 ?_
 refine rtake 14 ?_
 refine rtake 15 ?_
 refine rtake 16 ?_
 refine rtake 18 ?_
 refine rtake 19 ?_
 refine rtake 20 ?_
 refine rtake 21 ?_
 refine rtake 23 ?_
 refine rtake 24 ?_
 refine rtake 25 ?_
 refine rtake 26 ?_
 refine rtake 28 ?_
 refine rtake 29 ?_
 refine rtake 30 ?_
 refine rtake 31 ?_
 refine rtake 34 ?_
 refine rtake 35 ?_
 refine rtake 36 ?_
 refine rtake 37 ?_
 refine rtake 38 ?_
 refine rtake 41 ?_
 refine rtake 42 ?_
 refine rtake 43 ?_
 refine rtake 44 ?_
 refine rone 5 fun K hK => ?_
 go_simp
 (refine (r2turn_any x2 17 _ (by omega) (by omega)).mono ?_; rintro e w5 ⟨rfl,rfl⟩)
 refine hK.out _ _ ?_ (fun hHeld => ?_)
 ·((try dsimp only) <;> (first | exact ⟨d2,d7,d15,d16⟩ | (refine ⟨?_,?_,?_,?_⟩ <;> (simp only [cell_drew]; rw [cell_set_off _ _ _ _ _ (by assumption)]; assumption))))
 clear hK K
 try (simp only [Act.put,aST]; dsimp only [aS0,aS1])
 refine rone 10 fun K hK => ?_
 go_simp
 (refine (r2turn_any x2 19 _ (by omega) (by omega)).mono ?_; rintro e w5 ⟨rfl,rfl⟩)
 refine hK.out _ _ ?_ (fun hHeld => ?_)
 ·((try dsimp only) <;> (first | exact ⟨d2,d7,d15,d16⟩ | (refine ⟨?_,?_,?_,?_⟩ <;> (simp only [cell_drew]; rw [cell_set_off _ _ _ _ _ (by assumption)]; assumption))))
 clear hK K
 try (simp only [Act.put,aST]; dsimp only [aS0,aS1])
 refine rtake 11 ?_
 refine rtake 17 ?_
 refine rtake 22 ?_
 refine rone 27 fun K hK => ?_
 go_simp
 (refine (r2turn_any x15 7 _ (by omega) (by omega)).mono ?_; rintro e w5 ⟨rfl,rfl⟩)
 refine hK.out _ _ ?_ (fun hHeld => ?_)
 ·((try dsimp only) <;> (first | exact ⟨d2,d7,d15,d16⟩ | (refine ⟨?_,?_,?_,?_⟩ <;> (simp only [cell_drew]; rw [cell_set_off _ _ _ _ _ (by assumption)]; assumption))))
 clear hK K
 try (simp only [Act.put,aST]; dsimp only [aS0,aS1])
 refine rone 32 fun K hK => ?_
 go_simp
 (refine (r2turn_any x15 18 _ (by omega) (by omega)).mono ?_; rintro e w5 ⟨rfl,rfl⟩)
 refine hK.out _ _ ?_ (fun hHeld => ?_)
 ·((try dsimp only) <;> (first | exact ⟨d2,d7,d15,d16⟩ | (refine ⟨?_,?_,?_,?_⟩ <;> (simp only [cell_drew]; rw [cell_set_off _ _ _ _ _ (by assumption)]; assumption))))
 clear hK K
 try (simp only [Act.put,aST]; dsimp only [aS0,aS1])
 refine rtake 33 ?_
 refine rtake 39 ?_
 refine rtake 40 ?_
 refine rtake 45 ?_
 refine rtake 46 ?_
 refine rone 47 fun K hK => ?_
 go_simp
 refine hK.out _ _ ?_ (fun hHeld => ?_)
 ·((try dsimp only) <;> (first | exact ⟨d2,d7,d15,d16⟩ | (refine ⟨?_,?_,?_,?_⟩ <;> (simp only [cell_drew]; rw [cell_set_off _ _ _ _ _ (by assumption)]; assumption))))
 clear hK K
 try (simp only [Act.put,aST]; dsimp only [aS0,aS1])
 refine rdone ?_
 all_goals exact hK.out ⟨by simp only [heap_drew],(Fr.refl F0 _).drew.drew.drew.drew.drew⟩
attribute [local go_sem high] wdv_and wdv_or wdv_xor wdv_not wdv_add wdv_shl wdv_shr wdv_to8 wdv_of8
theorem reg28 {s0 s1 s2 s4 s5 s6 s7 s8 s9 s13 s14 s15 s16 s17 s18 s19 s20 s21 s22 s23 s24 s25 s26 s27 s28 s29 s30 s31 s32 s33 s34 s35 s36 s37 s38 s39 s40 s41 s42 s43 s44 s45 s46 s47 s48 s49 s50 s51 s52 s53 s54 s55 s56 s57 s58 s59 s60 s61 s62 s63 s64 s65 s66 s67 s68 s69 s70 s71 s72 s73 s74 s75 s76 s77 s78 s79 s80 s81 s82 s83 s84 s85 s86 s87 s88 s89 s90 s91 s92 s93 s94 s95 s96 s97 s98 s99 s100 s101 s102 s103 s104 s105 s106 s107 s108 s109 s110 s111 s112 s113 s114 s115 s116 s117 s118 s119 s120 s121 s122 s123 s124 s125 s126 s127 s128 s129 s130 s131 s132 s133 s134 s135 s136 s137 s138 s139 s140 s141 s142 s143 s144 s145 s146 s147 s148 s149 s150 s151 s152 s153 s154 s155 s156 s157 s158 s159 s160 s161 s162 s163 s164 s165 s166 s167 s168 s169 s170 s171 s172 s173 s174 s175 s176 s177 s178 s179 s180 s181 s182 s183 s184 s185 s186 s187 s188 s189 s190 s191 s192 s193 s194 s195 s196 s197 s198 s199 s200 s201 s202 s203 s204 s205 s206 s207 s208 s209 s210 s211 s212 s213 s214 s215 s216 s217 s218 s219 s220 s221 s222 s223 s224 s225 s226 s227 s228 s229 s230 s231 s232 s233 s234 s235 s236 s237 s238 s239 s240 s241 s242 s243 s244 s245 s246 s247 s248 s249 s250 s251 s252 s253 s254 s255 s256 s257 s258 s259 s260 s261 s262 s263 s264 s265 s266 s267 s268 s269 s270 s271 s272 s273 s274 s275 s276 s277 s278 s279 s280 s281 s282 s283 : Value} {K : Act → World → Prop} {Q : Exit → Act → World → Prop} (wo : World) (Kb Wb Vb t : Nat) (xe xf xg xh kq x : Wd) (lt64 : (t : Int) < 64) (d4 : wo.cell? ⟨Vb,4,none⟩ = some (.int .u32 (wi xe))) (d5 : wo.cell? ⟨Vb,5,none⟩ = some (.int .u32 (wi xf))) (d6 : wo.cell? ⟨Vb,6,none⟩ = some (.int .u32 (wi xg))) (d7 : wo.cell? ⟨Vb,7,none⟩ = some (.int .u32 (wi xh))) (dk : wo.cell? ⟨Kb,t,none⟩ = some (.int .u32 (wi kq))) (dw : wo.cell? ⟨Wb,t,none⟩ = some (.int .u32 (wi x)))
  (hK : RowKit.Hid (∀ {u13 u169 u170 u171 u172 u173 u174 u175 u176 u177 u178 u179 u180 u181 u182 u183 u184 u185 u186 u187 u188 u189 u190 u191 u192 u193 u194 u195 u196 u197 u198 u199 u200 u201 u202 u203 : Value} {w' : World},(u13 = .int .u32 (wi (xh + (rotr xe 6 ^^^ rotr xe 11 ^^^ rotr xe 25) + (xe &&& xf ^^^ ~~~ xe &&& xg) + kq + x)) ∧ w'.heap = wo.heap ∧ Fr F0 wo w') → K ⟨#[s0,s1,s2,.pointer (some ⟨Kb,0,none⟩),s4,s5,s6,s7,s8,s9,.pointer (some ⟨Wb,0,none⟩),.pointer (some ⟨Vb,0,none⟩),.int .i64 t,u13,s14,s15,s16,s17,s18,s19,s20,s21,s22,s23,s24,s25,s26,s27,s28,s29,s30,s31,s32,s33,s34,s35,s36,s37,s38,s39,s40,s41,s42,s43,s44,s45,s46,s47,s48,s49,s50,s51,s52,s53,s54,s55,s56,s57,s58,s59,s60,s61,s62,s63,s64,s65,s66,s67,s68,s69,s70,s71,s72,s73,s74,s75,s76,s77,s78,s79,s80,s81,s82,s83,s84,s85,s86,s87,s88,s89,s90,s91,s92,s93,s94,s95,s96,s97,s98,s99,s100,s101,s102,s103,s104,s105,s106,s107,s108,s109,s110,s111,s112,s113,s114,s115,s116,s117,s118,s119,s120,s121,s122,s123,s124,s125,s126,s127,s128,s129,s130,s131,s132,s133,s134,s135,s136,s137,s138,s139,s140,s141,s142,s143,s144,s145,s146,s147,s148,s149,s150,s151,s152,s153,s154,s155,s156,s157,s158,s159,s160,s161,s162,s163,s164,s165,s166,s167,s168,u169,u170,u171,u172,u173,u174,u175,u176,u177,u178,u179,u180,u181,u182,u183,u184,u185,u186,u187,u188,u189,u190,u191,u192,u193,u194,u195,u196,u197,u198,u199,u200,u201,u202,u203,s204,s205,s206,s207,s208,s209,s210,s211,s212,s213,s214,s215,s216,s217,s218,s219,s220,s221,s222,s223,s224,s225,s226,s227,s228,s229,s230,s231,s232,s233,s234,s235,s236,s237,s238,s239,s240,s241,s242,s243,s244,s245,s246,s247,s248,s249,s250,s251,s252,s253,s254,s255,s256,s257,s258,s259,s260,s261,s262,s263,s264,s265,s266,s267,s268,s269,s270,s271,s272,s273,s274,s275,s276,s277,s278,s279,s280,s281,s282,s283],[]⟩ w')) :
  Code.wp Tryz.prog ((Tryz.f107.body.bind (findRegion 28)).getD .skip) (Exit.then K Q) ⟨#[s0,s1,s2,.pointer (some ⟨Kb,0,none⟩),s4,s5,s6,s7,s8,s9,.pointer (some ⟨Wb,0,none⟩),.pointer (some ⟨Vb,0,none⟩),.int .i64 t,s13,s14,s15,s16,s17,s18,s19,s20,s21,s22,s23,s24,s25,s26,s27,s28,s29,s30,s31,s32,s33,s34,s35,s36,s37,s38,s39,s40,s41,s42,s43,s44,s45,s46,s47,s48,s49,s50,s51,s52,s53,s54,s55,s56,s57,s58,s59,s60,s61,s62,s63,s64,s65,s66,s67,s68,s69,s70,s71,s72,s73,s74,s75,s76,s77,s78,s79,s80,s81,s82,s83,s84,s85,s86,s87,s88,s89,s90,s91,s92,s93,s94,s95,s96,s97,s98,s99,s100,s101,s102,s103,s104,s105,s106,s107,s108,s109,s110,s111,s112,s113,s114,s115,s116,s117,s118,s119,s120,s121,s122,s123,s124,s125,s126,s127,s128,s129,s130,s131,s132,s133,s134,s135,s136,s137,s138,s139,s140,s141,s142,s143,s144,s145,s146,s147,s148,s149,s150,s151,s152,s153,s154,s155,s156,s157,s158,s159,s160,s161,s162,s163,s164,s165,s166,s167,s168,s169,s170,s171,s172,s173,s174,s175,s176,s177,s178,s179,s180,s181,s182,s183,s184,s185,s186,s187,s188,s189,s190,s191,s192,s193,s194,s195,s196,s197,s198,s199,s200,s201,s202,s203,s204,s205,s206,s207,s208,s209,s210,s211,s212,s213,s214,s215,s216,s217,s218,s219,s220,s221,s222,s223,s224,s225,s226,s227,s228,s229,s230,s231,s232,s233,s234,s235,s236,s237,s238,s239,s240,s241,s242,s243,s244,s245,s246,s247,s248,s249,s250,s251,s252,s253,s254,s255,s256,s257,s258,s259,s260,s261,s262,s263,s264,s265,s266,s267,s268,s269,s270,s271,s272,s273,s274,s275,s276,s277,s278,s279,s280,s281,s282,s283],[]⟩ wo := by
 conv => arg 2; whnf
 refine rbegin (S := (fun w' => w'.cell? ⟨Vb,4,none⟩ = some (.int .u32 (wi xe)) ∧ w'.cell? ⟨Vb,5,none⟩ = some (.int .u32 (wi xf)) ∧ w'.cell? ⟨Vb,6,none⟩ = some (.int .u32 (wi xg)) ∧ w'.cell? ⟨Vb,7,none⟩ = some (.int .u32 (wi xh)) ∧ w'.cell? ⟨Kb,t,none⟩ = some (.int .u32 (wi kq)) ∧ w'.cell? ⟨Wb,t,none⟩ = some (.int .u32 (wi x)))) ?_ fun hHeld => ?_
 ·((try dsimp only) <;> (exact ⟨d4,d5,d6,d7,dk,dw⟩))
 refine rtake 0 ?_
 refine rtake 1 ?_
 refine rtake 2 ?_
 refine rtake 3 ?_
 refine rtake 5 ?_
 refine rtake 6 ?_
 refine rtake 9 ?_
 refine rtake 10 ?_
 refine rtake 14 ?_
 refine rtake 15 ?_
 refine rtake 16 ?_
 refine rtake 17 ?_
 refine rtake 18 ?_
 refine rtake 19 ?_
 refine rtake 20 ?_
 refine rtake 21 ?_
 refine rtake 22 ?_
 refine rtake 23 ?_
 refine rtake 24 ?_
 refine rtake 25 ?_
 refine rtake 27 ?_
 refine rtake 28 ?_
 refine rtake 29 ?_
 refine rtake 31 ?_
 refine rtake 32 ?_
 refine rtake 33 ?_
 refine rone 4 fun K hK => ?_
 go_simp
 (refine (r2turn_any xe 6 _ (by omega) (by omega)).mono ?_; rintro e w5 ⟨rfl,rfl⟩)
 refine hK.out _ _ ?_ (fun hHeld => ?_)
 ·((try dsimp only) <;> (exact ⟨d4,d5,d6,d7,dk,dw⟩))
 clear hK K
 try (simp only [Act.put,aST]; dsimp only [aS0,aS1])
 refine rone 7 fun K hK => ?_
 go_simp
 (refine (r2turn_any xe 11 _ (by omega) (by omega)).mono ?_; rintro e w5 ⟨rfl,rfl⟩)
 refine hK.out _ _ ?_ (fun hHeld => ?_)
 ·((try dsimp only) <;> (exact ⟨d4,d5,d6,d7,dk,dw⟩))
 clear hK K
 try (simp only [Act.put,aST]; dsimp only [aS0,aS1])
 refine rtake 8 ?_
 refine rone 11 fun K hK => ?_
 go_simp
 (refine (r2turn_any xe 25 _ (by omega) (by omega)).mono ?_; rintro e w5 ⟨rfl,rfl⟩)
 refine hK.out _ _ ?_ (fun hHeld => ?_)
 ·((try dsimp only) <;> (exact ⟨d4,d5,d6,d7,dk,dw⟩))
 clear hK K
 try (simp only [Act.put,aST]; dsimp only [aS0,aS1])
 refine rtake 12 ?_
 refine rtake 13 ?_
 refine rtake 26 ?_
 refine rtake 30 ?_
 refine rtake 34 ?_
 refine rtake 35 ?_
 refine rdone ?_
 all_goals exact hK.out ⟨rfl,rfl,(Fr.refl F0 wo).drew.drew.drew.drew⟩
attribute [local go_sem high] wdv_and wdv_or wdv_xor wdv_not wdv_add wdv_shl wdv_shr wdv_to8 wdv_of8
theorem reg29 {s0 s1 s2 s3 s4 s5 s6 s7 s8 s9 s10 s12 s13 s14 s15 s16 s17 s18 s19 s20 s21 s22 s23 s24 s25 s26 s27 s28 s29 s30 s31 s32 s33 s34 s35 s36 s37 s38 s39 s40 s41 s42 s43 s44 s45 s46 s47 s48 s49 s50 s51 s52 s53 s54 s55 s56 s57 s58 s59 s60 s61 s62 s63 s64 s65 s66 s67 s68 s69 s70 s71 s72 s73 s74 s75 s76 s77 s78 s79 s80 s81 s82 s83 s84 s85 s86 s87 s88 s89 s90 s91 s92 s93 s94 s95 s96 s97 s98 s99 s100 s101 s102 s103 s104 s105 s106 s107 s108 s109 s110 s111 s112 s113 s114 s115 s116 s117 s118 s119 s120 s121 s122 s123 s124 s125 s126 s127 s128 s129 s130 s131 s132 s133 s134 s135 s136 s137 s138 s139 s140 s141 s142 s143 s144 s145 s146 s147 s148 s149 s150 s151 s152 s153 s154 s155 s156 s157 s158 s159 s160 s161 s162 s163 s164 s165 s166 s167 s168 s169 s170 s171 s172 s173 s174 s175 s176 s177 s178 s179 s180 s181 s182 s183 s184 s185 s186 s187 s188 s189 s190 s191 s192 s193 s194 s195 s196 s197 s198 s199 s200 s201 s202 s203 s204 s205 s206 s207 s208 s209 s210 s211 s212 s213 s214 s215 s216 s217 s218 s219 s220 s221 s222 s223 s224 s225 s226 s227 s228 s229 s230 s231 s232 s233 s234 s235 s236 s237 s238 s239 s240 s241 s242 s243 s244 s245 s246 s247 s248 s249 s250 s251 s252 s253 s254 s255 s256 s257 s258 s259 s260 s261 s262 s263 s264 s265 s266 s267 s268 s269 s270 s271 s272 s273 s274 s275 s276 s277 s278 s279 s280 s281 s282 s283 : Value} {K : Act → World → Prop} {Q : Exit → Act → World → Prop} (wo : World) (Vb : Nat) (xa xb xc : Wd) (d0 : wo.cell? ⟨Vb,0,none⟩ = some (.int .u32 (wi xa))) (d1 : wo.cell? ⟨Vb,1,none⟩ = some (.int .u32 (wi xb))) (d2 : wo.cell? ⟨Vb,2,none⟩ = some (.int .u32 (wi xc)))
  (hK : RowKit.Hid (∀ {u14 u204 u205 u206 u207 u208 u209 u210 u211 u212 u213 u214 u215 u216 u217 u218 u219 u220 u221 u222 u223 u224 u225 u226 u227 u228 u229 u230 u231 u232 : Value} {w' : World},(u14 = .int .u32 (wi ((rotr xa 2 ^^^ rotr xa 13 ^^^ rotr xa 22) + (xa &&& xb ^^^ xa &&& xc ^^^ xb &&& xc))) ∧ w'.heap = wo.heap ∧ Fr F0 wo w') → K ⟨#[s0,s1,s2,s3,s4,s5,s6,s7,s8,s9,s10,.pointer (some ⟨Vb,0,none⟩),s12,s13,u14,s15,s16,s17,s18,s19,s20,s21,s22,s23,s24,s25,s26,s27,s28,s29,s30,s31,s32,s33,s34,s35,s36,s37,s38,s39,s40,s41,s42,s43,s44,s45,s46,s47,s48,s49,s50,s51,s52,s53,s54,s55,s56,s57,s58,s59,s60,s61,s62,s63,s64,s65,s66,s67,s68,s69,s70,s71,s72,s73,s74,s75,s76,s77,s78,s79,s80,s81,s82,s83,s84,s85,s86,s87,s88,s89,s90,s91,s92,s93,s94,s95,s96,s97,s98,s99,s100,s101,s102,s103,s104,s105,s106,s107,s108,s109,s110,s111,s112,s113,s114,s115,s116,s117,s118,s119,s120,s121,s122,s123,s124,s125,s126,s127,s128,s129,s130,s131,s132,s133,s134,s135,s136,s137,s138,s139,s140,s141,s142,s143,s144,s145,s146,s147,s148,s149,s150,s151,s152,s153,s154,s155,s156,s157,s158,s159,s160,s161,s162,s163,s164,s165,s166,s167,s168,s169,s170,s171,s172,s173,s174,s175,s176,s177,s178,s179,s180,s181,s182,s183,s184,s185,s186,s187,s188,s189,s190,s191,s192,s193,s194,s195,s196,s197,s198,s199,s200,s201,s202,s203,u204,u205,u206,u207,u208,u209,u210,u211,u212,u213,u214,u215,u216,u217,u218,u219,u220,u221,u222,u223,u224,u225,u226,u227,u228,u229,u230,u231,u232,s233,s234,s235,s236,s237,s238,s239,s240,s241,s242,s243,s244,s245,s246,s247,s248,s249,s250,s251,s252,s253,s254,s255,s256,s257,s258,s259,s260,s261,s262,s263,s264,s265,s266,s267,s268,s269,s270,s271,s272,s273,s274,s275,s276,s277,s278,s279,s280,s281,s282,s283],[]⟩ w')) :
  Code.wp Tryz.prog ((Tryz.f107.body.bind (findRegion 29)).getD .skip) (Exit.then K Q) ⟨#[s0,s1,s2,s3,s4,s5,s6,s7,s8,s9,s10,.pointer (some ⟨Vb,0,none⟩),s12,s13,s14,s15,s16,s17,s18,s19,s20,s21,s22,s23,s24,s25,s26,s27,s28,s29,s30,s31,s32,s33,s34,s35,s36,s37,s38,s39,s40,s41,s42,s43,s44,s45,s46,s47,s48,s49,s50,s51,s52,s53,s54,s55,s56,s57,s58,s59,s60,s61,s62,s63,s64,s65,s66,s67,s68,s69,s70,s71,s72,s73,s74,s75,s76,s77,s78,s79,s80,s81,s82,s83,s84,s85,s86,s87,s88,s89,s90,s91,s92,s93,s94,s95,s96,s97,s98,s99,s100,s101,s102,s103,s104,s105,s106,s107,s108,s109,s110,s111,s112,s113,s114,s115,s116,s117,s118,s119,s120,s121,s122,s123,s124,s125,s126,s127,s128,s129,s130,s131,s132,s133,s134,s135,s136,s137,s138,s139,s140,s141,s142,s143,s144,s145,s146,s147,s148,s149,s150,s151,s152,s153,s154,s155,s156,s157,s158,s159,s160,s161,s162,s163,s164,s165,s166,s167,s168,s169,s170,s171,s172,s173,s174,s175,s176,s177,s178,s179,s180,s181,s182,s183,s184,s185,s186,s187,s188,s189,s190,s191,s192,s193,s194,s195,s196,s197,s198,s199,s200,s201,s202,s203,s204,s205,s206,s207,s208,s209,s210,s211,s212,s213,s214,s215,s216,s217,s218,s219,s220,s221,s222,s223,s224,s225,s226,s227,s228,s229,s230,s231,s232,s233,s234,s235,s236,s237,s238,s239,s240,s241,s242,s243,s244,s245,s246,s247,s248,s249,s250,s251,s252,s253,s254,s255,s256,s257,s258,s259,s260,s261,s262,s263,s264,s265,s266,s267,s268,s269,s270,s271,s272,s273,s274,s275,s276,s277,s278,s279,s280,s281,s282,s283],[]⟩ wo := by
 conv => arg 2; whnf
 refine rbegin (S := (fun w' => w'.cell? ⟨Vb,0,none⟩ = some (.int .u32 (wi xa)) ∧ w'.cell? ⟨Vb,1,none⟩ = some (.int .u32 (wi xb)) ∧ w'.cell? ⟨Vb,2,none⟩ = some (.int .u32 (wi xc)))) ?_ fun hHeld => ?_
 ·((try dsimp only) <;> (exact ⟨d0,d1,d2⟩))
 refine rtake 0 ?_
 refine rtake 1 ?_
 refine rtake 3 ?_
 refine rtake 4 ?_
 refine rtake 7 ?_
 refine rtake 8 ?_
 refine rtake 11 ?_
 refine rtake 12 ?_
 refine rtake 13 ?_
 refine rtake 14 ?_
 refine rtake 15 ?_
 refine rtake 16 ?_
 refine rtake 17 ?_
 refine rtake 18 ?_
 refine rtake 19 ?_
 refine rtake 20 ?_
 refine rtake 21 ?_
 refine rtake 22 ?_
 refine rtake 23 ?_
 refine rtake 24 ?_
 refine rtake 25 ?_
 refine rtake 26 ?_
 refine rtake 27 ?_
 refine rone 2 fun K hK => ?_
 go_simp
 (refine (r2turn_any xa 2 _ (by omega) (by omega)).mono ?_; rintro e w5 ⟨rfl,rfl⟩)
 refine hK.out _ _ ?_ (fun hHeld => ?_)
 ·((try dsimp only) <;> (exact ⟨d0,d1,d2⟩))
 clear hK K
 try (simp only [Act.put,aST]; dsimp only [aS0,aS1])
 refine rone 5 fun K hK => ?_
 go_simp
 (refine (r2turn_any xa 13 _ (by omega) (by omega)).mono ?_; rintro e w5 ⟨rfl,rfl⟩)
 refine hK.out _ _ ?_ (fun hHeld => ?_)
 ·((try dsimp only) <;> (exact ⟨d0,d1,d2⟩))
 clear hK K
 try (simp only [Act.put,aST]; dsimp only [aS0,aS1])
 refine rtake 6 ?_
 refine rone 9 fun K hK => ?_
 go_simp
 (refine (r2turn_any xa 22 _ (by omega) (by omega)).mono ?_; rintro e w5 ⟨rfl,rfl⟩)
 refine hK.out _ _ ?_ (fun hHeld => ?_)
 ·((try dsimp only) <;> (exact ⟨d0,d1,d2⟩))
 clear hK K
 try (simp only [Act.put,aST]; dsimp only [aS0,aS1])
 refine rtake 10 ?_
 refine rtake 28 ?_
 refine rtake 29 ?_
 refine rdone ?_
 all_goals exact hK.out ⟨rfl,rfl,(Fr.refl F0 wo).drew.drew.drew.drew⟩
attribute [local go_sem high] wdv_and wdv_or wdv_xor wdv_not wdv_add wdv_shl wdv_shr wdv_to8 wdv_of8
theorem Bs.atD {w : World} {a : Addr} {c : Nat} {bs : List UInt8} {b off : Nat} (h : Bs w (some ⟨b,off,none⟩) c bs) (j : Nat) (hj : j < bs.length) : w.cell? ⟨b,off + j,none⟩ = some (.int .u8 ((bs.getD j 0).toNat : Int)) := by
 obtain ⟨b',off',e,hc⟩ := h.at j hj
 cases e
 rw [hc]
 simp [List.getD,List.getElem?_eq_getElem hj]
theorem schedule_any (a : Option Addr) (c : Nat) (bs : List UInt8) (hl : bs.length = 64) (w : World) (h : Bs w a c bs) :
  Calls Tryz.prog 132 #[.slice a 64 c] w fun e w' => e = .returned (.agg ((sch bs 64).map W32).toArray) ∧ Fr F0 w w' := by
 obtain ⟨b,off,rfl,hc⟩ := h.cells (by intro e; simp [e] at hl)
 have hlt : b < w.heap.size := World.block_lt_of_cell? w _ (hc 0 (by omega))
 have HB := Lib.hid h
 clear h hc
 go_enter Tryz.func132,Tryz.ntmps132
 go_wp2_with fail
 generalize hX : w.heap.size + 1 = X
 go_loopw [10] (fun i wr => ∃ k : Nat,k ≤ 16 ∧ i = .int .i64 k ∧ wr.heap[X]? = some (.cells (arrW (sch bs k) 64) 187 (0,0)) ∧ (∃ cs,wr.heap[w.heap.size]? = some (.cells cs 187 (0,0)) ∧ cs.size = 64) ∧ Fr F0 w wr) (fun i _ => 16 - (intOf i).toNat)
 case atStart => exact ⟨0,by omega,rfl,by subst hX; exact heap_alloc2_new _ _ _,⟨_,heap_alloc2_old _ _ _,rfl⟩,((Fr.refl F0 w).alloc _).alloc _⟩
 case round =>
  obtain ⟨k,hk,rfl,h2,⟨cs,h1,hz⟩,hf⟩ := hrel
  by_cases hk8 : k < 16
  ·have hB : Bs wr (some ⟨b,off,none⟩) c bs := Sl.fr HB.out hf fun _ _ f => f
   have c0 := hB.atD (a := ⟨b,off,none⟩) (4 * k) (by omega)
   have c1 := hB.atD (a := ⟨b,off,none⟩) (4 * k + 1) (by omega)
   have c2 := hB.atD (a := ⟨b,off,none⟩) (4 * k + 2) (by omega)
   have c3 := hB.atD (a := ⟨b,off,none⟩) (4 * k + 3) (by omega)
   have b0 := rowW_get0 (i := k) h2 (by rw [sch_length]; omega) (by omega)
   have z0 := free_row (i := k) h2
   have HH := Lib.hid (And.intro h2 (And.intro h1 hf))
   have HS := Lib.hid (show sch bs (k + 1) = sch bs k ++ [w8 (bs.getD (4 * k) 0) <<< 24 ||| w8 (bs.getD (4 * k + 1) 0) <<< 16 ||| w8 (bs.getD (4 * k + 2) 0) <<< 8 ||| w8 (bs.getD (4 * k + 3) 0)] from by show sch bs k ++ _ = _; rw [if_pos hk8]; rfl)
   generalize bs.getD (4 * k) 0 = x0 at *
   generalize bs.getD (4 * k + 1) 0 = x1 at *
   generalize bs.getD (4 * k + 2) 0 = x2 at *
   generalize bs.getD (4 * k + 3) 0 = x3 at *
   clear hB h2 h1 hf
   go_wp2_with fail
   have hne : b ≠ X := by omega
   obtain ⟨p0,hp0⟩ : ∃ p,p = 4 * k := ⟨_,rfl⟩
   obtain ⟨p1,hp1⟩ : ∃ p,p = 4 * k + 1 := ⟨_,rfl⟩
   obtain ⟨p2,hp2⟩ : ∃ p,p = 4 * k + 2 := ⟨_,rfl⟩
   obtain ⟨p3,hp3⟩ : ∃ p,p = 4 * k + 3 := ⟨_,rfl⟩
   have m0 : IntKind.i64.wrap (4 * (k : Int)) = (p0 : Int) := by rw [IntWalk.i64_in _ (by omega)]; omega
   have m1 : IntKind.i64.wrap ((p0 : Int) + 1) = (p1 : Int) := by rw [IntWalk.i64_in _ (by omega)]; omega
   have m2 : IntKind.i64.wrap ((p0 : Int) + 2) = (p2 : Int) := by rw [IntWalk.i64_in _ (by omega)]; omega
   have m3 : IntKind.i64.wrap ((p0 : Int) + 3) = (p3 : Int) := by rw [IntWalk.i64_in _ (by omega)]; omega
   have l0 : (p0 : Int) < 64 := by omega
   have l1 : (p1 : Int) < 64 := by omega
   have l2 : (p2 : Int) < 64 := by omega
   have l3 : (p3 : Int) < 64 := by omega
   have lk : (k : Int) < 64 := by omega
   rw [← hp0] at c0
   rw [← hp1] at c1
   rw [← hp2] at c2
   rw [← hp3] at c3
   clear hp0 hp1 hp2 hp3
   refine rbegin (S := (fun w' => w'.cell? ⟨b,off + p0,none⟩ = some (.int .u8 (x0.toNat : Int)) ∧ w'.cell? ⟨b,off + p1,none⟩ = some (.int .u8 (x1.toNat : Int)) ∧ w'.cell? ⟨b,off + p2,none⟩ = some (.int .u8 (x2.toNat : Int)) ∧ w'.cell? ⟨b,off + p3,none⟩ = some (.int .u8 (x3.toNat : Int)))) ?_ fun hHeld => ?_
   ·((try dsimp only) <;> (exact ⟨c0,c1,c2,c3⟩))
   refine rtake 0 ?_
   refine rtake 1 ?_
   refine rtake 2 ?_
   refine rtake 3 ?_
   refine rtake 4 ?_
   refine rtake 5 ?_
   refine rtake 6 ?_
   refine rtake 7 ?_
   refine rtake 8 ?_
   refine rtake 9 ?_
   refine rtake 10 ?_
   refine rtake 11 ?_
   refine rtake 12 ?_
   refine rtake 13 ?_
   refine rtake 14 ?_
   refine rtake 15 ?_
   refine rtake 16 ?_
   refine rtake 17 ?_
   refine rtake 18 ?_
   refine rtake 19 ?_
   refine rtake 20 ?_
   refine rtake 21 ?_
   refine rtake 22 ?_
   refine rtake 23 ?_
   refine rtake 24 ?_
   refine rtake 25 ?_
   refine rtake 26 ?_
   refine rtake 27 ?_
   refine rtake 28 ?_
   refine rtake 29 ?_
   refine rtake 30 ?_
   refine rtake 31 ?_
   refine rtake 32 ?_
   refine rtake 33 ?_
   refine rtake 34 ?_
   refine rone 35 fun K hK => ?_
   go_simp
   refine hK.out _ _ ?_ (fun hHeld => ?_)
   ·((try dsimp only) <;> (first | exact ⟨c0,c1,c2,c3⟩ | (refine ⟨?_,?_,?_,?_⟩ <;> rw [cell_drew,cell_setCell_ne _ _ _ _ hne] <;> assumption)))
   clear hK K
   try (simp only [Act.put,aST]; dsimp only [aS0,aS1])
   refine rdone ?_
   go_wp2
   go_roundw
   case rel =>
    obtain ⟨h2,h1,hf⟩ := HH.out
    have hYX : w.heap.size ≠ X := by omega
    refine ⟨k + 1,by omega,by go_num,?_,⟨cs,?_,hz⟩,?_⟩
    ·rw [HS.out]
     have g0 := heap_setCell_in wr X k _ _ _ (.int .u32 (wi (w8 x0 <<< 24 ||| w8 x1 <<< 16 ||| w8 x2 <<< 8 ||| w8 x3))) h2
     rw [arrW_set _ _ _ _ (by rw [sch_length]) (by rw [sch_length]; omega)] at g0
     exact g0
    ·rw [heap_drew,Below.heap_setCell _ _ _ _ hYX]
     exact h1
    ·exact (hf.setCell (p := ⟨X,_,none⟩) (fun h => by simp only at h; omega) _).drew
   case measure => simp [intOf]; omega
  ·have hk16 : k = 16 := by omega
   rw [hk16] at h2
   clear hk16
   go_wp2_with fail
   go_loopw [5] (fun i wr => ∃ k : Nat,16 ≤ k ∧ k ≤ 64 ∧ i = .int .i64 k ∧ wr.heap[X]? = some (.cells (arrW (sch bs k) 64) 187 (0,0)) ∧ (∃ cs,wr.heap[w.heap.size]? = some (.cells cs 187 (0,0)) ∧ cs.size = 64) ∧ Fr F0 w wr) (fun i _ => 64 - (intOf i).toNat)
   case atStart => exact ⟨16,by omega,by omega,rfl,h2,⟨cs,h1,hz⟩,hf⟩
   case round =>
    obtain ⟨k,hk16,hk,rfl,h2,⟨cs,h1,hz⟩,hf⟩ := hrel
    by_cases hk8 : k < 64
    ·have hsl := sch_length bs k
     have HH := Lib.hid (And.intro h2 (And.intro h1 hf))
     have c2 := row_get (w := wr.drew) h2 (k - 2) (by omega)
     have c7 := row_get (w := wr.drew.drew) h2 (k - 7) (by omega)
     have c15 := row_get (w := wr.drew) h2 (k - 15) (by omega)
     have c16 := row_get (w := wr.drew.drew) h2 (k - 16) (by omega)
     have b0 := rowW_get0 (w := wr.drew.drew) (i := k) h2 (by omega) (by omega)
     have z0 := free_row (w := wr.drew.drew) (i := k) h2
     have HS := Lib.hid (show sch bs (k + 1) = sch bs k ++ [(sch bs k).getD (k - 16) 0 + sig0 ((sch bs k).getD (k - 15) 0) + (sch bs k).getD (k - 7) 0 + sig1 ((sch bs k).getD (k - 2) 0)] from by show sch bs k ++ _ = _; rw [if_neg (by omega)]; rfl)
     generalize (sch bs k).getD (k - 2) 0 = x2 at *
     generalize (sch bs k).getD (k - 7) 0 = x7 at *
     generalize (sch bs k).getD (k - 15) 0 = x15 at *
     generalize (sch bs k).getD (k - 16) 0 = x16 at *
     obtain ⟨q2,hq2⟩ : ∃ q,q = k - 2 := ⟨_,rfl⟩
     have e2 : IntKind.i64.wrap ((k : Int) - 2) = (q2 : Int) := by rw [IntWalk.i64_in _ (by omega)]; omega
     have l2 : (q2 : Int) < 64 := by omega
     rw [← hq2] at c2
     clear hq2
     obtain ⟨q7,hq7⟩ : ∃ q,q = k - 7 := ⟨_,rfl⟩
     have e7 : IntKind.i64.wrap ((k : Int) - 7) = (q7 : Int) := by rw [IntWalk.i64_in _ (by omega)]; omega
     have n7 : q7 ≠ k := by omega
     have l7 : (q7 : Int) < 64 := by omega
     rw [← hq7] at c7
     clear hq7
     obtain ⟨q15,hq15⟩ : ∃ q,q = k - 15 := ⟨_,rfl⟩
     have e15 : IntKind.i64.wrap ((k : Int) - 15) = (q15 : Int) := by rw [IntWalk.i64_in _ (by omega)]; omega
     have l15 : (q15 : Int) < 64 := by omega
     rw [← hq15] at c15
     clear hq15
     obtain ⟨q16,hq16⟩ : ∃ q,q = k - 16 := ⟨_,rfl⟩
     have e16 : IntKind.i64.wrap ((k : Int) - 16) = (q16 : Int) := by rw [IntWalk.i64_in _ (by omega)]; omega
     have n16 : q16 ≠ k := by omega
     have l16 : (q16 : Int) < 64 := by omega
     rw [← hq16] at c16
     clear hq16
     have lk : (k : Int) < 64 := by omega
     clear h2 h1 hf hsl
     go_wp2_with fail
     refine rbegin (S := (fun w' => w'.cell? ⟨X,q2,none⟩ = some (.int .u32 (wi x2)) ∧ w'.cell? ⟨X,q15,none⟩ = some (.int .u32 (wi x15)))) ?_ fun hHeld => ?_
     ·((try dsimp only) <;> (exact ⟨c2,c15⟩))
     refine rtake 0 ?_
     refine rtake 1 ?_
     refine rtake 2 ?_
     refine rtake 3 ?_
     refine rtake 4 ?_
     refine rtake 5 ?_
     refine rtake 6 ?_
     refine rtake 7 ?_
     refine rtake 8 ?_
     refine rtake 9 ?_
     refine rdone ?_
     go_wp2_with fail
     refine (RotL32_right x15 7 _ (by omega) (by omega)).mono ?_
     rintro e w1 ⟨rfl,rfl⟩
     go_wp2_with fail
     refine (RotL32_right x15 18 _ (by omega) (by omega)).mono ?_
     rintro e w1 ⟨rfl,rfl⟩
     go_wp2_with fail
     refine (RotL32_right x2 17 _ (by omega) (by omega)).mono ?_
     rintro e w1 ⟨rfl,rfl⟩
     go_wp2_with fail
     refine (RotL32_right x2 19 _ (by omega) (by omega)).mono ?_
     rintro e w1 ⟨rfl,rfl⟩
     go_wp2_with fail
     refine rbegin (S := (fun w' => w'.cell? ⟨X,q7,none⟩ = some (.int .u32 (wi x7)) ∧ w'.cell? ⟨X,q16,none⟩ = some (.int .u32 (wi x16)))) ?_ fun hHeld => ?_
     ·((try dsimp only) <;> (exact ⟨c7,c16⟩))
     refine rtake 0 ?_
     refine rtake 1 ?_
     refine rtake 2 ?_
     refine rtake 3 ?_
     refine rtake 4 ?_
     refine rtake 5 ?_
     refine rtake 6 ?_
     refine rtake 7 ?_
     refine rtake 8 ?_
     refine rtake 9 ?_
     refine rtake 10 ?_
     refine rtake 11 ?_
     refine rtake 12 ?_
     refine rtake 13 ?_
     refine rtake 14 ?_
     refine rone 15 fun K hK => ?_
     go_simp
     refine hK.out _ _ ?_ (fun hHeld => ?_)
     ·((try dsimp only) <;> (first | exact ⟨c7,c16⟩ | exact ⟨by rw [cell_drew,cell_drew,cell_set_off _ _ _ _ _ n7]; exact c7,by rw [cell_drew,cell_drew,cell_set_off _ _ _ _ _ n16]; exact c16⟩))
     clear hK K
     try (simp only [Act.put,aST]; dsimp only [aS0,aS1])
     refine rdone ?_
     go_wp2
     go_roundw
     case rel =>
      obtain ⟨h2,h1,hf⟩ := HH.out
      have hYX : w.heap.size ≠ X := by omega
      refine ⟨k + 1,by omega,by omega,by go_num,?_,⟨cs,?_,hz⟩,?_⟩
      ·rw [HS.out]
       have g0 := heap_setCell_in wr X k _ _ _ (.int .u32 (wi (x16 + sig0 x15 + x7 + sig1 x2))) h2
       rw [arrW_set _ _ _ _ (by rw [sch_length]) (by rw [sch_length]; omega)] at g0
       exact g0
      ·rw [heap_drew,heap_drew,Below.heap_setCell _ _ _ _ hYX]
       exact h1
      ·exact (hf.setCell (p := ⟨X,_,none⟩) (fun h => by simp only at h; omega) _).drew.drew
     case measure => simp [intOf]; omega
    ·obtain rfl : k = 64 := by omega
     have hfull : arrW (sch bs 64) 64 = ((sch bs 64).map W32).toArray := arrW_full _ _ (sch_length _ _)
     rw [hfull] at h2
     have hb : ((sch bs 64).map W32).toArray.size = 64 := by simp [sch_length]
     go_wp2_with (first | refine wpList_load_row rfl 187 (.tmp 3) rfl X rfl 187 _ (0,0) _ h2 Tryz.underlying187 rfl (by rw [Tryz.sz64,hb]) ?_ | refine wpList_store_row rfl 187 (.tmp 2) (.tmp 92) rfl w.heap.size _ rfl rfl 187 cs h1 (by rw [Tryz.sz64,hb]) (by rw [hz,hb]) (oneW_map _) ?_)
     refine bodyPost_ret (results_cell_row rfl _ _ w.heap.size _ _ _ _ rfl (setRow_heap _ _ _ _ _ _ h1) Tryz.underlying187 rfl (by rw [Tryz.sz64,hb])) rfl ⟨rfl,?_⟩
     exact hf.setRow (fun h => by omega) _
attribute [local go_sem high] wdv_and wdv_or wdv_xor wdv_not wdv_add wdv_shl wdv_shr wdv_to8 wdv_of8
def Cub (w : World) : Prop := ∀ j,j < 64 → w.cell? ⟨0,j,none⟩ = some (.int .u32 (wi (cubesL.getD j 0)))
theorem Cub.lt {w : World} (h : Cub w) : 0 < w.heap.size := World.block_lt_of_cell? w ⟨0,0,none⟩ (h 0 (by omega))
theorem Cub.fr {S : Nat → Prop} {w w' : World} (h : Cub w) (hf : Fr S w w') (hs : ¬ S 0) : Cub w' := fun j hj => hf.cell (p := ⟨0,j,none⟩) hs (h j hj)
theorem after_any (s : List Wd) (hs : s.length = 8) (a : Option Addr) (n c : Nat) (bs : List UInt8) (hn : n = 64) (hl : bs.length = 64) (w : World) (h : Bs w a c bs) (hcub : Cub w) :
  Calls Tryz.prog 112 #[.agg (s.map W32).toArray,.slice a n c] w fun e w' => e = .returned (.agg ((compress bs s).map W32).toArray) ∧ Fr F0 w w' := by
 subst hn
 have hclt := hcub.lt
 have HC := Lib.hid hcub
 obtain ⟨va,vb,vc,vd,ve,vf,vg,vh,hsd⟩ := eight hs
 have HSD := Lib.hid hsd
 have HB := Lib.hid h
 have b1 : ((w.alloc (.cells (s.map W32).toArray 168)).alloc (.cells #[.int .u32 0,.int .u32 0,.int .u32 0,.int .u32 0,.int .u32 0,.int .u32 0,.int .u32 0,.int .u32 0] 168)).heap[w.heap.size]? = some (.cells (s.map W32).toArray 168 (0,0)) := heap_alloc2_old _ _ _
 have d0 := (cell_of_row _ _ 0 _ _ _ b1).trans (show _ = some (.int .u32 (wi va)) by rw [hsd]; rfl)
 have d1 := (cell_of_row _ _ 1 _ _ _ b1).trans (show _ = some (.int .u32 (wi vb)) by rw [hsd]; rfl)
 have d2 := (cell_of_row _ _ 2 _ _ _ b1).trans (show _ = some (.int .u32 (wi vc)) by rw [hsd]; rfl)
 have d3 := (cell_of_row _ _ 3 _ _ _ b1).trans (show _ = some (.int .u32 (wi vd)) by rw [hsd]; rfl)
 have d4 := (cell_of_row _ _ 4 _ _ _ b1).trans (show _ = some (.int .u32 (wi ve)) by rw [hsd]; rfl)
 have d5 := (cell_of_row _ _ 5 _ _ _ b1).trans (show _ = some (.int .u32 (wi vf)) by rw [hsd]; rfl)
 have d6 := (cell_of_row _ _ 6 _ _ _ b1).trans (show _ = some (.int .u32 (wi vg)) by rw [hsd]; rfl)
 have d7 := (cell_of_row _ _ 7 _ _ _ b1).trans (show _ = some (.int .u32 (wi vh)) by rw [hsd]; rfl)
 clear hsd b1 h hcub
 go_enter Tryz.func112,Tryz.ntmps112
 go_wp2_with fail
 refine rbegin (S := (fun w' => w'.cell? ⟨w.heap.size,0,none⟩ = some (.int .u32 (wi va)) ∧ w'.cell? ⟨w.heap.size,1,none⟩ = some (.int .u32 (wi vb)) ∧ w'.cell? ⟨w.heap.size,2,none⟩ = some (.int .u32 (wi vc)) ∧ w'.cell? ⟨w.heap.size,3,none⟩ = some (.int .u32 (wi vd)) ∧ w'.cell? ⟨w.heap.size,4,none⟩ = some (.int .u32 (wi ve)) ∧ w'.cell? ⟨w.heap.size,5,none⟩ = some (.int .u32 (wi vf)) ∧ w'.cell? ⟨w.heap.size,6,none⟩ = some (.int .u32 (wi vg)) ∧ w'.cell? ⟨w.heap.size,7,none⟩ = some (.int .u32 (wi vh)))) ?_ fun hHeld => ?_
 ·((try dsimp only) <;> (exact ⟨d0,d1,d2,d3,d4,d5,d6,d7⟩))
 refine rtake 0 ?_
 refine rtake 1 ?_
 refine rtake 2 ?_
 refine rtake 3 ?_
 refine rtake 4 ?_
 refine rtake 5 ?_
 refine rtake 6 ?_
 refine rtake 7 ?_
 refine rtake 8 ?_
 refine rtake 9 ?_
 refine rtake 10 ?_
 refine rtake 11 ?_
 refine rtake 12 ?_
 refine rtake 13 ?_
 refine rtake 14 ?_
 refine rtake 15 ?_
 refine rtake 16 ?_
 refine rtake 17 ?_
 refine rtake 18 ?_
 refine rtake 19 ?_
 refine rtake 20 ?_
 refine rtake 21 ?_
 refine rtake 22 ?_
 refine rtake 23 ?_
 refine rdone ?_
 clear d0 d1 d2 d3 d4 d5 d6 d7 hHeld
 generalize hY : w.heap.size + 1 = Y
 have hW : Fr F0 w (((w.alloc (.cells (s.map W32).toArray 168)).alloc (.cells #[.int .u32 0,.int .u32 0,.int .u32 0,.int .u32 0,.int .u32 0,.int .u32 0,.int .u32 0,.int .u32 0] 168)).drew) := (((Fr.refl F0 w).alloc _).alloc _).drew
 have h0 : (((w.alloc (.cells (s.map W32).toArray 168)).alloc (.cells #[.int .u32 0,.int .u32 0,.int .u32 0,.int .u32 0,.int .u32 0,.int .u32 0,.int .u32 0,.int .u32 0] 168)).drew).heap[w.heap.size]? = some (.cells (s.map W32).toArray 168 (0,0)) := heap_alloc2_old _ _ _
 have h1 : (((w.alloc (.cells (s.map W32).toArray 168)).alloc (.cells #[.int .u32 0,.int .u32 0,.int .u32 0,.int .u32 0,.int .u32 0,.int .u32 0,.int .u32 0,.int .u32 0] 168)).drew).heap[Y]? = some (.cells #[.int .u32 0,.int .u32 0,.int .u32 0,.int .u32 0,.int .u32 0,.int .u32 0,.int .u32 0,.int .u32 0] 168 (0,0)) := by subst hY; exact heap_alloc2_new _ _ _
 generalize (((w.alloc (.cells (s.map W32).toArray 168)).alloc (.cells #[.int .u32 0,.int .u32 0,.int .u32 0,.int .u32 0,.int .u32 0,.int .u32 0,.int .u32 0,.int .u32 0] 168)).drew) = w1 at *
 go_wp2_with fail
 refine (schedule_any a c bs hl w1 (Sl.fr HB.out hW fun _ _ f => f)).mono ?_
 rintro e w2 ⟨rfl,h2⟩
 replace h0 := h2.keeps (fun f => f) h0
 replace h1 := h2.keeps (fun f => f) h1
 replace h2 := hW.trans' h2
 clear hW
 go_wp2_with fail
 go_loopw [5,6,7,8,9,10,11,12,37] (fun v0 v1 v2 v3 v4 v5 v6 v7 i wr => ∃ k : Nat,k ≤ 64 ∧ i = .int .i64 k ∧ (∃ a b c d e f g h,rnds bs s k = [a,b,c,d,e,f,g,h] ∧ v0 = .int .u32 (wi a) ∧ v1 = .int .u32 (wi b) ∧ v2 = .int .u32 (wi c) ∧ v3 = .int .u32 (wi d) ∧ v4 = .int .u32 (wi e) ∧ v5 = .int .u32 (wi f) ∧ v6 = .int .u32 (wi g) ∧ v7 = .int .u32 (wi h)) ∧ wr.heap[w.heap.size]? = some (.cells (s.map W32).toArray 168 (0,0)) ∧ (∃ cs,wr.heap[Y]? = some (.cells cs 168 (0,0)) ∧ cs.size = 8) ∧ Fr F0 w wr) (fun _ _ _ _ _ _ _ _ i _ => 64 - (intOf i).toNat)
 case atStart => exact ⟨0,by omega,rfl,⟨va,vb,vc,vd,ve,vf,vg,vh,HSD.out,rfl,rfl,rfl,rfl,rfl,rfl,rfl,rfl⟩,h0,⟨_,h1,rfl⟩,h2⟩
 case round =>
  clear h0 h1 h2
  obtain ⟨k,hk,rfl,⟨xa,xb,xc,xd,xe,xf,xg,xh,hr,rfl,rfl,rfl,rfl,rfl,rfl,rfl,rfl⟩,h0,⟨cs,h1,hz⟩,hf⟩ := hrel
  have HR := Lib.hid hr
  clear hr
  by_cases hk8 : k < 64
  ·have hx : ((sch bs 64).map W32).toArray[k]? = some (.int .u32 (wi ((sch bs 64).getD k 0))) := by
    simp [List.getD,List.getElem?_eq_getElem (show k < (sch bs 64).length by rw [sch_length]; exact hk8)]
   have hq : wr.cell? ⟨0,k,none⟩ = some (.int .u32 (wi (cubesL.getD k 0))) := HC.out.fr hf (fun f => f) k hk8
   have HS := Lib.hid (show rnds bs s (k + 1) = stp (cubesL.getD k 0) ((sch bs 64).getD k 0) (rnds bs s k) from rfl)
   generalize (sch bs 64).getD k 0 = x at *
   generalize cubesL.getD k 0 = q at *
   have hi := fun w => run_index_row (P := Tryz.prog) w 187 22 64 _ .i64 k _ Tryz.underlying187 Tryz.underlying22 rfl (by kernel_rfl) _ hk8 hx
   have HH := Lib.hid (And.intro h0 (And.intro h1 hf))
   have lk : (k : Int) < 64 := by omega
   clear h0 h1 hf hx
   go_wp2_with fail
   have hqd : wr.drew.cell? ⟨0,k,none⟩ = some (.int .u32 (wi q)) := hq
   refine rbegin (S := (fun w' => w'.cell? ⟨0,k,none⟩ = some (.int .u32 (wi q)))) ?_ fun hHeld => ?_
   ·((try dsimp only) <;> (exact hqd))
   refine rtake 0 ?_
   refine rtake 1 ?_
   refine rtake 4 ?_
   refine rtake 6 ?_
   refine rtake 7 ?_
   refine rtake 8 ?_
   refine rtake 10 ?_
   refine rone 2 fun K hK => ?_
   go_simp
   (refine (turned_any xe 6 11 25 _ (by omega) (by omega) (by omega)).mono ?_; rintro e w5 ⟨rfl,rfl⟩)
   refine hK.out _ _ ?_ (fun hHeld => ?_)
   ·((try dsimp only) <;> (exact hqd))
   clear hK K
   try (simp only [Act.put,aST]; dsimp only [aS0,aS1])
   refine rtake 3 ?_
   refine rtake 5 ?_
   refine rtake 9 ?_
   refine rtake 11 ?_
   refine rtake 12 ?_
   refine rdone ?_
   go_wp2_with fail
   refine (turned_any xa 2 13 22 _ (by omega) (by omega) (by omega)).mono ?_
   rintro e w5 ⟨rfl,rfl⟩
   go_wp2
   go_roundw
   case rel =>
    obtain ⟨h0,h1,hf⟩ := HH.out
    exact ⟨k + 1,by omega,by go_num,⟨_,_,_,_,_,_,_,_,by rw [HS.out,HR.out]; rfl,rfl,rfl,rfl,rfl,rfl,rfl,rfl,rfl⟩,h0,⟨cs,h1,hz⟩,hf.drew⟩
   case measure => simp [intOf]; omega
  ·have hk16 : k = 64 := by omega
   have HS : rnds bs s 64 = [xa,xb,xc,xd,xe,xf,xg,xh] := by rw [← hk16]; exact HR.out
   have HS2 : compress bs s = List.zipWith (· + ·) s [xa,xb,xc,xd,xe,xf,xg,xh] := by rw [compress,HS]
   have e0 := HSD.out
   rw [e0] at HS2 h0
   have d0 := (cell_of_row _ _ 0 _ _ _ h0).trans (show _ = some (.int .u32 (wi va)) by rfl)
   have d1 := (cell_of_row _ _ 1 _ _ _ h0).trans (show _ = some (.int .u32 (wi vb)) by rfl)
   have d2 := (cell_of_row _ _ 2 _ _ _ h0).trans (show _ = some (.int .u32 (wi vc)) by rfl)
   have d3 := (cell_of_row _ _ 3 _ _ _ h0).trans (show _ = some (.int .u32 (wi vd)) by rfl)
   have d4 := (cell_of_row _ _ 4 _ _ _ h0).trans (show _ = some (.int .u32 (wi ve)) by rfl)
   have d5 := (cell_of_row _ _ 5 _ _ _ h0).trans (show _ = some (.int .u32 (wi vf)) by rfl)
   have d6 := (cell_of_row _ _ 6 _ _ _ h0).trans (show _ = some (.int .u32 (wi vg)) by rfl)
   have d7 := (cell_of_row _ _ 7 _ _ _ h0).trans (show _ = some (.int .u32 (wi vh)) by rfl)
   have HS3 := Lib.hid HS2
   clear HS HS2 hk16 e0 h0
   go_wp2_with (refine wpList_store_row rfl 168 (.tmp 4) (.tmp 121) rfl Y ([va + xa,vb + xb,vc + xc,vd + xd,ve + xe,vf + xf,vg + xg,vh + xh].map W32).toArray rfl rfl 168 cs h1 Tryz.sz8 hz (oneW_map _) ?_)
   refine bodyPost_ret (results_cell_row rfl _ _ Y _ _ _ _ rfl (setRow_heap _ _ _ _ _ _ h1) Tryz.underlying168 rfl Tryz.sz8) rfl ⟨?_,?_⟩
   ·rw [HSD.out,HS3.out]
    rfl
   ·exact hf.setRow (fun h => by omega) _
theorem rowB_set (L : List UInt8) (p : Nat) (v : UInt8) : ((L.map B8).toArray.setIfInBounds p (.int .u8 (v.toNat : Int))) = ((L.set p v).map B8).toArray := by
 apply Array.ext'
 simp only [Array.toList_setIfInBounds]
 rw [List.map_set]
 rfl
def filk (r : List UInt8) (n k : Nat) : List UInt8 := r ++ [128] ++ List.replicate (fsize r.length - 9 - r.length) 0 ++ (List.replicate (8 - k) 0 ++ (be8 (8 * n)).drop (8 - k))
theorem filk_all (r : List UInt8) (n : Nat) : filk r n 8 = fil r n := by simp [filk,fil]
theorem filk_length (r : List UInt8) (n k : Nat) (h : r.length < 64) (hk : k ≤ 8) : (filk r n k).length = fsize r.length := by
 simp [filk,be8_length,fsize]
 split <;> omega
theorem filk_zero (r : List UInt8) (n q : Nat) (hq : q = fsize r.length) (h : r.length < 64) : (r ++ List.replicate (q - r.length) 0).set r.length 128 = filk r n 0 := by
 have h8 : q - r.length = (q - 9 - r.length) + 8 + 1 := by rw [hq]; unfold fsize; split <;> omega
 rw [h8,List.replicate_succ,List.set_append_right _ _ (Nat.le_refl _),Nat.sub_self,List.set_cons_zero,filk,← hq]
 rw [List.drop_eq_nil_of_le (by rw [be8_length]; omega),List.append_nil]
 simp only [Nat.sub_zero,List.append_assoc,List.replicate_append_replicate,List.cons_append,List.nil_append]
theorem be8_get (x i : Nat) (h : i < 8) : (be8 x)[7 - i]? = some (UInt8.ofNat (x / 2 ^ (8 * i))) := by
 simp [be8,List.getElem?_map,List.getElem?_range (show 7 - i < 8 by omega)]
 congr 3
 omega
theorem filk_succ (r : List UInt8) (n k : Nat) (h : r.length < 64) (hk : k < 8) : (filk r n k).set (fsize r.length - 1 - k) (UInt8.ofNat (8 * n / 2 ^ (8 * k))) = filk r n (k + 1) := by
 have hA : (r ++ [128] ++ List.replicate (fsize r.length - 9 - r.length) (0 : UInt8)).length = fsize r.length - 8 := by
  simp [fsize]
  split <;> omega
 have h8 : fsize r.length ≥ 64 := by unfold fsize; split <;> omega
 unfold filk
 generalize r ++ [128] ++ List.replicate (fsize r.length - 9 - r.length) (0 : UInt8) = A at *
 have e1 : 8 - k = (7 - k) + 1 := by omega
 have e2 : 8 - (k + 1) = 7 - k := by omega
 have hd : (be8 (8 * n)).drop (7 - k) = UInt8.ofNat (8 * n / 2 ^ (8 * k)) :: (be8 (8 * n)).drop (8 - k) := by
  have hg := be8_get (8 * n) k hk
  obtain ⟨hlt,hg⟩ := List.getElem?_eq_some_iff.1 hg
  rw [List.drop_eq_getElem_cons hlt,hg,e1]
 rw [e2,hd,e1,List.replicate_succ',List.set_append_right _ _ (by omega),hA]
 congr 1
 rw [List.append_assoc,List.set_append_right _ _ (by simp; omega)]
 congr 1
 simp only [List.length_replicate,List.cons_append,List.nil_append]
 rw [show fsize r.length - 1 - k - (fsize r.length - 8) - (7 - k) = 0 by omega]
 rfl
theorem own_full {w : World} {base e g n : Nat} {xs : List Value} (h : w.ownsRow base e 1 (.slice (some ⟨g,0,none⟩) n n) n xs) : w.heap[g]? = some (.cells xs.toArray e (0,0)) := by
 rcases h.2 with ⟨h,_⟩ | ⟨g',cap,cur,h,_,hg,hn,hm,hs,ht⟩
 ·cases h
 ·cases h
  rw [hg,← ht]
  congr 2
  apply Array.ext'
  simp [hs,List.take_of_length_le]
theorem Bs.of_row {w : World} {g : Nat} {t : TypeId} {L : List UInt8} (h : w.heap[g]? = some (.cells (L.map B8).toArray t (0,0))) (hm : L.length ≤ maxLen) : Bs w (some ⟨g,0,none⟩) L.length L :=
 ⟨by simp,Nat.le_refl _,hm,(fun e => by cases e),fun j u hj => ⟨g,0,rfl,by rw [Nat.zero_add,cell_of_row w g j _ t _ h]; simpa using hj⟩⟩
theorem splice_front (r : List UInt8) (q : Nat) (h : r.length ≤ q) : splice (madeCells #[Value.int IntKind.u8 0] q).toList 0 (r.map B8) = (r ++ List.replicate (q - r.length) 0).map B8 := by
 have e : (madeCells #[Value.int IntKind.u8 0] q).toList = List.replicate q (B8 0) := by
  apply List.ext_getElem
  ·simp [madeCells]
  ·intro i h1 h2
   simp [madeCells,Nat.mod_one]
   rfl
 rw [e]
 simp [splice]
theorem Bs.src {w : World} {a : Option Addr} {c : Nat} {r : List UInt8} (h : Bs w a c r) (hn : 0 < (r.map B8).length) : ∃ ad,a = some ad ∧ ∀ j v,(r.map B8)[j]? = some v → w.cell? (ad.add j) = some v := by
 cases a with
 |none =>
  have h0 := h.nil rfl
  have := h.room
  simp at hn
  omega
 |some ad => exact ⟨ad,rfl,h.addr⟩
theorem filled_any (a : Option Addr) (n c : Nat) (r : List UInt8) (hn : n = r.length) (hr : r.length < 64) (m : Nat) (hm : m ≤ 140737488355328) (w : World) (h : Bs w a c r) :
  Calls Tryz.prog 113 #[.slice a n c,.int .u64 (m : Int)] w fun e w' => ∃ b,e = .returned (.slice (some ⟨b,0,none⟩) (fsize r.length) (fsize r.length)) ∧ Bs w' (some ⟨b,0,none⟩) (fsize r.length) (fil r m) ∧ Fr F0 w w' ∧ w.heap.size ≤ b := by
 subst hn
 obtain ⟨i0,hi,hz0,hz1,hz2⟩ := info_parts Tryz.infoU8
 obtain ⟨q,hq⟩ : ∃ q,q = fsize r.length := ⟨_,rfl⟩
 have hq2 : q = if 56 ≤ r.length then 128 else 64 := hq
 have hqs : q = 64 ∨ q = 128 := by rw [hq2]; split <;> omega
 rw [← hq]
 have HQ := Lib.hid hq
 have HB := Lib.hid h
 go_enter Tryz.func113,Tryz.ntmps113
 go_upto_if 12 with fail
 go_cut [5] (fun v w' => v = .int .i64 (q : Int) ∧ w' = w)
 case first =>
  by_cases h56 : 56 ≤ r.length
  ·have hq8 : q = 128 := by rw [hq2,if_pos h56]
   have h57 : (56 : Int) ≤ (r.length : Int) := by omega
   subst hq8
   go_wp2_with fail
   go_meet
   case rel => exact ⟨rfl,rfl⟩
  ·have hq8 : q = 64 := by rw [hq2,if_neg h56]
   have h57 : ¬ (56 : Int) ≤ (r.length : Int) := by omega
   subst hq8
   go_wp2_with fail
   go_meet
   case rel => exact ⟨rfl,rfl⟩
 case rest =>
  obtain ⟨rfl,rfl⟩ := hcut
  have hlq : (q : Int) < 129 := by omega
  have hgq : (63 : Int) < q := by omega
  clear hq hq2
  have hrl : (r.length : Int) < q := by omega
  have hmin : r.length.min q = r.length := Nat.min_eq_left (by omega)
  go_wp2_with (first | (at_make; refine wpList_make_full wc rfl _ _ _ rfl 0 5 i0 _ 1 Tryz.underlying36 hi hz0 hz1 .i64 .i64 q q q rfl rfl rfl rfl (by rw [hz2]; omega) (by unfold maxLen; omega) (Nat.zero_le _) ?_; intro w1 ho hg) | (refine wpList_copy_splice rfl (.tmp 17) (.tmp 18) 36 36 rfl 5 Tryz.underlying36 (by rw [hi]; simp [hz1]) _ _ _ _ _ _ rfl rfl wc.heap.size 0 _ 5 (own_full ho) (r.map B8) (by simp [hmin]) (fun hp => ⟨rfl,Bs.src (Sl.fr HB.out ((Fr.refl F0 wc).grown hg (fun k e => by cases e)) fun _ _ f => f) hp⟩) (by simp [madeCells]; omega) Bs.one wc.heap.size wc (((Fr.refl F0 wc).grown hg (fun k e => by cases e)).below (Nat.le_refl _) fun _ _ f => f) (Nat.le_refl _) ?_))
  intro w2 hb2 hf2
  rw [splice_front r q (by omega)] at hb2
  have hF2 : Fr F0 wc w2 := Fr.of_below hf2
  have hb2 := hb2.out
  generalize hX : wc.heap.size = X at *
  have c0 : w2.cell? ⟨X,r.length,none⟩ = some (.int .u8 0) := by
   rw [cell_of_row w2 X _ _ _ _ hb2]
   simp [List.getElem?_append_right,List.getElem?_replicate]
   exact ⟨by omega,rfl⟩
  have z0 := free_row (i := r.length) hb2
  have HF2 := Lib.hid hF2
  have HB2 := Lib.hid hb2
  clear ho hg hF2 hf2 hb2
  have hm8 : IntKind.u64.wrap ((m : Int) * 8) = ((8 * m : Nat) : Int) := by rw [IntWalk.u64_in _ (by omega)]; omega
  generalize h8 : 8 * m = M at *
  have H8 := Lib.hid h8
  clear h8
  go_wp2_with fail
  have hst : (w2.setCell ⟨X,r.length,none⟩ (.int .u8 128)).heap[X]? = some (.cells ((filk r m 0).map B8).toArray 5 (0,0)) := by
   have g := heap_setCell_in w2 X r.length _ _ _ (.int .u8 ((128 : UInt8).toNat : Int)) HB2.out
   rw [rowB_set,filk_zero r m q HQ.out hr] at g
   exact g
  have HST := Lib.hid hst
  clear hst c0 z0
  go_loopw [25] (fun i wr => ∃ k : Nat,k ≤ 8 ∧ i = .int .i64 k ∧ wr.heap[X]? = some (.cells ((filk r m k).map B8).toArray 5 (0,0)) ∧ Fr F0 wc wr) (fun i _ => 8 - (intOf i).toNat)
  case atStart => exact ⟨0,by omega,rfl,HST.out,HF2.out.setCell (p := ⟨X,_,none⟩) (fun h => by simp only at h; omega) _⟩
  case round =>
   obtain ⟨k,hk,rfl,h2,hf⟩ := hrel
   by_cases hk8 : k < 8
   ·have hL := filk_length r m k hr (by omega)
    rw [← HQ.out] at hL
    obtain ⟨p1,hp1⟩ : ∃ p,p = q - 1 := ⟨_,rfl⟩
    obtain ⟨p,hp⟩ : ∃ p,p = p1 - k := ⟨_,rfl⟩
    obtain ⟨s,hs⟩ : ∃ s,s = 8 * k := ⟨_,rfl⟩
    have m1 : IntKind.i64.wrap ((q : Int) - 1) = (p1 : Int) := by rw [IntWalk.i64_in _ (by omega)]; omega
    have m2 : IntKind.i64.wrap ((p1 : Int) - k) = (p : Int) := by rw [IntWalk.i64_in _ (by omega)]; omega
    have m3 : IntKind.i64.wrap (8 * (k : Int)) = (s : Int) := by rw [IntWalk.i64_in _ (by omega)]; omega
    have l1 : (p : Int) < q := by omega
    have l2 : (s : Int) < 64 := by omega
    have c0 : ∃ v,wr.cell? ⟨X,p,none⟩ = some v := by
     rw [cell_of_row wr X _ _ _ _ h2]
     exact ⟨_,Array.getElem?_eq_getElem (by simp [hL]; omega)⟩
    obtain ⟨v0,c0⟩ := c0
    have z0 := free_row (i := p) h2
    have HH := Lib.hid (And.intro h2 hf)
    have HP := Lib.hid (And.intro hp1 (And.intro hp hs))
    clear h2 hf hp hp1 hs hL
    go_wp2
    go_roundw
    case rel =>
     obtain ⟨h2,hf⟩ := HH.out
     obtain ⟨hp1,hp,hs⟩ := HP.out
     have hv : (M : Int) / 2 ^ s % 256 = (((UInt8.ofNat (M / 2 ^ s)).toNat : Nat) : Int) := by
      show _ = ((M / 2 ^ s % 256 : Nat) : Int)
      rw [Int.natCast_emod,Int.natCast_ediv,Int.natCast_pow]
      rfl
     refine ⟨k + 1,by omega,by go_num,?_,hf.setCell (p := ⟨X,_,none⟩) (fun h => by simp only at h; omega) _⟩
     rw [hv]
     have g := heap_setCell_in wr X p _ _ _ (.int .u8 ((UInt8.ofNat (M / 2 ^ s)).toNat : Int)) h2
     have e : p = fsize r.length - 1 - k := by rw [hp,hp1,HQ.out]
     rw [rowB_set,← H8.out,hs,e,filk_succ r m k hr hk8] at g
     rw [← H8.out,hs,e]
     exact g
    case measure => simp [intOf]; omega
   ·obtain rfl : k = 8 := by omega
    go_wp2
    go_ret
    refine ⟨X,rfl,?_,hf,by omega⟩
    rw [filk_all] at h2
    have g := Bs.of_row h2 (by rw [fil_length _ _ hr,← HQ.out]; unfold maxLen; omega)
    rw [fil_length _ _ hr,← HQ.out] at g
    exact g
end Go.Proofs.YtfjcplfhkahamaaGreatDoor
