import Derived.Test.YtedffdlkmpmdlaaGreatDoorFz2
import Derived.Deep.RegionHeld3
import Derived.OrdersHeld
import Derived.Laws.Rows
import Derived.Below
import Derived.Laws.Tables
import Derived.OwnWalk
import Derived.Test.YtedffdlkmpmdlaaGreatDoorFz1
import Derived.Deep.CutBlock
import Derived.Deep.DeepCutAuto
import Derived.Laws.CopyOwn
set_option maxRecDepth 100000
set_option maxHeartbeats 64000000
namespace Go.Proofs.YtedffdlkmpmdlaaGreatDoor
set_option maxRecDepth 100000
set_option linter.unusedVariables false
set_option linter.unusedSimpArgs false
open Go.RowKit
abbrev Wd := BitVec 32
def wi (x : Wd) : Int := (x.toNat : Int)
def w8 (b : UInt8) : Wd := b.toBitVec.setWidth 32
def lo8 (x : Wd) : UInt8 := UInt8.ofBitVec (x.setWidth 8)
@[reducible] def W32 (x : Wd) : Value := .int .u32 (wi x)
theorem wd_wrap (n : Nat) (h : n < 4294967296) : IntKind.u32.wrap (n : Int) = (n : Int) := IntWalk.u32_in _ (by omega)
theorem wd_ofInt (x : Wd) : BitVec.ofInt 32 (wi x) = x := by
 unfold wi
 apply BitVec.eq_of_toNat_eq
 have := x.isLt
 simp
section
variable (t : TypeId) (x y : Wd)
theorem wd_and : bits .and .u32 (wi x) (wi y) = wi (x &&& y) := by
 show IntKind.u32.wrap (BitVec.toNat (BitVec.ofInt 32 _ &&& BitVec.ofInt 32 _) : Int) = _
 rw [wd_ofInt,wd_ofInt]; exact wd_wrap _ (BitVec.isLt _)
theorem wd_or : bits .or .u32 (wi x) (wi y) = wi (x ||| y) := by
 show IntKind.u32.wrap (BitVec.toNat (BitVec.ofInt 32 _ ||| BitVec.ofInt 32 _) : Int) = _
 rw [wd_ofInt,wd_ofInt]; exact wd_wrap _ (BitVec.isLt _)
theorem wd_xor : bits .xor .u32 (wi x) (wi y) = wi (x ^^^ y) := by
 show IntKind.u32.wrap (BitVec.toNat (BitVec.ofInt 32 _ ^^^ BitVec.ofInt 32 _) : Int) = _
 rw [wd_ofInt,wd_ofInt]; exact wd_wrap _ (BitVec.isLt _)
theorem wd_not : bits .xor .u32 4294967295 (wi x) = wi (~~~ x) := by
 show IntKind.u32.wrap (BitVec.toNat (BitVec.ofInt 32 _ ^^^ BitVec.ofInt 32 _) : Int) = _
 rw [wd_ofInt,show BitVec.ofInt 32 4294967295 = BitVec.allOnes 32 from by decide,BitVec.allOnes_xor]; exact wd_wrap _ (BitVec.isLt _)
theorem wdv_and : binOp .and t (.int .u32 (wi x)) (.int .u32 (wi y)) = pure (.int .u32 (wi (x &&& y))) := by
 rw [binOp_and,intBits_and,wd_and]
theorem wdv_or : binOp .or t (.int .u32 (wi x)) (.int .u32 (wi y)) = pure (.int .u32 (wi (x ||| y))) := by
 rw [binOp_or,intBits_or,wd_or]
theorem wdv_xor : binOp .xor t (.int .u32 (wi x)) (.int .u32 (wi y)) = pure (.int .u32 (wi (x ^^^ y))) := by
 rw [binOp_xor,intBits_xor,wd_xor]
theorem wdv_not : Op.unary .xor (.int .u32 (wi x)) = pure (.int .u32 (wi (~~~ x))) := by
 rw [unary_xor,intBits_xor,← wd_not]; rfl
theorem wdv_add : binOp .add t (.int .u32 (wi x)) (.int .u32 (wi y)) = pure (.int .u32 (wi (x + y))) := by
 rw [binOp_add]
 simp only [Op.intArith]
 unfold wi
 rw [IntKind.wrap_u32,BitVec.toNat_add]
 rw [Int.natCast_emod,Int.natCast_add]
 rfl
theorem wdv_shl (yk : IntKind) (n : Int) (h0 : 0 ≤ n) (h1 : n < 32) : binOp .shl t (.int .u32 (wi x)) (.int yk n) = pure (.int .u32 (wi (x <<< n.toNat))) := by
 rw [binOp_shl]
 have h2 : ¬ n < 0 := by omega
 have h3 : min n.toNat 32 = n.toNat := by omega
 simp only [Op.shift,h2,if_false,IntKind.bits,h3]
 unfold wi
 rw [IntKind.wrap_u32,BitVec.toNat_shiftLeft,Nat.shiftLeft_eq,Int.natCast_emod,Int.natCast_mul,Int.natCast_pow]
 rfl
theorem wdv_shr (yk : IntKind) (n : Int) (h0 : 0 ≤ n) (h1 : n < 32) : binOp .shr t (.int .u32 (wi x)) (.int yk n) = pure (.int .u32 (wi (x >>> n.toNat))) := by
 rw [binOp_shr]
 have h2 : ¬ n < 0 := by omega
 have h3 : min n.toNat 32 = n.toNat := by omega
 simp only [Op.shift,h2,if_false,IntKind.bits,h3]
 unfold wi
 rw [BitVec.toNat_ushiftRight,Nat.shiftRight_eq_div_pow,Int.fdiv_eq_ediv_of_nonneg _ (by exact Int.le_of_lt (Int.pow_pos (by omega)))]
 norm_cast
end
section
variable {P : Program} (w : World)
theorem wdv_of8 (src dst : TypeId) (b : UInt8) (hs : (P.underlying src).isSome = true) (hd : P.underlying dst = some (.int .u32)) :
  (convert src dst (.int .u8 (b.toNat : Int))).run P w = .ok (.int .u32 (wi (w8 b))) w := by
 obtain ⟨d,hd'⟩ := Option.isSome_iff_exists.mp hs
 have h := b.toNat_lt
 have e : wi (w8 b) = (b.toNat : Int) := by
  show (((b.toBitVec.setWidth 32 : Wd)).toNat : Int) = _
  rw [BitVec.toNat_setWidth]
  congr 1
  exact Nat.mod_eq_of_lt (by show b.toNat < 4294967296; omega)
 simp only [convert,Sem.run_bind,run_underlying hd',run_underlying hd,Result.andThen_ok,Conv.intToInt,Sem.run_pure,e]
 rw [wd_wrap _ (by omega)]
theorem wdv_to8 (src dst : TypeId) (x : Wd) (hs : (P.underlying src).isSome = true) (hd : P.underlying dst = some (.int .u8)) :
  (convert src dst (.int .u32 (wi x))).run P w = .ok (.int .u8 ((lo8 x).toNat : Int)) w := by
 obtain ⟨d,hd'⟩ := Option.isSome_iff_exists.mp hs
 have e : ((lo8 x).toNat : Int) = wi x % 256 := by
  show (((x.setWidth 8).toNat : Nat) : Int) = _
  unfold wi
  rw [BitVec.toNat_setWidth,Int.natCast_emod]
  rfl
 simp only [convert,Sem.run_bind,run_underlying hd',run_underlying hd,Result.andThen_ok,Conv.intToInt,Sem.run_pure,e]
 rw [IntKind.wrap_u8]
end
end Go.Proofs.YtedffdlkmpmdlaaGreatDoor
namespace Go.Proofs.YtedffdlkmpmdlaaGreatDoor
set_option maxRecDepth 100000
set_option linter.unusedVariables false
set_option linter.unusedSimpArgs false
open Go.RowKit
attribute [local go_sem high] wdv_and wdv_or wdv_xor wdv_not wdv_add wdv_shl wdv_shr
def rotr (x : Wd) (n : Nat) : Wd := x >>> n ||| x <<< (32 - n)
theorem rot_amount : ∀ i : Nat,i < 32 → 1 ≤ i → bits .and .u64 (IntKind.u64.wrap (-(i : Int))) 31 = 32 - i := by decide +kernel
theorem RotL32_right (x : Wd) (i : Nat) (w : World) (h0 : 1 ≤ i) (h1 : i < 32) :
  Calls Tryz.prog 132 #[.int .u32 (wi x),.int .i64 (-(i : Int))] w fun e w' => e = .returned (.int .u32 (wi (rotr x i))) ∧ w' = w := by
 obtain ⟨j,hj⟩ : ∃ j,j = 32 - i := ⟨_,rfl⟩
 have HJ := Lib.hid hj
 have hb : bits .and .u64 (IntKind.u64.wrap (-(i : Int))) 31 = (j : Int) := by rw [rot_amount i h1 h0]; omega
 have f2 : (j : Int) < 32 := by omega
 have f4 : (i : Int) < 32 := by omega
 have f3 : IntKind.u64.wrap (32 - (j : Int)) = (i : Int) := by rw [IntWalk.u64_in _ (by omega)]; omega
 clear hj
 go_enter Tryz.func132,Tryz.ntmps132
 go_wp2
 go_ret
 refine ⟨?_,rfl⟩
 show Ending.returned (.int .u32 (wi _)) = _
 rw [BitVec.or_comm,HJ.out]
 rfl
theorem turned_any (x : Wd) (i j k : Nat) (w : World) (hi : 1 ≤ i ∧ i < 32) (hj : 1 ≤ j ∧ j < 32) (hk : 1 ≤ k ∧ k < 32) :
  Calls Tryz.prog 114 #[.int .u32 (wi x),.int .i64 (i : Int),.int .i64 (j : Int),.int .i64 (k : Int)] w fun e w' => e = .returned (.int .u32 (wi (rotr x i ^^^ rotr x j ^^^ rotr x k))) ∧ w' = w := by
 have f1 : IntKind.i64.wrap (-(i : Int)) = -(i : Int) := IntWalk.i64_in _ (by omega)
 have f2 : IntKind.i64.wrap (-(j : Int)) = -(j : Int) := IntWalk.i64_in _ (by omega)
 have f3 : IntKind.i64.wrap (-(k : Int)) = -(k : Int) := IntWalk.i64_in _ (by omega)
 go_enter Tryz.func114,Tryz.ntmps114
 go_wp2_with fail
 refine (RotL32_right x i _ hi.1 hi.2).mono ?_
 rintro e w1 ⟨rfl,rfl⟩
 go_wp2_with fail
 refine (RotL32_right x j _ hj.1 hj.2).mono ?_
 rintro e w1 ⟨rfl,rfl⟩
 go_wp2_with fail
 refine (RotL32_right x k _ hk.1 hk.2).mono ?_
 rintro e w1 ⟨rfl,rfl⟩
 go_wp2
 go_ret
 exact ⟨rfl,rfl⟩
end Go.Proofs.YtedffdlkmpmdlaaGreatDoor
namespace Go.Proofs.YtedffdlkmpmdlaaGreatDoor
set_option maxRecDepth 100000
set_option linter.unusedVariables false
set_option linter.unusedSimpArgs false
def cubesN : List Nat := [1116352408,1899447441,3049323471,3921009573,961987163,1508970993,2453635748,2870763221,3624381080,310598401,607225278,1426881987,1925078388,2162078206,2614888103,3248222580,3835390401,4022224774,264347078,604807628,770255983,1249150122,1555081692,1996064986,2554220882,2821834349,2952996808,3210313671,3336571891,3584528711,113926993,338241895,666307205,773529912,1294757372,1396182291,1695183700,1986661051,2177026350,2456956037,2730485921,2820302411,3259730800,3345764771,3516065817,3600352804,4094571909,275423344,430227734,506948616,659060556,883997877,958139571,1322822218,1537002063,1747873779,1955562222,2024104815,2227730452,2361852424,2428436474,2756734187,3204031479,3329325298]
def squaresN : List Nat := [1779033703,3144134277,1013904242,2773480762,1359893119,2600822924,528734635,1541459225]
def cubesL : List Wd := cubesN.map (BitVec.ofNat 32)
def H0 : List Wd := squaresN.map (BitVec.ofNat 32)
theorem H0_length : H0.length = 8 := rfl
def wordAt (b : List UInt8) (i : Nat) : Wd := w8 (b.getD (4 * i) 0) <<< 24 ||| w8 (b.getD (4 * i + 1) 0) <<< 16 ||| w8 (b.getD (4 * i + 2) 0) <<< 8 ||| w8 (b.getD (4 * i + 3) 0)
def sig0 (x : Wd) : Wd := rotr x 7 ^^^ rotr x 18 ^^^ x >>> 3
def sig1 (x : Wd) : Wd := rotr x 17 ^^^ rotr x 19 ^^^ x >>> 10
def nextW (s : List Wd) (t : Nat) : Wd := s.getD (t - 16) 0 + sig0 (s.getD (t - 15) 0) + s.getD (t - 7) 0 + sig1 (s.getD (t - 2) 0)
def sch (b : List UInt8) : Nat → List Wd
 |0 => []
 |t + 1 => sch b t ++ [if t < 16 then wordAt b t else nextW (sch b t) t]
theorem sch_length (b : List UInt8) : ∀ t,(sch b t).length = t
 |0 => rfl
 |t + 1 => by simp [sch,sch_length b t]
theorem sch_add (b : List UInt8) (t : Nat) : ∀ u,∃ r,sch b (t + u) = sch b t ++ r
 |0 => ⟨[],by simp⟩
 |u + 1 => by
  obtain ⟨r,h⟩ := sch_add b t u
  refine ⟨r ++ [if t + u < 16 then wordAt b (t + u) else nextW (sch b (t + u)) (t + u)],?_⟩
  rw [← Nat.add_assoc,sch,h,List.append_assoc]
theorem sch_get (b : List UInt8) (t n i : Nat) (h : i < t) (h' : t ≤ n) : (sch b n).getD i 0 = (sch b t).getD i 0 := by
 obtain ⟨u,rfl⟩ : ∃ u,n = t + u := ⟨n - t,by omega⟩
 obtain ⟨r,e⟩ := sch_add b t u
 rw [e,List.getD_eq_getElem?_getD,List.getD_eq_getElem?_getD,List.getElem?_append_left (by rw [sch_length]; exact h)]
def stp (k w : Wd) : List Wd → List Wd
 |[a,b,c,d,e,f,g,h] =>
  [h + (rotr e 6 ^^^ rotr e 11 ^^^ rotr e 25) + (e &&& f ^^^ ~~~ e &&& g) + k + w + ((rotr a 2 ^^^ rotr a 13 ^^^ rotr a 22) + (a &&& b ^^^ a &&& c ^^^ b &&& c)),a,b,c,
   d + (h + (rotr e 6 ^^^ rotr e 11 ^^^ rotr e 25) + (e &&& f ^^^ ~~~ e &&& g) + k + w),e,f,g]
 |l => l
theorem stp_length (k w : Wd) (l : List Wd) : (stp k w l).length = l.length := by
 unfold stp
 split <;> rfl
def rnds (b : List UInt8) (s : List Wd) : Nat → List Wd
 |0 => s
 |t + 1 => stp (cubesL.getD t 0) ((sch b 64).getD t 0) (rnds b s t)
theorem rnds_length (b : List UInt8) (s : List Wd) : ∀ t,(rnds b s t).length = s.length
 |0 => rfl
 |t + 1 => by rw [rnds,stp_length,rnds_length b s t]
def compress (b : List UInt8) (s : List Wd) : List Wd := List.zipWith (· + ·) s (rnds b s 64)
theorem compress_length (b : List UInt8) (s : List Wd) : (compress b s).length = s.length := by simp [compress,rnds_length]
def blk (m : List UInt8) (n : Nat) : List UInt8 := (m.drop (64 * n)).take 64
def runB (m : List UInt8) (s : List Wd) : Nat → List Wd
 |0 => s
 |n + 1 => compress (blk m n) (runB m s n)
theorem runB_length (m : List UInt8) (s : List Wd) : ∀ n,(runB m s n).length = s.length
 |0 => rfl
 |n + 1 => by rw [runB,compress_length,runB_length m s n]
theorem eight {l : List Wd} (h : l.length = 8) : ∃ a b c d e f g i,l = [a,b,c,d,e,f,g,i] := by
 match l,h with
 |[a,b,c,d,e,f,g,i],_ => exact ⟨a,b,c,d,e,f,g,i,rfl⟩
theorem runB_left (A B : List UInt8) (s : List Wd) : ∀ p,64 * p ≤ A.length → runB (A ++ B) s p = runB A s p
 |0,_ => rfl
 |p + 1,h => by
  rw [runB,runB,runB_left A B s p (by omega)]
  congr 1
  simp only [blk]
  rw [List.drop_append_of_le_length (by omega),List.take_append_of_le_length (by simp; omega)]
theorem runB_append (A B : List UInt8) (s : List Wd) (p : Nat) (hA : A.length = 64 * p) : ∀ q,runB (A ++ B) s (p + q) = runB B (runB A s p) q
 |0 => by rw [Nat.add_zero,runB_left A B s p (by omega)]; rfl
 |q + 1 => by
  rw [← Nat.add_assoc,runB,runB_append A B s p hA q,runB]
  congr 1
  simp only [blk]
  rw [List.drop_append,List.drop_eq_nil_of_le (by omega),hA,List.nil_append]
  congr 2
  omega
def be8 (x : Nat) : List UInt8 := (List.range 8).map fun i => UInt8.ofNat (x / 2 ^ (56 - 8 * i))
theorem be8_length (x : Nat) : (be8 x).length = 8 := by simp [be8]
def padZ (n : Nat) : Nat := (119 - n % 64) % 64
def pad (bs : List UInt8) : List UInt8 := bs ++ [128] ++ List.replicate (padZ bs.length) 0 ++ be8 (8 * bs.length)
theorem pad_length (bs : List UInt8) : (pad bs).length = bs.length + 9 + padZ bs.length := by simp [pad,be8_length]; omega
def fsize (r : Nat) : Nat := if 56 ≤ r then 128 else 64
def fil (r : List UInt8) (n : Nat) : List UInt8 := r ++ [128] ++ List.replicate (fsize r.length - 9 - r.length) 0 ++ be8 (8 * n)
theorem fil_length (r : List UInt8) (n : Nat) (h : r.length < 64) : (fil r n).length = fsize r.length := by
 simp [fil,be8_length,fsize]
 split <;> omega
theorem pad_cut (bs : List UInt8) : pad bs = bs.take (64 * (bs.length / 64)) ++ fil (bs.drop (64 * (bs.length / 64))) bs.length := by
 have h : padZ bs.length = fsize (bs.drop (64 * (bs.length / 64))).length - 9 - (bs.drop (64 * (bs.length / 64))).length := by
  simp only [padZ,fsize,List.length_drop]
  split <;> omega
 rw [pad,fil,h]
 simp only [List.append_assoc]
 rw [← List.append_assoc (bs.take _),List.take_append_drop]
def bytesOf (s : List Wd) : List UInt8 := s.flatMap fun x : Wd => [lo8 (x >>> 24),lo8 (x >>> 16),lo8 (x >>> 8),lo8 x]
theorem bytesOf_length (s : List Wd) : (bytesOf s).length = 4 * s.length := by
 induction s with
 |nil => rfl
 |cons x s ih => simp only [bytesOf,List.flatMap_cons,List.length_append,List.length_cons,List.length_nil] at *; omega
def sha (bs : List UInt8) : List UInt8 := bytesOf (runB (pad bs) H0 ((pad bs).length / 64))
theorem sha_length (bs : List UInt8) : (sha bs).length = 32 := by rw [sha,bytesOf_length,runB_length,H0_length]
theorem sha_cut (bs : List UInt8) : sha bs = bytesOf (runB (fil (bs.drop (64 * (bs.length / 64))) bs.length) (runB (bs.take (64 * (bs.length / 64))) H0 (bs.length / 64)) (fsize (bs.length % 64) / 64)) := by
 rw [sha,← runB_append _ _ _ _ (by simp; omega),← pad_cut,pad_length]
 congr 2
 simp only [padZ,fsize]
 split <;> omega
def sha2 (bs : List UInt8) : List UInt8 := sha (sha bs)
end Go.Proofs.YtedffdlkmpmdlaaGreatDoor
namespace Go.Proofs.YtedffdlkmpmdlaaGreatDoor
set_option maxRecDepth 100000
set_option linter.unusedVariables false
set_option linter.unusedSimpArgs false
def rN (x k j : Nat) : Nat := Nat.lor (Nat.shiftRight x k) (Nat.mod (Nat.shiftLeft x j) 4294967296)
theorem rN_rotr (x : Wd) (k : Nat) : (rotr x k).toNat = rN x.toNat k (32 - k) := by
 unfold rotr rN
 rw [BitVec.toNat_or,BitVec.toNat_ushiftRight,BitVec.toNat_shiftLeft]
 rfl
def s0N (x : Nat) : Nat := Nat.xor (Nat.xor (rN x 7 25) (rN x 18 14)) (Nat.shiftRight x 3)
def s1N (x : Nat) : Nat := Nat.xor (Nat.xor (rN x 17 15) (rN x 19 13)) (Nat.shiftRight x 10)
theorem s0N_sig0 (x : Wd) : (sig0 x).toNat = s0N x.toNat := by
 unfold sig0 s0N
 rw [BitVec.toNat_xor,BitVec.toNat_xor,rN_rotr,rN_rotr,BitVec.toNat_ushiftRight]
 rfl
theorem s1N_sig1 (x : Wd) : (sig1 x).toNat = s1N x.toNat := by
 unfold sig1 s1N
 rw [BitVec.toNat_xor,BitVec.toNat_xor,rN_rotr,rN_rotr,BitVec.toNat_ushiftRight]
 rfl
def nxN (a b c d : Nat) : Nat := Nat.mod (Nat.add (Nat.add (Nat.add a (s0N b)) c) (s1N d)) 4294967296
theorem nxN_is (a b c d : Wd) : (a + sig0 b + c + sig1 d).toNat = nxN a.toNat b.toNat c.toNat d.toNat := by
 show _ = (a.toNat + s0N b.toNat + c.toNat + s1N d.toNat) % 4294967296
 simp only [BitVec.toNat_add,s0N_sig0,s1N_sig1,Nat.mod_add_mod]
def t1N (e f g h k w : Nat) : Nat := Nat.add (Nat.add (Nat.add (Nat.add h (Nat.xor (Nat.xor (rN e 6 26) (rN e 11 21)) (rN e 25 7))) (Nat.xor (Nat.land e f) (Nat.land (Nat.sub 4294967295 e) g))) k) w
def t2N (a b c : Nat) : Nat := Nat.add (Nat.xor (Nat.xor (rN a 2 30) (rN a 13 19)) (rN a 22 10)) (Nat.xor (Nat.xor (Nat.land a b) (Nat.land a c)) (Nat.land b c))
theorem t1N_is (e f g h k w : Wd) : (h + (rotr e 6 ^^^ rotr e 11 ^^^ rotr e 25) + (e &&& f ^^^ ~~~ e &&& g) + k + w).toNat = t1N e.toNat f.toNat g.toNat h.toNat k.toNat w.toNat % 4294967296 := by
 show _ = (h.toNat + ((rN e.toNat 6 26 ^^^ rN e.toNat 11 21) ^^^ rN e.toNat 25 7) + ((e.toNat &&& f.toNat) ^^^ ((4294967295 - e.toNat) &&& g.toNat)) + k.toNat + w.toNat) % 4294967296
 simp only [BitVec.toNat_add,BitVec.toNat_xor,BitVec.toNat_and,BitVec.toNat_not,rN_rotr,Nat.mod_add_mod]
theorem t2N_is (a b c : Wd) : (((rotr a 2 ^^^ rotr a 13 ^^^ rotr a 22) + (a &&& b ^^^ a &&& c ^^^ b &&& c) : Wd)).toNat = t2N a.toNat b.toNat c.toNat % 4294967296 := by
 show _ = (((rN a.toNat 2 30 ^^^ rN a.toNat 13 19) ^^^ rN a.toNat 22 10) + (((a.toNat &&& b.toNat) ^^^ (a.toNat &&& c.toNat)) ^^^ (b.toNat &&& c.toNat))) % 4294967296
 simp only [BitVec.toNat_add,BitVec.toNat_xor,BitVec.toNat_and,rN_rotr]
def goN : List Nat → Nat → Nat → Nat → Nat → Nat → Nat → Nat → Nat → Nat → Nat → Nat → Nat → Nat → Nat → Nat → Nat → Nat → Nat → Nat → Nat → Nat → Nat → Nat → Nat → List Nat
 |[],a,b,c,d,e,f,g,h,_,_,_,_,_,_,_,_,_,_,_,_,_,_,_,_ => [a,b,c,d,e,f,g,h]
 |k :: ks,a,b,c,d,e,f,g,h,w0,w1,w2,w3,w4,w5,w6,w7,w8,w9,w10,w11,w12,w13,w14,w15 =>
  goN ks (Nat.mod (Nat.add (t1N e f g h k w0) (t2N a b c)) 4294967296) a b c (Nat.mod (Nat.add d (t1N e f g h k w0)) 4294967296) e f g w1 w2 w3 w4 w5 w6 w7 w8 w9 w10 w11 w12 w13 w14 w15 (nxN w0 w1 w9 w14)
def wSc (b : List UInt8) (t : Nat) : Wd := (sch b (t + 1)).getD t 0
theorem wSc_at (b : List UInt8) (n t : Nat) (h : t < n) : (sch b n).getD t 0 = wSc b t := sch_get b (t + 1) n t (by omega) (by omega)
theorem wSc_next (b : List UInt8) (t : Nat) : wSc b (t + 16) = wSc b t + sig0 (wSc b (t + 1)) + wSc b (t + 9) + sig1 (wSc b (t + 14)) := by
 have e : wSc b (t + 16) = nextW (sch b (t + 16)) (t + 16) := by
  rw [wSc,sch,List.getD_eq_getElem?_getD,List.getElem?_append_right (by rw [sch_length]; exact Nat.le_refl _),sch_length,Nat.sub_self,if_neg (by omega)]
  rfl
 rw [e,nextW,show t + 16 - 16 = t by omega,show t + 16 - 15 = t + 1 by omega,show t + 16 - 7 = t + 9 by omega,show t + 16 - 2 = t + 14 by omega,wSc_at _ _ _ (by omega),wSc_at _ _ _ (by omega),wSc_at _ _ _ (by omega),wSc_at _ _ _ (by omega)]
theorem wSc_first (b : List UInt8) (t : Nat) (h : t < 16) : wSc b t = wordAt b t := by
 rw [wSc,sch,List.getD_eq_getElem?_getD,List.getElem?_append_right (by rw [sch_length]; exact Nat.le_refl _),sch_length,Nat.sub_self,if_pos h]
 rfl
theorem cubes_nat : ∀ t,t < 64 → (cubesL.getD t 0).toNat = cubesN.getD t 0 := by decide +kernel
theorem goN_is (b : List UInt8) (s : List Wd) (hs : s.length = 8) : ∀ u t,t + u = 64 → ∀ A B C D E F G H,rnds b s t = [A,B,C,D,E,F,G,H] →
  goN (cubesN.drop t) A.toNat B.toNat C.toNat D.toNat E.toNat F.toNat G.toNat H.toNat (wSc b t).toNat (wSc b (t + 1)).toNat (wSc b (t + 2)).toNat (wSc b (t + 3)).toNat (wSc b (t + 4)).toNat (wSc b (t + 5)).toNat (wSc b (t + 6)).toNat (wSc b (t + 7)).toNat
   (wSc b (t + 8)).toNat (wSc b (t + 9)).toNat (wSc b (t + 10)).toNat (wSc b (t + 11)).toNat (wSc b (t + 12)).toNat (wSc b (t + 13)).toNat (wSc b (t + 14)).toNat (wSc b (t + 15)).toNat = (rnds b s 64).map BitVec.toNat
 |0,t,ht,A,B,C,D,E,F,G,H,h => by
  obtain rfl : t = 64 := by omega
  rw [h,show cubesN.drop 64 = [] by decide]
  rfl
 |u + 1,t,ht,A,B,C,D,E,F,G,H,h => by
  have hd : cubesN.drop t = cubesN.getD t 0 :: cubesN.drop (t + 1) := by
   have hl : t < cubesN.length := by show t < 64; omega
   rw [List.drop_eq_getElem_cons hl]
   simp [List.getD,List.getElem?_eq_getElem hl]
  have hn := wSc_next b t
  have hr : rnds b s (t + 1) = stp (cubesL.getD t 0) (wSc b t) [A,B,C,D,E,F,G,H] := by rw [rnds,h,wSc_at _ _ _ (by omega)]
  have h1 := t1N_is E F G H (cubesL.getD t 0) (wSc b t)
  have h2 := t2N_is A B C
  have hk := cubes_nat t (by omega)
  simp only [stp] at hr
  have ih := goN_is b s hs u (t + 1) (by omega) _ _ _ _ _ _ _ _ hr
  rw [← ih,hd,goN]
  have e1 : (H + (rotr E 6 ^^^ rotr E 11 ^^^ rotr E 25) + (E &&& F ^^^ ~~~ E &&& G) + cubesL.getD t 0 + wSc b t + ((rotr A 2 ^^^ rotr A 13 ^^^ rotr A 22) + (A &&& B ^^^ A &&& C ^^^ B &&& C))).toNat
    = Nat.mod (Nat.add (t1N E.toNat F.toNat G.toNat H.toNat (cubesN.getD t 0) (wSc b t).toNat) (t2N A.toNat B.toNat C.toNat)) 4294967296 := by
   rw [BitVec.toNat_add,h1,h2,← hk]
   exact (Nat.add_mod _ _ _).symm
  have e2 : (D + (H + (rotr E 6 ^^^ rotr E 11 ^^^ rotr E 25) + (E &&& F ^^^ ~~~ E &&& G) + cubesL.getD t 0 + wSc b t)).toNat
    = Nat.mod (Nat.add D.toNat (t1N E.toNat F.toNat G.toNat H.toNat (cubesN.getD t 0) (wSc b t).toNat)) 4294967296 := by
   rw [BitVec.toNat_add,h1,← hk]
   exact Nat.add_mod_mod _ _ _
  have e3 : (wSc b (t + 1 + 15)).toNat = nxN (wSc b t).toNat (wSc b (t + 1)).toNat (wSc b (t + 9)).toNat (wSc b (t + 14)).toNat := by
   rw [show t + 1 + 15 = t + 16 by omega,hn,nxN_is]
  rw [e1,e2,e3]
def wdN (b : List UInt8) (i : Nat) : Nat := Nat.lor (Nat.lor (Nat.lor (Nat.mod (Nat.shiftLeft (b.getD (4 * i) 0).toNat 24) 4294967296) (Nat.mod (Nat.shiftLeft (b.getD (4 * i + 1) 0).toNat 16) 4294967296)) (Nat.mod (Nat.shiftLeft (b.getD (4 * i + 2) 0).toNat 8) 4294967296)) (b.getD (4 * i + 3) 0).toNat
theorem w8_nat (x : UInt8) : (w8 x).toNat = x.toNat := by
 unfold w8
 rw [BitVec.toNat_setWidth]
 have := x.toNat_lt
 exact Nat.mod_eq_of_lt (show x.toNat < 2 ^ 32 by omega)
theorem wdN_is (b : List UInt8) (i : Nat) : (wordAt b i).toNat = wdN b i := by
 unfold wordAt wdN
 simp only [BitVec.toNat_or,BitVec.toNat_shiftLeft,w8_nat]
 rfl
def cmN (b : List UInt8) : List Nat → List Nat
 |[a,b',c,d,e,f,g,h] => List.zipWith (fun x y => Nat.mod (Nat.add x y) 4294967296) [a,b',c,d,e,f,g,h]
   (goN cubesN a b' c d e f g h (wdN b 0) (wdN b 1) (wdN b 2) (wdN b 3) (wdN b 4) (wdN b 5) (wdN b 6) (wdN b 7) (wdN b 8) (wdN b 9) (wdN b 10) (wdN b 11) (wdN b 12) (wdN b 13) (wdN b 14) (wdN b 15))
 |l => l
theorem zip_nat : ∀ (l m : List Wd),List.zipWith (fun x y => Nat.mod (Nat.add x y) 4294967296) (l.map BitVec.toNat) (m.map BitVec.toNat) = (List.zipWith (· + ·) l m).map BitVec.toNat
 |[],_ => rfl
 |_ :: _,[] => rfl
 |x :: l,y :: m => by
  simp only [List.map_cons,List.zipWith_cons_cons,zip_nat l m,BitVec.toNat_add]
  rfl
theorem cmN_is (b : List UInt8) (s : List Wd) (hs : s.length = 8) : cmN b (s.map BitVec.toNat) = (compress b s).map BitVec.toNat := by
 obtain ⟨A,B,C,D,E,F,G,H,rfl⟩ := eight hs
 have h := goN_is b [A,B,C,D,E,F,G,H] rfl 64 0 rfl A B C D E F G H rfl
 simp only [Nat.zero_add,List.drop_zero,wSc_first b 0 (by omega),wSc_first b 1 (by omega),wSc_first b 2 (by omega),wSc_first b 3 (by omega),wSc_first b 4 (by omega),wSc_first b 5 (by omega),wSc_first b 6 (by omega),wSc_first b 7 (by omega),wSc_first b 8 (by omega),wSc_first b 9 (by omega),
  wSc_first b 10 (by omega),wSc_first b 11 (by omega),wSc_first b 12 (by omega),wSc_first b 13 (by omega),wSc_first b 14 (by omega),wSc_first b 15 (by omega),wdN_is] at h
 rw [compress,← zip_nat,← h]
 rfl
def rnN (m : List UInt8) : Nat → List Nat
 |0 => squaresN
 |n + 1 => cmN (blk m n) (rnN m n)
theorem rnN_is (m : List UInt8) : ∀ n,rnN m n = (runB m H0 n).map BitVec.toNat
 |0 => by show squaresN = H0.map BitVec.toNat; decide +kernel
 |n + 1 => by rw [rnN,rnN_is m n,cmN_is _ _ (by rw [runB_length,H0_length]),runB]
def byN (x : Nat) : List UInt8 := [UInt8.ofNat (Nat.shiftRight x 24),UInt8.ofNat (Nat.shiftRight x 16),UInt8.ofNat (Nat.shiftRight x 8),UInt8.ofNat x]
theorem lo8_nat (x : Wd) : lo8 x = UInt8.ofNat x.toNat := by
 unfold lo8
 apply UInt8.toNat_inj.1
 simp [UInt8.toNat_ofNat']
theorem byN_one (x : Wd) : byN x.toNat = [lo8 (x >>> 24),lo8 (x >>> 16),lo8 (x >>> 8),lo8 x] := by
 simp only [lo8_nat,BitVec.toNat_ushiftRight,byN]
 rfl
theorem byN_is (s : List Wd) : (s.map BitVec.toNat).flatMap byN = bytesOf s := by
 induction s with
 |nil => rfl
 |cons x s ih =>
  simp only [bytesOf,List.map_cons,List.flatMap_cons,byN_one] at *
  rw [ih]
def shaN (bs : List UInt8) : List UInt8 := (rnN (pad bs) ((pad bs).length / 64)).flatMap byN
theorem sha_is (bs : List UInt8) : sha bs = shaN bs := by rw [shaN,rnN_is,byN_is,sha]
end Go.Proofs.YtedffdlkmpmdlaaGreatDoor
namespace Go.Proofs.YtedffdlkmpmdlaaGreatDoor
set_option maxRecDepth 100000
set_option linter.unusedVariables false
set_option linter.unusedSimpArgs false
def pk : List Nat → Nat
 |[] => 0
 |x :: l => 2 ^ 64 * pk l + x
theorem and_side {a b x y : Nat} (hx : x < 2 ^ 64) (hy : y < 2 ^ 64) : Nat.land (2 ^ 64 * a + x) (2 ^ 64 * b + y) = 2 ^ 64 * Nat.land a b + Nat.land x y := by
 show (2 ^ 64 * a + x) &&& (2 ^ 64 * b + y) = 2 ^ 64 * (a &&& b) + (x &&& y)
 have hxy : x &&& y < 2 ^ 64 := Nat.and_lt_two_pow _ hy
 apply Nat.eq_of_testBit_eq
 intro j
 rw [Nat.testBit_and,Nat.testBit_two_pow_mul_add _ hx,Nat.testBit_two_pow_mul_add _ hy,Nat.testBit_two_pow_mul_add _ hxy]
 split
 ·rw [Nat.testBit_and]
 ·rw [Nat.testBit_and]
theorem xor_side {a b x y : Nat} (hx : x < 2 ^ 64) (hy : y < 2 ^ 64) : Nat.xor (2 ^ 64 * a + x) (2 ^ 64 * b + y) = 2 ^ 64 * Nat.xor a b + Nat.xor x y := by
 show (2 ^ 64 * a + x) ^^^ (2 ^ 64 * b + y) = 2 ^ 64 * (a ^^^ b) + (x ^^^ y)
 have hxy : x ^^^ y < 2 ^ 64 := Nat.xor_lt_two_pow hx hy
 apply Nat.eq_of_testBit_eq
 intro j
 rw [Nat.testBit_xor,Nat.testBit_two_pow_mul_add _ hx,Nat.testBit_two_pow_mul_add _ hy,Nat.testBit_two_pow_mul_add _ hxy]
 split
 ·rw [Nat.testBit_xor]
 ·rw [Nat.testBit_xor]
theorem or_side {a b x y : Nat} (hx : x < 2 ^ 64) (hy : y < 2 ^ 64) : Nat.lor (2 ^ 64 * a + x) (2 ^ 64 * b + y) = 2 ^ 64 * Nat.lor a b + Nat.lor x y := by
 show (2 ^ 64 * a + x) ||| (2 ^ 64 * b + y) = 2 ^ 64 * (a ||| b) + (x ||| y)
 have hxy : x ||| y < 2 ^ 64 := Nat.or_lt_two_pow hx hy
 apply Nat.eq_of_testBit_eq
 intro j
 rw [Nat.testBit_or,Nat.testBit_two_pow_mul_add _ hx,Nat.testBit_two_pow_mul_add _ hy,Nat.testBit_two_pow_mul_add _ hxy]
 split
 ·rw [Nat.testBit_or]
 ·rw [Nat.testBit_or]
theorem shr_side {a b x : Nat} {k : Nat} (hk : k ≤ 32) (hx : x < 2 ^ 32) : Nat.land (Nat.shiftRight (2 ^ 64 * a + x) k) (2 ^ 64 * b + 4294967295) = 2 ^ 64 * Nat.land (Nat.shiftRight a k) b + Nat.shiftRight x k := by
 show ((2 ^ 64 * a + x) >>> k) &&& (2 ^ 64 * b + (2 ^ 32 - 1)) = 2 ^ 64 * ((a >>> k) &&& b) + (x >>> k)
 have h1 : x < 2 ^ 64 := Nat.lt_trans hx (by decide)
 have h2 : 2 ^ 32 - 1 < 2 ^ 64 := by decide
 have h3 : x >>> k < 2 ^ 64 := Nat.lt_of_le_of_lt (by rw [Nat.shiftRight_eq_div_pow]; exact Nat.div_le_self _ _) h1
 apply Nat.eq_of_testBit_eq
 intro j
 rw [Nat.testBit_and,Nat.testBit_shiftRight,Nat.testBit_two_pow_mul_add _ h1,Nat.testBit_two_pow_mul_add _ h2,Nat.testBit_two_pow_mul_add _ h3,Nat.testBit_two_pow_sub_one]
 by_cases hj : j < 64
 ·rw [if_pos hj,if_pos hj,Nat.testBit_shiftRight]
  by_cases h32 : j < 32
  ·rw [if_pos (by omega),decide_eq_true h32,Bool.and_true]
  ·rw [decide_eq_false h32,Bool.and_false]
   have : x.testBit (k + j) = false := Nat.testBit_lt_two_pow (Nat.lt_of_lt_of_le hx (Nat.pow_le_pow_right (by decide) (by omega)))
   rw [this]
 ·rw [if_neg hj,if_neg hj,if_neg (by omega),Nat.testBit_and,Nat.testBit_shiftRight]
  congr 2
  omega
theorem shl_side {a x : Nat} {k : Nat} : Nat.shiftLeft (2 ^ 64 * a + x) k = 2 ^ 64 * Nat.shiftLeft a k + Nat.shiftLeft x k := by
 show (2 ^ 64 * a + x) <<< k = 2 ^ 64 * (a <<< k) + (x <<< k)
 rw [Nat.shiftLeft_eq,Nat.shiftLeft_eq,Nat.shiftLeft_eq,Nat.add_mul,Nat.mul_assoc]
theorem mod_side {a b x : Nat} (hx : x < 2 ^ 64) : Nat.land (2 ^ 64 * a + x) (2 ^ 64 * b + 4294967295) = 2 ^ 64 * Nat.land a b + Nat.mod x 4294967296 := by
 rw [and_side hx (by decide)]
 congr 1
 show x &&& 2 ^ 32 - 1 = x % 2 ^ 32
 exact Nat.and_two_pow_sub_one_eq_mod x 32
theorem add_side {a b x y : Nat} : Nat.add (2 ^ 64 * a + x) (2 ^ 64 * b + y) = 2 ^ 64 * Nat.add a b + Nat.add x y := by
 show 2 ^ 64 * a + x + (2 ^ 64 * b + y) = 2 ^ 64 * (a + b) + (x + y)
 rw [Nat.mul_add]; omega
section
variable {σ : Type}
def pf (l : List σ) (f : σ → Nat) : Nat := pk (l.map f)
def mk32 (l : List σ) : Nat := pf l fun _ => 4294967295
def B32 (f : σ → Nat) : Prop := ∀ s,f s < 2 ^ 32
def B64 (f : σ → Nat) : Prop := ∀ s,f s < 2 ^ 64
theorem B32.b64 {f : σ → Nat} (h : B32 f) : B64 f := fun s => Nat.lt_trans (h s) (by decide)
theorem pf_and : ∀ (l : List σ) {f g : σ → Nat},B64 f → B64 g → Nat.land (pf l f) (pf l g) = pf l fun s => Nat.land (f s) (g s)
 |[],_,_,_,_ => by show Nat.land 0 0 = 0; decide
 |x :: l,f,g,hf,hg => (and_side (hf x) (hg x)).trans (congrArg (fun z => 2 ^ 64 * z + Nat.land (f x) (g x)) (pf_and l hf hg))
theorem pf_xor : ∀ (l : List σ) {f g : σ → Nat},B64 f → B64 g → Nat.xor (pf l f) (pf l g) = pf l fun s => Nat.xor (f s) (g s)
 |[],_,_,_,_ => by show Nat.xor 0 0 = 0; decide
 |x :: l,f,g,hf,hg => (xor_side (hf x) (hg x)).trans (congrArg (fun z => 2 ^ 64 * z + Nat.xor (f x) (g x)) (pf_xor l hf hg))
theorem pf_or : ∀ (l : List σ) {f g : σ → Nat},B64 f → B64 g → Nat.lor (pf l f) (pf l g) = pf l fun s => Nat.lor (f s) (g s)
 |[],_,_,_,_ => by show Nat.lor 0 0 = 0; decide
 |x :: l,f,g,hf,hg => (or_side (hf x) (hg x)).trans (congrArg (fun z => 2 ^ 64 * z + Nat.lor (f x) (g x)) (pf_or l hf hg))
theorem pf_shr {k : Nat} (hk : k ≤ 32) : ∀ (l : List σ) {f : σ → Nat},B32 f → Nat.land (Nat.shiftRight (pf l f) k) (mk32 l) = pf l fun s => Nat.shiftRight (f s) k
 |[],_,_ => by
  show (0 >>> k) &&& 0 = 0
  simp
 |x :: l,f,hf => (shr_side hk (hf x)).trans (congrArg (fun z => 2 ^ 64 * z + Nat.shiftRight (f x) k) (pf_shr hk l hf))
theorem pf_shl {k : Nat} : ∀ (l : List σ) {f : σ → Nat},Nat.shiftLeft (pf l f) k = pf l fun s => Nat.shiftLeft (f s) k
 |[],_ => by
  show 0 <<< k = 0
  simp
 |x :: l,f => shl_side.trans (congrArg (fun z => 2 ^ 64 * z + Nat.shiftLeft (f x) k) (pf_shl l))
theorem pf_mod : ∀ (l : List σ) {f : σ → Nat},B64 f → Nat.land (pf l f) (mk32 l) = pf l fun s => Nat.mod (f s) 4294967296
 |[],_,_ => by show Nat.land 0 0 = 0; decide
 |x :: l,f,hf => (mod_side (hf x)).trans (congrArg (fun z => 2 ^ 64 * z + Nat.mod (f x) 4294967296) (pf_mod l hf))
theorem pf_add : ∀ (l : List σ) {f g : σ → Nat},Nat.add (pf l f) (pf l g) = pf l fun s => Nat.add (f s) (g s)
 |[],_,_ => rfl
 |x :: l,f,g => add_side.trans (congrArg (fun z => 2 ^ 64 * z + Nat.add (f x) (g x)) (pf_add l))
theorem pf_not : ∀ (l : List σ) {f : σ → Nat},B32 f → Nat.sub (mk32 l) (pf l f) = pf l fun s => Nat.sub 4294967295 (f s)
 |[],_,_ => rfl
 |x :: l,f,hf => by
  have ih := pf_not l hf
  have hx := hf x
  have hle : ∀ l : List σ,pf l f ≤ mk32 l := by
   intro l
   induction l with
   |nil => exact Nat.le_refl _
   |cons y l ih2 =>
    show 2 ^ 64 * pf l f + f y ≤ 2 ^ 64 * mk32 l + 4294967295
    have := hf y
    have := Nat.mul_le_mul_left (2 ^ 64) ih2
    omega
  have := hle l
  show 2 ^ 64 * mk32 l + 4294967295 - (2 ^ 64 * pf l f + f x) = 2 ^ 64 * pf l (fun s => Nat.sub 4294967295 (f s)) + (4294967295 - f x)
  rw [← ih]
  show 2 ^ 64 * mk32 l + 4294967295 - (2 ^ 64 * pf l f + f x) = 2 ^ 64 * (mk32 l - pf l f) + (4294967295 - f x)
  rw [Nat.mul_sub]
  have := Nat.mul_le_mul_left (2 ^ 64) this
  omega
theorem pf_const (l : List σ) (c : Nat) : pf l (fun _ => c) = Nat.mul c (pf l fun _ => 1) := by
 induction l with
 |nil => rfl
 |cons x l ih =>
  show 2 ^ 64 * pf l (fun _ => c) + c = c * (2 ^ 64 * pf l (fun _ => 1) + 1)
  rw [ih]
  show 2 ^ 64 * (c * pf l fun _ => 1) + c = c * (2 ^ 64 * pf l (fun _ => 1) + 1)
  rw [Nat.mul_add,Nat.mul_one,Nat.mul_left_comm]
theorem pf_get : ∀ (l : List σ) {f : σ → Nat},B64 f → ∀ (i : Nat) (s : σ),l[i]? = some s → Nat.mod (Nat.shiftRight (pf l f) (64 * i)) (2 ^ 64) = f s
 |[],_,_,i,s,h => by simp at h
 |x :: l,f,hf,0,s,h => by
  simp at h
  subst h
  show (2 ^ 64 * pf l f + f x) >>> (64 * 0) % 2 ^ 64 = f x
  rw [Nat.mul_zero,Nat.shiftRight_zero,Nat.mul_add_mod,Nat.mod_eq_of_lt (hf x)]
 |x :: l,f,hf,i + 1,s,h => by
  rw [List.getElem?_cons_succ] at h
  rw [← pf_get l hf i s h]
  show ((2 ^ 64 * pf l f + f x) >>> (64 * (i + 1))) % 2 ^ 64 = (pf l f >>> (64 * i)) % 2 ^ 64
  rw [show 64 * (i + 1) = 64 + 64 * i by omega,Nat.shiftRight_add]
  congr 2
  rw [Nat.shiftRight_eq_div_pow,Nat.mul_add_div (by decide),Nat.div_eq_of_lt (hf x),Nat.add_zero]
end
end Go.Proofs.YtedffdlkmpmdlaaGreatDoor
namespace Go.Proofs.YtedffdlkmpmdlaaGreatDoor
set_option maxRecDepth 100000
set_option linter.unusedVariables false
set_option linter.unusedSimpArgs false
def rV (M X k j : Nat) : Nat := Nat.lor (Nat.land (Nat.shiftRight X k) M) (Nat.land (Nat.shiftLeft X j) M)
def s0V (M X : Nat) : Nat := Nat.xor (Nat.xor (rV M X 7 25) (rV M X 18 14)) (Nat.land (Nat.shiftRight X 3) M)
def s1V (M X : Nat) : Nat := Nat.xor (Nat.xor (rV M X 17 15) (rV M X 19 13)) (Nat.land (Nat.shiftRight X 10) M)
def nxV2 (M a b c d : Nat) : Nat := Nat.land (Nat.add (Nat.add (Nat.add a (s0V M b)) c) (s1V M d)) M
def t1V (M O e f g h k w : Nat) : Nat := Nat.add (Nat.add (Nat.add (Nat.add h (Nat.xor (Nat.xor (rV M e 6 26) (rV M e 11 21)) (rV M e 25 7))) (Nat.xor (Nat.land e f) (Nat.land (Nat.sub M e) g))) (Nat.mul k O)) w
def t2V (M a b c : Nat) : Nat := Nat.add (Nat.xor (Nat.xor (rV M a 2 30) (rV M a 13 19)) (rV M a 22 10)) (Nat.xor (Nat.xor (Nat.land a b) (Nat.land a c)) (Nat.land b c))
def goV (M O : Nat) : List Nat → Nat → Nat → Nat → Nat → Nat → Nat → Nat → Nat → Nat → Nat → Nat → Nat → Nat → Nat → Nat → Nat → Nat → Nat → Nat → Nat → Nat → Nat → Nat → Nat → List Nat
 |[],a,b,c,d,e,f,g,h,_,_,_,_,_,_,_,_,_,_,_,_,_,_,_,_ => [a,b,c,d,e,f,g,h]
 |k :: ks,a,b,c,d,e,f,g,h,w0,w1,w2,w3,w4,w5,w6,w7,w8,w9,w10,w11,w12,w13,w14,w15 =>
  goV M O ks (Nat.land (Nat.add (t1V M O e f g h k w0) (t2V M a b c)) M) a b c (Nat.land (Nat.add d (t1V M O e f g h k w0)) M) e f g w1 w2 w3 w4 w5 w6 w7 w8 w9 w10 w11 w12 w13 w14 w15 (nxV2 M w0 w1 w9 w14)
section
variable {σ : Type}
theorem shr_lt {x k n : Nat} (h : x < n) : Nat.shiftRight x k < n := by
 show x >>> k < n
 rw [Nat.shiftRight_eq_div_pow]
 exact Nat.lt_of_le_of_lt (Nat.div_le_self _ _) h
theorem rN_lt {x k j : Nat} (h : x < 2 ^ 32) : rN x k j < 2 ^ 32 := Nat.or_lt_two_pow (shr_lt h) (Nat.mod_lt _ (by decide))
theorem B32.r {f : σ → Nat} (h : B32 f) (k j : Nat) : B32 fun s => rN (f s) k j := fun s => rN_lt (h s)
theorem B32.xor {f g : σ → Nat} (hf : B32 f) (hg : B32 g) : B32 fun s => Nat.xor (f s) (g s) := fun s => Nat.xor_lt_two_pow (hf s) (hg s)
theorem B32.and {f g : σ → Nat} (hf : B32 f) (hg : B32 g) : B32 fun s => Nat.land (f s) (g s) := fun s => Nat.and_lt_two_pow _ (hg s)
theorem B32.shr {f : σ → Nat} (h : B32 f) (k : Nat) : B32 fun s => Nat.shiftRight (f s) k := fun s => shr_lt (h s)
theorem B32.not {f : σ → Nat} (h : B32 f) : B32 fun s => Nat.sub 4294967295 (f s) := fun s => Nat.lt_of_le_of_lt (Nat.sub_le _ _) (by decide)
theorem B32.mod (f : σ → Nat) : B32 fun s => Nat.mod (f s) 4294967296 := fun s => Nat.mod_lt _ (by decide)
theorem shl_b64 {f : σ → Nat} (h : B32 f) {j : Nat} (hj : j ≤ 32) : B64 fun s => Nat.shiftLeft (f s) j := fun s => by
 show f s <<< j < 2 ^ 64
 rw [Nat.shiftLeft_eq]
 have h1 : f s * 2 ^ j < 2 ^ 32 * 2 ^ j := Nat.mul_lt_mul_of_pos_right (h s) (Nat.two_pow_pos j)
 have h2 : 2 ^ 32 * 2 ^ j ≤ 2 ^ 32 * 2 ^ 32 := Nat.mul_le_mul_left _ (Nat.pow_le_pow_right (by decide) hj)
 exact Nat.lt_of_lt_of_le h1 h2
theorem rV_is (l : List σ) {f : σ → Nat} (h : B32 f) {k j : Nat} (hk : k ≤ 32) (hj : j ≤ 32) : rV (mk32 l) (pf l f) k j = pf l fun s => rN (f s) k j := by
 unfold rV
 rw [pf_shr hk l h,pf_shl l,pf_mod l (shl_b64 h hj),pf_or l (h.shr k).b64 (B32.mod _).b64]
 rfl
theorem s0V_is (l : List σ) {f : σ → Nat} (h : B32 f) : s0V (mk32 l) (pf l f) = pf l fun s => s0N (f s) := by
 unfold s0V
 rw [rV_is l h (by decide) (by decide),rV_is l h (by decide) (by decide),pf_shr (by decide) l h,pf_xor l (h.r 7 25).b64 (h.r 18 14).b64,pf_xor l ((h.r 7 25).xor (h.r 18 14)).b64 (h.shr 3).b64]
 rfl
theorem s1V_is (l : List σ) {f : σ → Nat} (h : B32 f) : s1V (mk32 l) (pf l f) = pf l fun s => s1N (f s) := by
 unfold s1V
 rw [rV_is l h (by decide) (by decide),rV_is l h (by decide) (by decide),pf_shr (by decide) l h,pf_xor l (h.r 17 15).b64 (h.r 19 13).b64,pf_xor l ((h.r 17 15).xor (h.r 19 13)).b64 (h.shr 10).b64]
 rfl
theorem B32.s0 {f : σ → Nat} (h : B32 f) : B32 fun s => s0N (f s) := ((h.r 7 25).xor (h.r 18 14)).xor (h.shr 3)
theorem B32.s1 {f : σ → Nat} (h : B32 f) : B32 fun s => s1N (f s) := ((h.r 17 15).xor (h.r 19 13)).xor (h.shr 10)
theorem nxV_is (l : List σ) {a b c d : σ → Nat} (ha : B32 a) (hb : B32 b) (hc : B32 c) (hd : B32 d) : nxV2 (mk32 l) (pf l a) (pf l b) (pf l c) (pf l d) = pf l fun s => nxN (a s) (b s) (c s) (d s) := by
 unfold nxV2
 rw [s0V_is l hb,s1V_is l hd,pf_add,pf_add,pf_add,pf_mod l (fun s => ?_)]
 ·rfl
 ·have h1 := ha s
  have h2 : s0N (b s) < 2 ^ 32 := hb.s0 s
  have h3 := hc s
  have h4 : s1N (d s) < 2 ^ 32 := hd.s1 s
  show a s + s0N (b s) + c s + s1N (d s) < 2 ^ 64
  omega
theorem t1N_lt {e f g h k w : Nat} (he : e < 2 ^ 32) (hf : f < 2 ^ 32) (hg : g < 2 ^ 32) (hh : h < 2 ^ 32) (hk : k < 2 ^ 32) (hw : w < 2 ^ 32) : t1N e f g h k w < 2 ^ 35 := by
 have h1 : Nat.xor (Nat.xor (rN e 6 26) (rN e 11 21)) (rN e 25 7) < 2 ^ 32 := Nat.xor_lt_two_pow (Nat.xor_lt_two_pow (rN_lt he) (rN_lt he)) (rN_lt he)
 have h2 : Nat.xor (Nat.land e f) (Nat.land (Nat.sub 4294967295 e) g) < 2 ^ 32 := Nat.xor_lt_two_pow (Nat.and_lt_two_pow _ hf) (Nat.and_lt_two_pow _ hg)
 show h + Nat.xor (Nat.xor (rN e 6 26) (rN e 11 21)) (rN e 25 7) + Nat.xor (Nat.land e f) (Nat.land (Nat.sub 4294967295 e) g) + k + w < 2 ^ 35
 omega
theorem t2N_lt {a b c : Nat} (ha : a < 2 ^ 32) (hb : b < 2 ^ 32) (hc : c < 2 ^ 32) : t2N a b c < 2 ^ 34 := by
 have h1 : Nat.xor (Nat.xor (rN a 2 30) (rN a 13 19)) (rN a 22 10) < 2 ^ 32 := Nat.xor_lt_two_pow (Nat.xor_lt_two_pow (rN_lt ha) (rN_lt ha)) (rN_lt ha)
 have h2 : Nat.xor (Nat.xor (Nat.land a b) (Nat.land a c)) (Nat.land b c) < 2 ^ 32 := Nat.xor_lt_two_pow (Nat.xor_lt_two_pow (Nat.and_lt_two_pow _ hb) (Nat.and_lt_two_pow _ hc)) (Nat.and_lt_two_pow _ hc)
 show Nat.xor (Nat.xor (rN a 2 30) (rN a 13 19)) (rN a 22 10) + Nat.xor (Nat.xor (Nat.land a b) (Nat.land a c)) (Nat.land b c) < 2 ^ 34
 omega
theorem t1V_is (l : List σ) {e f g h w : σ → Nat} (he : B32 e) (hf : B32 f) (hg : B32 g) (hh : B32 h) (k : Nat) (hw : B32 w) : t1V (mk32 l) (pf l fun _ => 1) (pf l e) (pf l f) (pf l g) (pf l h) k (pf l w) = pf l fun s => t1N (e s) (f s) (g s) (h s) k (w s) := by
 unfold t1V
 rw [rV_is l he (by decide) (by decide),rV_is l he (by decide) (by decide),rV_is l he (by decide) (by decide),pf_xor l (he.r 6 26).b64 (he.r 11 21).b64,pf_xor l ((he.r 6 26).xor (he.r 11 21)).b64 (he.r 25 7).b64,pf_and l he.b64 hf.b64,pf_not l he,pf_and l he.not.b64 hg.b64,
  pf_xor l (he.and hf).b64 (he.not.and hg).b64,← pf_const,pf_add,pf_add,pf_add,pf_add]
 rfl
theorem t2V_is (l : List σ) {a b c : σ → Nat} (ha : B32 a) (hb : B32 b) (hc : B32 c) : t2V (mk32 l) (pf l a) (pf l b) (pf l c) = pf l fun s => t2N (a s) (b s) (c s) := by
 unfold t2V
 rw [rV_is l ha (by decide) (by decide),rV_is l ha (by decide) (by decide),rV_is l ha (by decide) (by decide),pf_xor l (ha.r 2 30).b64 (ha.r 13 19).b64,pf_xor l ((ha.r 2 30).xor (ha.r 13 19)).b64 (ha.r 22 10).b64,pf_and l ha.b64 hb.b64,pf_and l ha.b64 hc.b64,pf_and l hb.b64 hc.b64,
  pf_xor l (ha.and hb).b64 (ha.and hc).b64,pf_xor l ((ha.and hb).xor (ha.and hc)).b64 (hb.and hc).b64,pf_add]
 rfl
def vec (l : List σ) (st : σ → List Nat) : List Nat := [0,1,2,3,4,5,6,7].map fun j => pf l fun s => (st s).getD j 0
theorem goV_is (l : List σ) : ∀ (ks : List Nat),(∀ k ∈ ks,k < 2 ^ 32) → ∀ {A B C D E F G H W0 W1 W2 W3 W4 W5 W6 W7 W8 W9 W10 W11 W12 W13 W14 W15 : σ → Nat},B32 A → B32 B → B32 C → B32 D → B32 E → B32 F → B32 G → B32 H → B32 W0 → B32 W1 → B32 W2 → B32 W3 → B32 W4 → B32 W5 → B32 W6 → B32 W7 → B32 W8 → B32 W9 → B32 W10 → B32 W11 → B32 W12 → B32 W13 → B32 W14 → B32 W15 →
  goV (mk32 l) (pf l fun _ => 1) ks (pf l A) (pf l B) (pf l C) (pf l D) (pf l E) (pf l F) (pf l G) (pf l H) (pf l W0) (pf l W1) (pf l W2) (pf l W3) (pf l W4) (pf l W5) (pf l W6) (pf l W7) (pf l W8) (pf l W9) (pf l W10) (pf l W11) (pf l W12) (pf l W13) (pf l W14) (pf l W15) = vec l fun s => goN ks (A s) (B s) (C s) (D s) (E s) (F s) (G s) (H s) (W0 s) (W1 s) (W2 s) (W3 s) (W4 s) (W5 s) (W6 s) (W7 s) (W8 s) (W9 s) (W10 s) (W11 s) (W12 s) (W13 s) (W14 s) (W15 s)
 |[],_,A,B,C,D,E,F,G,H,W0,W1,W2,W3,W4,W5,W6,W7,W8,W9,W10,W11,W12,W13,W14,W15,_,_,_,_,_,_,_,_,_,_,_,_,_,_,_,_,_,_,_,_,_,_,_,_ => rfl
 |k :: ks,hk,A,B,C,D,E,F,G,H,W0,W1,W2,W3,W4,W5,W6,W7,W8,W9,W10,W11,W12,W13,W14,W15,hA,hB,hC,hD,hE,hF,hG,hH,hW0,hW1,hW2,hW3,hW4,hW5,hW6,hW7,hW8,hW9,hW10,hW11,hW12,hW13,hW14,hW15 => by
  have hk0 := hk k (by simp)
  have b1 : B64 fun s => Nat.add (t1N (E s) (F s) (G s) (H s) k (W0 s)) (t2N (A s) (B s) (C s)) := fun s => by
   have h1 := t1N_lt (hE s) (hF s) (hG s) (hH s) hk0 (hW0 s)
   have h2 := t2N_lt (hA s) (hB s) (hC s)
   show t1N (E s) (F s) (G s) (H s) k (W0 s) + t2N (A s) (B s) (C s) < 2 ^ 64
   omega
  have b2 : B64 fun s => Nat.add (D s) (t1N (E s) (F s) (G s) (H s) k (W0 s)) := fun s => by
   have h1 := t1N_lt (hE s) (hF s) (hG s) (hH s) hk0 (hW0 s)
   have h2 := hD s
   show D s + t1N (E s) (F s) (G s) (H s) k (W0 s) < 2 ^ 64
   omega
  rw [goV,t1V_is l hE hF hG hH k hW0,t2V_is l hA hB hC,pf_add,pf_add,pf_mod l b1,pf_mod l b2,nxV_is l hW0 hW1 hW9 hW14]
  exact goV_is l ks (fun x hx => hk x (by simp [hx])) (B32.mod _) hA hB hC (B32.mod _) hE hF hG hW1 hW2 hW3 hW4 hW5 hW6 hW7 hW8 hW9 hW10 hW11 hW12 hW13 hW14 hW15 (B32.mod _)
def cmV (M O : Nat) (ws : List Nat) : List Nat → List Nat
 |[a,b',c,d,e,f,g,h] => List.zipWith (fun x y => Nat.land (Nat.add x y) M) [a,b',c,d,e,f,g,h]
   (goV M O cubesN a b' c d e f g h (ws.getD 0 0) (ws.getD 1 0) (ws.getD 2 0) (ws.getD 3 0) (ws.getD 4 0) (ws.getD 5 0) (ws.getD 6 0) (ws.getD 7 0) (ws.getD 8 0) (ws.getD 9 0) (ws.getD 10 0) (ws.getD 11 0) (ws.getD 12 0) (ws.getD 13 0) (ws.getD 14 0) (ws.getD 15 0))
 |l => l
theorem goN_len : ∀ (ks : List Nat) (A B C D E F G H W0 W1 W2 W3 W4 W5 W6 W7 W8 W9 W10 W11 W12 W13 W14 W15 : Nat),(goN ks A B C D E F G H W0 W1 W2 W3 W4 W5 W6 W7 W8 W9 W10 W11 W12 W13 W14 W15).length = 8
 |[],_,_,_,_,_,_,_,_,_,_,_,_,_,_,_,_,_,_,_,_,_,_,_,_ => rfl
 |k :: ks,A,B,C,D,E,F,G,H,W0,W1,W2,W3,W4,W5,W6,W7,W8,W9,W10,W11,W12,W13,W14,W15 => goN_len ks _ _ _ _ _ _ _ _ _ _ _ _ _ _ _ _ _ _ _ _ _ _ _ _
theorem goN_lt : ∀ (ks : List Nat) (A B C D E F G H W0 W1 W2 W3 W4 W5 W6 W7 W8 W9 W10 W11 W12 W13 W14 W15 : Nat),A < 2 ^ 32 → B < 2 ^ 32 → C < 2 ^ 32 → D < 2 ^ 32 → E < 2 ^ 32 → F < 2 ^ 32 → G < 2 ^ 32 → H < 2 ^ 32 → ∀ x ∈ goN ks A B C D E F G H W0 W1 W2 W3 W4 W5 W6 W7 W8 W9 W10 W11 W12 W13 W14 W15,x < 2 ^ 32
 |[],A,B,C,D,E,F,G,H,_,_,_,_,_,_,_,_,_,_,_,_,_,_,_,_,hA,hB,hC,hD,hE,hF,hG,hH => by
  intro x hx
  simp only [goN,List.mem_cons,List.not_mem_nil,or_false] at hx
  rcases hx with rfl | rfl | rfl | rfl | rfl | rfl | rfl | rfl <;> assumption
 |k :: ks,A,B,C,D,E,F,G,H,W0,W1,W2,W3,W4,W5,W6,W7,W8,W9,W10,W11,W12,W13,W14,W15,hA,hB,hC,hD,hE,hF,hG,hH => goN_lt ks _ _ _ _ _ _ _ _ _ _ _ _ _ _ _ _ _ _ _ _ _ _ _ _ (Nat.mod_lt _ (by decide)) hA hB hC (Nat.mod_lt _ (by decide)) hE hF hG
theorem eightN {l : List Nat} (h : l.length = 8) : ∃ a b c d e f g i,l = [a,b,c,d,e,f,g,i] := by
 match l,h with
 |[a,b,c,d,e,f,g,i],_ => exact ⟨a,b,c,d,e,f,g,i,rfl⟩
theorem cmN_ok (b : List UInt8) {s : List Nat} (h8 : s.length = 8) : (cmN b s).length = 8 ∧ ∀ x ∈ cmN b s,x < 2 ^ 32 := by
 obtain ⟨A,B,C,D,E,F,G,H,rfl⟩ := eightN h8
 refine ⟨?_,fun x hx => ?_⟩
 ·rw [cmN,List.length_zipWith,goN_len]; rfl
 ·obtain ⟨i,hi,rfl⟩ := List.getElem_of_mem hx
  simp only [cmN,List.getElem_zipWith]
  exact Nat.mod_lt _ (by decide)
theorem wdN_lt (b : List UInt8) (i : Nat) : wdN b i < 2 ^ 32 := by
 rw [← wdN_is]
 exact (wordAt b i).isLt
end
end Go.Proofs.YtedffdlkmpmdlaaGreatDoor
namespace Go.Proofs.YtedffdlkmpmdlaaGreatDoor
set_option maxRecDepth 100000
set_option linter.unusedVariables false
set_option linter.unusedSimpArgs false
end Go.Proofs.YtedffdlkmpmdlaaGreatDoor
namespace Go.Proofs.YtedffdlkmpmdlaaGreatDoor
set_option maxRecDepth 100000
set_option linter.unusedVariables false
set_option linter.unusedSimpArgs false
open Go.RowKit
def arrV (l : List Value) (z : Value) (n : Nat) : Array Value := (l ++ List.replicate (n - l.length) z).toArray
theorem arrV_size (l : List Value) (z : Value) (n : Nat) (h : l.length ≤ n) : (arrV l z n).size = n := by simp [arrV]; omega
theorem arrV_get (l : List Value) (z : Value) (n i : Nat) (h : i < l.length) : (arrV l z n)[i]? = some (l[i]) := by
 simp [arrV,List.getElem?_append_left,h]
theorem arrV_get0 (l : List Value) (z : Value) (n i : Nat) (h : l.length ≤ i) (h' : i < n) : (arrV l z n)[i]? = some z := by
 simp [arrV,List.getElem?_append_right,h,List.getElem?_replicate]
 omega
theorem arrV_set (l : List Value) (z : Value) (n k : Nat) (x : Value) (hk : k = l.length) (h : l.length < n) : (arrV l z n).setIfInBounds k x = arrV (l ++ [x]) z n := by
 subst hk
 apply Array.ext_getElem?
 intro i
 by_cases hi : i = l.length
 ·subst hi
  rw [Array.getElem?_setIfInBounds_self_of_lt (by rw [arrV_size l z n (by omega)]; exact h),arrV_get _ _ _ _ (by simp)]
  simp
 ·rw [Array.getElem?_setIfInBounds_ne (by omega)]
  by_cases hl : i < l.length
  ·rw [arrV_get l z n i hl,arrV_get _ _ _ _ (by simp; omega)]
   simp [List.getElem_append_left,hl]
  ·by_cases hn : i < n
   ·rw [arrV_get0 l z n i (by omega) hn,arrV_get0 _ z n i (by simp; omega) hn]
   ·rw [Array.getElem?_eq_none (by rw [arrV_size l z n (by omega)]; omega),Array.getElem?_eq_none (by rw [arrV_size _ z n (by simp; omega)]; omega)]
theorem arrV_full (l : List Value) (z : Value) (n : Nat) (h : l.length = n) : arrV l z n = l.toArray := by simp [arrV,h]
def arrW (l : List Wd) (n : Nat) : Array Value := arrV (l.map W32) (.int .u32 0) n
def arrB (l : List UInt8) (n : Nat) : Array Value := arrV (l.map B8) (.int .u8 0) n
theorem arrW_get (l : List Wd) (n i : Nat) (h : i < l.length) : (arrW l n)[i]? = some (.int .u32 (wi (l.getD i 0))) := by
 rw [arrW,arrV_get _ _ _ _ (by simpa using h)]
 simp [List.getD,List.getElem?_eq_getElem h]
theorem arrW_get0 (l : List Wd) (n i : Nat) (h : l.length ≤ i) (h' : i < n) : (arrW l n)[i]? = some (.int .u32 0) := arrV_get0 _ _ _ _ (by simpa using h) h'
theorem arrW_set (l : List Wd) (n k : Nat) (x : Wd) (hk : k = l.length) (h : l.length < n) : (arrW l n).setIfInBounds k (.int .u32 (wi x)) = arrW (l ++ [x]) n := by
 rw [arrW,arrV_set _ _ _ _ _ (by simpa using hk) (by simpa using h)]
 simp [arrW,W32]
theorem arrW_full (l : List Wd) (n : Nat) (h : l.length = n) : arrW l n = (l.map W32).toArray := arrV_full _ _ _ (by simpa using h)
theorem arrB_set (l : List UInt8) (n k : Nat) (x : UInt8) (hk : k = l.length) (h : l.length < n) : (arrB l n).setIfInBounds k (.int .u8 (x.toNat : Int)) = arrB (l ++ [x]) n := by
 rw [arrB,arrV_set _ _ _ _ _ (by simpa using hk) (by simpa using h)]
 simp [arrB,B8]
theorem arrB_full (l : List UInt8) (n : Nat) (h : l.length = n) : arrB l n = (l.map B8).toArray := arrV_full _ _ _ (by simpa using h)
theorem arrB_get0 (l : List UInt8) (n i : Nat) (h : l.length ≤ i) (h' : i < n) : (arrB l n)[i]? = some (.int .u8 0) := arrV_get0 _ _ _ _ (by simpa using h) h'
theorem heap_setCell_in (w : World) (g i : Nat) (cs : Array Value) (t : TypeId) (fr : Nat × Nat) (v : Value) (hg : w.heap[g]? = some (.cells cs t fr)) :
  (w.setCell ⟨g,i,none⟩ v).heap[g]? = some (.cells (cs.setIfInBounds i v) t fr) := by
 rw [setCell_eq_setRow w g i cs t fr v hg]
 exact setRow_heap w g cs _ t fr hg
theorem oneW (l : List Value) (h : ∀ v ∈ l,v.oneCell' = true) : l.toArray.all (·.oneCell') = true := by
 simpa using h
theorem oneW_map (l : List Wd) : (l.map W32).toArray.all (·.oneCell') = true := oneW _ fun v h => by
 simp only [List.mem_map] at h
 obtain ⟨x,_,rfl⟩ := h
 rfl
theorem oneB_map (l : List UInt8) : (l.map B8).toArray.all (·.oneCell') = true := oneW _ Bs.one
theorem row_get {w : World} {g n : Nat} {t : TypeId} {fr : Nat × Nat} {l : List Wd} (hg : w.heap[g]? = some (.cells (arrW l n) t fr)) (i : Nat) (h : i < l.length) : w.cell? ⟨g,i,none⟩ = some (.int .u32 (wi (l.getD i 0))) := by
 rw [cell_of_row w g i _ t fr hg]
 exact arrW_get l n i h
theorem rowB_get0 {w : World} {g i n : Nat} {l : List UInt8} {t : TypeId} {fr : Nat × Nat} (hg : w.heap[g]? = some (.cells (arrB l n) t fr)) (h : l.length ≤ i) (h' : i < n) : w.cell? ⟨g,i,none⟩ = some (.int .u8 0) := by
 rw [cell_of_row w g i _ t fr hg]
 exact arrB_get0 l n i h h'
theorem rowW_get0 {w : World} {g i n : Nat} {l : List Wd} {t : TypeId} {fr : Nat × Nat} (hg : w.heap[g]? = some (.cells (arrW l n) t fr)) (h : l.length ≤ i) (h' : i < n) : w.cell? ⟨g,i,none⟩ = some (.int .u32 0) := by
 rw [cell_of_row w g i _ t fr hg]
 exact arrW_get0 l n i h h'
theorem cell_setCell_ne (w : World) (p q : Addr) (v : Value) (h : q.block ≠ p.block) : (w.setCell p v).cell? q = w.cell? q :=
 World.cell?_of_block (Below.heap_setCell _ _ _ _ h)
theorem cell_drew (w : World) (p : Addr) : w.drew.cell? p = w.cell? p := rfl
theorem heap_drew (w : World) : w.drew.heap = w.heap := rfl
theorem cell_set_off (w : World) (g i j : Nat) (v : Value) (h : j ≠ i) : (w.setCell ⟨g,i,none⟩ v).cell? ⟨g,j,none⟩ = w.cell? ⟨g,j,none⟩ :=
 World.cell?_setCell_other w _ _ v (fun e => by cases e; exact h rfl)
theorem free_row {w : World} {g i : Nat} {cs : Array Value} {t : TypeId} (hg : w.heap[g]? = some (.cells cs t (0,0))) : w.frozen? ⟨g,i,none⟩ = false := by
 simp [World.frozen?,hg]
theorem heap3_0 (w : World) (A B C : Obj) : (((w.alloc A).alloc B).alloc C).heap[w.heap.size]? = some A := by
 rw [heap_alloc_old _ _ (by simp; omega),heap_alloc_old _ _ (by simp),heap_alloc_new]
theorem heap3_1 (w : World) (A B C : Obj) : (((w.alloc A).alloc B).alloc C).heap[w.heap.size + 1]? = some B := by
 rw [heap_alloc_old _ _ (by simp),heap_alloc2_new]
theorem heap3_2 (w : World) (A B C : Obj) : (((w.alloc A).alloc B).alloc C).heap[w.heap.size + 1 + 1]? = some C := by
 have := heap_alloc_new ((w.alloc A).alloc B) C
 simpa using this
end Go.Proofs.YtedffdlkmpmdlaaGreatDoor
namespace Go.Proofs.YtedffdlkmpmdlaaGreatDoor
set_option maxRecDepth 100000
set_option linter.unusedVariables false
set_option linter.unusedSimpArgs false
open Go.RowKit
end Go.Proofs.YtedffdlkmpmdlaaGreatDoor
namespace Go.Proofs.YtedffdlkmpmdlaaGreatDoor
set_option maxRecDepth 100000
set_option linter.unusedVariables false
set_option linter.unusedSimpArgs false
open Go.RowKit
end Go.Proofs.YtedffdlkmpmdlaaGreatDoor
namespace Go.Proofs.YtedffdlkmpmdlaaGreatDoor
set_option maxRecDepth 100000
set_option linter.unusedVariables false
set_option linter.unusedSimpArgs false
open Go.RowKit
end Go.Proofs.YtedffdlkmpmdlaaGreatDoor
namespace Go.Proofs.YtedffdlkmpmdlaaGreatDoor
set_option maxRecDepth 100000
set_option linter.unusedVariables false
set_option linter.unusedSimpArgs false
open Go.RowKit
attribute [local go_sem high] wdv_and wdv_or wdv_xor wdv_not wdv_add wdv_shl wdv_shr wdv_to8 wdv_of8
theorem Tryz.sz8 : (Tryz.prog.info? 153).map (·.size) = some 8 := by kernel_rfl
theorem Tryz.sz32 : (Tryz.prog.info? 25).map (·.size) = some 32 := by kernel_rfl
theorem Tryz.sz64 : (Tryz.prog.info? 174).map (·.size) = some 64 := by kernel_rfl
theorem begin_any (w : World) : Calls Tryz.prog 92 #[] w fun e w' => e = .returned (.agg (H0.map W32).toArray) ∧ Fr F0 w w' := by
 go_enter Tryz.func92,Tryz.ntmps92
 go_wp2
 refine bodyPost_ret (results_cell_row rfl _ _ _ _ _ _ _ rfl (heap_alloc_new w _) Tryz.underlying153 rfl Tryz.sz8) rfl ⟨rfl,(Fr.refl F0 w).alloc _⟩
theorem bytesOf_snoc (s : List Wd) (x : Wd) : bytesOf (s ++ [x]) = bytesOf s ++ [lo8 (x >>> 24)] ++ [lo8 (x >>> 16)] ++ [lo8 (x >>> 8)] ++ [lo8 x] := by simp [bytesOf]
theorem hash_any (s : List Wd) (hs : s.length = 8) (w : World) :
  Calls Tryz.prog 96 #[.agg (s.map W32).toArray] w fun e w' => e = .returned (.agg ((bytesOf s).map B8).toArray) ∧ Fr F0 w w' := by
 go_enter Tryz.func96,Tryz.ntmps96
 go_wp2_with (refine wpList_load_row rfl 153 (.tmp 1) rfl w.heap.size rfl 153 (s.map W32).toArray (0,0) _ (heap3_0 _ _ _ _) Tryz.underlying153 rfl (by rw [Tryz.sz8]; simp [hs]) ?_)
 generalize hX : w.heap.size + 1 + 1 = X
 generalize hY : w.heap.size + 1 = Y
 go_loopw [7] (fun i wr => ∃ k : Nat,k ≤ 8 ∧ i = .int .i64 k ∧ wr.heap[X]? = some (.cells (arrB (bytesOf (s.take k)) 32) 25 (0,0)) ∧ (∃ cs,wr.heap[Y]? = some (.cells cs 25 (0,0)) ∧ cs.size = 32) ∧ Fr F0 w wr) (fun i _ => 8 - (intOf i).toNat)
 case atStart => exact ⟨0,by omega,rfl,by subst hX; exact heap3_2 _ _ _ _,⟨_,by subst hY; exact heap3_1 _ _ _ _,rfl⟩,(((Fr.refl F0 w).alloc _).alloc _).alloc _⟩
 case round =>
  obtain ⟨k,hk,rfl,h2,⟨cs,h1,hz⟩,hf⟩ := hrel
  by_cases hk8 : k < 8
  ·have hx : (s.map W32).toArray[k]? = some (.int .u32 (wi (s.getD k 0))) := by
    simp [List.getD,List.getElem?_eq_getElem (show k < s.length by omega)]
   have hL : (bytesOf (s.take k)).length = 4 * k := by rw [bytesOf_length]; simp; omega
   have hst : s.take (k + 1) = s.take k ++ [s.getD k 0] := by
    rw [List.take_succ_eq_append_getElem (show k < s.length by omega)]
    simp [List.getD,List.getElem?_eq_getElem (show k < s.length by omega)]
   generalize s.getD k 0 = x at *
   have HS := Lib.hid hst
   have hi := fun w => run_index_row (P := Tryz.prog) w 153 23 8 _ .i64 k _ Tryz.underlying153 Tryz.underlying23 rfl (by kernel_rfl) _ hk8 hx
   have b0 := rowB_get0 (i := 4 * k) h2 (by omega) (by omega)
   have z0 := free_row (i := 4 * k) h2
   have b1 := rowB_get0 (i := 4 * k + 1) h2 (by omega) (by omega)
   have z1 := free_row (i := 4 * k + 1) h2
   have b2 := rowB_get0 (i := 4 * k + 2) h2 (by omega) (by omega)
   have z2 := free_row (i := 4 * k + 2) h2
   have b3 := rowB_get0 (i := 4 * k + 3) h2 (by omega) (by omega)
   have z3 := free_row (i := 4 * k + 3) h2
   have HH := Lib.hid (And.intro h2 (And.intro h1 hf))
   have HL := Lib.hid hL
   clear hst hx hL h2 h1 hf
   go_wp2
   go_roundw
   case rel =>
    obtain ⟨h2,h1,hf⟩ := HH.out
    have hne : Y ≠ X := by omega
    refine ⟨k + 1,by omega,by go_num,?_,⟨cs,?_,hz⟩,?_⟩
    ·rw [HS.out,bytesOf_snoc]
     have hL := HL.out
     have g0 := heap_setCell_in wr X (4 * k) _ _ _ (.int .u8 ((lo8 (x >>> 24)).toNat : Int)) h2
     rw [arrB_set _ _ _ _ (by omega) (by omega)] at g0
     have g1 := heap_setCell_in _ X (4 * k + 1) _ _ _ (.int .u8 ((lo8 (x >>> 16)).toNat : Int)) g0
     rw [arrB_set _ _ _ _ (by simp; omega) (by simp; omega)] at g1
     have g2 := heap_setCell_in _ X (4 * k + 2) _ _ _ (.int .u8 ((lo8 (x >>> 8)).toNat : Int)) g1
     rw [arrB_set _ _ _ _ (by simp; omega) (by simp; omega)] at g2
     have g3 := heap_setCell_in _ X (4 * k + 3) _ _ _ (.int .u8 ((lo8 x).toNat : Int)) g2
     rw [arrB_set _ _ _ _ (by simp; omega) (by simp; omega)] at g3
     exact g3
    ·rw [Below.heap_setCell _ _ _ _ hne,Below.heap_setCell _ _ _ _ hne,Below.heap_setCell _ _ _ _ hne,Below.heap_setCell _ _ _ _ hne]
     exact h1
    ·exact (((hf.setCell (p := ⟨X,_,none⟩) (fun h => by simp only at h; omega) _).setCell (p := ⟨X,_,none⟩) (fun h => by simp only at h; omega) _).setCell (p := ⟨X,_,none⟩) (fun h => by simp only at h; omega) _).setCell (p := ⟨X,_,none⟩) (fun h => by simp only at h; omega) _
   case measure => simp [intOf]; omega
  ·obtain rfl : k = 8 := by omega
   have hfull : arrB (bytesOf (s.take 8)) 32 = ((bytesOf s).map B8).toArray := by
    rw [List.take_of_length_le (by omega)]
    exact arrB_full _ _ (by rw [bytesOf_length,hs])
   rw [hfull] at h2
   have hb : ((bytesOf s).map B8).toArray.size = 32 := by simp [bytesOf_length,hs]
   go_wp2_with (first | refine wpList_load_row rfl 25 (.tmp 3) rfl X rfl 25 _ (0,0) _ h2 Tryz.underlying25 rfl (by rw [Tryz.sz32,hb]) ?_ | refine wpList_store_row rfl 25 (.tmp 2) (.tmp 38) rfl Y _ rfl rfl 25 cs h1 (by rw [Tryz.sz32,hb]) (by rw [hz,hb]) (oneB_map _) ?_)
   refine bodyPost_ret (results_cell_row rfl _ _ Y _ _ _ _ rfl (setRow_heap _ _ _ _ _ _ h1) Tryz.underlying25 rfl (by rw [Tryz.sz32,hb])) rfl ⟨rfl,?_⟩
   exact hf.setRow (fun h => by omega) _
end Go.Proofs.YtedffdlkmpmdlaaGreatDoor
namespace Go.Proofs.YtedffdlkmpmdlaaGreatDoor
set_option maxRecDepth 100000
set_option linter.unusedVariables false
set_option linter.unusedSimpArgs false
open Go.RowKit
attribute [local go_sem high] wdv_and wdv_or wdv_xor wdv_not wdv_add wdv_shl wdv_shr wdv_to8 wdv_of8
end Go.Proofs.YtedffdlkmpmdlaaGreatDoor
namespace Go.Proofs.YtedffdlkmpmdlaaGreatDoor
set_option maxRecDepth 100000
set_option linter.unusedVariables false
set_option linter.unusedSimpArgs false
open Go.RowKit
attribute [local go_sem high] wdv_and wdv_or wdv_xor wdv_not wdv_add wdv_shl wdv_shr wdv_to8 wdv_of8
end Go.Proofs.YtedffdlkmpmdlaaGreatDoor
namespace Go.Proofs.YtedffdlkmpmdlaaGreatDoor
set_option maxRecDepth 100000
set_option linter.unusedVariables false
set_option linter.unusedSimpArgs false
open Go.RowKit
attribute [local go_sem high] wdv_and wdv_or wdv_xor wdv_not wdv_add wdv_shl wdv_shr wdv_to8 wdv_of8
end Go.Proofs.YtedffdlkmpmdlaaGreatDoor
namespace Go.Proofs.YtedffdlkmpmdlaaGreatDoor
set_option maxRecDepth 100000
set_option linter.unusedVariables false
set_option linter.unusedSimpArgs false
open Go.RowKit
attribute [local go_sem high] wdv_and wdv_or wdv_xor wdv_not wdv_add wdv_shl wdv_shr wdv_to8 wdv_of8
end Go.Proofs.YtedffdlkmpmdlaaGreatDoor
namespace Go.Proofs.YtedffdlkmpmdlaaGreatDoor
set_option maxRecDepth 100000
set_option linter.unusedVariables false
set_option linter.unusedSimpArgs false
open Go.RowKit
attribute [local go_sem high] wdv_and wdv_or wdv_xor wdv_not wdv_add wdv_shl wdv_shr wdv_to8 wdv_of8
end Go.Proofs.YtedffdlkmpmdlaaGreatDoor
namespace Go.Proofs.YtedffdlkmpmdlaaGreatDoor
set_option maxRecDepth 100000
set_option linter.unusedVariables false
set_option linter.unusedSimpArgs false
open Go.RowKit
attribute [local go_sem high] wdv_and wdv_or wdv_xor wdv_not wdv_add wdv_shl wdv_shr wdv_to8 wdv_of8
theorem Bs.atD {w : World} {a : Addr} {c : Nat} {bs : List UInt8} {b off : Nat} (h : Bs w (some ⟨b,off,none⟩) c bs) (j : Nat) (hj : j < bs.length) : w.cell? ⟨b,off + j,none⟩ = some (.int .u8 ((bs.getD j 0).toNat : Int)) := by
 obtain ⟨b',off',e,hc⟩ := h.at j hj
 cases e
 rw [hc]
 simp [List.getD,List.getElem?_eq_getElem hj]
theorem schedule_any (a : Option Addr) (c : Nat) (bs : List UInt8) (hl : bs.length = 64) (w : World) (h : Bs w a c bs) :
  Calls Tryz.prog 113 #[.slice a 64 c] w fun e w' => e = .returned (.agg ((sch bs 64).map W32).toArray) ∧ Fr F0 w w' := by
 obtain ⟨b,off,rfl,hc⟩ := h.cells (by intro e; simp [e] at hl)
 have hlt : b < w.heap.size := World.block_lt_of_cell? w _ (hc 0 (by omega))
 have HB := Lib.hid h
 clear h hc
 go_enter Tryz.func113,Tryz.ntmps113
 go_wp2_with fail
 generalize hX : w.heap.size + 1 = X
 go_loopw [10] (fun i wr => ∃ k : Nat,k ≤ 16 ∧ i = .int .i64 k ∧ wr.heap[X]? = some (.cells (arrW (sch bs k) 64) 174 (0,0)) ∧ (∃ cs,wr.heap[w.heap.size]? = some (.cells cs 174 (0,0)) ∧ cs.size = 64) ∧ Fr F0 w wr) (fun i _ => 16 - (intOf i).toNat)
 case atStart => exact ⟨0,by omega,rfl,by subst hX; exact heap_alloc2_new _ _ _,⟨_,heap_alloc2_old _ _ _,rfl⟩,((Fr.refl F0 w).alloc _).alloc _⟩
 case round =>
  obtain ⟨k,hk,rfl,h2,⟨cs,h1,hz⟩,hf⟩ := hrel
  by_cases hk8 : k < 16
  ·have hB : Bs wr (some ⟨b,off,none⟩) c bs := Sl.fr HB.out hf fun _ _ f => f
   have c0 := hB.atD (a := ⟨b,off,none⟩) (4 * k) (by omega)
   have c1 := hB.atD (a := ⟨b,off,none⟩) (4 * k + 1) (by omega)
   have c2 := hB.atD (a := ⟨b,off,none⟩) (4 * k + 2) (by omega)
   have c3 := hB.atD (a := ⟨b,off,none⟩) (4 * k + 3) (by omega)
   have b0 := rowW_get0 (i := k) h2 (by rw [sch_length]; omega) (by omega)
   have z0 := free_row (i := k) h2
   have HH := Lib.hid (And.intro h2 (And.intro h1 hf))
   have HS := Lib.hid (show sch bs (k + 1) = sch bs k ++ [w8 (bs.getD (4 * k) 0) <<< 24 ||| w8 (bs.getD (4 * k + 1) 0) <<< 16 ||| w8 (bs.getD (4 * k + 2) 0) <<< 8 ||| w8 (bs.getD (4 * k + 3) 0)] from by show sch bs k ++ _ = _; rw [if_pos hk8]; rfl)
   generalize bs.getD (4 * k) 0 = x0 at *
   generalize bs.getD (4 * k + 1) 0 = x1 at *
   generalize bs.getD (4 * k + 2) 0 = x2 at *
   generalize bs.getD (4 * k + 3) 0 = x3 at *
   clear hB h2 h1 hf
   go_wp2_with fail
   have hne : b ≠ X := by omega
   obtain ⟨p0,hp0⟩ : ∃ p,p = 4 * k := ⟨_,rfl⟩
   obtain ⟨p1,hp1⟩ : ∃ p,p = 4 * k + 1 := ⟨_,rfl⟩
   obtain ⟨p2,hp2⟩ : ∃ p,p = 4 * k + 2 := ⟨_,rfl⟩
   obtain ⟨p3,hp3⟩ : ∃ p,p = 4 * k + 3 := ⟨_,rfl⟩
   have m0 : IntKind.i64.wrap (4 * (k : Int)) = (p0 : Int) := by rw [IntWalk.i64_in _ (by omega)]; omega
   have m1 : IntKind.i64.wrap ((p0 : Int) + 1) = (p1 : Int) := by rw [IntWalk.i64_in _ (by omega)]; omega
   have m2 : IntKind.i64.wrap ((p0 : Int) + 2) = (p2 : Int) := by rw [IntWalk.i64_in _ (by omega)]; omega
   have m3 : IntKind.i64.wrap ((p0 : Int) + 3) = (p3 : Int) := by rw [IntWalk.i64_in _ (by omega)]; omega
   have l0 : (p0 : Int) < 64 := by omega
   have l1 : (p1 : Int) < 64 := by omega
   have l2 : (p2 : Int) < 64 := by omega
   have l3 : (p3 : Int) < 64 := by omega
   have lk : (k : Int) < 64 := by omega
   rw [← hp0] at c0
   rw [← hp1] at c1
   rw [← hp2] at c2
   rw [← hp3] at c3
   clear hp0 hp1 hp2 hp3
   refine rbegin (S := (fun w' => w'.cell? ⟨b,off + p0,none⟩ = some (.int .u8 (x0.toNat : Int)) ∧ w'.cell? ⟨b,off + p1,none⟩ = some (.int .u8 (x1.toNat : Int)) ∧ w'.cell? ⟨b,off + p2,none⟩ = some (.int .u8 (x2.toNat : Int)) ∧ w'.cell? ⟨b,off + p3,none⟩ = some (.int .u8 (x3.toNat : Int)))) ?_ fun hHeld => ?_
   ·((try dsimp only) <;> (exact ⟨c0,c1,c2,c3⟩))
   refine rtake 0 ?_
   refine rtake 1 ?_
   refine rtake 2 ?_
   refine rtake 3 ?_
   refine rtake 4 ?_
   refine rtake 5 ?_
   refine rtake 6 ?_
   refine rtake 7 ?_
   refine rtake 8 ?_
   refine rtake 9 ?_
   refine rtake 10 ?_
   refine rtake 11 ?_
   refine rtake 12 ?_
   refine rtake 13 ?_
   refine rtake 14 ?_
   refine rtake 15 ?_
   refine rtake 16 ?_
   refine rtake 17 ?_
   refine rtake 18 ?_
   refine rtake 19 ?_
   refine rtake 20 ?_
   refine rtake 21 ?_
   refine rtake 22 ?_
   refine rtake 23 ?_
   refine rtake 24 ?_
   refine rtake 25 ?_
   refine rtake 26 ?_
   refine rtake 27 ?_
   refine rtake 28 ?_
   refine rtake 29 ?_
   refine rtake 30 ?_
   refine rtake 31 ?_
   refine rtake 32 ?_
   refine rtake 33 ?_
   refine rtake 34 ?_
   refine rone 35 fun K hK => ?_
   go_simp
   refine hK.out _ _ ?_ (fun hHeld => ?_)
   ·((try dsimp only) <;> (first | exact ⟨c0,c1,c2,c3⟩ | (refine ⟨?_,?_,?_,?_⟩ <;> rw [cell_drew,cell_setCell_ne _ _ _ _ hne] <;> assumption)))
   clear hK K
   try (simp only [Act.put,aST]; dsimp only [aS0,aS1])
   refine rdone ?_
   go_wp2
   go_roundw
   case rel =>
    obtain ⟨h2,h1,hf⟩ := HH.out
    have hYX : w.heap.size ≠ X := by omega
    refine ⟨k + 1,by omega,by go_num,?_,⟨cs,?_,hz⟩,?_⟩
    ·rw [HS.out]
     have g0 := heap_setCell_in wr X k _ _ _ (.int .u32 (wi (w8 x0 <<< 24 ||| w8 x1 <<< 16 ||| w8 x2 <<< 8 ||| w8 x3))) h2
     rw [arrW_set _ _ _ _ (by rw [sch_length]) (by rw [sch_length]; omega)] at g0
     exact g0
    ·rw [heap_drew,Below.heap_setCell _ _ _ _ hYX]
     exact h1
    ·exact (hf.setCell (p := ⟨X,_,none⟩) (fun h => by simp only at h; omega) _).drew
   case measure => simp [intOf]; omega
  ·have hk16 : k = 16 := by omega
   rw [hk16] at h2
   clear hk16
   go_wp2_with fail
   go_loopw [5] (fun i wr => ∃ k : Nat,16 ≤ k ∧ k ≤ 64 ∧ i = .int .i64 k ∧ wr.heap[X]? = some (.cells (arrW (sch bs k) 64) 174 (0,0)) ∧ (∃ cs,wr.heap[w.heap.size]? = some (.cells cs 174 (0,0)) ∧ cs.size = 64) ∧ Fr F0 w wr) (fun i _ => 64 - (intOf i).toNat)
   case atStart => exact ⟨16,by omega,by omega,rfl,h2,⟨cs,h1,hz⟩,hf⟩
   case round =>
    obtain ⟨k,hk16,hk,rfl,h2,⟨cs,h1,hz⟩,hf⟩ := hrel
    by_cases hk8 : k < 64
    ·have hsl := sch_length bs k
     have HH := Lib.hid (And.intro h2 (And.intro h1 hf))
     have c2 := row_get (w := wr.drew) h2 (k - 2) (by omega)
     have c7 := row_get (w := wr.drew.drew) h2 (k - 7) (by omega)
     have c15 := row_get (w := wr.drew) h2 (k - 15) (by omega)
     have c16 := row_get (w := wr.drew.drew) h2 (k - 16) (by omega)
     have b0 := rowW_get0 (w := wr.drew.drew) (i := k) h2 (by omega) (by omega)
     have z0 := free_row (w := wr.drew.drew) (i := k) h2
     have HS := Lib.hid (show sch bs (k + 1) = sch bs k ++ [(sch bs k).getD (k - 16) 0 + sig0 ((sch bs k).getD (k - 15) 0) + (sch bs k).getD (k - 7) 0 + sig1 ((sch bs k).getD (k - 2) 0)] from by show sch bs k ++ _ = _; rw [if_neg (by omega)]; rfl)
     generalize (sch bs k).getD (k - 2) 0 = x2 at *
     generalize (sch bs k).getD (k - 7) 0 = x7 at *
     generalize (sch bs k).getD (k - 15) 0 = x15 at *
     generalize (sch bs k).getD (k - 16) 0 = x16 at *
     obtain ⟨q2,hq2⟩ : ∃ q,q = k - 2 := ⟨_,rfl⟩
     have e2 : IntKind.i64.wrap ((k : Int) - 2) = (q2 : Int) := by rw [IntWalk.i64_in _ (by omega)]; omega
     have l2 : (q2 : Int) < 64 := by omega
     rw [← hq2] at c2
     clear hq2
     obtain ⟨q7,hq7⟩ : ∃ q,q = k - 7 := ⟨_,rfl⟩
     have e7 : IntKind.i64.wrap ((k : Int) - 7) = (q7 : Int) := by rw [IntWalk.i64_in _ (by omega)]; omega
     have n7 : q7 ≠ k := by omega
     have l7 : (q7 : Int) < 64 := by omega
     rw [← hq7] at c7
     clear hq7
     obtain ⟨q15,hq15⟩ : ∃ q,q = k - 15 := ⟨_,rfl⟩
     have e15 : IntKind.i64.wrap ((k : Int) - 15) = (q15 : Int) := by rw [IntWalk.i64_in _ (by omega)]; omega
     have l15 : (q15 : Int) < 64 := by omega
     rw [← hq15] at c15
     clear hq15
     obtain ⟨q16,hq16⟩ : ∃ q,q = k - 16 := ⟨_,rfl⟩
     have e16 : IntKind.i64.wrap ((k : Int) - 16) = (q16 : Int) := by rw [IntWalk.i64_in _ (by omega)]; omega
     have n16 : q16 ≠ k := by omega
     have l16 : (q16 : Int) < 64 := by omega
     rw [← hq16] at c16
     clear hq16
     have lk : (k : Int) < 64 := by omega
     clear h2 h1 hf hsl
     go_wp2_with fail
     refine rbegin (S := (fun w' => w'.cell? ⟨X,q2,none⟩ = some (.int .u32 (wi x2)) ∧ w'.cell? ⟨X,q15,none⟩ = some (.int .u32 (wi x15)))) ?_ fun hHeld => ?_
     ·((try dsimp only) <;> (exact ⟨c2,c15⟩))
     refine rtake 0 ?_
     refine rtake 1 ?_
     refine rtake 2 ?_
     refine rtake 3 ?_
     refine rtake 4 ?_
     refine rtake 5 ?_
     refine rtake 6 ?_
     refine rtake 7 ?_
     refine rtake 8 ?_
     refine rtake 9 ?_
     refine rdone ?_
     go_wp2_with fail
     refine (RotL32_right x15 7 _ (by omega) (by omega)).mono ?_
     rintro e w1 ⟨rfl,rfl⟩
     go_wp2_with fail
     refine (RotL32_right x15 18 _ (by omega) (by omega)).mono ?_
     rintro e w1 ⟨rfl,rfl⟩
     go_wp2_with fail
     refine (RotL32_right x2 17 _ (by omega) (by omega)).mono ?_
     rintro e w1 ⟨rfl,rfl⟩
     go_wp2_with fail
     refine (RotL32_right x2 19 _ (by omega) (by omega)).mono ?_
     rintro e w1 ⟨rfl,rfl⟩
     go_wp2_with fail
     refine rbegin (S := (fun w' => w'.cell? ⟨X,q7,none⟩ = some (.int .u32 (wi x7)) ∧ w'.cell? ⟨X,q16,none⟩ = some (.int .u32 (wi x16)))) ?_ fun hHeld => ?_
     ·((try dsimp only) <;> (exact ⟨c7,c16⟩))
     refine rtake 0 ?_
     refine rtake 1 ?_
     refine rtake 2 ?_
     refine rtake 3 ?_
     refine rtake 4 ?_
     refine rtake 5 ?_
     refine rtake 6 ?_
     refine rtake 7 ?_
     refine rtake 8 ?_
     refine rtake 9 ?_
     refine rtake 10 ?_
     refine rtake 11 ?_
     refine rtake 12 ?_
     refine rtake 13 ?_
     refine rtake 14 ?_
     refine rone 15 fun K hK => ?_
     go_simp
     refine hK.out _ _ ?_ (fun hHeld => ?_)
     ·((try dsimp only) <;> (first | exact ⟨c7,c16⟩ | exact ⟨by rw [cell_drew,cell_drew,cell_set_off _ _ _ _ _ n7]; exact c7,by rw [cell_drew,cell_drew,cell_set_off _ _ _ _ _ n16]; exact c16⟩))
     clear hK K
     try (simp only [Act.put,aST]; dsimp only [aS0,aS1])
     refine rdone ?_
     go_wp2
     go_roundw
     case rel =>
      obtain ⟨h2,h1,hf⟩ := HH.out
      have hYX : w.heap.size ≠ X := by omega
      refine ⟨k + 1,by omega,by omega,by go_num,?_,⟨cs,?_,hz⟩,?_⟩
      ·rw [HS.out]
       have g0 := heap_setCell_in wr X k _ _ _ (.int .u32 (wi (x16 + sig0 x15 + x7 + sig1 x2))) h2
       rw [arrW_set _ _ _ _ (by rw [sch_length]) (by rw [sch_length]; omega)] at g0
       exact g0
      ·rw [heap_drew,heap_drew,Below.heap_setCell _ _ _ _ hYX]
       exact h1
      ·exact (hf.setCell (p := ⟨X,_,none⟩) (fun h => by simp only at h; omega) _).drew.drew
     case measure => simp [intOf]; omega
    ·obtain rfl : k = 64 := by omega
     have hfull : arrW (sch bs 64) 64 = ((sch bs 64).map W32).toArray := arrW_full _ _ (sch_length _ _)
     rw [hfull] at h2
     have hb : ((sch bs 64).map W32).toArray.size = 64 := by simp [sch_length]
     go_wp2_with (first | refine wpList_load_row rfl 174 (.tmp 3) rfl X rfl 174 _ (0,0) _ h2 Tryz.underlying174 rfl (by rw [Tryz.sz64,hb]) ?_ | refine wpList_store_row rfl 174 (.tmp 2) (.tmp 92) rfl w.heap.size _ rfl rfl 174 cs h1 (by rw [Tryz.sz64,hb]) (by rw [hz,hb]) (oneW_map _) ?_)
     refine bodyPost_ret (results_cell_row rfl _ _ w.heap.size _ _ _ _ rfl (setRow_heap _ _ _ _ _ _ h1) Tryz.underlying174 rfl (by rw [Tryz.sz64,hb])) rfl ⟨rfl,?_⟩
     exact hf.setRow (fun h => by omega) _
end Go.Proofs.YtedffdlkmpmdlaaGreatDoor
namespace Go.Proofs.YtedffdlkmpmdlaaGreatDoor
set_option maxRecDepth 100000
set_option linter.unusedVariables false
set_option linter.unusedSimpArgs false
open Go.RowKit
attribute [local go_sem high] wdv_and wdv_or wdv_xor wdv_not wdv_add wdv_shl wdv_shr wdv_to8 wdv_of8
def Cub (w : World) : Prop := ∀ j,j < 64 → w.cell? ⟨0,j,none⟩ = some (.int .u32 (wi (cubesL.getD j 0)))
theorem Cub.lt {w : World} (h : Cub w) : 0 < w.heap.size := World.block_lt_of_cell? w ⟨0,0,none⟩ (h 0 (by omega))
theorem Cub.fr {S : Nat → Prop} {w w' : World} (h : Cub w) (hf : Fr S w w') (hs : ¬ S 0) : Cub w' := fun j hj => hf.cell (p := ⟨0,j,none⟩) hs (h j hj)
theorem after_any (s : List Wd) (hs : s.length = 8) (a : Option Addr) (n c : Nat) (bs : List UInt8) (hn : n = 64) (hl : bs.length = 64) (w : World) (h : Bs w a c bs) (hcub : Cub w) :
  Calls Tryz.prog 94 #[.agg (s.map W32).toArray,.slice a n c] w fun e w' => e = .returned (.agg ((compress bs s).map W32).toArray) ∧ Fr F0 w w' := by
 subst hn
 have hclt := hcub.lt
 have HC := Lib.hid hcub
 obtain ⟨va,vb,vc,vd,ve,vf,vg,vh,hsd⟩ := eight hs
 have HSD := Lib.hid hsd
 have HB := Lib.hid h
 have b1 : ((w.alloc (.cells (s.map W32).toArray 153)).alloc (.cells #[.int .u32 0,.int .u32 0,.int .u32 0,.int .u32 0,.int .u32 0,.int .u32 0,.int .u32 0,.int .u32 0] 153)).heap[w.heap.size]? = some (.cells (s.map W32).toArray 153 (0,0)) := heap_alloc2_old _ _ _
 have d0 := (cell_of_row _ _ 0 _ _ _ b1).trans (show _ = some (.int .u32 (wi va)) by rw [hsd]; rfl)
 have d1 := (cell_of_row _ _ 1 _ _ _ b1).trans (show _ = some (.int .u32 (wi vb)) by rw [hsd]; rfl)
 have d2 := (cell_of_row _ _ 2 _ _ _ b1).trans (show _ = some (.int .u32 (wi vc)) by rw [hsd]; rfl)
 have d3 := (cell_of_row _ _ 3 _ _ _ b1).trans (show _ = some (.int .u32 (wi vd)) by rw [hsd]; rfl)
 have d4 := (cell_of_row _ _ 4 _ _ _ b1).trans (show _ = some (.int .u32 (wi ve)) by rw [hsd]; rfl)
 have d5 := (cell_of_row _ _ 5 _ _ _ b1).trans (show _ = some (.int .u32 (wi vf)) by rw [hsd]; rfl)
 have d6 := (cell_of_row _ _ 6 _ _ _ b1).trans (show _ = some (.int .u32 (wi vg)) by rw [hsd]; rfl)
 have d7 := (cell_of_row _ _ 7 _ _ _ b1).trans (show _ = some (.int .u32 (wi vh)) by rw [hsd]; rfl)
 clear hsd b1 h hcub
 go_enter Tryz.func94,Tryz.ntmps94
 go_wp2_with fail
 refine rbegin (S := (fun w' => w'.cell? ⟨w.heap.size,0,none⟩ = some (.int .u32 (wi va)) ∧ w'.cell? ⟨w.heap.size,1,none⟩ = some (.int .u32 (wi vb)) ∧ w'.cell? ⟨w.heap.size,2,none⟩ = some (.int .u32 (wi vc)) ∧ w'.cell? ⟨w.heap.size,3,none⟩ = some (.int .u32 (wi vd)) ∧ w'.cell? ⟨w.heap.size,4,none⟩ = some (.int .u32 (wi ve)) ∧ w'.cell? ⟨w.heap.size,5,none⟩ = some (.int .u32 (wi vf)) ∧ w'.cell? ⟨w.heap.size,6,none⟩ = some (.int .u32 (wi vg)) ∧ w'.cell? ⟨w.heap.size,7,none⟩ = some (.int .u32 (wi vh)))) ?_ fun hHeld => ?_
 ·((try dsimp only) <;> (exact ⟨d0,d1,d2,d3,d4,d5,d6,d7⟩))
 refine rtake 0 ?_
 refine rtake 1 ?_
 refine rtake 2 ?_
 refine rtake 3 ?_
 refine rtake 4 ?_
 refine rtake 5 ?_
 refine rtake 6 ?_
 refine rtake 7 ?_
 refine rtake 8 ?_
 refine rtake 9 ?_
 refine rtake 10 ?_
 refine rtake 11 ?_
 refine rtake 12 ?_
 refine rtake 13 ?_
 refine rtake 14 ?_
 refine rtake 15 ?_
 refine rtake 16 ?_
 refine rtake 17 ?_
 refine rtake 18 ?_
 refine rtake 19 ?_
 refine rtake 20 ?_
 refine rtake 21 ?_
 refine rtake 22 ?_
 refine rtake 23 ?_
 refine rdone ?_
 clear d0 d1 d2 d3 d4 d5 d6 d7 hHeld
 generalize hY : w.heap.size + 1 = Y
 have hW : Fr F0 w (((w.alloc (.cells (s.map W32).toArray 153)).alloc (.cells #[.int .u32 0,.int .u32 0,.int .u32 0,.int .u32 0,.int .u32 0,.int .u32 0,.int .u32 0,.int .u32 0] 153)).drew) := (((Fr.refl F0 w).alloc _).alloc _).drew
 have h0 : (((w.alloc (.cells (s.map W32).toArray 153)).alloc (.cells #[.int .u32 0,.int .u32 0,.int .u32 0,.int .u32 0,.int .u32 0,.int .u32 0,.int .u32 0,.int .u32 0] 153)).drew).heap[w.heap.size]? = some (.cells (s.map W32).toArray 153 (0,0)) := heap_alloc2_old _ _ _
 have h1 : (((w.alloc (.cells (s.map W32).toArray 153)).alloc (.cells #[.int .u32 0,.int .u32 0,.int .u32 0,.int .u32 0,.int .u32 0,.int .u32 0,.int .u32 0,.int .u32 0] 153)).drew).heap[Y]? = some (.cells #[.int .u32 0,.int .u32 0,.int .u32 0,.int .u32 0,.int .u32 0,.int .u32 0,.int .u32 0,.int .u32 0] 153 (0,0)) := by subst hY; exact heap_alloc2_new _ _ _
 generalize (((w.alloc (.cells (s.map W32).toArray 153)).alloc (.cells #[.int .u32 0,.int .u32 0,.int .u32 0,.int .u32 0,.int .u32 0,.int .u32 0,.int .u32 0,.int .u32 0] 153)).drew) = w1 at *
 go_wp2_with fail
 refine (schedule_any a c bs hl w1 (Sl.fr HB.out hW fun _ _ f => f)).mono ?_
 rintro e w2 ⟨rfl,h2⟩
 replace h0 := h2.keeps (fun f => f) h0
 replace h1 := h2.keeps (fun f => f) h1
 replace h2 := hW.trans' h2
 clear hW
 go_wp2_with fail
 go_loopw [5,6,7,8,9,10,11,12,37] (fun v0 v1 v2 v3 v4 v5 v6 v7 i wr => ∃ k : Nat,k ≤ 64 ∧ i = .int .i64 k ∧ (∃ a b c d e f g h,rnds bs s k = [a,b,c,d,e,f,g,h] ∧ v0 = .int .u32 (wi a) ∧ v1 = .int .u32 (wi b) ∧ v2 = .int .u32 (wi c) ∧ v3 = .int .u32 (wi d) ∧ v4 = .int .u32 (wi e) ∧ v5 = .int .u32 (wi f) ∧ v6 = .int .u32 (wi g) ∧ v7 = .int .u32 (wi h)) ∧ wr.heap[w.heap.size]? = some (.cells (s.map W32).toArray 153 (0,0)) ∧ (∃ cs,wr.heap[Y]? = some (.cells cs 153 (0,0)) ∧ cs.size = 8) ∧ Fr F0 w wr) (fun _ _ _ _ _ _ _ _ i _ => 64 - (intOf i).toNat)
 case atStart => exact ⟨0,by omega,rfl,⟨va,vb,vc,vd,ve,vf,vg,vh,HSD.out,rfl,rfl,rfl,rfl,rfl,rfl,rfl,rfl⟩,h0,⟨_,h1,rfl⟩,h2⟩
 case round =>
  clear h0 h1 h2
  obtain ⟨k,hk,rfl,⟨xa,xb,xc,xd,xe,xf,xg,xh,hr,rfl,rfl,rfl,rfl,rfl,rfl,rfl,rfl⟩,h0,⟨cs,h1,hz⟩,hf⟩ := hrel
  have HR := Lib.hid hr
  clear hr
  by_cases hk8 : k < 64
  ·have hx : ((sch bs 64).map W32).toArray[k]? = some (.int .u32 (wi ((sch bs 64).getD k 0))) := by
    simp [List.getD,List.getElem?_eq_getElem (show k < (sch bs 64).length by rw [sch_length]; exact hk8)]
   have hq : wr.cell? ⟨0,k,none⟩ = some (.int .u32 (wi (cubesL.getD k 0))) := HC.out.fr hf (fun f => f) k hk8
   have HS := Lib.hid (show rnds bs s (k + 1) = stp (cubesL.getD k 0) ((sch bs 64).getD k 0) (rnds bs s k) from rfl)
   generalize (sch bs 64).getD k 0 = x at *
   generalize cubesL.getD k 0 = q at *
   have hi := fun w => run_index_row (P := Tryz.prog) w 174 23 64 _ .i64 k _ Tryz.underlying174 Tryz.underlying23 rfl (by kernel_rfl) _ hk8 hx
   have HH := Lib.hid (And.intro h0 (And.intro h1 hf))
   have lk : (k : Int) < 64 := by omega
   clear h0 h1 hf hx
   go_wp2_with fail
   have hqd : wr.drew.cell? ⟨0,k,none⟩ = some (.int .u32 (wi q)) := hq
   refine rbegin (S := (fun w' => w'.cell? ⟨0,k,none⟩ = some (.int .u32 (wi q)))) ?_ fun hHeld => ?_
   ·((try dsimp only) <;> (exact hqd))
   refine rtake 0 ?_
   refine rtake 1 ?_
   refine rtake 4 ?_
   refine rtake 6 ?_
   refine rtake 7 ?_
   refine rtake 8 ?_
   refine rtake 10 ?_
   refine rone 2 fun K hK => ?_
   go_simp
   (refine (turned_any xe 6 11 25 _ (by omega) (by omega) (by omega)).mono ?_; rintro e w5 ⟨rfl,rfl⟩)
   refine hK.out _ _ ?_ (fun hHeld => ?_)
   ·((try dsimp only) <;> (exact hqd))
   clear hK K
   try (simp only [Act.put,aST]; dsimp only [aS0,aS1])
   refine rtake 3 ?_
   refine rtake 5 ?_
   refine rtake 9 ?_
   refine rtake 11 ?_
   refine rtake 12 ?_
   refine rdone ?_
   go_wp2_with fail
   refine (turned_any xa 2 13 22 _ (by omega) (by omega) (by omega)).mono ?_
   rintro e w5 ⟨rfl,rfl⟩
   go_wp2
   go_roundw
   case rel =>
    obtain ⟨h0,h1,hf⟩ := HH.out
    exact ⟨k + 1,by omega,by go_num,⟨_,_,_,_,_,_,_,_,by rw [HS.out,HR.out]; rfl,rfl,rfl,rfl,rfl,rfl,rfl,rfl,rfl⟩,h0,⟨cs,h1,hz⟩,hf.drew⟩
   case measure => simp [intOf]; omega
  ·have hk16 : k = 64 := by omega
   have HS : rnds bs s 64 = [xa,xb,xc,xd,xe,xf,xg,xh] := by rw [← hk16]; exact HR.out
   have HS2 : compress bs s = List.zipWith (· + ·) s [xa,xb,xc,xd,xe,xf,xg,xh] := by rw [compress,HS]
   have e0 := HSD.out
   rw [e0] at HS2 h0
   have d0 := (cell_of_row _ _ 0 _ _ _ h0).trans (show _ = some (.int .u32 (wi va)) by rfl)
   have d1 := (cell_of_row _ _ 1 _ _ _ h0).trans (show _ = some (.int .u32 (wi vb)) by rfl)
   have d2 := (cell_of_row _ _ 2 _ _ _ h0).trans (show _ = some (.int .u32 (wi vc)) by rfl)
   have d3 := (cell_of_row _ _ 3 _ _ _ h0).trans (show _ = some (.int .u32 (wi vd)) by rfl)
   have d4 := (cell_of_row _ _ 4 _ _ _ h0).trans (show _ = some (.int .u32 (wi ve)) by rfl)
   have d5 := (cell_of_row _ _ 5 _ _ _ h0).trans (show _ = some (.int .u32 (wi vf)) by rfl)
   have d6 := (cell_of_row _ _ 6 _ _ _ h0).trans (show _ = some (.int .u32 (wi vg)) by rfl)
   have d7 := (cell_of_row _ _ 7 _ _ _ h0).trans (show _ = some (.int .u32 (wi vh)) by rfl)
   have HS3 := Lib.hid HS2
   clear HS HS2 hk16 e0 h0
   go_wp2_with (refine wpList_store_row rfl 153 (.tmp 4) (.tmp 121) rfl Y ([va + xa,vb + xb,vc + xc,vd + xd,ve + xe,vf + xf,vg + xg,vh + xh].map W32).toArray rfl rfl 153 cs h1 Tryz.sz8 hz (oneW_map _) ?_)
   refine bodyPost_ret (results_cell_row rfl _ _ Y _ _ _ _ rfl (setRow_heap _ _ _ _ _ _ h1) Tryz.underlying153 rfl Tryz.sz8) rfl ⟨?_,?_⟩
   ·rw [HSD.out,HS3.out]
    rfl
   ·exact hf.setRow (fun h => by omega) _
end Go.Proofs.YtedffdlkmpmdlaaGreatDoor
namespace Go.Proofs.YtedffdlkmpmdlaaGreatDoor
set_option maxRecDepth 100000
set_option linter.unusedVariables false
set_option linter.unusedSimpArgs false
open Go.RowKit
theorem rowB_set (L : List UInt8) (p : Nat) (v : UInt8) : ((L.map B8).toArray.setIfInBounds p (.int .u8 (v.toNat : Int))) = ((L.set p v).map B8).toArray := by
 apply Array.ext'
 simp only [Array.toList_setIfInBounds]
 rw [List.map_set]
 rfl
def filk (r : List UInt8) (n k : Nat) : List UInt8 := r ++ [128] ++ List.replicate (fsize r.length - 9 - r.length) 0 ++ (List.replicate (8 - k) 0 ++ (be8 (8 * n)).drop (8 - k))
theorem filk_all (r : List UInt8) (n : Nat) : filk r n 8 = fil r n := by simp [filk,fil]
theorem filk_length (r : List UInt8) (n k : Nat) (h : r.length < 64) (hk : k ≤ 8) : (filk r n k).length = fsize r.length := by
 simp [filk,be8_length,fsize]
 split <;> omega
theorem filk_zero (r : List UInt8) (n q : Nat) (hq : q = fsize r.length) (h : r.length < 64) : (r ++ List.replicate (q - r.length) 0).set r.length 128 = filk r n 0 := by
 have h8 : q - r.length = (q - 9 - r.length) + 8 + 1 := by rw [hq]; unfold fsize; split <;> omega
 rw [h8,List.replicate_succ,List.set_append_right _ _ (Nat.le_refl _),Nat.sub_self,List.set_cons_zero,filk,← hq]
 rw [List.drop_eq_nil_of_le (by rw [be8_length]; omega),List.append_nil]
 simp only [Nat.sub_zero,List.append_assoc,List.replicate_append_replicate,List.cons_append,List.nil_append]
theorem be8_get (x i : Nat) (h : i < 8) : (be8 x)[7 - i]? = some (UInt8.ofNat (x / 2 ^ (8 * i))) := by
 simp [be8,List.getElem?_map,List.getElem?_range (show 7 - i < 8 by omega)]
 congr 3
 omega
theorem filk_succ (r : List UInt8) (n k : Nat) (h : r.length < 64) (hk : k < 8) : (filk r n k).set (fsize r.length - 1 - k) (UInt8.ofNat (8 * n / 2 ^ (8 * k))) = filk r n (k + 1) := by
 have hA : (r ++ [128] ++ List.replicate (fsize r.length - 9 - r.length) (0 : UInt8)).length = fsize r.length - 8 := by
  simp [fsize]
  split <;> omega
 have h8 : fsize r.length ≥ 64 := by unfold fsize; split <;> omega
 unfold filk
 generalize r ++ [128] ++ List.replicate (fsize r.length - 9 - r.length) (0 : UInt8) = A at *
 have e1 : 8 - k = (7 - k) + 1 := by omega
 have e2 : 8 - (k + 1) = 7 - k := by omega
 have hd : (be8 (8 * n)).drop (7 - k) = UInt8.ofNat (8 * n / 2 ^ (8 * k)) :: (be8 (8 * n)).drop (8 - k) := by
  have hg := be8_get (8 * n) k hk
  obtain ⟨hlt,hg⟩ := List.getElem?_eq_some_iff.1 hg
  rw [List.drop_eq_getElem_cons hlt,hg,e1]
 rw [e2,hd,e1,List.replicate_succ',List.set_append_right _ _ (by omega),hA]
 congr 1
 rw [List.append_assoc,List.set_append_right _ _ (by simp; omega)]
 congr 1
 simp only [List.length_replicate,List.cons_append,List.nil_append]
 rw [show fsize r.length - 1 - k - (fsize r.length - 8) - (7 - k) = 0 by omega]
 rfl
theorem own_full {w : World} {base e g n : Nat} {xs : List Value} (h : w.ownsRow base e 1 (.slice (some ⟨g,0,none⟩) n n) n xs) : w.heap[g]? = some (.cells xs.toArray e (0,0)) := by
 rcases h.2 with ⟨h,_⟩ | ⟨g',cap,cur,h,_,hg,hn,hm,hs,ht⟩
 ·cases h
 ·cases h
  rw [hg,← ht]
  congr 2
  apply Array.ext'
  simp [hs,List.take_of_length_le]
theorem Bs.of_row {w : World} {g : Nat} {t : TypeId} {L : List UInt8} (h : w.heap[g]? = some (.cells (L.map B8).toArray t (0,0))) (hm : L.length ≤ maxLen) : Bs w (some ⟨g,0,none⟩) L.length L :=
 ⟨by simp,Nat.le_refl _,hm,(fun e => by cases e),fun j u hj => ⟨g,0,rfl,by rw [Nat.zero_add,cell_of_row w g j _ t _ h]; simpa using hj⟩⟩
theorem splice_front (r : List UInt8) (q : Nat) (h : r.length ≤ q) : splice (madeCells #[Value.int IntKind.u8 0] q).toList 0 (r.map B8) = (r ++ List.replicate (q - r.length) 0).map B8 := by
 have e : (madeCells #[Value.int IntKind.u8 0] q).toList = List.replicate q (B8 0) := by
  apply List.ext_getElem
  ·simp [madeCells]
  ·intro i h1 h2
   simp [madeCells,Nat.mod_one]
   rfl
 rw [e]
 simp [splice]
theorem Bs.src {w : World} {a : Option Addr} {c : Nat} {r : List UInt8} (h : Bs w a c r) (hn : 0 < (r.map B8).length) : ∃ ad,a = some ad ∧ ∀ j v,(r.map B8)[j]? = some v → w.cell? (ad.add j) = some v := by
 cases a with
 |none =>
  have h0 := h.nil rfl
  have := h.room
  simp at hn
  omega
 |some ad => exact ⟨ad,rfl,h.addr⟩
theorem filled_any (a : Option Addr) (n c : Nat) (r : List UInt8) (hn : n = r.length) (hr : r.length < 64) (m : Nat) (hm : m ≤ 140737488355328) (w : World) (h : Bs w a c r) :
  Calls Tryz.prog 95 #[.slice a n c,.int .u64 (m : Int)] w fun e w' => ∃ b,e = .returned (.slice (some ⟨b,0,none⟩) (fsize r.length) (fsize r.length)) ∧ Bs w' (some ⟨b,0,none⟩) (fsize r.length) (fil r m) ∧ Fr F0 w w' ∧ w.heap.size ≤ b := by
 subst hn
 obtain ⟨i0,hi,hz0,hz1,hz2⟩ := info_parts Tryz.infoU8
 obtain ⟨q,hq⟩ : ∃ q,q = fsize r.length := ⟨_,rfl⟩
 have hq2 : q = if 56 ≤ r.length then 128 else 64 := hq
 have hqs : q = 64 ∨ q = 128 := by rw [hq2]; split <;> omega
 rw [← hq]
 have HQ := Lib.hid hq
 have HB := Lib.hid h
 go_enter Tryz.func95,Tryz.ntmps95
 go_upto_if 12 with fail
 go_cut [5] (fun v w' => v = .int .i64 (q : Int) ∧ w' = w)
 case first =>
  by_cases h56 : 56 ≤ r.length
  ·have hq8 : q = 128 := by rw [hq2,if_pos h56]
   have h57 : (56 : Int) ≤ (r.length : Int) := by omega
   subst hq8
   go_wp2_with fail
   go_meet
   case rel => exact ⟨rfl,rfl⟩
  ·have hq8 : q = 64 := by rw [hq2,if_neg h56]
   have h57 : ¬ (56 : Int) ≤ (r.length : Int) := by omega
   subst hq8
   go_wp2_with fail
   go_meet
   case rel => exact ⟨rfl,rfl⟩
 case rest =>
  obtain ⟨rfl,rfl⟩ := hcut
  have hlq : (q : Int) < 129 := by omega
  have hgq : (63 : Int) < q := by omega
  clear hq hq2
  have hrl : (r.length : Int) < q := by omega
  have hmin : r.length.min q = r.length := Nat.min_eq_left (by omega)
  go_wp2_with (first | (at_make; refine wpList_make_full wc rfl _ _ _ rfl 0 5 i0 _ 1 Tryz.underlying52 hi hz0 hz1 .i64 .i64 q q q rfl rfl rfl rfl (by rw [hz2]; omega) (by unfold maxLen; omega) (Nat.zero_le _) ?_; intro w1 ho hg) | (refine wpList_copy_splice rfl (.tmp 17) (.tmp 18) 52 52 rfl 5 Tryz.underlying52 (by rw [hi]; simp [hz1]) _ _ _ _ _ _ rfl rfl wc.heap.size 0 _ 5 (own_full ho) (r.map B8) (by simp [hmin]) (fun hp => ⟨rfl,Bs.src (Sl.fr HB.out ((Fr.refl F0 wc).grown hg (fun k e => by cases e)) fun _ _ f => f) hp⟩) (by simp [madeCells]; omega) Bs.one wc.heap.size wc (((Fr.refl F0 wc).grown hg (fun k e => by cases e)).below (Nat.le_refl _) fun _ _ f => f) (Nat.le_refl _) ?_))
  intro w2 hb2 hf2
  rw [splice_front r q (by omega)] at hb2
  have hF2 : Fr F0 wc w2 := Fr.of_below hf2
  have hb2 := hb2.out
  generalize hX : wc.heap.size = X at *
  have c0 : w2.cell? ⟨X,r.length,none⟩ = some (.int .u8 0) := by
   rw [cell_of_row w2 X _ _ _ _ hb2]
   simp [List.getElem?_append_right,List.getElem?_replicate]
   exact ⟨by omega,rfl⟩
  have z0 := free_row (i := r.length) hb2
  have HF2 := Lib.hid hF2
  have HB2 := Lib.hid hb2
  clear ho hg hF2 hf2 hb2
  have hm8 : IntKind.u64.wrap ((m : Int) * 8) = ((8 * m : Nat) : Int) := by rw [IntWalk.u64_in _ (by omega)]; omega
  generalize h8 : 8 * m = M at *
  have H8 := Lib.hid h8
  clear h8
  go_wp2_with fail
  have hst : (w2.setCell ⟨X,r.length,none⟩ (.int .u8 128)).heap[X]? = some (.cells ((filk r m 0).map B8).toArray 5 (0,0)) := by
   have g := heap_setCell_in w2 X r.length _ _ _ (.int .u8 ((128 : UInt8).toNat : Int)) HB2.out
   rw [rowB_set,filk_zero r m q HQ.out hr] at g
   exact g
  have HST := Lib.hid hst
  clear hst c0 z0
  go_loopw [25] (fun i wr => ∃ k : Nat,k ≤ 8 ∧ i = .int .i64 k ∧ wr.heap[X]? = some (.cells ((filk r m k).map B8).toArray 5 (0,0)) ∧ Fr F0 wc wr) (fun i _ => 8 - (intOf i).toNat)
  case atStart => exact ⟨0,by omega,rfl,HST.out,HF2.out.setCell (p := ⟨X,_,none⟩) (fun h => by simp only at h; omega) _⟩
  case round =>
   obtain ⟨k,hk,rfl,h2,hf⟩ := hrel
   by_cases hk8 : k < 8
   ·have hL := filk_length r m k hr (by omega)
    rw [← HQ.out] at hL
    obtain ⟨p1,hp1⟩ : ∃ p,p = q - 1 := ⟨_,rfl⟩
    obtain ⟨p,hp⟩ : ∃ p,p = p1 - k := ⟨_,rfl⟩
    obtain ⟨s,hs⟩ : ∃ s,s = 8 * k := ⟨_,rfl⟩
    have m1 : IntKind.i64.wrap ((q : Int) - 1) = (p1 : Int) := by rw [IntWalk.i64_in _ (by omega)]; omega
    have m2 : IntKind.i64.wrap ((p1 : Int) - k) = (p : Int) := by rw [IntWalk.i64_in _ (by omega)]; omega
    have m3 : IntKind.i64.wrap (8 * (k : Int)) = (s : Int) := by rw [IntWalk.i64_in _ (by omega)]; omega
    have l1 : (p : Int) < q := by omega
    have l2 : (s : Int) < 64 := by omega
    have c0 : ∃ v,wr.cell? ⟨X,p,none⟩ = some v := by
     rw [cell_of_row wr X _ _ _ _ h2]
     exact ⟨_,Array.getElem?_eq_getElem (by simp [hL]; omega)⟩
    obtain ⟨v0,c0⟩ := c0
    have z0 := free_row (i := p) h2
    have HH := Lib.hid (And.intro h2 hf)
    have HP := Lib.hid (And.intro hp1 (And.intro hp hs))
    clear h2 hf hp hp1 hs hL
    go_wp2
    go_roundw
    case rel =>
     obtain ⟨h2,hf⟩ := HH.out
     obtain ⟨hp1,hp,hs⟩ := HP.out
     have hv : (M : Int) / 2 ^ s % 256 = (((UInt8.ofNat (M / 2 ^ s)).toNat : Nat) : Int) := by
      show _ = ((M / 2 ^ s % 256 : Nat) : Int)
      rw [Int.natCast_emod,Int.natCast_ediv,Int.natCast_pow]
      rfl
     refine ⟨k + 1,by omega,by go_num,?_,hf.setCell (p := ⟨X,_,none⟩) (fun h => by simp only at h; omega) _⟩
     rw [hv]
     have g := heap_setCell_in wr X p _ _ _ (.int .u8 ((UInt8.ofNat (M / 2 ^ s)).toNat : Int)) h2
     have e : p = fsize r.length - 1 - k := by rw [hp,hp1,HQ.out]
     rw [rowB_set,← H8.out,hs,e,filk_succ r m k hr hk8] at g
     rw [← H8.out,hs,e]
     exact g
    case measure => simp [intOf]; omega
   ·obtain rfl : k = 8 := by omega
    go_wp2
    go_ret
    refine ⟨X,rfl,?_,hf,by omega⟩
    rw [filk_all] at h2
    have g := Bs.of_row h2 (by rw [fil_length _ _ hr,← HQ.out]; unfold maxLen; omega)
    rw [fil_length _ _ hr,← HQ.out] at g
    exact g
end Go.Proofs.YtedffdlkmpmdlaaGreatDoor
