import Derived.Test.YtaobgaoldfeehaaDoorZb2
import Derived.Deep.RegionHeld3
import Derived.OrdersHeld
import Derived.Laws.Rows
import Derived.Below
import Derived.Laws.Tables
import Derived.OwnWalk
import Derived.Deep.CutBlock
import Derived.Deep.DeepCutAuto
import Derived.Laws.CopyOwn
import Derived.RangeFuncNested
import Derived.RangeFuncBound
import Derived.RangeFuncCalls
import Derived.RangeFuncLeaves
import Derived.Shelf.Abstract
import Derived.Shelf.RegionOpen
import Derived.OwnWalkIn
import Derived.TacticsInMore
import Derived.LoopNIn
import Derived.LoopIn
import Derived.RangeFuncBox
import Derived.OrdersIn
import Derived.RegionIn
import Derived.BigRegionIn
import Derived.Test.YtaobgaoldfeehaaDoorZb1
import Derived.ProofKit
import Derived.LaidMore
import Derived.OpenShut
import Derived.Stop.Joined
import Derived.MakeChecks
import Derived.FnData
/- Words of 32 bits as values, and the operations on them. Nothing here speaks of the program. -/
namespace Go.Proofs.YtaobgaoldfeehaaDoor
set_option linter.unusedVariables false
set_option linter.unusedSimpArgs false
open Go.RowKit

abbrev Wd := BitVec 32

/-- A word as a number. -/
def wi (x : Wd) : Int := (x.toNat : Int)
/-- A byte made a word. -/
def w8 (b : UInt8) : Wd := b.toBitVec.setWidth 32
/-- A word cut to a byte. -/
def lo8 (x : Wd) : UInt8 := UInt8.ofBitVec (x.setWidth 8)
/-- A word as a value. -/
@[reducible] def W32 (x : Wd) : Value := .int .u32 (wi x)

theorem wd_wrap (n : Nat) (h : n < 4294967296) : IntKind.u32.wrap (n : Int) = (n : Int) := IntWalk.u32_in _ (by omega)
theorem wd_ofInt (x : Wd) : BitVec.ofInt 32 (wi x) = x := by
  unfold wi
  apply BitVec.eq_of_toNat_eq
  have := x.isLt
  simp

section
variable (t : TypeId) (x y : Wd)
theorem wd_and : bits .and .u32 (wi x) (wi y) = wi (x &&& y) := by
  show IntKind.u32.wrap (BitVec.toNat (BitVec.ofInt 32 _ &&& BitVec.ofInt 32 _) : Int) = _
  rw [wd_ofInt, wd_ofInt]; exact wd_wrap _ (BitVec.isLt _)
theorem wd_or : bits .or .u32 (wi x) (wi y) = wi (x ||| y) := by
  show IntKind.u32.wrap (BitVec.toNat (BitVec.ofInt 32 _ ||| BitVec.ofInt 32 _) : Int) = _
  rw [wd_ofInt, wd_ofInt]; exact wd_wrap _ (BitVec.isLt _)
theorem wd_xor : bits .xor .u32 (wi x) (wi y) = wi (x ^^^ y) := by
  show IntKind.u32.wrap (BitVec.toNat (BitVec.ofInt 32 _ ^^^ BitVec.ofInt 32 _) : Int) = _
  rw [wd_ofInt, wd_ofInt]; exact wd_wrap _ (BitVec.isLt _)
theorem wd_not : bits .xor .u32 4294967295 (wi x) = wi (~~~ x) := by
  show IntKind.u32.wrap (BitVec.toNat (BitVec.ofInt 32 _ ^^^ BitVec.ofInt 32 _) : Int) = _
  rw [wd_ofInt, show BitVec.ofInt 32 4294967295 = BitVec.allOnes 32 from by decide, BitVec.allOnes_xor]; exact wd_wrap _ (BitVec.isLt _)

theorem wdv_and : binOp .and t (.int .u32 (wi x)) (.int .u32 (wi y)) = pure (.int .u32 (wi (x &&& y))) := by
  rw [binOp_and, intBits_and, wd_and]
theorem wdv_or : binOp .or t (.int .u32 (wi x)) (.int .u32 (wi y)) = pure (.int .u32 (wi (x ||| y))) := by
  rw [binOp_or, intBits_or, wd_or]
theorem wdv_xor : binOp .xor t (.int .u32 (wi x)) (.int .u32 (wi y)) = pure (.int .u32 (wi (x ^^^ y))) := by
  rw [binOp_xor, intBits_xor, wd_xor]
theorem wdv_not : Op.unary .xor (.int .u32 (wi x)) = pure (.int .u32 (wi (~~~ x))) := by
  rw [unary_xor, intBits_xor, ← wd_not]; rfl
theorem wdv_add : binOp .add t (.int .u32 (wi x)) (.int .u32 (wi y)) = pure (.int .u32 (wi (x + y))) := by
  rw [binOp_add]
  simp only [Op.intArith]
  unfold wi
  rw [IntKind.wrap_u32, BitVec.toNat_add]
  rw [Int.natCast_emod, Int.natCast_add]
  rfl
theorem wdv_shl (yk : IntKind) (n : Int) (h0 : 0 ≤ n) (h1 : n < 32) : binOp .shl t (.int .u32 (wi x)) (.int yk n) = pure (.int .u32 (wi (x <<< n.toNat))) := by
  rw [binOp_shl]
  have h2 : ¬ n < 0 := by omega
  have h3 : min n.toNat 32 = n.toNat := by omega
  simp only [Op.shift, h2, if_false, IntKind.bits, h3]
  unfold wi
  rw [IntKind.wrap_u32, BitVec.toNat_shiftLeft, Nat.shiftLeft_eq, Int.natCast_emod, Int.natCast_mul, Int.natCast_pow]
  rfl
theorem wdv_shr (yk : IntKind) (n : Int) (h0 : 0 ≤ n) (h1 : n < 32) : binOp .shr t (.int .u32 (wi x)) (.int yk n) = pure (.int .u32 (wi (x >>> n.toNat))) := by
  rw [binOp_shr]
  have h2 : ¬ n < 0 := by omega
  have h3 : min n.toNat 32 = n.toNat := by omega
  simp only [Op.shift, h2, if_false, IntKind.bits, h3]
  unfold wi
  rw [BitVec.toNat_ushiftRight, Nat.shiftRight_eq_div_pow, Int.fdiv_eq_ediv_of_nonneg _ (by exact Int.le_of_lt (Int.pow_pos (by omega)))]
  norm_cast
end

section
variable {P : Program} (w : World)
/-- A byte made a word. -/
theorem wdv_of8 (src dst : TypeId) (b : UInt8) (hs : (P.underlying src).isSome = true) (hd : P.underlying dst = some (.int .u32)) :
    (convert src dst (.int .u8 (b.toNat : Int))).run P w = .ok (.int .u32 (wi (w8 b))) w := by
  obtain ⟨d, hd'⟩ := Option.isSome_iff_exists.mp hs
  have h := b.toNat_lt
  have e : wi (w8 b) = (b.toNat : Int) := by
    show (((b.toBitVec.setWidth 32 : Wd)).toNat : Int) = _
    rw [BitVec.toNat_setWidth]
    congr 1
    exact Nat.mod_eq_of_lt (by show b.toNat < 4294967296; omega)
  simp only [convert, Sem.run_bind, run_underlying hd', run_underlying hd, Result.andThen_ok, Conv.intToInt, Sem.run_pure, e]
  rw [wd_wrap _ (by omega)]
/-- A word cut to a byte. -/
theorem wdv_to8 (src dst : TypeId) (x : Wd) (hs : (P.underlying src).isSome = true) (hd : P.underlying dst = some (.int .u8)) :
    (convert src dst (.int .u32 (wi x))).run P w = .ok (.int .u8 ((lo8 x).toNat : Int)) w := by
  obtain ⟨d, hd'⟩ := Option.isSome_iff_exists.mp hs
  have e : ((lo8 x).toNat : Int) = wi x % 256 := by
    show (((x.setWidth 8).toNat : Nat) : Int) = _
    unfold wi
    rw [BitVec.toNat_setWidth, Int.natCast_emod]
    rfl
  simp only [convert, Sem.run_bind, run_underlying hd', run_underlying hd, Result.andThen_ok, Conv.intToInt, Sem.run_pure, e]
  rw [IntKind.wrap_u8]
end
end Go.Proofs.YtaobgaoldfeehaaDoor

/- Turning words: the standard library's, the program's and the document's. -/
namespace Go.Proofs.YtaobgaoldfeehaaDoor
set_option linter.unusedVariables false
set_option linter.unusedSimpArgs false
open Go.RowKit

attribute [local go_sem high] wdv_and wdv_or wdv_xor wdv_not wdv_add wdv_shl wdv_shr

/-- A word turned right. -/
def rotr (x : Wd) (n : Nat) : Wd := x >>> n ||| x <<< (32 - n)

theorem rot_amount : ∀ i : Nat, i < 32 → 1 ≤ i → bits .and .u64 (IntKind.u64.wrap (-(i : Int))) 31 = 32 - i := by decide +kernel

theorem RotL32_right (x : Wd) (i : Nat) (w : World) (h0 : 1 ≤ i) (h1 : i < 32) :
    Calls Tryd.prog 88 #[.int .u32 (wi x), .int .i64 (-(i : Int))] w fun e w' => e = .returned (.int .u32 (wi (rotr x i))) ∧ w' = w := by
  obtain ⟨j, hj⟩ : ∃ j, j = 32 - i := ⟨_, rfl⟩
  have HJ := Lib.hid hj
  have hb : bits .and .u64 (IntKind.u64.wrap (-(i : Int))) 31 = (j : Int) := by rw [rot_amount i h1 h0]; omega
  have f2 : (j : Int) < 32 := by omega
  have f4 : (i : Int) < 32 := by omega
  have f3 : IntKind.u64.wrap (32 - (j : Int)) = (i : Int) := by rw [IntWalk.u64_in _ (by omega)]; omega
  clear hj
  go_enter Tryd.func88, Tryd.ntmps88
  go_wp2
  go_ret
  refine ⟨?_, rfl⟩
  show Ending.returned (.int .u32 (wi _)) = _
  rw [BitVec.or_comm, HJ.out]
  rfl

theorem turned_any (x : Wd) (i j k : Nat) (w : World) (hi : 1 ≤ i ∧ i < 32) (hj : 1 ≤ j ∧ j < 32) (hk : 1 ≤ k ∧ k < 32) :
    Calls Tryd.prog 83 #[.int .u32 (wi x), .int .i64 (i : Int), .int .i64 (j : Int), .int .i64 (k : Int)] w fun e w' => e = .returned (.int .u32 (wi (rotr x i ^^^ rotr x j ^^^ rotr x k))) ∧ w' = w := by
  have f1 : IntKind.i64.wrap (-(i : Int)) = -(i : Int) := IntWalk.i64_in _ (by omega)
  have f2 : IntKind.i64.wrap (-(j : Int)) = -(j : Int) := IntWalk.i64_in _ (by omega)
  have f3 : IntKind.i64.wrap (-(k : Int)) = -(k : Int) := IntWalk.i64_in _ (by omega)
  go_enter Tryd.func83, Tryd.ntmps83
  go_wp2_with fail
  refine (RotL32_right x i _ hi.1 hi.2).mono ?_
  rintro e w1 ⟨rfl, rfl⟩
  go_wp2_with fail
  refine (RotL32_right x j _ hj.1 hj.2).mono ?_
  rintro e w1 ⟨rfl, rfl⟩
  go_wp2_with fail
  refine (RotL32_right x k _ hk.1 hk.2).mono ?_
  rintro e w1 ⟨rfl, rfl⟩
  go_wp2
  go_ret
  exact ⟨rfl, rfl⟩

theorem r2turn_any (x : Wd) (i : Nat) (w : World) (h0 : 1 ≤ i) (h1 : i < 32) :
    Calls Tryd.prog 53 #[.int .u32 (wi x), .int .i64 (i : Int)] w fun e w' => e = .returned (.int .u32 (wi (rotr x i))) ∧ w' = w.drew := by
  obtain ⟨j, hj⟩ : ∃ j, j = 32 - i := ⟨_, rfl⟩
  have HJ := Lib.hid hj
  have f2 : (j : Int) < 32 := by omega
  have f4 : (i : Int) < 32 := by omega
  have f3 : IntKind.i64.wrap (32 - (i : Int)) = (j : Int) := by rw [IntWalk.i64_in _ (by omega)]; omega
  clear hj
  go_enter Tryd.func53, Tryd.ntmps53
  go_wp2_with fail
  refine wp_region_noPanic ?_
  refine wp_region_held_drew (S := (fun w' => w' = w.drew)) (by kernel_rfl) ?_ (fun hHeld => ?_)
  · ((try dsimp only) <;> (rfl))
  refine rtake 0 ?_
  refine rtake 1 ?_
  refine rtake 2 ?_
  refine rtake 3 ?_
  refine rtake 4 ?_
  refine rtake 5 ?_
  refine rtake 6 ?_
  refine rtake 7 ?_
  refine rtake 8 ?_
  refine wpAnyH_done (by kernel_rfl) ?_ _
  refine NoPanic.normal ?_
  go_wp2
  go_ret
  refine ⟨?_, rfl⟩
  rw [rotr, ← HJ.out]
  rfl
end Go.Proofs.YtaobgaoldfeehaaDoor

/- The sum of bytes (FIPS 180-4), as Lean says it; two ways to cut what is summed into blocks. Nothing here speaks of the program. -/
namespace Go.Proofs.YtaobgaoldfeehaaDoor
set_option linter.unusedVariables false
set_option linter.unusedSimpArgs false

def cubesN : List Nat := [1116352408, 1899447441, 3049323471, 3921009573, 961987163, 1508970993, 2453635748, 2870763221, 3624381080, 310598401, 607225278, 1426881987, 1925078388, 2162078206, 2614888103, 3248222580, 3835390401, 4022224774, 264347078, 604807628, 770255983, 1249150122, 1555081692, 1996064986, 2554220882, 2821834349, 2952996808, 3210313671, 3336571891, 3584528711, 113926993, 338241895, 666307205, 773529912, 1294757372, 1396182291, 1695183700, 1986661051, 2177026350, 2456956037, 2730485921, 2820302411, 3259730800, 3345764771, 3516065817, 3600352804, 4094571909, 275423344, 430227734, 506948616, 659060556, 883997877, 958139571, 1322822218, 1537002063, 1747873779, 1955562222, 2024104815, 2227730452, 2361852424, 2428436474, 2756734187, 3204031479, 3329325298]
def squaresN : List Nat := [1779033703, 3144134277, 1013904242, 2773480762, 1359893119, 2600822924, 528734635, 1541459225]
def cubesL : List Wd := cubesN.map (BitVec.ofNat 32)
def H0 : List Wd := squaresN.map (BitVec.ofNat 32)
theorem cubesL_length : cubesL.length = 64 := rfl
theorem H0_length : H0.length = 8 := rfl

/-- A word of bytes, the highest first. -/
def wordAt (b : List UInt8) (i : Nat) : Wd := w8 (b.getD (4 * i) 0) <<< 24 ||| w8 (b.getD (4 * i + 1) 0) <<< 16 ||| w8 (b.getD (4 * i + 2) 0) <<< 8 ||| w8 (b.getD (4 * i + 3) 0)
def sig0 (x : Wd) : Wd := rotr x 7 ^^^ rotr x 18 ^^^ x >>> 3
def sig1 (x : Wd) : Wd := rotr x 17 ^^^ rotr x 19 ^^^ x >>> 10
def nextW (s : List Wd) (t : Nat) : Wd := s.getD (t - 16) 0 + sig0 (s.getD (t - 15) 0) + s.getD (t - 7) 0 + sig1 (s.getD (t - 2) 0)

/-- The first so many words of a block. -/
def sch (b : List UInt8) : Nat → List Wd
  | 0 => []
  | t + 1 => sch b t ++ [if t < 16 then wordAt b t else nextW (sch b t) t]

theorem sch_length (b : List UInt8) : ∀ t, (sch b t).length = t
  | 0 => rfl
  | t + 1 => by simp [sch, sch_length b t]

theorem sch_add (b : List UInt8) (t : Nat) : ∀ u, ∃ r, sch b (t + u) = sch b t ++ r
  | 0 => ⟨[], by simp⟩
  | u + 1 => by
    obtain ⟨r, h⟩ := sch_add b t u
    refine ⟨r ++ [if t + u < 16 then wordAt b (t + u) else nextW (sch b (t + u)) (t + u)], ?_⟩
    rw [← Nat.add_assoc, sch, h, List.append_assoc]

theorem sch_get (b : List UInt8) (t n i : Nat) (h : i < t) (h' : t ≤ n) : (sch b n).getD i 0 = (sch b t).getD i 0 := by
  obtain ⟨u, rfl⟩ : ∃ u, n = t + u := ⟨n - t, by omega⟩
  obtain ⟨r, e⟩ := sch_add b t u
  rw [e, List.getD_eq_getElem?_getD, List.getD_eq_getElem?_getD, List.getElem?_append_left (by rw [sch_length]; exact h)]

/-- A round. -/
def stp (k w : Wd) : List Wd → List Wd
  | [a, b, c, d, e, f, g, h] =>
    [h + (rotr e 6 ^^^ rotr e 11 ^^^ rotr e 25) + (e &&& f ^^^ ~~~ e &&& g) + k + w + ((rotr a 2 ^^^ rotr a 13 ^^^ rotr a 22) + (a &&& b ^^^ a &&& c ^^^ b &&& c)), a, b, c,
      d + (h + (rotr e 6 ^^^ rotr e 11 ^^^ rotr e 25) + (e &&& f ^^^ ~~~ e &&& g) + k + w), e, f, g]
  | l => l

theorem stp_length (k w : Wd) (l : List Wd) : (stp k w l).length = l.length := by
  unfold stp
  split <;> rfl

def rnds (b : List UInt8) (s : List Wd) : Nat → List Wd
  | 0 => s
  | t + 1 => stp (cubesL.getD t 0) ((sch b 64).getD t 0) (rnds b s t)

theorem rnds_length (b : List UInt8) (s : List Wd) : ∀ t, (rnds b s t).length = s.length
  | 0 => rfl
  | t + 1 => by rw [rnds, stp_length, rnds_length b s t]

def compress (b : List UInt8) (s : List Wd) : List Wd := List.zipWith (· + ·) s (rnds b s 64)
theorem compress_length (b : List UInt8) (s : List Wd) : (compress b s).length = s.length := by simp [compress, rnds_length]

def blk (m : List UInt8) (n : Nat) : List UInt8 := (m.drop (64 * n)).take 64

def runB (m : List UInt8) (s : List Wd) : Nat → List Wd
  | 0 => s
  | n + 1 => compress (blk m n) (runB m s n)
theorem runB_length (m : List UInt8) (s : List Wd) : ∀ n, (runB m s n).length = s.length
  | 0 => rfl
  | n + 1 => by rw [runB, compress_length, runB_length m s n]

theorem eight {l : List Wd} (h : l.length = 8) : ∃ a b c d e f g i, l = [a, b, c, d, e, f, g, i] := by
  match l, h with
  | [a, b, c, d, e, f, g, i], _ => exact ⟨a, b, c, d, e, f, g, i, rfl⟩

theorem runB_left (A B : List UInt8) (s : List Wd) : ∀ p, 64 * p ≤ A.length → runB (A ++ B) s p = runB A s p
  | 0, _ => rfl
  | p + 1, h => by
    rw [runB, runB, runB_left A B s p (by omega)]
    congr 1
    simp only [blk]
    rw [List.drop_append_of_le_length (by omega), List.take_append_of_le_length (by simp; omega)]

theorem runB_append (A B : List UInt8) (s : List Wd) (p : Nat) (hA : A.length = 64 * p) : ∀ q, runB (A ++ B) s (p + q) = runB B (runB A s p) q
  | 0 => by rw [Nat.add_zero, runB_left A B s p (by omega)]; rfl
  | q + 1 => by
    rw [← Nat.add_assoc, runB, runB_append A B s p hA q, runB]
    congr 1
    simp only [blk]
    rw [List.drop_append, List.drop_eq_nil_of_le (by omega), hA, List.nil_append]
    congr 2
    omega

/-- The eight bytes of a number, the highest first. -/
def be8 (x : Nat) : List UInt8 := (List.range 8).map fun i => UInt8.ofNat (x / 2 ^ (56 - 8 * i))
theorem be8_length (x : Nat) : (be8 x).length = 8 := by simp [be8]

/-- How many noughts. -/
def padZ (n : Nat) : Nat := (119 - n % 64) % 64
def pad (bs : List UInt8) : List UInt8 := bs ++ [128] ++ List.replicate (padZ bs.length) 0 ++ be8 (8 * bs.length)
theorem pad_length (bs : List UInt8) : (pad bs).length = bs.length + 9 + padZ bs.length := by simp [pad, be8_length]; omega

def fsize (r : Nat) : Nat := if 56 ≤ r then 128 else 64
/-- The last blocks. -/
def fil (r : List UInt8) (n : Nat) : List UInt8 := r ++ [128] ++ List.replicate (fsize r.length - 9 - r.length) 0 ++ be8 (8 * n)
theorem fil_length (r : List UInt8) (n : Nat) (h : r.length < 64) : (fil r n).length = fsize r.length := by
  simp [fil, be8_length, fsize]
  split <;> omega

theorem pad_cut (bs : List UInt8) : pad bs = bs.take (64 * (bs.length / 64)) ++ fil (bs.drop (64 * (bs.length / 64))) bs.length := by
  have h : padZ bs.length = fsize (bs.drop (64 * (bs.length / 64))).length - 9 - (bs.drop (64 * (bs.length / 64))).length := by
    simp only [padZ, fsize, List.length_drop]
    split <;> omega
  rw [pad, fil, h]
  simp only [List.append_assoc]
  rw [← List.append_assoc (bs.take _), List.take_append_drop]

/-- The bytes of words, the highest first. -/
def bytesOf (s : List Wd) : List UInt8 := s.flatMap fun x : Wd => [lo8 (x >>> 24), lo8 (x >>> 16), lo8 (x >>> 8), lo8 x]

theorem bytesOf_length (s : List Wd) : (bytesOf s).length = 4 * s.length := by
  induction s with
  | nil => rfl
  | cons x s ih => simp only [bytesOf, List.flatMap_cons, List.length_append, List.length_cons, List.length_nil] at *; omega

/-- The sum. -/
def sha (bs : List UInt8) : List UInt8 := bytesOf (runB (pad bs) H0 ((pad bs).length / 64))
theorem sha_length (bs : List UInt8) : (sha bs).length = 32 := by rw [sha, bytesOf_length, runB_length, H0_length]

theorem sha_cut (bs : List UInt8) : sha bs = bytesOf (runB (fil (bs.drop (64 * (bs.length / 64))) bs.length) (runB (bs.take (64 * (bs.length / 64))) H0 (bs.length / 64)) (fsize (bs.length % 64) / 64)) := by
  rw [sha, ← runB_append _ _ _ _ (by simp; omega), ← pad_cut, pad_length]
  congr 2
  simp only [padZ, fsize]
  split <;> omega

def sha2 (bs : List UInt8) : List UInt8 := sha (sha bs)
end Go.Proofs.YtaobgaoldfeehaaDoor

/- Rows of words in memory, filled one by one; a result that is a whole row. Nothing here speaks of the program. -/
namespace Go.Proofs.YtaobgaoldfeehaaDoor
set_option linter.unusedVariables false
set_option linter.unusedSimpArgs false
open Go.RowKit

/-- So many cells, the first of them given, the others z. -/
def arrV (l : List Value) (z : Value) (n : Nat) : Array Value := (l ++ List.replicate (n - l.length) z).toArray

theorem arrV_size (l : List Value) (z : Value) (n : Nat) (h : l.length ≤ n) : (arrV l z n).size = n := by simp [arrV]; omega

theorem arrV_get (l : List Value) (z : Value) (n i : Nat) (h : i < l.length) : (arrV l z n)[i]? = some (l[i]) := by
  simp [arrV, List.getElem?_append_left, h]

theorem arrV_get0 (l : List Value) (z : Value) (n i : Nat) (h : l.length ≤ i) (h' : i < n) : (arrV l z n)[i]? = some z := by
  simp [arrV, List.getElem?_append_right, h, List.getElem?_replicate]
  omega

theorem arrV_set (l : List Value) (z : Value) (n k : Nat) (x : Value) (hk : k = l.length) (h : l.length < n) : (arrV l z n).setIfInBounds k x = arrV (l ++ [x]) z n := by
  subst hk
  apply Array.ext_getElem?
  intro i
  by_cases hi : i = l.length
  · subst hi
    rw [Array.getElem?_setIfInBounds_self_of_lt (by rw [arrV_size l z n (by omega)]; exact h), arrV_get _ _ _ _ (by simp)]
    simp
  · rw [Array.getElem?_setIfInBounds_ne (by omega)]
    by_cases hl : i < l.length
    · rw [arrV_get l z n i hl, arrV_get _ _ _ _ (by simp; omega)]
      simp [List.getElem_append_left, hl]
    · by_cases hn : i < n
      · rw [arrV_get0 l z n i (by omega) hn, arrV_get0 _ z n i (by simp; omega) hn]
      · rw [Array.getElem?_eq_none (by rw [arrV_size l z n (by omega)]; omega), Array.getElem?_eq_none (by rw [arrV_size _ z n (by simp; omega)]; omega)]

theorem arrV_full (l : List Value) (z : Value) (n : Nat) (h : l.length = n) : arrV l z n = l.toArray := by simp [arrV, h]

/-- So many cells, the first of them words. -/
def arrW (l : List Wd) (n : Nat) : Array Value := arrV (l.map W32) (.int .u32 0) n
/-- So many cells, the first of them bytes. -/
def arrB (l : List UInt8) (n : Nat) : Array Value := arrV (l.map B8) (.int .u8 0) n

theorem arrW_size (l : List Wd) (n : Nat) (h : l.length ≤ n) : (arrW l n).size = n := arrV_size _ _ _ (by simpa using h)
theorem arrW_get (l : List Wd) (n i : Nat) (h : i < l.length) : (arrW l n)[i]? = some (.int .u32 (wi (l.getD i 0))) := by
  rw [arrW, arrV_get _ _ _ _ (by simpa using h)]
  simp [List.getD, List.getElem?_eq_getElem h]
theorem arrW_get0 (l : List Wd) (n i : Nat) (h : l.length ≤ i) (h' : i < n) : (arrW l n)[i]? = some (.int .u32 0) := arrV_get0 _ _ _ _ (by simpa using h) h'
theorem arrW_set (l : List Wd) (n k : Nat) (x : Wd) (hk : k = l.length) (h : l.length < n) : (arrW l n).setIfInBounds k (.int .u32 (wi x)) = arrW (l ++ [x]) n := by
  rw [arrW, arrV_set _ _ _ _ _ (by simpa using hk) (by simpa using h)]
  simp [arrW, W32]
theorem arrW_full (l : List Wd) (n : Nat) (h : l.length = n) : arrW l n = (l.map W32).toArray := arrV_full _ _ _ (by simpa using h)

theorem arrB_set (l : List UInt8) (n k : Nat) (x : UInt8) (hk : k = l.length) (h : l.length < n) : (arrB l n).setIfInBounds k (.int .u8 (x.toNat : Int)) = arrB (l ++ [x]) n := by
  rw [arrB, arrV_set _ _ _ _ _ (by simpa using hk) (by simpa using h)]
  simp [arrB, B8]
theorem arrB_full (l : List UInt8) (n : Nat) (h : l.length = n) : arrB l n = (l.map B8).toArray := arrV_full _ _ _ (by simpa using h)
theorem arrB_get0 (l : List UInt8) (n i : Nat) (h : l.length ≤ i) (h' : i < n) : (arrB l n)[i]? = some (.int .u8 0) := arrV_get0 _ _ _ _ (by simpa using h) h'
theorem arrB_size (l : List UInt8) (n : Nat) (h : l.length ≤ n) : (arrB l n).size = n := arrV_size _ _ _ (by simpa using h)

/-- A block of cells behind a store into it. -/
theorem heap_setCell_in (w : World) (g i : Nat) (cs : Array Value) (t : TypeId) (fr : Nat × Nat) (v : Value) (hg : w.heap[g]? = some (.cells cs t fr)) :
    (w.setCell ⟨g, i, none⟩ v).heap[g]? = some (.cells (cs.setIfInBounds i v) t fr) := by
  rw [setCell_eq_setRow w g i cs t fr v hg]
  exact setRow_heap w g cs _ t fr hg

theorem oneW (l : List Value) (h : ∀ v ∈ l, v.oneCell' = true) : l.toArray.all (·.oneCell') = true := by
  simpa using h

theorem oneW_map (l : List Wd) : (l.map W32).toArray.all (·.oneCell') = true := oneW _ fun v h => by
  simp only [List.mem_map] at h
  obtain ⟨x, _, rfl⟩ := h
  rfl

theorem oneB_map (l : List UInt8) : (l.map B8).toArray.all (·.oneCell') = true := oneW _ Bs.one

/-- A row of words, read. -/
theorem row_get {w : World} {g n : Nat} {t : TypeId} {fr : Nat × Nat} {l : List Wd} (hg : w.heap[g]? = some (.cells (arrW l n) t fr)) (i : Nat) (h : i < l.length) : w.cell? ⟨g, i, none⟩ = some (.int .u32 (wi (l.getD i 0))) := by
  rw [cell_of_row w g i _ t fr hg]
  exact arrW_get l n i h

theorem row_some {w : World} {g i : Nat} {cs : Array Value} {t : TypeId} {fr : Nat × Nat} (hg : w.heap[g]? = some (.cells cs t fr)) (h : i < cs.size) : (w.cell? ⟨g, i, none⟩).isSome = true := by
  rw [cell_of_row w g i _ t fr hg]
  simp [h]

theorem rowB_get0 {w : World} {g i n : Nat} {l : List UInt8} {t : TypeId} {fr : Nat × Nat} (hg : w.heap[g]? = some (.cells (arrB l n) t fr)) (h : l.length ≤ i) (h' : i < n) : w.cell? ⟨g, i, none⟩ = some (.int .u8 0) := by
  rw [cell_of_row w g i _ t fr hg]
  exact arrB_get0 l n i h h'
theorem rowW_get0 {w : World} {g i n : Nat} {l : List Wd} {t : TypeId} {fr : Nat × Nat} (hg : w.heap[g]? = some (.cells (arrW l n) t fr)) (h : l.length ≤ i) (h' : i < n) : w.cell? ⟨g, i, none⟩ = some (.int .u32 0) := by
  rw [cell_of_row w g i _ t fr hg]
  exact arrW_get0 l n i h h'

theorem cell_setCell_ne (w : World) (p q : Addr) (v : Value) (h : q.block ≠ p.block) : (w.setCell p v).cell? q = w.cell? q :=
  World.cell?_of_block (Below.heap_setCell _ _ _ _ h)

theorem cell_drew (w : World) (p : Addr) : w.drew.cell? p = w.cell? p := rfl
theorem heap_drew (w : World) : w.drew.heap = w.heap := rfl

theorem cell_set_off (w : World) (g i j : Nat) (v : Value) (h : j ≠ i) : (w.setCell ⟨g, i, none⟩ v).cell? ⟨g, j, none⟩ = w.cell? ⟨g, j, none⟩ :=
  World.cell?_setCell_other w _ _ v (fun e => by cases e; exact h rfl)

theorem free_row {w : World} {g i : Nat} {cs : Array Value} {t : TypeId} (hg : w.heap[g]? = some (.cells cs t (0, 0))) : w.frozen? ⟨g, i, none⟩ = false := by
  simp [World.frozen?, hg]


theorem size_alloc (w : World) (o : Obj) : (w.alloc o).heap.size = w.heap.size + 1 := by simp
theorem heap3_0 (w : World) (A B C : Obj) : (((w.alloc A).alloc B).alloc C).heap[w.heap.size]? = some A := by
  rw [heap_alloc_old _ _ (by simp; omega), heap_alloc_old _ _ (by simp), heap_alloc_new]
theorem heap3_1 (w : World) (A B C : Obj) : (((w.alloc A).alloc B).alloc C).heap[w.heap.size + 1]? = some B := by
  rw [heap_alloc_old _ _ (by simp), heap_alloc2_new]
theorem heap3_2 (w : World) (A B C : Obj) : (((w.alloc A).alloc B).alloc C).heap[w.heap.size + 1 + 1]? = some C := by
  have := heap_alloc_new ((w.alloc A).alloc B) C
  simpa using this
end Go.Proofs.YtaobgaoldfeehaaDoor

/- Stage 2, digest: begin, hash. -/
namespace Go.Proofs.YtaobgaoldfeehaaDoor
set_option linter.unusedVariables false
set_option linter.unusedSimpArgs false
open Go.RowKit

attribute [local go_sem high] wdv_and wdv_or wdv_xor wdv_not wdv_add wdv_shl wdv_shr wdv_to8 wdv_of8

theorem Tryd.sz8 : (Tryd.prog.info? 109).map (·.size) = some 8 := by kernel_rfl
theorem Tryd.sz32 : (Tryd.prog.info? 34).map (·.size) = some 32 := by kernel_rfl
theorem Tryd.sz64 : (Tryd.prog.info? 91).map (·.size) = some 64 := by kernel_rfl

theorem begin_any (w : World) : Calls Tryd.prog 65 #[] w fun e w' => e = .returned (.agg (H0.map W32).toArray) ∧ Fr F0 w w' := by
  go_enter Tryd.func65, Tryd.ntmps65
  go_wp2
  refine bodyPost_ret (results_cell_row rfl _ _ _ _ _ _ _ rfl (heap_alloc_new w _) Tryd.underlying109 rfl Tryd.sz8) rfl ⟨rfl, (Fr.refl F0 w).alloc _⟩

theorem bytesOf_snoc (s : List Wd) (x : Wd) : bytesOf (s ++ [x]) = bytesOf s ++ [lo8 (x >>> 24)] ++ [lo8 (x >>> 16)] ++ [lo8 (x >>> 8)] ++ [lo8 x] := by simp [bytesOf]

set_option maxHeartbeats 4000000 in
theorem hash_any (s : List Wd) (hs : s.length = 8) (w : World) :
    Calls Tryd.prog 69 #[.agg (s.map W32).toArray] w fun e w' => e = .returned (.agg ((bytesOf s).map B8).toArray) ∧ Fr F0 w w' := by
  go_enter Tryd.func69, Tryd.ntmps69
  go_wp2_with (refine wpList_load_row rfl 109 (.tmp 1) rfl w.heap.size rfl 109 (s.map W32).toArray (0, 0) _ (heap3_0 _ _ _ _) Tryd.underlying109 rfl (by rw [Tryd.sz8]; simp [hs]) ?_)
  generalize hX : w.heap.size + 1 + 1 = X
  generalize hY : w.heap.size + 1 = Y
  go_loopw [7] (fun i wr => ∃ k : Nat, k ≤ 8 ∧ i = .int .i64 k ∧ wr.heap[X]? = some (.cells (arrB (bytesOf (s.take k)) 32) 34 (0, 0)) ∧ (∃ cs, wr.heap[Y]? = some (.cells cs 34 (0, 0)) ∧ cs.size = 32) ∧ Fr F0 w wr) (fun i _ => 8 - (intOf i).toNat)
  case atStart => exact ⟨0, by omega, rfl, by subst hX; exact heap3_2 _ _ _ _, ⟨_, by subst hY; exact heap3_1 _ _ _ _, rfl⟩, (((Fr.refl F0 w).alloc _).alloc _).alloc _⟩
  case round =>
    obtain ⟨k, hk, rfl, h2, ⟨cs, h1, hz⟩, hf⟩ := hrel
    by_cases hk8 : k < 8
    · have hx : (s.map W32).toArray[k]? = some (.int .u32 (wi (s.getD k 0))) := by
        simp [List.getD, List.getElem?_eq_getElem (show k < s.length by omega)]
      have hL : (bytesOf (s.take k)).length = 4 * k := by rw [bytesOf_length]; simp; omega
      have hst : s.take (k + 1) = s.take k ++ [s.getD k 0] := by
        rw [List.take_succ_eq_append_getElem (show k < s.length by omega)]
        simp [List.getD, List.getElem?_eq_getElem (show k < s.length by omega)]
      generalize s.getD k 0 = x at *
      have HS := Lib.hid hst
      have hi := fun w => run_index_row (P := Tryd.prog) w 109 22 8 _ .i64 k _ Tryd.underlying109 Tryd.underlying22 rfl (by kernel_rfl) _ hk8 hx
      have b0 := rowB_get0 (i := 4 * k) h2 (by omega) (by omega)
      have z0 := free_row (i := 4 * k) h2
      have b1 := rowB_get0 (i := 4 * k + 1) h2 (by omega) (by omega)
      have z1 := free_row (i := 4 * k + 1) h2
      have b2 := rowB_get0 (i := 4 * k + 2) h2 (by omega) (by omega)
      have z2 := free_row (i := 4 * k + 2) h2
      have b3 := rowB_get0 (i := 4 * k + 3) h2 (by omega) (by omega)
      have z3 := free_row (i := 4 * k + 3) h2
      have HH := Lib.hid (And.intro h2 (And.intro h1 hf))
      have HL := Lib.hid hL
      clear hst hx hL h2 h1 hf
      go_wp2
      go_roundw
      case rel =>
        obtain ⟨h2, h1, hf⟩ := HH.out
        have hne : Y ≠ X := by omega
        refine ⟨k + 1, by omega, by go_num, ?_, ⟨cs, ?_, hz⟩, ?_⟩
        · rw [HS.out, bytesOf_snoc]
          have hL := HL.out
          have g0 := heap_setCell_in wr X (4 * k) _ _ _ (.int .u8 ((lo8 (x >>> 24)).toNat : Int)) h2
          rw [arrB_set _ _ _ _ (by omega) (by omega)] at g0
          have g1 := heap_setCell_in _ X (4 * k + 1) _ _ _ (.int .u8 ((lo8 (x >>> 16)).toNat : Int)) g0
          rw [arrB_set _ _ _ _ (by simp; omega) (by simp; omega)] at g1
          have g2 := heap_setCell_in _ X (4 * k + 2) _ _ _ (.int .u8 ((lo8 (x >>> 8)).toNat : Int)) g1
          rw [arrB_set _ _ _ _ (by simp; omega) (by simp; omega)] at g2
          have g3 := heap_setCell_in _ X (4 * k + 3) _ _ _ (.int .u8 ((lo8 x).toNat : Int)) g2
          rw [arrB_set _ _ _ _ (by simp; omega) (by simp; omega)] at g3
          exact g3
        · rw [Below.heap_setCell _ _ _ _ hne, Below.heap_setCell _ _ _ _ hne, Below.heap_setCell _ _ _ _ hne, Below.heap_setCell _ _ _ _ hne]
          exact h1
        · exact (((hf.setCell (p := ⟨X, _, none⟩) (fun h => by simp only at h; omega) _).setCell (p := ⟨X, _, none⟩) (fun h => by simp only at h; omega) _).setCell (p := ⟨X, _, none⟩) (fun h => by simp only at h; omega) _).setCell (p := ⟨X, _, none⟩) (fun h => by simp only at h; omega) _
      case measure => simp [intOf]; omega
    · obtain rfl : k = 8 := by omega
      have hfull : arrB (bytesOf (s.take 8)) 32 = ((bytesOf s).map B8).toArray := by
        rw [List.take_of_length_le (by omega)]
        exact arrB_full _ _ (by rw [bytesOf_length, hs])
      rw [hfull] at h2
      have hb : ((bytesOf s).map B8).toArray.size = 32 := by simp [bytesOf_length, hs]
      go_wp2_with (first | refine wpList_load_row rfl 34 (.tmp 3) rfl X rfl 34 _ (0, 0) _ h2 Tryd.underlying34 rfl (by rw [Tryd.sz32, hb]) ?_ | refine wpList_store_row rfl 34 (.tmp 2) (.tmp 38) rfl Y _ rfl rfl 34 cs h1 (by rw [Tryd.sz32, hb]) (by rw [hz, hb]) (oneB_map _) ?_)
      refine bodyPost_ret (results_cell_row rfl _ _ Y _ _ _ _ rfl (setRow_heap _ _ _ _ _ _ h1) Tryd.underlying34 rfl (by rw [Tryd.sz32, hb])) rfl ⟨rfl, ?_⟩
      exact hf.setRow (fun h => by omega) _
end Go.Proofs.YtaobgaoldfeehaaDoor

/- Stage 2, digest: schedule. -/
namespace Go.Proofs.YtaobgaoldfeehaaDoor
set_option linter.unusedVariables false
set_option linter.unusedSimpArgs false
open Go.RowKit

attribute [local go_sem high] wdv_and wdv_or wdv_xor wdv_not wdv_add wdv_shl wdv_shr wdv_to8 wdv_of8

theorem Bs.atD {w : World} {a : Addr} {c : Nat} {bs : List UInt8} {b off : Nat} (h : Bs w (some ⟨b, off, none⟩) c bs) (j : Nat) (hj : j < bs.length) : w.cell? ⟨b, off + j, none⟩ = some (.int .u8 ((bs.getD j 0).toNat : Int)) := by
  obtain ⟨b', off', e, hc⟩ := h.at j hj
  cases e
  rw [hc]
  simp [List.getD, List.getElem?_eq_getElem hj]

set_option maxRecDepth 100000 in
set_option maxHeartbeats 8000000 in
theorem schedule_any (a : Option Addr) (c : Nat) (bs : List UInt8) (hl : bs.length = 64) (w : World) (h : Bs w a c bs) :
    Calls Tryd.prog 82 #[.slice a 64 c] w fun e w' => e = .returned (.agg ((sch bs 64).map W32).toArray) ∧ Fr F0 w w' := by
  obtain ⟨b, off, rfl, hc⟩ := h.cells (by intro e; simp [e] at hl)
  have hlt : b < w.heap.size := World.block_lt_of_cell? w _ (hc 0 (by omega))
  have HB := Lib.hid h
  clear h hc
  go_enter Tryd.func82, Tryd.ntmps82
  go_wp2_with fail
  generalize hX : w.heap.size + 1 = X
  go_loopw [10] (fun i wr => ∃ k : Nat, k ≤ 16 ∧ i = .int .i64 k ∧ wr.heap[X]? = some (.cells (arrW (sch bs k) 64) 91 (0, 0)) ∧ (∃ cs, wr.heap[w.heap.size]? = some (.cells cs 91 (0, 0)) ∧ cs.size = 64) ∧ Fr F0 w wr) (fun i _ => 16 - (intOf i).toNat)
  case atStart => exact ⟨0, by omega, rfl, by subst hX; exact heap_alloc2_new _ _ _, ⟨_, heap_alloc2_old _ _ _, rfl⟩, ((Fr.refl F0 w).alloc _).alloc _⟩
  case round =>
    obtain ⟨k, hk, rfl, h2, ⟨cs, h1, hz⟩, hf⟩ := hrel
    by_cases hk8 : k < 16
    · have hB : Bs wr (some ⟨b, off, none⟩) c bs := Sl.fr HB.out hf fun _ _ f => f
      have c0 := hB.atD (a := ⟨b, off, none⟩) (4 * k) (by omega)
      have c1 := hB.atD (a := ⟨b, off, none⟩) (4 * k + 1) (by omega)
      have c2 := hB.atD (a := ⟨b, off, none⟩) (4 * k + 2) (by omega)
      have c3 := hB.atD (a := ⟨b, off, none⟩) (4 * k + 3) (by omega)
      have b0 := rowW_get0 (i := k) h2 (by rw [sch_length]; omega) (by omega)
      have z0 := free_row (i := k) h2
      have HH := Lib.hid (And.intro h2 (And.intro h1 hf))
      have HS := Lib.hid (show sch bs (k + 1) = sch bs k ++ [w8 (bs.getD (4 * k) 0) <<< 24 ||| w8 (bs.getD (4 * k + 1) 0) <<< 16 ||| w8 (bs.getD (4 * k + 2) 0) <<< 8 ||| w8 (bs.getD (4 * k + 3) 0)] from by show sch bs k ++ _ = _; rw [if_pos hk8]; rfl)
      generalize bs.getD (4 * k) 0 = x0 at *
      generalize bs.getD (4 * k + 1) 0 = x1 at *
      generalize bs.getD (4 * k + 2) 0 = x2 at *
      generalize bs.getD (4 * k + 3) 0 = x3 at *
      clear hB h2 h1 hf
      go_wp2_with fail
      have hne : b ≠ X := by omega
      obtain ⟨p0, hp0⟩ : ∃ p, p = 4 * k := ⟨_, rfl⟩
      obtain ⟨p1, hp1⟩ : ∃ p, p = 4 * k + 1 := ⟨_, rfl⟩
      obtain ⟨p2, hp2⟩ : ∃ p, p = 4 * k + 2 := ⟨_, rfl⟩
      obtain ⟨p3, hp3⟩ : ∃ p, p = 4 * k + 3 := ⟨_, rfl⟩
      have m0 : IntKind.i64.wrap (4 * (k : Int)) = (p0 : Int) := by rw [IntWalk.i64_in _ (by omega)]; omega
      have m1 : IntKind.i64.wrap ((p0 : Int) + 1) = (p1 : Int) := by rw [IntWalk.i64_in _ (by omega)]; omega
      have m2 : IntKind.i64.wrap ((p0 : Int) + 2) = (p2 : Int) := by rw [IntWalk.i64_in _ (by omega)]; omega
      have m3 : IntKind.i64.wrap ((p0 : Int) + 3) = (p3 : Int) := by rw [IntWalk.i64_in _ (by omega)]; omega
      have l0 : (p0 : Int) < 64 := by omega
      have l1 : (p1 : Int) < 64 := by omega
      have l2 : (p2 : Int) < 64 := by omega
      have l3 : (p3 : Int) < 64 := by omega
      have lk : (k : Int) < 64 := by omega
      rw [← hp0] at c0
      rw [← hp1] at c1
      rw [← hp2] at c2
      rw [← hp3] at c3
      clear hp0 hp1 hp2 hp3
      refine wp_region_noPanic ?_
      refine wp_region_held_drew (S := (fun w' => w'.cell? ⟨b, off + p0, none⟩ = some (.int .u8 (x0.toNat : Int)) ∧ w'.cell? ⟨b, off + p1, none⟩ = some (.int .u8 (x1.toNat : Int)) ∧ w'.cell? ⟨b, off + p2, none⟩ = some (.int .u8 (x2.toNat : Int)) ∧ w'.cell? ⟨b, off + p3, none⟩ = some (.int .u8 (x3.toNat : Int)))) (by kernel_rfl) ?_ (fun hHeld => ?_)
      · ((try dsimp only) <;> (first | exact ⟨c0, c1, c2, c3⟩ | (refine ⟨?_, ?_, ?_, ?_⟩ <;> rw [cell_drew, cell_setCell_ne _ _ _ _ hne] <;> assumption)))
      refine rtake 0 ?_
      refine rtake 1 ?_
      refine rtake 2 ?_
      refine rtake 3 ?_
      refine rtake 4 ?_
      refine rtake 5 ?_
      refine rtake 6 ?_
      refine rtake 7 ?_
      refine rtake 8 ?_
      refine rtake 9 ?_
      refine rtake 10 ?_
      refine rtake 11 ?_
      refine rtake 12 ?_
      refine rtake 13 ?_
      refine rtake 14 ?_
      refine rtake 15 ?_
      refine rtake 16 ?_
      refine rtake 17 ?_
      refine rtake 18 ?_
      refine rtake 19 ?_
      refine rtake 20 ?_
      refine rtake 21 ?_
      refine rtake 22 ?_
      refine rtake 23 ?_
      refine rtake 24 ?_
      refine rtake 25 ?_
      refine rtake 26 ?_
      refine rtake 27 ?_
      refine rtake 28 ?_
      refine rtake 29 ?_
      refine rtake 30 ?_
      refine rtake 31 ?_
      refine rtake 32 ?_
      refine rtake 33 ?_
      refine rtake 34 ?_
      refine wpAnyH_ready (rs := [35]) (by kernel_rfl) (by simp) ?_
      refine AllReadyH.cons (o := ⟨_, _, _, _, _, _⟩) rfl (fun K hK => ?_) AllReadyH.nil
      go_simp
      refine hK.out _ _ ?_ (fun hHeld => ?_)
      · ((try dsimp only) <;> (first | exact ⟨c0, c1, c2, c3⟩ | (refine ⟨?_, ?_, ?_, ?_⟩ <;> rw [cell_drew, cell_setCell_ne _ _ _ _ hne] <;> assumption)))
      clear hK K
      try (simp only [Act.put, List.setIfInBounds_toArray]; dsimp only [List.set_cons_zero, List.set_cons_succ])
      refine wpAnyH_done (by kernel_rfl) ?_ _
      refine NoPanic.normal ?_
      go_wp2
      go_roundw
      case rel =>
        obtain ⟨h2, h1, hf⟩ := HH.out
        have hYX : w.heap.size ≠ X := by omega
        refine ⟨k + 1, by omega, by go_num, ?_, ⟨cs, ?_, hz⟩, ?_⟩
        · rw [HS.out]
          have g0 := heap_setCell_in wr X k _ _ _ (.int .u32 (wi (w8 x0 <<< 24 ||| w8 x1 <<< 16 ||| w8 x2 <<< 8 ||| w8 x3))) h2
          rw [arrW_set _ _ _ _ (by rw [sch_length]) (by rw [sch_length]; omega)] at g0
          exact g0
        · rw [heap_drew, Below.heap_setCell _ _ _ _ hYX]
          exact h1
        · exact (hf.setCell (p := ⟨X, _, none⟩) (fun h => by simp only at h; omega) _).drew
      case measure => simp [intOf]; omega
    · have hk16 : k = 16 := by omega
      rw [hk16] at h2
      clear hk16
      go_wp2_with fail
      go_loopw [5] (fun i wr => ∃ k : Nat, 16 ≤ k ∧ k ≤ 64 ∧ i = .int .i64 k ∧ wr.heap[X]? = some (.cells (arrW (sch bs k) 64) 91 (0, 0)) ∧ (∃ cs, wr.heap[w.heap.size]? = some (.cells cs 91 (0, 0)) ∧ cs.size = 64) ∧ Fr F0 w wr) (fun i _ => 64 - (intOf i).toNat)
      case atStart => exact ⟨16, by omega, by omega, rfl, h2, ⟨cs, h1, hz⟩, hf⟩
      case round =>
        obtain ⟨k, hk16, hk, rfl, h2, ⟨cs, h1, hz⟩, hf⟩ := hrel
        by_cases hk8 : k < 64
        · have hsl := sch_length bs k
          have HH := Lib.hid (And.intro h2 (And.intro h1 hf))
          have c2 := row_get (w := wr.drew) h2 (k - 2) (by omega)
          have c7 := row_get (w := wr.drew.drew) h2 (k - 7) (by omega)
          have c15 := row_get (w := wr.drew) h2 (k - 15) (by omega)
          have c16 := row_get (w := wr.drew.drew) h2 (k - 16) (by omega)
          have b0 := rowW_get0 (w := wr.drew.drew) (i := k) h2 (by omega) (by omega)
          have z0 := free_row (w := wr.drew.drew) (i := k) h2
          have HS := Lib.hid (show sch bs (k + 1) = sch bs k ++ [(sch bs k).getD (k - 16) 0 + sig0 ((sch bs k).getD (k - 15) 0) + (sch bs k).getD (k - 7) 0 + sig1 ((sch bs k).getD (k - 2) 0)] from by show sch bs k ++ _ = _; rw [if_neg (by omega)]; rfl)
          generalize (sch bs k).getD (k - 2) 0 = x2 at *
          generalize (sch bs k).getD (k - 7) 0 = x7 at *
          generalize (sch bs k).getD (k - 15) 0 = x15 at *
          generalize (sch bs k).getD (k - 16) 0 = x16 at *
          obtain ⟨q2, hq2⟩ : ∃ q, q = k - 2 := ⟨_, rfl⟩
          have e2 : IntKind.i64.wrap ((k : Int) - 2) = (q2 : Int) := by rw [IntWalk.i64_in _ (by omega)]; omega
          have l2 : (q2 : Int) < 64 := by omega
          rw [← hq2] at c2
          clear hq2
          obtain ⟨q7, hq7⟩ : ∃ q, q = k - 7 := ⟨_, rfl⟩
          have e7 : IntKind.i64.wrap ((k : Int) - 7) = (q7 : Int) := by rw [IntWalk.i64_in _ (by omega)]; omega
          have n7 : q7 ≠ k := by omega
          have l7 : (q7 : Int) < 64 := by omega
          rw [← hq7] at c7
          clear hq7
          obtain ⟨q15, hq15⟩ : ∃ q, q = k - 15 := ⟨_, rfl⟩
          have e15 : IntKind.i64.wrap ((k : Int) - 15) = (q15 : Int) := by rw [IntWalk.i64_in _ (by omega)]; omega
          have l15 : (q15 : Int) < 64 := by omega
          rw [← hq15] at c15
          clear hq15
          obtain ⟨q16, hq16⟩ : ∃ q, q = k - 16 := ⟨_, rfl⟩
          have e16 : IntKind.i64.wrap ((k : Int) - 16) = (q16 : Int) := by rw [IntWalk.i64_in _ (by omega)]; omega
          have n16 : q16 ≠ k := by omega
          have l16 : (q16 : Int) < 64 := by omega
          rw [← hq16] at c16
          clear hq16
          have lk : (k : Int) < 64 := by omega
          clear h2 h1 hf hsl
          go_wp2_with fail
          refine wp_region_noPanic ?_
          refine wp_region_held_drew (S := (fun w' => w'.cell? ⟨X, q2, none⟩ = some (.int .u32 (wi x2)) ∧ w'.cell? ⟨X, q15, none⟩ = some (.int .u32 (wi x15)))) (by kernel_rfl) ?_ (fun hHeld => ?_)
          · ((try dsimp only) <;> (exact ⟨c2, c15⟩))
          refine rtake 0 ?_
          refine rtake 1 ?_
          refine rtake 2 ?_
          refine rtake 3 ?_
          refine rtake 4 ?_
          refine rtake 5 ?_
          refine rtake 6 ?_
          refine rtake 7 ?_
          refine rtake 8 ?_
          refine rtake 9 ?_
          refine wpAnyH_done (by kernel_rfl) ?_ _
          refine NoPanic.normal ?_
          go_wp2_with fail
          refine (RotL32_right x15 7 _ (by omega) (by omega)).mono ?_
          rintro e w1 ⟨rfl, rfl⟩
          go_wp2_with fail
          refine (RotL32_right x15 18 _ (by omega) (by omega)).mono ?_
          rintro e w1 ⟨rfl, rfl⟩
          go_wp2_with fail
          refine (RotL32_right x2 17 _ (by omega) (by omega)).mono ?_
          rintro e w1 ⟨rfl, rfl⟩
          go_wp2_with fail
          refine (RotL32_right x2 19 _ (by omega) (by omega)).mono ?_
          rintro e w1 ⟨rfl, rfl⟩
          go_wp2_with fail
          refine wp_region_noPanic ?_
          refine wp_region_held_drew (S := (fun w' => w'.cell? ⟨X, q7, none⟩ = some (.int .u32 (wi x7)) ∧ w'.cell? ⟨X, q16, none⟩ = some (.int .u32 (wi x16)))) (by kernel_rfl) ?_ (fun hHeld => ?_)
          · ((try dsimp only) <;> (first | exact ⟨c7, c16⟩ | exact ⟨by rw [cell_drew, cell_drew, cell_set_off _ _ _ _ _ n7]; exact c7, by rw [cell_drew, cell_drew, cell_set_off _ _ _ _ _ n16]; exact c16⟩))
          refine rtake 0 ?_
          refine rtake 1 ?_
          refine rtake 2 ?_
          refine rtake 3 ?_
          refine rtake 4 ?_
          refine rtake 5 ?_
          refine rtake 6 ?_
          refine rtake 7 ?_
          refine rtake 8 ?_
          refine rtake 9 ?_
          refine rtake 10 ?_
          refine rtake 11 ?_
          refine rtake 12 ?_
          refine rtake 13 ?_
          refine rtake 14 ?_
          refine wpAnyH_ready (rs := [15]) (by kernel_rfl) (by simp) ?_
          refine AllReadyH.cons (o := ⟨_, _, _, _, _, _⟩) rfl (fun K hK => ?_) AllReadyH.nil
          go_simp
          refine hK.out _ _ ?_ (fun hHeld => ?_)
          · ((try dsimp only) <;> (first | exact ⟨c7, c16⟩ | exact ⟨by rw [cell_drew, cell_drew, cell_set_off _ _ _ _ _ n7]; exact c7, by rw [cell_drew, cell_drew, cell_set_off _ _ _ _ _ n16]; exact c16⟩))
          clear hK K
          try (simp only [Act.put, List.setIfInBounds_toArray]; dsimp only [List.set_cons_zero, List.set_cons_succ])
          refine wpAnyH_done (by kernel_rfl) ?_ _
          refine NoPanic.normal ?_
          go_wp2
          go_roundw
          case rel =>
            obtain ⟨h2, h1, hf⟩ := HH.out
            have hYX : w.heap.size ≠ X := by omega
            refine ⟨k + 1, by omega, by omega, by go_num, ?_, ⟨cs, ?_, hz⟩, ?_⟩
            · rw [HS.out]
              have g0 := heap_setCell_in wr X k _ _ _ (.int .u32 (wi (x16 + sig0 x15 + x7 + sig1 x2))) h2
              rw [arrW_set _ _ _ _ (by rw [sch_length]) (by rw [sch_length]; omega)] at g0
              exact g0
            · rw [heap_drew, heap_drew, Below.heap_setCell _ _ _ _ hYX]
              exact h1
            · exact (hf.setCell (p := ⟨X, _, none⟩) (fun h => by simp only at h; omega) _).drew.drew
          case measure => simp [intOf]; omega
        · obtain rfl : k = 64 := by omega
          have hfull : arrW (sch bs 64) 64 = ((sch bs 64).map W32).toArray := arrW_full _ _ (sch_length _ _)
          rw [hfull] at h2
          have hb : ((sch bs 64).map W32).toArray.size = 64 := by simp [sch_length]
          go_wp2_with (first | refine wpList_load_row rfl 91 (.tmp 3) rfl X rfl 91 _ (0, 0) _ h2 Tryd.underlying91 rfl (by rw [Tryd.sz64, hb]) ?_ | refine wpList_store_row rfl 91 (.tmp 2) (.tmp 92) rfl w.heap.size _ rfl rfl 91 cs h1 (by rw [Tryd.sz64, hb]) (by rw [hz, hb]) (oneW_map _) ?_)
          refine bodyPost_ret (results_cell_row rfl _ _ w.heap.size _ _ _ _ rfl (setRow_heap _ _ _ _ _ _ h1) Tryd.underlying91 rfl (by rw [Tryd.sz64, hb])) rfl ⟨rfl, ?_⟩
          exact hf.setRow (fun h => by omega) _
end Go.Proofs.YtaobgaoldfeehaaDoor

/- Stage 2, digest: after. -/
namespace Go.Proofs.YtaobgaoldfeehaaDoor
set_option linter.unusedVariables false
set_option linter.unusedSimpArgs false
open Go.RowKit

attribute [local go_sem high] wdv_and wdv_or wdv_xor wdv_not wdv_add wdv_shl wdv_shr wdv_to8 wdv_of8

/-- The table of the cube roots, in memory. -/
def Cub (w : World) : Prop := ∀ j, j < 64 → w.cell? ⟨0, j, none⟩ = some (.int .u32 (wi (cubesL.getD j 0)))

theorem Cub.lt {w : World} (h : Cub w) : 0 < w.heap.size := World.block_lt_of_cell? w ⟨0, 0, none⟩ (h 0 (by omega))
theorem Cub.fr {S : Nat → Prop} {w w' : World} (h : Cub w) (hf : Fr S w w') (hs : ¬ S 0) : Cub w' := fun j hj => hf.cell (p := ⟨0, j, none⟩) hs (h j hj)

theorem rnds_out (bs : List UInt8) (va vb vc vd ve vf vg vh : Wd) (l : List Wd) (h : rnds bs [va, vb, vc, vd, ve, vf, vg, vh] 64 = l) : compress bs [va, vb, vc, vd, ve, vf, vg, vh] = List.zipWith (· + ·) [va, vb, vc, vd, ve, vf, vg, vh] l := by rw [compress, h]

set_option maxRecDepth 100000 in
set_option maxHeartbeats 16000000 in
theorem after_any (s : List Wd) (hs : s.length = 8) (a : Option Addr) (n c : Nat) (bs : List UInt8) (hn : n = 64) (hl : bs.length = 64) (w : World) (h : Bs w a c bs) (hcub : Cub w) :
    Calls Tryd.prog 67 #[.agg (s.map W32).toArray, .slice a n c] w fun e w' => e = .returned (.agg ((compress bs s).map W32).toArray) ∧ Fr F0 w w' := by
  subst hn
  have hclt := hcub.lt
  have HC := Lib.hid hcub
  obtain ⟨va, vb, vc, vd, ve, vf, vg, vh, hsd⟩ := eight hs
  have HSD := Lib.hid hsd
  have HB := Lib.hid h
  have b1 : ((w.alloc (.cells (s.map W32).toArray 109)).alloc (.cells #[.int .u32 0, .int .u32 0, .int .u32 0, .int .u32 0, .int .u32 0, .int .u32 0, .int .u32 0, .int .u32 0] 109)).heap[w.heap.size]? = some (.cells (s.map W32).toArray 109 (0, 0)) := heap_alloc2_old _ _ _
  have d0 := (cell_of_row _ _ 0 _ _ _ b1).trans (show _ = some (.int .u32 (wi va)) by rw [hsd]; rfl)
  have d1 := (cell_of_row _ _ 1 _ _ _ b1).trans (show _ = some (.int .u32 (wi vb)) by rw [hsd]; rfl)
  have d2 := (cell_of_row _ _ 2 _ _ _ b1).trans (show _ = some (.int .u32 (wi vc)) by rw [hsd]; rfl)
  have d3 := (cell_of_row _ _ 3 _ _ _ b1).trans (show _ = some (.int .u32 (wi vd)) by rw [hsd]; rfl)
  have d4 := (cell_of_row _ _ 4 _ _ _ b1).trans (show _ = some (.int .u32 (wi ve)) by rw [hsd]; rfl)
  have d5 := (cell_of_row _ _ 5 _ _ _ b1).trans (show _ = some (.int .u32 (wi vf)) by rw [hsd]; rfl)
  have d6 := (cell_of_row _ _ 6 _ _ _ b1).trans (show _ = some (.int .u32 (wi vg)) by rw [hsd]; rfl)
  have d7 := (cell_of_row _ _ 7 _ _ _ b1).trans (show _ = some (.int .u32 (wi vh)) by rw [hsd]; rfl)
  clear hsd b1 h hcub
  go_enter Tryd.func67, Tryd.ntmps67
  go_wp2_with fail
  refine wp_region_noPanic ?_
  refine wp_region_held_drew (S := (fun w' => w'.cell? ⟨w.heap.size, 0, none⟩ = some (.int .u32 (wi va)) ∧ w'.cell? ⟨w.heap.size, 1, none⟩ = some (.int .u32 (wi vb)) ∧ w'.cell? ⟨w.heap.size, 2, none⟩ = some (.int .u32 (wi vc)) ∧ w'.cell? ⟨w.heap.size, 3, none⟩ = some (.int .u32 (wi vd)) ∧ w'.cell? ⟨w.heap.size, 4, none⟩ = some (.int .u32 (wi ve)) ∧ w'.cell? ⟨w.heap.size, 5, none⟩ = some (.int .u32 (wi vf)) ∧ w'.cell? ⟨w.heap.size, 6, none⟩ = some (.int .u32 (wi vg)) ∧ w'.cell? ⟨w.heap.size, 7, none⟩ = some (.int .u32 (wi vh)))) (by kernel_rfl) ?_ (fun hHeld => ?_)
  · ((try dsimp only) <;> (exact ⟨d0, d1, d2, d3, d4, d5, d6, d7⟩))
  refine rtake 0 ?_
  refine rtake 1 ?_
  refine rtake 2 ?_
  refine rtake 3 ?_
  refine rtake 4 ?_
  refine rtake 5 ?_
  refine rtake 6 ?_
  refine rtake 7 ?_
  refine rtake 8 ?_
  refine rtake 9 ?_
  refine rtake 10 ?_
  refine rtake 11 ?_
  refine rtake 12 ?_
  refine rtake 13 ?_
  refine rtake 14 ?_
  refine rtake 15 ?_
  refine rtake 16 ?_
  refine rtake 17 ?_
  refine rtake 18 ?_
  refine rtake 19 ?_
  refine rtake 20 ?_
  refine rtake 21 ?_
  refine rtake 22 ?_
  refine rtake 23 ?_
  refine wpAnyH_done (by kernel_rfl) ?_ _
  refine NoPanic.normal ?_
  clear d0 d1 d2 d3 d4 d5 d6 d7 hHeld
  generalize hY : w.heap.size + 1 = Y
  have hW : Fr F0 w (((w.alloc (.cells (s.map W32).toArray 109)).alloc (.cells #[.int .u32 0, .int .u32 0, .int .u32 0, .int .u32 0, .int .u32 0, .int .u32 0, .int .u32 0, .int .u32 0] 109)).drew) := (((Fr.refl F0 w).alloc _).alloc _).drew
  have h0 : (((w.alloc (.cells (s.map W32).toArray 109)).alloc (.cells #[.int .u32 0, .int .u32 0, .int .u32 0, .int .u32 0, .int .u32 0, .int .u32 0, .int .u32 0, .int .u32 0] 109)).drew).heap[w.heap.size]? = some (.cells (s.map W32).toArray 109 (0, 0)) := heap_alloc2_old _ _ _
  have h1 : (((w.alloc (.cells (s.map W32).toArray 109)).alloc (.cells #[.int .u32 0, .int .u32 0, .int .u32 0, .int .u32 0, .int .u32 0, .int .u32 0, .int .u32 0, .int .u32 0] 109)).drew).heap[Y]? = some (.cells #[.int .u32 0, .int .u32 0, .int .u32 0, .int .u32 0, .int .u32 0, .int .u32 0, .int .u32 0, .int .u32 0] 109 (0, 0)) := by subst hY; exact heap_alloc2_new _ _ _
  generalize (((w.alloc (.cells (s.map W32).toArray 109)).alloc (.cells #[.int .u32 0, .int .u32 0, .int .u32 0, .int .u32 0, .int .u32 0, .int .u32 0, .int .u32 0, .int .u32 0] 109)).drew) = w1 at *
  go_wp2_with fail
  refine (schedule_any a c bs hl w1 (Sl.fr HB.out hW fun _ _ f => f)).mono ?_
  rintro e w2 ⟨rfl, h2⟩
  replace h0 := h2.keeps (fun f => f) h0
  replace h1 := h2.keeps (fun f => f) h1
  replace h2 := hW.trans' h2
  clear hW
  go_wp2_with fail
  go_loopw [5, 6, 7, 8, 9, 10, 11, 12, 37] (fun v0 v1 v2 v3 v4 v5 v6 v7 i wr => ∃ k : Nat, k ≤ 64 ∧ i = .int .i64 k ∧ (∃ a b c d e f g h, rnds bs s k = [a, b, c, d, e, f, g, h] ∧ v0 = .int .u32 (wi a) ∧ v1 = .int .u32 (wi b) ∧ v2 = .int .u32 (wi c) ∧ v3 = .int .u32 (wi d) ∧ v4 = .int .u32 (wi e) ∧ v5 = .int .u32 (wi f) ∧ v6 = .int .u32 (wi g) ∧ v7 = .int .u32 (wi h)) ∧ wr.heap[w.heap.size]? = some (.cells (s.map W32).toArray 109 (0, 0)) ∧ (∃ cs, wr.heap[Y]? = some (.cells cs 109 (0, 0)) ∧ cs.size = 8) ∧ Fr F0 w wr) (fun _ _ _ _ _ _ _ _ i _ => 64 - (intOf i).toNat)
  case atStart => exact ⟨0, by omega, rfl, ⟨va, vb, vc, vd, ve, vf, vg, vh, HSD.out, rfl, rfl, rfl, rfl, rfl, rfl, rfl, rfl⟩, h0, ⟨_, h1, rfl⟩, h2⟩
  case round =>
    clear h0 h1 h2
    obtain ⟨k, hk, rfl, ⟨xa, xb, xc, xd, xe, xf, xg, xh, hr, rfl, rfl, rfl, rfl, rfl, rfl, rfl, rfl⟩, h0, ⟨cs, h1, hz⟩, hf⟩ := hrel
    have HR := Lib.hid hr
    clear hr
    by_cases hk8 : k < 64
    · have hx : ((sch bs 64).map W32).toArray[k]? = some (.int .u32 (wi ((sch bs 64).getD k 0))) := by
        simp [List.getD, List.getElem?_eq_getElem (show k < (sch bs 64).length by rw [sch_length]; exact hk8)]
      have hq : wr.cell? ⟨0, k, none⟩ = some (.int .u32 (wi (cubesL.getD k 0))) := HC.out.fr hf (fun f => f) k hk8
      have HS := Lib.hid (show rnds bs s (k + 1) = stp (cubesL.getD k 0) ((sch bs 64).getD k 0) (rnds bs s k) from rfl)
      generalize (sch bs 64).getD k 0 = x at *
      generalize cubesL.getD k 0 = q at *
      have hi := fun w => run_index_row (P := Tryd.prog) w 91 22 64 _ .i64 k _ Tryd.underlying91 Tryd.underlying22 rfl (by kernel_rfl) _ hk8 hx
      have HH := Lib.hid (And.intro h0 (And.intro h1 hf))
      have lk : (k : Int) < 64 := by omega
      clear h0 h1 hf hx
      go_wp2_with fail
      have hqd : wr.drew.cell? ⟨0, k, none⟩ = some (.int .u32 (wi q)) := hq
      refine wp_region_noPanic ?_
      refine wp_region_held_drew (S := (fun w' => w'.cell? ⟨0, k, none⟩ = some (.int .u32 (wi q)))) (by kernel_rfl) ?_ (fun hHeld => ?_)
      · ((try dsimp only) <;> (exact hqd))
      refine rtake 0 ?_
      refine rtake 1 ?_
      refine rtake 4 ?_
      refine rtake 6 ?_
      refine rtake 7 ?_
      refine rtake 8 ?_
      refine rtake 10 ?_
      refine wpAnyH_ready (rs := [2]) (by kernel_rfl) (by simp) ?_
      refine AllReadyH.cons (o := ⟨_, _, _, _, _, _⟩) rfl (fun K hK => ?_) AllReadyH.nil
      go_simp
      (refine (turned_any xe 6 11 25 _ (by omega) (by omega) (by omega)).mono ?_; rintro e w5 ⟨rfl, rfl⟩)
      refine hK.out _ _ ?_ (fun hHeld => ?_)
      · ((try dsimp only) <;> (exact hqd))
      clear hK K
      try (simp only [Act.put, List.setIfInBounds_toArray]; dsimp only [List.set_cons_zero, List.set_cons_succ])
      refine rtake 3 ?_
      refine rtake 5 ?_
      refine rtake 9 ?_
      refine rtake 11 ?_
      refine rtake 12 ?_
      refine wpAnyH_done (by kernel_rfl) ?_ _
      refine NoPanic.normal ?_
      go_wp2_with fail
      refine (turned_any xa 2 13 22 _ (by omega) (by omega) (by omega)).mono ?_
      rintro e w5 ⟨rfl, rfl⟩
      go_wp2
      go_roundw
      case rel =>
        obtain ⟨h0, h1, hf⟩ := HH.out
        exact ⟨k + 1, by omega, by go_num, ⟨_, _, _, _, _, _, _, _, by rw [HS.out, HR.out]; rfl, rfl, rfl, rfl, rfl, rfl, rfl, rfl, rfl⟩, h0, ⟨cs, h1, hz⟩, hf.drew⟩
      case measure => simp [intOf]; omega
    · have hk16 : k = 64 := by omega
      have HS : rnds bs s 64 = [xa, xb, xc, xd, xe, xf, xg, xh] := by rw [← hk16]; exact HR.out
      have HS2 : compress bs s = List.zipWith (· + ·) s [xa, xb, xc, xd, xe, xf, xg, xh] := by rw [compress, HS]
      have e0 := HSD.out
      rw [e0] at HS2 h0
      have d0 := (cell_of_row _ _ 0 _ _ _ h0).trans (show _ = some (.int .u32 (wi va)) by rfl)
      have d1 := (cell_of_row _ _ 1 _ _ _ h0).trans (show _ = some (.int .u32 (wi vb)) by rfl)
      have d2 := (cell_of_row _ _ 2 _ _ _ h0).trans (show _ = some (.int .u32 (wi vc)) by rfl)
      have d3 := (cell_of_row _ _ 3 _ _ _ h0).trans (show _ = some (.int .u32 (wi vd)) by rfl)
      have d4 := (cell_of_row _ _ 4 _ _ _ h0).trans (show _ = some (.int .u32 (wi ve)) by rfl)
      have d5 := (cell_of_row _ _ 5 _ _ _ h0).trans (show _ = some (.int .u32 (wi vf)) by rfl)
      have d6 := (cell_of_row _ _ 6 _ _ _ h0).trans (show _ = some (.int .u32 (wi vg)) by rfl)
      have d7 := (cell_of_row _ _ 7 _ _ _ h0).trans (show _ = some (.int .u32 (wi vh)) by rfl)
      have HS3 := Lib.hid HS2
      clear HS HS2 hk16 e0 h0
      go_wp2_with (refine wpList_store_row rfl 109 (.tmp 4) (.tmp 121) rfl Y ([va + xa, vb + xb, vc + xc, vd + xd, ve + xe, vf + xf, vg + xg, vh + xh].map W32).toArray rfl rfl 109 cs h1 Tryd.sz8 hz (oneW_map _) ?_)
      refine bodyPost_ret (results_cell_row rfl _ _ Y _ _ _ _ rfl (setRow_heap _ _ _ _ _ _ h1) Tryd.underlying109 rfl Tryd.sz8) rfl ⟨?_, ?_⟩
      · rw [HSD.out, HS3.out]
        rfl
      · exact hf.setRow (fun h => by omega) _
end Go.Proofs.YtaobgaoldfeehaaDoor

/- Stage 2, digest: the last blocks, filled. -/
namespace Go.Proofs.YtaobgaoldfeehaaDoor
set_option linter.unusedVariables false
set_option linter.unusedSimpArgs false
open Go.RowKit

theorem rowB_set (L : List UInt8) (p : Nat) (v : UInt8) : ((L.map B8).toArray.setIfInBounds p (.int .u8 (v.toNat : Int))) = ((L.set p v).map B8).toArray := by
  apply Array.ext'
  simp only [Array.toList_setIfInBounds]
  rw [List.map_set]
  rfl

/-- What lies there when k of the last eight bytes are written. -/
def filk (r : List UInt8) (n k : Nat) : List UInt8 := r ++ [128] ++ List.replicate (fsize r.length - 9 - r.length) 0 ++ (List.replicate (8 - k) 0 ++ (be8 (8 * n)).drop (8 - k))

theorem filk_all (r : List UInt8) (n : Nat) : filk r n 8 = fil r n := by simp [filk, fil]

theorem filk_length (r : List UInt8) (n k : Nat) (h : r.length < 64) (hk : k ≤ 8) : (filk r n k).length = fsize r.length := by
  simp [filk, be8_length, fsize]
  split <;> omega

theorem filk_zero (r : List UInt8) (n q : Nat) (hq : q = fsize r.length) (h : r.length < 64) : (r ++ List.replicate (q - r.length) 0).set r.length 128 = filk r n 0 := by
  have h8 : q - r.length = (q - 9 - r.length) + 8 + 1 := by rw [hq]; unfold fsize; split <;> omega
  rw [h8, List.replicate_succ, List.set_append_right _ _ (Nat.le_refl _), Nat.sub_self, List.set_cons_zero, filk, ← hq]
  rw [List.drop_eq_nil_of_le (by rw [be8_length]; omega), List.append_nil]
  simp only [Nat.sub_zero, List.append_assoc, List.replicate_append_replicate, List.cons_append, List.nil_append]

theorem be8_get (x i : Nat) (h : i < 8) : (be8 x)[7 - i]? = some (UInt8.ofNat (x / 2 ^ (8 * i))) := by
  simp [be8, List.getElem?_map, List.getElem?_range (show 7 - i < 8 by omega)]
  congr 3
  omega

theorem filk_succ (r : List UInt8) (n k : Nat) (h : r.length < 64) (hk : k < 8) : (filk r n k).set (fsize r.length - 1 - k) (UInt8.ofNat (8 * n / 2 ^ (8 * k))) = filk r n (k + 1) := by
  have hA : (r ++ [128] ++ List.replicate (fsize r.length - 9 - r.length) (0 : UInt8)).length = fsize r.length - 8 := by
    simp [fsize]
    split <;> omega
  have h8 : fsize r.length ≥ 64 := by unfold fsize; split <;> omega
  unfold filk
  generalize r ++ [128] ++ List.replicate (fsize r.length - 9 - r.length) (0 : UInt8) = A at *
  have e1 : 8 - k = (7 - k) + 1 := by omega
  have e2 : 8 - (k + 1) = 7 - k := by omega
  have hd : (be8 (8 * n)).drop (7 - k) = UInt8.ofNat (8 * n / 2 ^ (8 * k)) :: (be8 (8 * n)).drop (8 - k) := by
    have hg := be8_get (8 * n) k hk
    obtain ⟨hlt, hg⟩ := List.getElem?_eq_some_iff.1 hg
    rw [List.drop_eq_getElem_cons hlt, hg, e1]
  rw [e2, hd, e1, List.replicate_succ', List.set_append_right _ _ (by omega), hA]
  congr 1
  rw [List.append_assoc, List.set_append_right _ _ (by simp; omega)]
  congr 1
  simp only [List.length_replicate, List.cons_append, List.nil_append]
  rw [show fsize r.length - 1 - k - (fsize r.length - 8) - (7 - k) = 0 by omega]
  rfl

theorem own_full {w : World} {base e g n : Nat} {xs : List Value} (h : w.ownsRow base e 1 (.slice (some ⟨g, 0, none⟩) n n) n xs) : w.heap[g]? = some (.cells xs.toArray e (0, 0)) := by
  rcases h.2 with ⟨h, _⟩ | ⟨g', cap, cur, h, _, hg, hn, hm, hs, ht⟩
  · cases h
  · cases h
    rw [hg, ← ht]
    congr 2
    apply Array.ext'
    simp [hs, List.take_of_length_le]

/-- Cells that are bytes, read as a slice. -/
theorem Bs.of_row {w : World} {g : Nat} {t : TypeId} {L : List UInt8} (h : w.heap[g]? = some (.cells (L.map B8).toArray t (0, 0))) (hm : L.length ≤ maxLen) : Bs w (some ⟨g, 0, none⟩) L.length L :=
  ⟨by simp, Nat.le_refl _, hm, (fun e => by cases e), fun j u hj => ⟨g, 0, rfl, by rw [Nat.zero_add, cell_of_row w g j _ t _ h]; simpa using hj⟩⟩

theorem splice_front (r : List UInt8) (q : Nat) (h : r.length ≤ q) : splice (madeCells #[Value.int IntKind.u8 0] q).toList 0 (r.map B8) = (r ++ List.replicate (q - r.length) 0).map B8 := by
  have e : (madeCells #[Value.int IntKind.u8 0] q).toList = List.replicate q (B8 0) := by
    apply List.ext_getElem
    · simp [madeCells]
    · intro i h1 h2
      simp [madeCells, Nat.mod_one]
      rfl
  rw [e]
  simp [splice]

theorem Bs.src {w : World} {a : Option Addr} {c : Nat} {r : List UInt8} (h : Bs w a c r) (hn : 0 < (r.map B8).length) : ∃ ad, a = some ad ∧ ∀ j v, (r.map B8)[j]? = some v → w.cell? (ad.add j) = some v := by
  cases a with
  | none =>
    have h0 := h.nil rfl
    have := h.room
    simp at hn
    omega
  | some ad => exact ⟨ad, rfl, h.addr⟩

set_option maxRecDepth 100000 in
set_option maxHeartbeats 8000000 in
theorem filled_any (a : Option Addr) (n c : Nat) (r : List UInt8) (hn : n = r.length) (hr : r.length < 64) (m : Nat) (hm : m ≤ 140737488355328) (w : World) (h : Bs w a c r) :
    Calls Tryd.prog 68 #[.slice a n c, .int .u64 (m : Int)] w fun e w' => ∃ b, e = .returned (.slice (some ⟨b, 0, none⟩) (fsize r.length) (fsize r.length)) ∧ Bs w' (some ⟨b, 0, none⟩) (fsize r.length) (fil r m) ∧ Fr F0 w w' ∧ w.heap.size ≤ b := by
  subst hn
  obtain ⟨i0, hi, hz0, hz1, hz2⟩ := info_parts Tryd.infoU8
  obtain ⟨q, hq⟩ : ∃ q, q = fsize r.length := ⟨_, rfl⟩
  have hq2 : q = if 56 ≤ r.length then 128 else 64 := hq
  have hqs : q = 64 ∨ q = 128 := by rw [hq2]; split <;> omega
  rw [← hq]
  have HQ := Lib.hid hq
  have HB := Lib.hid h
  go_enter Tryd.func68, Tryd.ntmps68
  go_upto_if 12 with fail
  go_cut [5] (fun v w' => v = .int .i64 (q : Int) ∧ w' = w)
  case first =>
    by_cases h56 : 56 ≤ r.length
    · have hq8 : q = 128 := by rw [hq2, if_pos h56]
      have h57 : (56 : Int) ≤ (r.length : Int) := by omega
      subst hq8
      go_wp2_with fail
      go_meet
      case rel => exact ⟨rfl, rfl⟩
    · have hq8 : q = 64 := by rw [hq2, if_neg h56]
      have h57 : ¬ (56 : Int) ≤ (r.length : Int) := by omega
      subst hq8
      go_wp2_with fail
      go_meet
      case rel => exact ⟨rfl, rfl⟩
  case rest =>
    obtain ⟨rfl, rfl⟩ := hcut
    have hlq : (q : Int) < 129 := by omega
    have hgq : (63 : Int) < q := by omega
    clear hq hq2
    have hrl : (r.length : Int) < q := by omega
    have hmin : r.length.min q = r.length := Nat.min_eq_left (by omega)
    go_wp2_with (first | (at_make; refine wpList_make_full wc rfl _ _ _ rfl 0 5 i0 _ 1 Tryd.underlying29 hi hz0 hz1 .i64 .i64 q q q rfl rfl rfl rfl (by rw [hz2]; omega) (by unfold maxLen; omega) (Nat.zero_le _) ?_; intro w1 ho hg) | (refine wpList_copy_splice rfl (.tmp 17) (.tmp 18) 29 29 rfl 5 Tryd.underlying29 (by rw [hi]; simp [hz1]) _ _ _ _ _ _ rfl rfl wc.heap.size 0 _ 5 (own_full ho) (r.map B8) (by simp [hmin]) (fun hp => ⟨rfl, Bs.src (Sl.fr HB.out ((Fr.refl F0 wc).grown hg (fun k e => by cases e)) fun _ _ f => f) hp⟩) (by simp [madeCells]; omega) Bs.one wc.heap.size wc (((Fr.refl F0 wc).grown hg (fun k e => by cases e)).below (Nat.le_refl _) fun _ _ f => f) (Nat.le_refl _) ?_))
    intro w2 hb2 hf2
    rw [splice_front r q (by omega)] at hb2
    have hF2 : Fr F0 wc w2 := Fr.of_below hf2
    have hb2 := hb2.out
    generalize hX : wc.heap.size = X at *
    have c0 : w2.cell? ⟨X, r.length, none⟩ = some (.int .u8 0) := by
      rw [cell_of_row w2 X _ _ _ _ hb2]
      simp [List.getElem?_append_right, List.getElem?_replicate]
      exact ⟨by omega, rfl⟩
    have z0 := free_row (i := r.length) hb2
    have HF2 := Lib.hid hF2
    have HB2 := Lib.hid hb2
    clear ho hg hF2 hf2 hb2
    have hm8 : IntKind.u64.wrap ((m : Int) * 8) = ((8 * m : Nat) : Int) := by rw [IntWalk.u64_in _ (by omega)]; omega
    generalize h8 : 8 * m = M at *
    have H8 := Lib.hid h8
    clear h8
    go_wp2_with fail
    have hst : (w2.setCell ⟨X, r.length, none⟩ (.int .u8 128)).heap[X]? = some (.cells ((filk r m 0).map B8).toArray 5 (0, 0)) := by
      have g := heap_setCell_in w2 X r.length _ _ _ (.int .u8 ((128 : UInt8).toNat : Int)) HB2.out
      rw [rowB_set, filk_zero r m q HQ.out hr] at g
      exact g
    have HST := Lib.hid hst
    clear hst c0 z0
    go_loopw [25] (fun i wr => ∃ k : Nat, k ≤ 8 ∧ i = .int .i64 k ∧ wr.heap[X]? = some (.cells ((filk r m k).map B8).toArray 5 (0, 0)) ∧ Fr F0 wc wr) (fun i _ => 8 - (intOf i).toNat)
    case atStart => exact ⟨0, by omega, rfl, HST.out, HF2.out.setCell (p := ⟨X, _, none⟩) (fun h => by simp only at h; omega) _⟩
    case round =>
      obtain ⟨k, hk, rfl, h2, hf⟩ := hrel
      by_cases hk8 : k < 8
      · have hL := filk_length r m k hr (by omega)
        rw [← HQ.out] at hL
        obtain ⟨p1, hp1⟩ : ∃ p, p = q - 1 := ⟨_, rfl⟩
        obtain ⟨p, hp⟩ : ∃ p, p = p1 - k := ⟨_, rfl⟩
        obtain ⟨s, hs⟩ : ∃ s, s = 8 * k := ⟨_, rfl⟩
        have m1 : IntKind.i64.wrap ((q : Int) - 1) = (p1 : Int) := by rw [IntWalk.i64_in _ (by omega)]; omega
        have m2 : IntKind.i64.wrap ((p1 : Int) - k) = (p : Int) := by rw [IntWalk.i64_in _ (by omega)]; omega
        have m3 : IntKind.i64.wrap (8 * (k : Int)) = (s : Int) := by rw [IntWalk.i64_in _ (by omega)]; omega
        have l1 : (p : Int) < q := by omega
        have l2 : (s : Int) < 64 := by omega
        have c0 : ∃ v, wr.cell? ⟨X, p, none⟩ = some v := by
          rw [cell_of_row wr X _ _ _ _ h2]
          exact ⟨_, Array.getElem?_eq_getElem (by simp [hL]; omega)⟩
        obtain ⟨v0, c0⟩ := c0
        have z0 := free_row (i := p) h2
        have HH := Lib.hid (And.intro h2 hf)
        have HP := Lib.hid (And.intro hp1 (And.intro hp hs))
        clear h2 hf hp hp1 hs hL
        go_wp2
        go_roundw
        case rel =>
          obtain ⟨h2, hf⟩ := HH.out
          obtain ⟨hp1, hp, hs⟩ := HP.out
          have hv : (M : Int) / 2 ^ s % 256 = (((UInt8.ofNat (M / 2 ^ s)).toNat : Nat) : Int) := by
            show _ = ((M / 2 ^ s % 256 : Nat) : Int)
            rw [Int.natCast_emod, Int.natCast_ediv, Int.natCast_pow]
            rfl
          refine ⟨k + 1, by omega, by go_num, ?_, hf.setCell (p := ⟨X, _, none⟩) (fun h => by simp only at h; omega) _⟩
          rw [hv]
          have g := heap_setCell_in wr X p _ _ _ (.int .u8 ((UInt8.ofNat (M / 2 ^ s)).toNat : Int)) h2
          have e : p = fsize r.length - 1 - k := by rw [hp, hp1, HQ.out]
          rw [rowB_set, ← H8.out, hs, e, filk_succ r m k hr hk8] at g
          rw [← H8.out, hs, e]
          exact g
        case measure => simp [intOf]; omega
      · obtain rfl : k = 8 := by omega
        go_wp2
        go_ret
        refine ⟨X, rfl, ?_, hf, by omega⟩
        rw [filk_all] at h2
        have g := Bs.of_row h2 (by rw [fil_length _ _ hr, ← HQ.out]; unfold maxLen; omega)
        rw [fil_length _ _ hr, ← HQ.out] at g
        exact g
end Go.Proofs.YtaobgaoldfeehaaDoor

/- slices.Chunk at bytes, 64 at a time, of whole blocks; whole rows loaded and stored inside a fence; what a ranging leaves alone. -/
namespace Go.Proofs.YtaobgaoldfeehaaDoor
set_option linter.unusedVariables false
set_option linter.unusedSimpArgs false
open Go.RowKit Go.Shelf

attribute [local go_sem] Oper.semAt_some

theorem wpListIn_load_row {F : Fence} {n : Nat} {P : Program} {ops : Array Oper} {rest : List Oper} {o : Oper} {a : Act} {w : World} {Q : Exit → Act → World → Prop} (hgd : o.guard = none) (ty : TypeId) (x : Operand) (ho : o.op = .load ty x)
    (g : Nat) (hx : a.eval x = .pointer (some ⟨g, 0, none⟩)) (t : TypeId) (cs : Array Value) (fr : Nat × Nat) (d : TypeDesc) (hg : w.heap[g]? = some (.cells cs t fr))
    (hu : P.underlying ty = some d) (hd : (match d with | .struct _ | .array _ _ => true | _ => false) = true) (hi : (P.info? ty).map (·.size) = some cs.size)
    (h : wpListIn F n P ops Q rest (a.put o.dst (.agg cs)) w) : wpListIn F n P ops Q (o :: rest) a w := by
  refine wpListIn_plain hgd fun K hK => ?_
  unfold Oper.wpIn
  refine ⟨?_, ?_⟩
  · simp [Oper.about, ho]
  · rw [Oper.semAt_plain F _ _ (by rw [ho]; intro c hc'; cases hc')]
    simp only [execOp, ho, hx, Instr.loadAt, Instr.sureAddr, Sem.run_bind, Sem.run_pure, Result.andThen_ok, run_loadVar_row w g t ty cs fr d hg hu hd hi]
    exact hK _ _ h

theorem wpListIn_store_row {F : Fence} {n : Nat} {P : Program} {ops : Array Oper} {rest : List Oper} {o : Oper} {a : Act} {w : World} {Q : Exit → Act → World → Prop} (hgd : o.guard = none) (ty : TypeId) (x y : Operand) (ho : o.op = .store ty x y)
    (g : Nat) (cells : Array Value) (hx : a.eval x = .pointer (some ⟨g, 0, none⟩)) (hy : a.eval y = .agg cells)
    (t : TypeId) (old : Array Value) (hg : w.heap[g]? = some (.cells old t (0, 0))) (hi : (P.info? ty).map (·.size) = some cells.size)
    (hold : old.size = cells.size) (h1 : cells.all (·.oneCell') = true)
    (h : wpListIn F n P ops Q rest (a.put o.dst undef) (w.setRow g cells)) : wpListIn F n P ops Q (o :: rest) a w := by
  refine wpListIn_plain hgd fun K hK => ?_
  unfold Oper.wpIn
  refine ⟨?_, ?_⟩
  · simp [Oper.about, ho]
  · rw [Oper.semAt_plain F _ _ (by rw [ho]; intro c hc'; cases hc')]
    simp only [execOp, ho, hx, hy, Instr.storeAt, Instr.sureAddr, Sem.run_bind, Sem.run_pure, Result.andThen_ok, run_storeVar_row w g t ty old cells hg hi hold h1]
    exact hK _ _ h

/-- The first k of m numbers. -/
def fins (m k : Nat) : List (Fin m) := (List.finRange m).take k
theorem fins_succ (m k : Nat) (h : k < m) : fins m (k + 1) = fins m k ++ [⟨k, h⟩] := by
  rw [fins, List.take_succ_eq_append_getElem (by simpa using h)]
  simp [fins]
theorem fins_length (m k : Nat) (h : k ≤ m) : (fins m k).length = k := by simp [fins]; omega

/-- The blocks that come: where the k-th begins. -/
abbrev encC (m : Nat) (a : Option Addr) (k : Fin m) : Array Value := #[.slice (a.map fun x => ⟨x.block, x.off + 64 * k.val, none⟩) 64 64]

set_option maxRecDepth 100000 in
set_option maxHeartbeats 4000000 in
theorem Chunk1_in (F : Fence) (n : Nat) (hF : F.fn 81) (hro : F.round = none) (hn : 1 ≤ n) (l Bx By X b off cap m : Nat) (hm : 64 * m ≤ 140737488355328) (hcap : 64 * m ≤ cap) (hBX : Bx ≠ X) (hBY : By ≠ X) (J Jx : List (Fin m) → World → Prop)
    (hY : ∀ pre x W, J pre W → pre.length < m → YieldAt F (n - 1) Tryd.prog l (encC m (some ⟨b, off, none⟩) x) W fun e W' =>
      (e = .returned (.bool true) ∧ J (pre ++ [x]) W' ∧ Kc X W W') ∨ (e = .returned (.bool false) ∧ Jx (pre ++ [x]) W'))
    (hJd : ∀ pre W, J pre W → J pre W.drew) (W : World) (hBs : W.cell? ⟨Bx, 0, none⟩ = some (.slice (some ⟨b, off, none⟩) (64 * m) cap)) (hBn : W.cell? ⟨By, 0, none⟩ = some (.int .i64 64)) (h0 : J [] W) :
    CallsIn F n Tryd.prog 81 #[.func (.yield l) #[] #[], .pointer (some ⟨Bx, 0, none⟩), .pointer (some ⟨By, 0, none⟩)] W fun e W' => (∃ v, e = .returned v) ∧
      ((∃ ys, ys = fins m m ∧ J ys W') ∨ (∃ pre, True ∧ Jx pre W')) := by
  refine callsIn_of_wp Tryd.func81 rfl hF ?_ hro
  simp only [Tryd.ntmps81, List.size_toArray, List.length_cons, List.length_nil, Nat.reduceAdd, Nat.reduceSub, Array.replicate_succ, Array.replicate_zero, List.push_toArray, List.append_toArray, List.nil_append, List.cons_append]
  obtain ⟨M, hM⟩ : ∃ M, M = 64 * m := ⟨_, rfl⟩
  rw [← hM] at hBs hm hcap
  have HM := Lib.hid hM
  clear hM
  gi_wp2
  gi_loopw [4] (fun i wr => ∃ k : Nat, k ≤ m ∧ i = .int .i64 ((64 * k : Nat) : Int) ∧ J (fins m k) wr ∧ Kc X W wr)
    (fun i _ => (64 * m - (intOf i).toNat))
  case atStart => exact ⟨0, Nat.zero_le _, rfl, h0, Kc.refl _ _⟩
  case round =>
    obtain ⟨k, hk, rfl, hJs, hnx⟩ := hrel
    have hbox := hnx.cell (p := ⟨Bx, 0, none⟩) hBX hBs
    have hboy := hnx.cell (p := ⟨By, 0, none⟩) hBY hBn
    obtain ⟨p, hp⟩ : ∃ p, p = 64 * k := ⟨_, rfl⟩
    have HP := Lib.hid hp
    rw [← hp]
    by_cases hlt : k < m
    · obtain ⟨fn, tmps, assign, body, hy, hR⟩ := hY _ ⟨k, hlt⟩ wr.drew (hJd _ _ hJs) (by rw [fins_length _ _ hk]; exact hlt)
      dsimp only [encC, Option.map] at hy
      rw [← hp] at hy
      have l1 : (p : Int) < (M : Int) := by have := HM.out; omega
      have l2 : p + 64 ≤ M := by have := HM.out; omega
      have l3 : ¬ ((M - p : Nat) : Int) < 64 := by omega
      have l4 : (p : Int) + 64 ≤ cap := by omega
      clear hp
      gi_wp2
      refine wpIn_mono (Q := fun e a' w' => e = .normal ∧ a' = { tmps := #[.func (.yield l) #[] #[], .pointer (some ⟨Bx, 0, none⟩), .pointer (some ⟨By, 0, none⟩), undef, .int .i64 p, .int .i64 64, .int .i64 p, .slice (some ⟨b, off, none⟩) M cap, .int .i64 M, .bool true, u10, u11, u12, .int .i64 64, .slice (some ⟨b, off, none⟩) M cap, .int .i64 p, .slice (some ⟨b, off + p, none⟩) (M - p) (cap - p), .int .i64 ((M - p : Nat) : Int), .int .i64 64, u19, u20, u21, u22, u23, u24, u25, u26, u27, u28, u29, u30], defers := [] } ∧ w' = wr.drew) ?_ ?_
      · gi_region
        all_goals exact ⟨by trivial, by rw [if_neg (show ¬ ((M - p : Nat) : Int) < 64 by omega)], by trivial⟩
      rintro e a' w' ⟨rfl, rfl, rfl⟩
      gi_wp2
      refine hR.mono ?_
      rintro e W3 (⟨rfl, hJ3, hk3⟩ | ⟨rfl, hJx3⟩)
      · have hboy3 := hk3.cell (p := ⟨By, 0, none⟩) hBY hboy
        gi_wp2
        go_roundw
        case rel =>
          have hk' : Kc X wr W3 := hk3
          refine ⟨k + 1, by omega, ?_, by rw [fins_succ m k hlt]; exact hJ3, hnx.trans hk'⟩
          have := HP.out
          go_num
        case measure =>
          have := HP.out
          simp [intOf]; omega
      · gi_wp2
        refine bodyPost_ret (results_none rfl _ _ _) rfl ?_
        exact ⟨⟨_, rfl⟩, .inr ⟨_, trivial, hJx3⟩⟩
    · obtain rfl : k = m := by omega
      have l1 : ¬ (p : Int) < (M : Int) := by have := HM.out; omega
      clear hp
      gi_wp2
      go_end0
      exact ⟨⟨_, rfl⟩, .inl hJs⟩

set_option maxRecDepth 100000 in
set_option maxHeartbeats 1000000 in
/-- .. at no bytes: no round. -/
theorem Chunk1_nil_in (F : Fence) (n : Nat) (hF : F.fn 81) (hro : F.round = none) (l Bx By : Nat) (a : Option Addr) (cap : Nat) (J : List (Fin 0) → World → Prop) (W : World) (hBs : W.cell? ⟨Bx, 0, none⟩ = some (.slice a 0 cap)) (h0 : J [] W) :
    CallsIn F n Tryd.prog 81 #[.func (.yield l) #[] #[], .pointer (some ⟨Bx, 0, none⟩), .pointer (some ⟨By, 0, none⟩)] W fun e W' => (∃ v, e = .returned v) ∧ J [] W' := by
  refine callsIn_of_wp Tryd.func81 rfl hF ?_ hro
  simp only [Tryd.ntmps81, List.size_toArray, List.length_cons, List.length_nil, Nat.reduceAdd, Nat.reduceSub, Array.replicate_succ, Array.replicate_zero, List.push_toArray, List.append_toArray, List.nil_append, List.cons_append]
  gi_wp2
  gi_loopw [4] (fun i wr => i = .int .i64 0 ∧ W.cell? ⟨Bx, 0, none⟩ = wr.cell? ⟨Bx, 0, none⟩ ∧ J [] wr) (fun _ _ => 0)
  case atStart => exact ⟨rfl, rfl, h0⟩
  case round =>
    obtain ⟨rfl, hc, hJs⟩ := hrel
    rw [hc] at hBs
    gi_wp2
    go_end0
    exact ⟨⟨_, rfl⟩, hJs⟩

set_option maxHeartbeats 1000000 in
theorem Chunk_in (F : Fence) (n : Nat) (hF : F.fn 66) (hro : F.round = none) (a : Option Addr) (len cap : Nat) (w : World) :
    CallsIn F n Tryd.prog 66 #[.slice a len cap, .int .i64 64] w fun e w' => e = .returned (.func (.func 81) #[] #[.pointer (some ⟨w.heap.size, 0, none⟩), .pointer (some ⟨w.heap.size + 1, 0, none⟩)]) ∧ w' = (w.alloc (.cells #[.slice a len cap] 29)).alloc (.cells #[.int .i64 64] 3) := by
  refine callsIn_of_wp Tryd.func66 rfl hF ?_ hro
  simp only [Tryd.ntmps66, List.size_toArray, List.length_cons, List.length_nil, Nat.reduceAdd, Nat.reduceSub, Array.replicate_succ, Array.replicate_zero, List.push_toArray, List.append_toArray, List.nil_append, List.cons_append]
  gi_wp2
  go_ret
  exact ⟨rfl, rfl⟩

theorem Chunk_stops (F : Fence) (n : Nat) (hF : F.fn 81) (hro : F.round = none) (hn : 1 ≤ n) (Bx By X : Nat) (a : Option Addr) (cap m : Nat) (hm : 64 * m ≤ 140737488355328) (hcap : 64 * m ≤ cap) (w : World)
    (hBX : Bx ≠ X) (hBY : By ≠ X) (hcx : w.cell? ⟨Bx, 0, none⟩ = some (.slice a (64 * m) cap)) (hcy : w.cell? ⟨By, 0, none⟩ = some (.int .i64 64)) (ha : m ≠ 0 → ∃ b off, a = some ⟨b, off, none⟩) :
    SeqStopsK F n Tryd.prog 81 #[.pointer (some ⟨Bx, 0, none⟩), .pointer (some ⟨By, 0, none⟩)] (encC m a) (Kc X) (fun ys => ys = fins m m) (fun _ => True) m w := fun l J Jx W hW hJ _ hY h0 => by
  have hK : Kc X w W := Kc.below hW
  have hcx' := hK.cell (p := ⟨Bx, 0, none⟩) hBX hcx
  have hcy' := hK.cell (p := ⟨By, 0, none⟩) hBY hcy
  by_cases hm0 : m = 0
  · subst hm0
    exact (Chunk1_nil_in F n hF hro l Bx By a cap J W hcx' h0).mono fun e W' ⟨he, hj⟩ => ⟨he, .inl ⟨_, rfl, hj⟩⟩
  · obtain ⟨b, off, rfl⟩ := ha hm0
    exact Chunk1_in F n hF hro hn l Bx By X b off cap m hm hcap hBX hBY J Jx hY (fun pre W h => hJ _ _ _ none h ⟨rfl, rfl, rfl, Nat.le_refl _, fun _ _ _ => rfl⟩ (fun _ e => by cases e)) W hcx' hcy' h0
end Go.Proofs.YtaobgaoldfeehaaDoor

/- Stage 2, digest: Sum, Double. -/
namespace Go.Proofs.YtaobgaoldfeehaaDoor
set_option linter.unusedVariables false
set_option linter.unusedSimpArgs false
open Go.RowKit Go.Shelf

attribute [local go_sem] Oper.semAt_some

/-- What blocks of m make of a state. -/
def runF (bs : List UInt8) (s : List Wd) {m : Nat} (l : List (Fin m)) : List Wd := l.foldl (fun s k => compress (blk bs k.val) s) s

theorem runF_snoc (bs : List UInt8) (s : List Wd) {m : Nat} (l : List (Fin m)) (x : Fin m) : runF bs s (l ++ [x]) = compress (blk bs x.val) (runF bs s l) := by simp [runF]

theorem runF_length (bs : List UInt8) (s : List Wd) {m : Nat} (l : List (Fin m)) : (runF bs s l).length = s.length := by
  obtain ⟨r, rfl⟩ : ∃ r, l = List.reverse r := ⟨l.reverse, by simp⟩
  induction r with
  | nil => rfl
  | cons x r ih => rw [List.reverse_cons, runF_snoc, compress_length, ih]

theorem runF_fins (bs : List UInt8) (s : List Wd) (m : Nat) : ∀ k, k ≤ m → runF bs s (fins m k) = runB bs s k
  | 0, _ => by simp [runF, fins, runB]
  | k + 1, h => by rw [fins_succ m k (by omega), runF_snoc, runF_fins bs s m k (by omega)]; rfl

theorem blk_length (bs : List UInt8) (k m : Nat) (h : k < m) (hb : 64 * m ≤ bs.length) : (blk bs k).length = 64 := by simp [blk]; omega

/-- A block of what is read. -/
theorem Bs.blk {w : World} {b off c : Nat} {bs : List UInt8} (h : Bs w (some ⟨b, off, none⟩) c bs) (k m : Nat) (hk : k < m) (hb : 64 * m ≤ bs.length) : Bs w (some ⟨b, off + 64 * k, none⟩) 64 (blk bs k) := by
  have hl := blk_length bs k m hk hb
  refine ⟨by simp, by omega, by unfold maxLen; omega, (fun e => by cases e), fun j u hj => ⟨b, off + 64 * k, rfl, ?_⟩⟩
  have hj' : j < 64 := by
    have := (List.getElem?_eq_some_iff.1 hj).1
    simp [hl] at this
    exact this
  have hc := h.cell (64 * k + j) u (by
    rw [← hj]
    simp only [List.getElem?_map, Go.Proofs.YtaobgaoldfeehaaDoor.blk, List.getElem?_take, hj', if_true, List.getElem?_drop])
  obtain ⟨b', off', e, hc⟩ := hc
  cases e
  rw [← hc]
  congr 2
  omega

theorem Own.block {β : Type} (g : Nat) (f : β → Array Value) (t : TypeId) (fr : Nat × Nat) (B : Nat) : OwnFrom B (fun (s : β) W => W.heap[g]? = some (.cells (f s) t fr)) := by
  intro s A A' row hs hg hr
  rw [hg.block g (Array.getElem?_eq_some_iff.1 hs).1 fun e => ?_]
  · exact hs
  · obtain ⟨_, o, ho, hc⟩ := hr g e.symm
    rw [hs] at ho
    cases ho
    cases hc

theorem ownFrom_fr {β : Type} {S : Nat → Prop} {B : Nat} {w₀ : World} (hB : w₀.heap.size ≤ B) : OwnFrom B (fun (_ : β) W => Fr S w₀ W) :=
  fun _ _ _ _ hs hg hr => hs.grown hg fun k e hk => by have := (hr k e).1; omega

theorem heap_putObj_ne (w : World) (l k : Nat) (o : Obj) (h : k ≠ l) : (w.putObj l o).heap[k]? = w.heap[k]? := by
  simp only [World.putObj]
  rw [Array.getElem?_setIfInBounds_ne (by omega)]

theorem Fr.putObj {S : Nat → Prop} {a w : World} (h : Fr S a w) {l : Nat} (hp : l < a.heap.size → S l) (o : Obj) : Fr S a (w.putObj l o) :=
  h.trans (T := fun k => k = l) ⟨rfl, rfl, rfl, by simp [World.putObj], fun k _ hk => heap_putObj_ne w l k o hk⟩ fun i hi e => by subst e; exact hp hi

/-- The rest of a slice, as Go cuts it. -/
theorem Bs.tail {w : World} {a : Option Addr} {c : Nat} {bs : List UInt8} (h : Bs w a c bs) (q : Nat) (hq : q ≤ bs.length) : Bs w (a.map fun x => x.add q) (c - q) (bs.drop q) := by
  refine ⟨by simp, by have := h.room; simp; omega, by have := h.most; omega, fun e => ?_, fun j u hj => ?_⟩
  · have : a = none := by simpa using e
    rw [h.nil this]; omega
  · obtain ⟨b, off, e, hc⟩ := h.cell (q + j) u (by rw [← hj]; simp)
    subst e
    exact ⟨b, off + q, by simp [Addr.add], by rw [← hc]; congr 2; omega⟩

theorem Bs.none_left {w : World} {a : Option Addr} {bs : List UInt8} (q : Nat) (hq : bs.length = q) : Bs w a 0 (bs.drop q) := by
  rw [List.drop_eq_nil_of_le (by omega)]
  exact ⟨rfl, Nat.le_refl _, by unfold maxLen; omega, fun _ => rfl, fun j u hj => by simp at hj⟩

theorem KeepsOthers.row {W W' : World} {g : Nat} {cs : Array Value} {t : TypeId} {fr : Nat × Nat} (hg : W.heap[g]? = some (.cells cs t fr)) (h : Fr (fun k => k = g) W W') : KeepsOthers W W' := by
  refine ⟨h.size, fun l o ho hc => (h.block l (Array.getElem?_eq_some_iff.1 ho).1 fun e => ?_).trans ho⟩
  subst e
  rw [hg] at ho
  cases ho
  cases hc

set_option maxRecDepth 100000 in
set_option maxHeartbeats 8000000 in
theorem Sum_any (a : Option Addr) (n c : Nat) (bs : List UInt8) (hn : n = bs.length) (hl : bs.length ≤ 140737488355000) (w : World) (h : Bs w a c bs) (hcub : Cub w) :
    Calls Tryd.prog 43 #[.slice a n c] w fun e w' => e = .returned (.agg ((sha bs).map B8).toArray) ∧ Fr F0 w w' := by
  subst hn
  have HB := Lib.hid h
  have HC := Lib.hid hcub
  clear h hcub
  refine callsIn_wide (n := 6) |>.1 ?_
  refine callsIn_of_wp_marks Tryd.func43 rfl trivial ?_ rfl
  simp only [Tryd.ntmps43, List.size_toArray, List.length_cons, List.length_nil, Nat.reduceAdd, Nat.reduceSub, Array.replicate_succ, Array.replicate_zero, List.push_toArray, List.append_toArray, List.nil_append, List.cons_append]
  obtain ⟨m, hm⟩ : ∃ m, m = bs.length / 64 := ⟨_, rfl⟩
  obtain ⟨q, hq0⟩ : ∃ q, q = 64 * m := ⟨_, rfl⟩
  have hq : (bs.length : Int) - (bs.length : Int) % 64 = (q : Int) := by omega
  have hqc : (q : Int) ≤ c := by have := HB.out.room; omega
  have hql : q ≤ bs.length := by omega
  have HQ := Lib.hid (And.intro hm hq0)
  clear hm hq0
  gi_wp2_with (first | ((with_reducible apply And.intro); (exact trivial); gi_at_call 65; refine (callsIn_wide.2 (begin_any _)).mono ?_; rintro e w1 ⟨rfl, h1⟩) | (refine wpListIn_store_row rfl 109 (.tmp 3) (.tmp 7) rfl w1.heap.size _ rfl rfl 109 _ (heap_alloc_new w1 _) (by rw [Tryd.sz8]; rfl) rfl (oneW_map _) ?_) | ((with_reducible apply And.intro); (exact trivial); gi_at_call 66; refine (Chunk_in _ _ trivial rfl _ _ _ _).mono ?_; rintro e w2 ⟨rfl, rfl⟩))
  generalize hSt : w1.heap.size = St at *
  have h1s := h1.size
  have hlt : w.heap.size < St := by simp at h1s; omega
  have hF0 : Fr F0 w ((w1.alloc (.cells #[.int .u32 0, .int .u32 0, .int .u32 0, .int .u32 0, .int .u32 0, .int .u32 0, .int .u32 0, .int .u32 0] 109)).setRow St (List.map W32 H0).toArray) := ((((Fr.refl F0 w).alloc _).trans' h1).alloc _).setRow (fun h => by omega) _
  have hSt0 : ((w1.alloc (.cells #[.int .u32 0, .int .u32 0, .int .u32 0, .int .u32 0, .int .u32 0, .int .u32 0, .int .u32 0, .int .u32 0] 109)).setRow St (List.map W32 H0).toArray).heap[St]? = some (.cells (List.map W32 H0).toArray 109 (0, 0)) := setRow_heap _ _ _ _ _ _ (by rw [← hSt]; exact heap_alloc_new w1 _)
  have hR0 : ∃ cs, ((w1.alloc (.cells #[.int .u32 0, .int .u32 0, .int .u32 0, .int .u32 0, .int .u32 0, .int .u32 0, .int .u32 0, .int .u32 0] 109)).setRow St (List.map W32 H0).toArray).heap[w.heap.size]? = some (.cells cs 34 (0, 0)) ∧ cs.size = 32 := ⟨_, by rw [setRow_other _ _ _ _ (by omega), heap_alloc_old _ _ (by omega)]; exact h1.keeps (fun f => f) (heap_alloc_new w _), rfl⟩
  have hw3 : ((w1.alloc (.cells #[.int .u32 0, .int .u32 0, .int .u32 0, .int .u32 0, .int .u32 0, .int .u32 0, .int .u32 0, .int .u32 0] 109)).setRow St (List.map W32 H0).toArray).heap.size = St + 1 := by simp [hSt]
  generalize ((w1.alloc (.cells #[.int .u32 0, .int .u32 0, .int .u32 0, .int .u32 0, .int .u32 0, .int .u32 0, .int .u32 0, .int .u32 0] 109)).setRow St (List.map W32 H0).toArray) = w3 at *
  have hB3 : Bs w3 a c bs := Sl.fr HB.out hF0 fun _ _ f => f
  have hC3 : Cub w3 := HC.out.fr hF0 fun f => f
  have hal : ∀ b, bs ≠ [] → ablk a = some b → b < w.heap.size := fun b hne e => by
    obtain ⟨b', off, rfl, hc⟩ := HB.out.cells hne
    cases e
    exact World.block_lt_of_cell? w _ (hc 0 (List.length_pos_iff.2 hne))
  have hcl : 0 < w.heap.size := HC.out.lt
  obtain ⟨hm, hq0⟩ := HQ.out
  have hb4 : ((w3.alloc (.cells #[.slice a q c] 29)).alloc (.cells #[.int .i64 64] 3)).cell? ⟨St + 1, 0, none⟩ = some (.slice a q c) := by rw [← hw3]; exact cell_of_one (heap_alloc2_old w3 _ _)
  have hn4 : ((w3.alloc (.cells #[.slice a q c] 29)).alloc (.cells #[.int .i64 64] 3)).cell? ⟨St + 1 + 1, 0, none⟩ = some (.int .i64 64) := by rw [← hw3]; exact cell_of_one (heap_alloc2_new w3 _ _)
  have hF4 : Fr F0 w3 ((w3.alloc (.cells #[.slice a q c] 29)).alloc (.cells #[.int .i64 64] 3)) := ((Fr.refl F0 w3).alloc _).alloc _
  have hsz4 : ((w3.alloc (.cells #[.slice a q c] 29)).alloc (.cells #[.int .i64 64] 3)).heap.size = St + 3 := by simp [hw3]
  generalize (w3.alloc (.cells #[.slice a q c] 29)).alloc (.cells #[.int .i64 64] 3) = w4 at *
  refine wpIn_rangeFunc_ownG rfl (by omega) (gf := 81) (lb := #[.pointer (some ⟨St + 1, 0, none⟩), .pointer (some ⟨St + 1 + 1, 0, none⟩)]) rfl trivial (enters_of Tryd.func81 (by kernel_rfl) rfl)
    (Chunk_stops Fence.wide 5 trivial rfl (by omega) (St + 1) (St + 1 + 1) St a c m (by omega) (by omega) w4 (by omega) (by omega) (by rw [hb4, hq0]) hn4 (fun h0 => by
      obtain ⟨b, off, e, _⟩ := HB.out.cells (by intro e; simp [e] at hm; omega)
      exact ⟨b, off, e⟩))
    (fun h k => Kc.trans h k) (fun W l o o' _ h hc _ => Kc.putObj W l o o' h hc) (Below.refl _ _) (fun _ => rfl)
    (fun pre W => W.heap[St]? = some (.cells ((runF bs H0 pre).map W32).toArray 109 (0, 0)) ∧ Below St w4 W)
    (fun _ _ _ => False)
    (OwnFrom.and (Own.block _ _ _ _ _) (ownFrom_below (by omega) (by omega)))
    (fun _ _ _ _ _ hs _ _ => hs)
    ⟨hF4.keeps (fun f => f) hSt0, Below.refl _ _⟩
    (fun x => { tmps := #[.slice a bs.length c, undef, .pointer (some ⟨w.heap.size, 0, none⟩), .pointer (some ⟨St, 0, none⟩), .int .i64 q, .slice (a.map fun y => ⟨y.block, y.off + 64 * x.val, none⟩) 64 64, undef,
      .agg (List.map W32 H0).toArray, .slice a bs.length c, .int .i64 bs.length, .slice a bs.length c, .int .i64 bs.length, .int .i64 ((bs.length : Int) % 64), .int .i64 q, .slice a bs.length c, .int .i64 q, .slice a q c,
      .func (.func 81) #[] #[.pointer (some ⟨St + 1, 0, none⟩), .pointer (some ⟨St + 1 + 1, 0, none⟩)], .slice (a.map fun y => ⟨y.block, y.off + 64 * x.val, none⟩) 64 64,
      undef, undef, undef, undef, undef, undef, undef, undef, undef, undef, undef, undef, undef, undef, undef, undef, undef], defers := [] }) ?assign ?body ?done ?stop
  case assign =>
    intro l x W K hK
    clear hm hq0
    gi_wp2
    exact hK
  case body =>
    rintro l pre x W ⟨hst, hB⟩ hlen
    obtain ⟨b, off, rfl, _⟩ := HB.out.cells (by have := x.isLt; intro e; simp [e] at hm; omega)
    have hb := hal b (by have := x.isLt; intro e; simp [e] at hm; omega) rfl
    have hx : Bs W (some ⟨b, off + 64 * x.val, none⟩) 64 (blk bs x.val) := Bs.blk (Sl.kept (Sl.fr hB3 hF4 fun _ _ f => f) fun k e hk => hB.block k (by have := Option.some.inj e; simp only at this; omega)) x.val m x.isLt (by omega)
    have hC : Cub W := fun j hj => (hB.cell (p := ⟨0, j, none⟩) (by simp only; omega)).trans (hC3.fr hF4 (fun f => f) j hj)
    have hz : (runF bs H0 pre).length = 8 := by rw [runF_length]; rfl
    have hb64 := blk_length bs x.val m x.isLt (by omega)
    have hsn := Lib.hid (runF_snoc bs H0 pre x)
    generalize runF bs H0 pre = s at *
    dsimp only [Option.map]
    clear hm hq0
    have hsz : (s.map W32).toArray.size = 8 := by simp [hz]
    gi_wp2_with (first | (refine wpListIn_load_row rfl 109 (.tmp 3) rfl St rfl 109 _ (0, 0) _ hst Tryd.underlying109 rfl (by rw [Tryd.sz8, hsz]) ?_) | ((with_reducible apply And.intro); (exact trivial); gi_at_call 67; refine (CallsIn.inRound l (callsIn_wide.2 (after_any s hz _ 64 64 _ rfl hb64 _ hx hC))).mono ?_; rintro e w5 ⟨rfl, h5⟩) | (refine wpListIn_store_row rfl 109 (.tmp 3) (.tmp 21) rfl St _ rfl rfl 109 _ (h5.keeps (fun f => f) hst) (by rw [Tryd.sz8]; simp [compress_length, hz]) (by simp [compress_length, hz]) (oneW_map _) ?_))
    have hF5 : Fr (fun k => k = St) W (w5.setRow St ((compress (blk bs x.val) s).map W32).toArray) := Fr.setRow (S := fun k => k = St) (Fr.of0 h5) (fun _ => rfl) _
    refine ⟨(KeepsOthers.row hst hF5).from _, Kc.fr hF5, ?_, hB.trans (hF5.below (by have := hB.size; omega) fun k hk => by omega)⟩
    rw [hsn.out]
    exact setRow_heap _ _ _ _ _ _ (h5.keeps (fun f => f) hst)
  case done =>
    rintro D ys W hD rfl ⟨hst, hB⟩ hK
    rw [runF_fins bs H0 m m (Nat.le_refl _)] at hst
    clear hm hq0
    have hSth : St < W.heap.size := (Array.getElem?_eq_some_iff.1 hst).1
    have HCW : Cub W := fun j hj => (hB.cell (p := ⟨0, j, none⟩) (by simp only; omega)).trans (hC3.fr hF4 (fun f => f) j hj)
    have hBs := Bs.tail (Sl.frn (S := fun k => St ≤ k) (Sl.fr hB3 hF4 fun _ _ f => f) (Fr.of_below' hB) fun hne k e h => by
      have := hal k (fun e => hne (by rw [e]; rfl)) e
      omega) q hql
    have hd : (bs.drop q).length < 64 := by have := HQ.out; simp; omega
    have hlb : bs.length ≤ 140737488355328 := by omega
    gi_wp2_with (first | ((with_reducible apply And.intro); (exact trivial); gi_at_call 68; refine (callsIn_wide.2 (filled_any _ _ _ (bs.drop q) (by simp) hd bs.length hlb _ (by first | exact hBs | exact Bs.none_left _ (by have := HB.out.room; omega)))).mono ?_; rintro e w6 ⟨b6, rfl, hb6, h6, hg6⟩) | ((with_reducible apply And.intro); (exact trivial); gi_at_call 66; refine (Chunk_in _ _ trivial rfl _ _ _ _).mono ?_; rintro e w7 ⟨rfl, rfl⟩))
    · try generalize a.map (fun x => x.add q) = a2 at *
      have hfl := fil_length (bs.drop q) bs.length hd
      obtain ⟨m2, hm2⟩ : ∃ m2, fsize (bs.length - q) = 64 * m2 := ⟨fsize (bs.length - q) / 64, by unfold fsize; split <;> omega⟩
      have hm2s : m2 ≤ 2 := by have : fsize (bs.length - q) ≤ 128 := (by unfold fsize; split <;> omega); omega
      have hfl2 : (fil (bs.drop q) bs.length).length = 64 * m2 := by rw [hfl, List.length_drop, hm2]
      have hdl : (bs.drop q).length = bs.length - q := List.length_drop
      rw [hdl] at hb6
      rw [hm2] at hb6 ⊢
      have hst6 := h6.keeps (fun f => f) hst
      have hF7 : Fr F0 w6 ((w6.alloc (.cells #[.slice (some ⟨b6, 0, none⟩) (64 * m2) (64 * m2)] 29)).alloc (.cells #[.int .i64 64] 3)) := ((Fr.refl F0 w6).alloc _).alloc _
      have hb7 : ((w6.alloc (.cells #[.slice (some ⟨b6, 0, none⟩) (64 * m2) (64 * m2)] 29)).alloc (.cells #[.int .i64 64] 3)).cell? ⟨w6.heap.size, 0, none⟩ = some (.slice (some ⟨b6, 0, none⟩) (64 * m2) (64 * m2)) := cell_of_one (heap_alloc2_old w6 _ _)
      have hn7 : ((w6.alloc (.cells #[.slice (some ⟨b6, 0, none⟩) (64 * m2) (64 * m2)] 29)).alloc (.cells #[.int .i64 64] 3)).cell? ⟨w6.heap.size + 1, 0, none⟩ = some (.int .i64 64) := cell_of_one (heap_alloc2_new w6 _ _)
      generalize (w6.alloc (.cells #[.slice (some ⟨b6, 0, none⟩) (64 * m2) (64 * m2)] 29)).alloc (.cells #[.int .i64 64] 3) = w7 at *
      have hSt6 : St < w6.heap.size := (Array.getElem?_eq_some_iff.1 hst6).1
      have hSb : St ≠ b6 := by have := (Array.getElem?_eq_some_iff.1 hst).1; omega
      refine wpIn_rangeFunc_ownG rfl (by omega) (gf := 81) (lb := #[.pointer (some ⟨w6.heap.size, 0, none⟩), .pointer (some ⟨w6.heap.size + 1, 0, none⟩)]) rfl trivial (enters_of Tryd.func81 (by kernel_rfl) rfl)
        (Chunk_stops Fence.wide 5 trivial rfl (by omega) (w6.heap.size) (w6.heap.size + 1) St (some ⟨b6, 0, none⟩) (64 * m2) m2 (by omega) (by omega) w7 (by omega) (by omega) hb7 hn7 (fun h0 => ⟨b6, 0, rfl⟩))
        (fun h k => Kc.trans h k) (fun W l o o' _ h hc _ => Kc.putObj W l o o' h hc) (Below.refl _ _) (fun _ => rfl)
        (fun pre W' => W'.heap[St]? = some (.cells ((runF (fil (bs.drop q) bs.length) (runB bs H0 m) pre).map W32).toArray 109 (0, 0)) ∧ Fr (fun k => k = St) w7 W')
        (fun _ _ _ => False)
        (OwnFrom.and (Own.block _ _ _ _ _) (ownFrom_fr (Nat.le_refl _)))
        (fun _ _ _ _ _ hs _ _ => hs)
        ⟨hF7.keeps (fun f => f) hst6, Fr.refl _ _⟩
        ?a1a ?assign2a ?body2a ?done2a ?stop2a
      case assign2a =>
        intro l x W' K hK
        gi_wp2
        exact hK
      case body2a =>
        rintro l pre x W' ⟨hst', hF'⟩ hlen
        have hxl := x.isLt
        have hB' : Bs W' (some ⟨b6, 0, none⟩) (64 * m2) (fil (bs.drop q) bs.length) := Sl.fr (Sl.fr hb6 hF7 fun _ _ f => f) hF' fun k e h => by
          cases e
          exact hSb h.symm
        have hx := Bs.blk hB' x.val m2 hxl (by omega)
        rw [Nat.zero_add] at hx
        have hC : Cub W' := (HCW.fr h6 fun f => f).fr (hF7.of0.trans' hF') fun h => by omega
        have hz : (runF (fil (bs.drop q) bs.length) (runB bs H0 m) pre).length = 8 := by rw [runF_length, runB_length]; rfl
        have hb64 := blk_length (fil (bs.drop q) bs.length) x.val m2 hxl (by omega)
        have hsn := Lib.hid (runF_snoc (fil (bs.drop q) bs.length) (runB bs H0 m) pre x)
        generalize runF (fil (bs.drop q) bs.length) (runB bs H0 m) pre = s at *
        try dsimp only [Option.map]
        have hsz : (s.map W32).toArray.size = 8 := by simp [hz]
        gi_wp2_with (first | (refine wpListIn_load_row rfl 109 (.tmp 3) rfl St rfl 109 _ (0, 0) _ hst' Tryd.underlying109 rfl (by rw [Tryd.sz8, hsz]) ?_) | ((with_reducible apply And.intro); (exact trivial); gi_at_call 67; refine (CallsIn.inRound l (callsIn_wide.2 (after_any s hz _ 64 64 _ rfl hb64 _ hx hC))).mono ?_; rintro e w8 ⟨rfl, h8⟩) | (refine wpListIn_store_row rfl 109 (.tmp 3) (.tmp 33) rfl St _ rfl rfl 109 _ (h8.keeps (fun f => f) hst') (by rw [Tryd.sz8]; simp [compress_length, hz]) (by simp [compress_length, hz]) (oneW_map _) ?_))
        have hF8 : Fr (fun k => k = St) W' (w8.setRow St ((compress (blk (fil (bs.drop q) bs.length) x.val) s).map W32).toArray) := Fr.setRow (S := fun k => k = St) (Fr.of0 h8) (fun _ => rfl) _
        refine ⟨(KeepsOthers.row hst' hF8).from _, Kc.fr hF8, ?_, hF'.trans' hF8⟩
        rw [hsn.out]
        exact setRow_heap _ _ _ _ _ _ (h8.keeps (fun f => f) hst')
      case done2a =>
        rintro D2 ys W' hD2 rfl ⟨hst', hF'⟩ hK2
        rw [runF_fins _ _ m2 m2 (Nat.le_refl _)] at hst'
        have hlen8 : (runB (fil (bs.drop q) bs.length) (runB bs H0 m) m2).length = 8 := by rw [runB_length, runB_length]; rfl
        have hsha : sha bs = bytesOf (runB (fil (bs.drop q) bs.length) (runB bs H0 m) m2) := by
          have hq' := HQ.out
          rw [sha_cut, ← hq'.1, ← hq'.2]
          have e1 : bs.length % 64 = bs.length - q := by omega
          have e2 : runB (bs.take q) H0 m = runB bs H0 m := by
            have := runB_left (bs.take q) (bs.drop q) H0 m (by simp; omega)
            rw [List.take_append_drop] at this
            exact this.symm
          rw [e1, e2, hm2, Nat.mul_div_cancel_left _ (by omega)]
        have HS := Lib.hid hsha
        generalize runB (fil (bs.drop q) bs.length) (runB bs H0 m) m2 = sF at *
        obtain ⟨csR, hR3, hRz⟩ := hR0
        have hR' := hF'.keeps (k := w.heap.size) (fun h => by omega) (hF7.keeps (fun f => f) (h6.keeps (fun f => f) ((hB.block w.heap.size hlt).trans (hF4.keeps (fun f => f) hR3))))
        have hsz : (sF.map W32).toArray.size = 8 := by simp [hlen8]
        have hbz : ((bytesOf sF).map B8).toArray.size = 32 := by simp [bytesOf_length, hlen8]
        have hWs := hB.size
        have hW6 := h6.size
        have hW7 := hF7.size
        have hDW := (Array.getElem?_eq_some_iff.1 hK).1
        have HF := Lib.hid ((((((hF0.trans' hF4).trans (Fr.of_below' hB) fun i hi h => by omega).trans' h6).trans' hF7).trans hF' fun i hi h => by omega))
        have HD := Lib.hid (hF'.keeps (k := D) (fun h => by subst h; rw [hst] at hK; cases hK) (hF7.keeps (fun f => f) (h6.keeps (fun f => f) hK)))
        have HD2 := Lib.hid hK2
        clear hK hK2
        clear hB hB3 hC3 hF0 hSt0 hR3 hb4 hn4 hst hBs hb6 hst6 hb7 hn7 HCW
        gi_wp2_with (first | (refine wpListIn_load_row rfl 109 (.tmp 3) rfl St rfl 109 _ (0, 0) _ hst' Tryd.underlying109 rfl (by rw [Tryd.sz8, hsz]) ?_) | ((with_reducible apply And.intro); (exact trivial); gi_at_call 69; refine (callsIn_wide.2 (hash_any sF hlen8 _)).mono ?_; rintro e w9 ⟨rfl, h9⟩) | (refine wpListIn_store_row rfl 34 (.tmp 2) (.tmp 35) rfl w.heap.size _ rfl rfl 34 csR (h9.keeps (fun f => f) hR') (by rw [Tryd.sz32, hbz]) (by rw [hRz, hbz]) (oneB_map _) ?_))
        have g2 : (w9.setRow w.heap.size ((bytesOf sF).map B8).toArray).heap[D2]? = some (.deferred (some [])) := by
          rw [setRow_other _ _ _ _ (by omega)]
          exact h9.keeps (fun f => f) HD2.out
        have g1 : ((w9.setRow w.heap.size ((bytesOf sF).map B8).toArray).putObj D2 (.deferred none)).heap[D]? = some (.deferred (some [])) := by
          rw [heap_putObj_ne _ _ _ _ (by omega), setRow_other _ _ _ _ (by omega)]
          exact h9.keeps (fun f => f) HD.out
        have g0 : (((w9.setRow w.heap.size ((bytesOf sF).map B8).toArray).putObj D2 (.deferred none)).putObj D (.deferred none)).heap[w.heap.size]? = some (.cells ((bytesOf sF).map B8).toArray 34 (0, 0)) := by
          rw [heap_putObj_ne _ _ _ _ (by omega), heap_putObj_ne _ _ _ _ (by omega)]
          exact setRow_heap _ _ _ _ _ _ (h9.keeps (fun f => f) hR')
        refine ⟨by simp, .inl ⟨_, _, rfl, run_takeDeferred g2, by simp, .inl ⟨_, _, rfl, run_takeDeferred g1, ?_⟩⟩⟩
        refine ⟨_, results_cell_row rfl _ _ w.heap.size _ _ _ _ rfl g0 Tryd.underlying34 rfl (by rw [Tryd.sz32, hbz]), ?_⟩
        exact ⟨by rw [HS.out], (((HF.out.trans' h9).setRow (fun h => by omega) _).putObj (fun h => by omega) _).putObj (fun h => by omega) _⟩
      case stop2a =>
        rintro D c pre W _ _ h _
        exact h.elim
    · try generalize a.map (fun x => x.add q) = a2 at *
      have hfl := fil_length (bs.drop q) bs.length hd
      obtain ⟨m2, hm2⟩ : ∃ m2, fsize (bs.length - q) = 64 * m2 := ⟨fsize (bs.length - q) / 64, by unfold fsize; split <;> omega⟩
      have hm2s : m2 ≤ 2 := by have : fsize (bs.length - q) ≤ 128 := (by unfold fsize; split <;> omega); omega
      have hfl2 : (fil (bs.drop q) bs.length).length = 64 * m2 := by rw [hfl, List.length_drop, hm2]
      have hdl : (bs.drop q).length = bs.length - q := List.length_drop
      rw [hdl] at hb6
      rw [hm2] at hb6 ⊢
      have hst6 := h6.keeps (fun f => f) hst
      have hF7 : Fr F0 w6 ((w6.alloc (.cells #[.slice (some ⟨b6, 0, none⟩) (64 * m2) (64 * m2)] 29)).alloc (.cells #[.int .i64 64] 3)) := ((Fr.refl F0 w6).alloc _).alloc _
      have hb7 : ((w6.alloc (.cells #[.slice (some ⟨b6, 0, none⟩) (64 * m2) (64 * m2)] 29)).alloc (.cells #[.int .i64 64] 3)).cell? ⟨w6.heap.size, 0, none⟩ = some (.slice (some ⟨b6, 0, none⟩) (64 * m2) (64 * m2)) := cell_of_one (heap_alloc2_old w6 _ _)
      have hn7 : ((w6.alloc (.cells #[.slice (some ⟨b6, 0, none⟩) (64 * m2) (64 * m2)] 29)).alloc (.cells #[.int .i64 64] 3)).cell? ⟨w6.heap.size + 1, 0, none⟩ = some (.int .i64 64) := cell_of_one (heap_alloc2_new w6 _ _)
      generalize (w6.alloc (.cells #[.slice (some ⟨b6, 0, none⟩) (64 * m2) (64 * m2)] 29)).alloc (.cells #[.int .i64 64] 3) = w7 at *
      have hSt6 : St < w6.heap.size := (Array.getElem?_eq_some_iff.1 hst6).1
      have hSb : St ≠ b6 := by have := (Array.getElem?_eq_some_iff.1 hst).1; omega
      refine wpIn_rangeFunc_ownG rfl (by omega) (gf := 81) (lb := #[.pointer (some ⟨w6.heap.size, 0, none⟩), .pointer (some ⟨w6.heap.size + 1, 0, none⟩)]) rfl trivial (enters_of Tryd.func81 (by kernel_rfl) rfl)
        (Chunk_stops Fence.wide 5 trivial rfl (by omega) (w6.heap.size) (w6.heap.size + 1) St (some ⟨b6, 0, none⟩) (64 * m2) m2 (by omega) (by omega) w7 (by omega) (by omega) hb7 hn7 (fun h0 => ⟨b6, 0, rfl⟩))
        (fun h k => Kc.trans h k) (fun W l o o' _ h hc _ => Kc.putObj W l o o' h hc) (Below.refl _ _) (fun _ => rfl)
        (fun pre W' => W'.heap[St]? = some (.cells ((runF (fil (bs.drop q) bs.length) (runB bs H0 m) pre).map W32).toArray 109 (0, 0)) ∧ Fr (fun k => k = St) w7 W')
        (fun _ _ _ => False)
        (OwnFrom.and (Own.block _ _ _ _ _) (ownFrom_fr (Nat.le_refl _)))
        (fun _ _ _ _ _ hs _ _ => hs)
        ⟨hF7.keeps (fun f => f) hst6, Fr.refl _ _⟩
        ?a1b ?assign2b ?body2b ?done2b ?stop2b
      case assign2b =>
        intro l x W' K hK
        gi_wp2
        exact hK
      case body2b =>
        rintro l pre x W' ⟨hst', hF'⟩ hlen
        have hxl := x.isLt
        have hB' : Bs W' (some ⟨b6, 0, none⟩) (64 * m2) (fil (bs.drop q) bs.length) := Sl.fr (Sl.fr hb6 hF7 fun _ _ f => f) hF' fun k e h => by
          cases e
          exact hSb h.symm
        have hx := Bs.blk hB' x.val m2 hxl (by omega)
        rw [Nat.zero_add] at hx
        have hC : Cub W' := (HCW.fr h6 fun f => f).fr (hF7.of0.trans' hF') fun h => by omega
        have hz : (runF (fil (bs.drop q) bs.length) (runB bs H0 m) pre).length = 8 := by rw [runF_length, runB_length]; rfl
        have hb64 := blk_length (fil (bs.drop q) bs.length) x.val m2 hxl (by omega)
        have hsn := Lib.hid (runF_snoc (fil (bs.drop q) bs.length) (runB bs H0 m) pre x)
        generalize runF (fil (bs.drop q) bs.length) (runB bs H0 m) pre = s at *
        try dsimp only [Option.map]
        have hsz : (s.map W32).toArray.size = 8 := by simp [hz]
        gi_wp2_with (first | (refine wpListIn_load_row rfl 109 (.tmp 3) rfl St rfl 109 _ (0, 0) _ hst' Tryd.underlying109 rfl (by rw [Tryd.sz8, hsz]) ?_) | ((with_reducible apply And.intro); (exact trivial); gi_at_call 67; refine (CallsIn.inRound l (callsIn_wide.2 (after_any s hz _ 64 64 _ rfl hb64 _ hx hC))).mono ?_; rintro e w8 ⟨rfl, h8⟩) | (refine wpListIn_store_row rfl 109 (.tmp 3) (.tmp 33) rfl St _ rfl rfl 109 _ (h8.keeps (fun f => f) hst') (by rw [Tryd.sz8]; simp [compress_length, hz]) (by simp [compress_length, hz]) (oneW_map _) ?_))
        have hF8 : Fr (fun k => k = St) W' (w8.setRow St ((compress (blk (fil (bs.drop q) bs.length) x.val) s).map W32).toArray) := Fr.setRow (S := fun k => k = St) (Fr.of0 h8) (fun _ => rfl) _
        refine ⟨(KeepsOthers.row hst' hF8).from _, Kc.fr hF8, ?_, hF'.trans' hF8⟩
        rw [hsn.out]
        exact setRow_heap _ _ _ _ _ _ (h8.keeps (fun f => f) hst')
      case done2b =>
        rintro D2 ys W' hD2 rfl ⟨hst', hF'⟩ hK2
        rw [runF_fins _ _ m2 m2 (Nat.le_refl _)] at hst'
        have hlen8 : (runB (fil (bs.drop q) bs.length) (runB bs H0 m) m2).length = 8 := by rw [runB_length, runB_length]; rfl
        have hsha : sha bs = bytesOf (runB (fil (bs.drop q) bs.length) (runB bs H0 m) m2) := by
          have hq' := HQ.out
          rw [sha_cut, ← hq'.1, ← hq'.2]
          have e1 : bs.length % 64 = bs.length - q := by omega
          have e2 : runB (bs.take q) H0 m = runB bs H0 m := by
            have := runB_left (bs.take q) (bs.drop q) H0 m (by simp; omega)
            rw [List.take_append_drop] at this
            exact this.symm
          rw [e1, e2, hm2, Nat.mul_div_cancel_left _ (by omega)]
        have HS := Lib.hid hsha
        generalize runB (fil (bs.drop q) bs.length) (runB bs H0 m) m2 = sF at *
        obtain ⟨csR, hR3, hRz⟩ := hR0
        have hR' := hF'.keeps (k := w.heap.size) (fun h => by omega) (hF7.keeps (fun f => f) (h6.keeps (fun f => f) ((hB.block w.heap.size hlt).trans (hF4.keeps (fun f => f) hR3))))
        have hsz : (sF.map W32).toArray.size = 8 := by simp [hlen8]
        have hbz : ((bytesOf sF).map B8).toArray.size = 32 := by simp [bytesOf_length, hlen8]
        have hWs := hB.size
        have hW6 := h6.size
        have hW7 := hF7.size
        have hDW := (Array.getElem?_eq_some_iff.1 hK).1
        have HF := Lib.hid ((((((hF0.trans' hF4).trans (Fr.of_below' hB) fun i hi h => by omega).trans' h6).trans' hF7).trans hF' fun i hi h => by omega))
        have HD := Lib.hid (hF'.keeps (k := D) (fun h => by subst h; rw [hst] at hK; cases hK) (hF7.keeps (fun f => f) (h6.keeps (fun f => f) hK)))
        have HD2 := Lib.hid hK2
        clear hK hK2
        clear hB hB3 hC3 hF0 hSt0 hR3 hb4 hn4 hst hBs hb6 hst6 hb7 hn7 HCW
        gi_wp2_with (first | (refine wpListIn_load_row rfl 109 (.tmp 3) rfl St rfl 109 _ (0, 0) _ hst' Tryd.underlying109 rfl (by rw [Tryd.sz8, hsz]) ?_) | ((with_reducible apply And.intro); (exact trivial); gi_at_call 69; refine (callsIn_wide.2 (hash_any sF hlen8 _)).mono ?_; rintro e w9 ⟨rfl, h9⟩) | (refine wpListIn_store_row rfl 34 (.tmp 2) (.tmp 35) rfl w.heap.size _ rfl rfl 34 csR (h9.keeps (fun f => f) hR') (by rw [Tryd.sz32, hbz]) (by rw [hRz, hbz]) (oneB_map _) ?_))
        have g2 : (w9.setRow w.heap.size ((bytesOf sF).map B8).toArray).heap[D2]? = some (.deferred (some [])) := by
          rw [setRow_other _ _ _ _ (by omega)]
          exact h9.keeps (fun f => f) HD2.out
        have g1 : ((w9.setRow w.heap.size ((bytesOf sF).map B8).toArray).putObj D2 (.deferred none)).heap[D]? = some (.deferred (some [])) := by
          rw [heap_putObj_ne _ _ _ _ (by omega), setRow_other _ _ _ _ (by omega)]
          exact h9.keeps (fun f => f) HD.out
        have g0 : (((w9.setRow w.heap.size ((bytesOf sF).map B8).toArray).putObj D2 (.deferred none)).putObj D (.deferred none)).heap[w.heap.size]? = some (.cells ((bytesOf sF).map B8).toArray 34 (0, 0)) := by
          rw [heap_putObj_ne _ _ _ _ (by omega), heap_putObj_ne _ _ _ _ (by omega)]
          exact setRow_heap _ _ _ _ _ _ (h9.keeps (fun f => f) hR')
        refine ⟨by simp, .inl ⟨_, _, rfl, run_takeDeferred g2, by simp, .inl ⟨_, _, rfl, run_takeDeferred g1, ?_⟩⟩⟩
        refine ⟨_, results_cell_row rfl _ _ w.heap.size _ _ _ _ rfl g0 Tryd.underlying34 rfl (by rw [Tryd.sz32, hbz]), ?_⟩
        exact ⟨by rw [HS.out], (((HF.out.trans' h9).setRow (fun h => by omega) _).putObj (fun h => by omega) _).putObj (fun h => by omega) _⟩
      case stop2b =>
        rintro D c pre W _ _ h _
        exact h.elim
  case stop =>
    rintro D c pre W _ _ h _
    exact h.elim
end Go.Proofs.YtaobgaoldfeehaaDoor

/- Stage 2, digest: Double. -/
namespace Go.Proofs.YtaobgaoldfeehaaDoor
set_option linter.unusedVariables false
set_option linter.unusedSimpArgs false
open Go.RowKit

set_option maxHeartbeats 4000000 in
theorem Double_any (a : Option Addr) (n c : Nat) (bs : List UInt8) (hn : n = bs.length) (hl : bs.length ≤ 140737488355000) (w : World) (h : Bs w a c bs) (hcub : Cub w) :
    Calls Tryd.prog 20 #[.slice a n c] w fun e w' => e = .returned (.agg ((sha2 bs).map B8).toArray) ∧ Fr F0 w w' := by
  subst hn
  have hz1 : ((sha bs).map B8).toArray.size = 32 := by simp [sha_length]
  have hz2 : ((sha2 bs).map B8).toArray.size = 32 := by simp [sha2, sha_length]
  have HB := Lib.hid h
  have HC := Lib.hid hcub
  clear h hcub
  go_enter Tryd.func20, Tryd.ntmps20
  go_wp2_with fail
  refine (Sum_any a _ c bs rfl hl _ (Sl.fr HB.out ((Fr.refl F0 w).alloc _) fun _ _ f => f) (HC.out.fr ((Fr.refl F0 w).alloc _) fun f => f)).mono ?_
  rintro e w1 ⟨rfl, h1⟩
  have h1s := h1.size
  simp only [World.size_alloc] at h1s
  go_wp2_with (refine wpList_store_row rfl 34 (.tmp 3) (.tmp 5) rfl w1.heap.size _ rfl rfl 34 _ (heap_alloc_new w1 _) (by rw [Tryd.sz32, hz1]) (by rw [hz1]; rfl) (oneB_map _) ?_)
  generalize hY : w1.heap.size = Y at *
  have hF2 : Fr F0 w ((w1.alloc (.cells #[.int .u8 0, .int .u8 0, .int .u8 0, .int .u8 0, .int .u8 0, .int .u8 0, .int .u8 0, .int .u8 0, .int .u8 0, .int .u8 0, .int .u8 0, .int .u8 0, .int .u8 0, .int .u8 0, .int .u8 0, .int .u8 0, .int .u8 0, .int .u8 0, .int .u8 0, .int .u8 0, .int .u8 0, .int .u8 0, .int .u8 0, .int .u8 0, .int .u8 0, .int .u8 0, .int .u8 0, .int .u8 0, .int .u8 0, .int .u8 0, .int .u8 0, .int .u8 0] 34)).setRow Y ((sha bs).map B8).toArray) := ((((Fr.refl F0 w).alloc _).trans' h1).alloc _).setRow (fun h => by omega) _
  have hY2 := setRow_heap _ _ _ ((sha bs).map B8).toArray _ _ (show (w1.alloc (.cells #[.int .u8 0, .int .u8 0, .int .u8 0, .int .u8 0, .int .u8 0, .int .u8 0, .int .u8 0, .int .u8 0, .int .u8 0, .int .u8 0, .int .u8 0, .int .u8 0, .int .u8 0, .int .u8 0, .int .u8 0, .int .u8 0, .int .u8 0, .int .u8 0, .int .u8 0, .int .u8 0, .int .u8 0, .int .u8 0, .int .u8 0, .int .u8 0, .int .u8 0, .int .u8 0, .int .u8 0, .int .u8 0, .int .u8 0, .int .u8 0, .int .u8 0, .int .u8 0] 34)).heap[Y]? = some (.cells _ 34 (0, 0)) by rw [← hY]; exact heap_alloc_new w1 _)
  have hR : ∃ cs, ((w1.alloc (.cells #[.int .u8 0, .int .u8 0, .int .u8 0, .int .u8 0, .int .u8 0, .int .u8 0, .int .u8 0, .int .u8 0, .int .u8 0, .int .u8 0, .int .u8 0, .int .u8 0, .int .u8 0, .int .u8 0, .int .u8 0, .int .u8 0, .int .u8 0, .int .u8 0, .int .u8 0, .int .u8 0, .int .u8 0, .int .u8 0, .int .u8 0, .int .u8 0, .int .u8 0, .int .u8 0, .int .u8 0, .int .u8 0, .int .u8 0, .int .u8 0, .int .u8 0, .int .u8 0] 34)).setRow Y ((sha bs).map B8).toArray).heap[w.heap.size]? = some (.cells cs 34 (0, 0)) ∧ cs.size = 32 := ⟨_, by rw [setRow_other _ _ _ _ (by omega), heap_alloc_old _ _ (by omega)]; exact h1.keeps (fun f => f) (heap_alloc_new w _), rfl⟩
  generalize (w1.alloc (.cells #[.int .u8 0, .int .u8 0, .int .u8 0, .int .u8 0, .int .u8 0, .int .u8 0, .int .u8 0, .int .u8 0, .int .u8 0, .int .u8 0, .int .u8 0, .int .u8 0, .int .u8 0, .int .u8 0, .int .u8 0, .int .u8 0, .int .u8 0, .int .u8 0, .int .u8 0, .int .u8 0, .int .u8 0, .int .u8 0, .int .u8 0, .int .u8 0, .int .u8 0, .int .u8 0, .int .u8 0, .int .u8 0, .int .u8 0, .int .u8 0, .int .u8 0, .int .u8 0] 34)).setRow Y ((sha bs).map B8).toArray = w2 at *
  obtain ⟨cs, hR, hRz⟩ := hR
  have hx := Bs.of_row hY2 (by rw [sha_length]; unfold maxLen; omega)
  rw [sha_length] at hx
  refine (Sum_any _ 32 32 (sha bs) (sha_length _).symm (by rw [sha_length]; omega) _ hx (HC.out.fr hF2 fun f => f)).mono ?_
  rintro e w3 ⟨rfl, h3⟩
  go_wp2_with (refine wpList_store_row rfl 34 (.tmp 2) (.tmp 7) rfl w.heap.size _ rfl rfl 34 _ (h3.keeps (fun f => f) hR) (by rw [Tryd.sz32]; exact congrArg some hz2.symm) (by rw [hRz]; exact hz2.symm) (oneB_map _) ?_)
  refine bodyPost_ret (results_cell_row rfl _ _ w.heap.size _ _ _ _ rfl (setRow_heap _ _ _ _ _ _ (h3.keeps (fun f => f) hR)) Tryd.underlying34 rfl (by rw [Tryd.sz32]; exact congrArg some hz2.symm)) rfl ⟨rfl, ?_⟩
  exact (hF2.trans' h3).setRow (fun h => by omega) _
end Go.Proofs.YtaobgaoldfeehaaDoor

/- The document's answer 02 (digest): how it reckons the standard's constants, as Lean says it; that they are the standard's. Nothing here speaks of the program. -/
namespace Go.Proofs.YtaobgaoldfeehaaDoor
set_option linter.unusedVariables false
set_option linter.unusedSimpArgs false

/-- The digits of what is carried. -/
def dig : Nat → Nat → List Nat
  | 0, _ => []
  | f + 1, c => if c = 0 then [] else c % 65536 :: dig f (c / 65536)

/-- Digits times x, with a carry. -/
def mulL : List Nat → Nat → Nat → List Nat
  | [], x, c => dig 8 c
  | d :: l, x, c => (c + d * x) % 65536 :: mulL l x ((c + d * x) / 65536)

def powL (x : Nat) : Nat → List Nat
  | 0 => [1]
  | n + 1 => mulL (powL x n) x 0

theorem dig_fuel : ∀ f c, c < 65536 ^ f → dig (f + 1) c = dig f c
  | 0, c, h => by
    have : c = 0 := by simpa using h
    subst this
    rfl
  | f + 1, c, h => by
    show (if c = 0 then [] else c % 65536 :: dig (f + 1) (c / 65536)) = (if c = 0 then [] else c % 65536 :: dig f (c / 65536))
    split
    · rfl
    · rw [dig_fuel f (c / 65536) (by rw [Nat.div_lt_iff_lt_mul (by omega)]; rw [Nat.pow_succ] at h; exact h)]

theorem dig_zero : dig 8 0 = [] := rfl
theorem dig_step (c : Nat) (h0 : 0 < c) (h : c < 18446744073709551616) : dig 8 c = c % 65536 :: dig 8 (c / 65536) := by
  have e : dig 8 c = c % 65536 :: dig 7 (c / 65536) := by
    show (if c = 0 then [] else c % 65536 :: dig 7 (c / 65536)) = _
    rw [if_neg (by omega)]
  rw [e, dig_fuel 7 _ (by
    have : (65536 : Nat) ^ 7 = 5192296858534827628530496329220096 := by decide
    omega)]

theorem dig_small : ∀ f c, ∀ d ∈ dig f c, d < 65536
  | 0, _ => by simp [dig]
  | f + 1, c => by
    intro d hd
    rw [dig] at hd
    split at hd
    · cases hd
    · rcases List.mem_cons.1 hd with rfl | hd
      · omega
      · exact dig_small f _ d hd

theorem mulL_small : ∀ l x c, ∀ d ∈ mulL l x c, d < 65536
  | [], x, c => dig_small 8 c
  | e :: l, x, c => by
    intro d hd
    rcases List.mem_cons.1 hd with rfl | hd
    · omega
    · exact mulL_small l x _ d hd

theorem powL_small (x : Nat) : ∀ n, ∀ d ∈ powL x n, d < 65536
  | 0 => by simp [powL]
  | n + 1 => mulL_small _ _ _

theorem dig_length : ∀ f c, (dig f c).length ≤ f
  | 0, _ => by simp [dig]
  | f + 1, c => by
    rw [dig]
    split
    · simp
    · simp only [List.length_cons]
      have := dig_length f (c / 65536)
      omega

theorem mulL_length : ∀ l x c, (mulL l x c).length ≤ l.length + 8
  | [], x, c => by have := dig_length 8 c; simpa [mulL] using this
  | e :: l, x, c => by have := mulL_length l x ((c + e * x) / 65536); simp only [mulL, List.length_cons]; omega

theorem powL_length (x : Nat) : ∀ n, (powL x n).length ≤ 1 + 8 * n
  | 0 => by simp [powL]
  | n + 1 => by have := mulL_length (powL x n) x 0; have := powL_length x n; simp only [powL]; omega

/-- Which of two is greater, by sixteen digits. -/
def ovr (a b : List Nat) : Nat → Bool
  | 0 => false
  | i + 1 => if a.getD i 0 = b.getD i 0 then ovr a b i else decide (b.getD i 0 < a.getD i 0)

def wantL (p n : Nat) : List Nat := List.replicate (2 * n) 0 ++ [p]

/-- The bits that are left. -/
def rootX (p n : Nat) : Nat → Nat → Nat
  | 0, x => x
  | b + 1, x => rootX p n b (if ovr (powL (x + 2 ^ b) n) (wantL p n) 16 then x else x + 2 ^ b)

def rootN (p n : Nat) : Nat := rootX p n 36 0 % 4294967296

/-- The primes below. -/
def primesB : Nat → List Nat
  | 0 => []
  | p + 1 => if p < 2 then [] else if (primesB p).all (fun q => decide (p % q ≠ 0)) then primesB p ++ [p] else primesB p

theorem primesB_pos : ∀ p, ∀ q ∈ primesB p, 2 ≤ q ∧ q < p
  | 0 => by simp [primesB]
  | p + 1 => by
    intro q hq
    rw [primesB] at hq
    split at hq
    · cases hq
    · split at hq
      · rcases List.mem_append.1 hq with hq | hq
        · have := primesB_pos p q hq; omega
        · have : q = p := by simpa using hq
          omega
      · have := primesB_pos p q hq; omega

theorem primesB_step (p : Nat) (h : 2 ≤ p) : primesB (p + 1) = if (primesB p).all (fun q => decide (p % q ≠ 0)) then primesB p ++ [p] else primesB p := by
  rw [primesB, if_neg (by omega)]

theorem primesB_mono (p : Nat) (h : 2 ≤ p) : ∀ u, (primesB p).length ≤ (primesB (p + u)).length
  | 0 => Nat.le_refl _
  | u + 1 => by
    refine Nat.le_trans (primesB_mono p h u) ?_
    rw [← Nat.add_assoc, primesB_step _ (by omega)]
    split <;> simp

theorem primes_311 : (primesB 311).length = 63 := by decide +kernel
theorem primes_312 : (primesB 312).length = 64 := by decide +kernel

theorem primes_few (p : Nat) (h : 2 ≤ p) (h' : p < 312) : (primesB p).length < 64 := by
  have := primesB_mono p h (311 - p)
  rw [show p + (311 - p) = 311 by omega, primes_311] at this
  omega

theorem cubes_right : (primesB 312).map (fun p => rootN p 3) = cubesN := by decide +kernel
theorem squares_right : ((primesB 312).take 8).map (fun p => rootN p 2) = squaresN := by decide +kernel
theorem primes_small : ∀ p ∈ primesB 312, p < 312 := fun p h => (primesB_pos 312 p h).2

theorem cubes_at (i : Nat) (h : i < 64) : BitVec.ofNat 32 (rootN ((primesB 312).getD i 0) 3) = cubesL.getD i 0 := by
  rw [cubesL, ← cubes_right]
  simp [List.getD, List.getElem?_eq_getElem (show i < (primesB 312).length by rw [primes_312]; exact h)]

theorem squares_at (i : Nat) (h : i < 8) : BitVec.ofNat 32 (rootN ((primesB 312).getD i 0) 2) = H0.getD i 0 := by
  rw [H0, ← squares_right]
  have h8 : i < ((primesB 312).take 8).length := by rw [List.length_take, primes_312]; omega
  simp [List.getD, List.getElem?_take, h, List.getElem?_eq_getElem (show i < (primesB 312).length by rw [primes_312]; omega)]
end Go.Proofs.YtaobgaoldfeehaaDoor

/- The document's answer 02 (digest): the walks of digit, power. -/
namespace Go.Proofs.YtaobgaoldfeehaaDoor
set_option linter.unusedVariables false
set_option linter.unusedSimpArgs false
open Go.RowKit

theorem Tryd.infoU64b : (Tryd.prog.info? 37).map (fun i => (i.zero, i.size, i.bytes)) = some (some (.int .u64 0), 1, 8) := by kernel_rfl

/-- A number of 64 bits as a value. -/
def U64b (x : Nat) : Value := .int .u64 (x : Int)
/-- A slice of numbers that is read. -/
def Us2 (w : World) (a : Option Addr) (c : Nat) (l : List Nat) : Prop := Sl w 1 a c l.length (l.map U64b)
/-- A row of numbers of the call's own. -/
def OwnU2 (w : World) (v : Value) (l : List Nat) : Prop := w.ownsRow 0 37 1 v l.length (l.map U64b)

theorem OwnU2.nil (w : World) : OwnU2 w (.slice none 0 0) [] := World.ownsRow_nil _ _ _ _
theorem OwnU2.us {w : World} {a : Option Addr} {n c : Nat} {l : List Nat} (h : OwnU2 w (.slice a n c) l) : n = l.length ∧ Us2 w a c l := by
  obtain ⟨rfl, hs⟩ := Sl.of_own h
  exact ⟨rfl, hs⟩
theorem OwnU2.slice {w : World} {v : Value} {l : List Nat} (h : OwnU2 w v l) : ∃ a c, v = .slice a l.length c := own_slice h
theorem OwnU2.lt {w : World} {v : Value} {l : List Nat} (h : OwnU2 w v l) : ∀ k, v.ownBlock = some k → k < w.heap.size := fun k hk => (World.ownsRow.lt h k hk).2
theorem OwnU2.fr {S : Nat → Prop} {w w' : World} {v : Value} {l : List Nat} (h : OwnU2 w v l) (hf : Fr S w w') (hs : ∀ k, v.ownBlock = some k → ¬ S k) : OwnU2 w' v l := by
  refine ⟨h.1, ?_⟩
  rcases h.2 with hn | ⟨g, cap, cur, rfl, hb, hg, r⟩
  · exact .inl hn
  · exact .inr ⟨g, cap, cur, rfl, hb, hf.keeps (hs g rfl) hg, r⟩

theorem Us2.one {l : List Nat} : ∀ u ∈ l.map U64b, u.oneCell' = true := by
  intro u hu
  simp only [List.mem_map] at hu
  obtain ⟨x, _, rfl⟩ := hu
  rfl

theorem Us2.get {w : World} {a : Option Addr} {c : Nat} {l : List Nat} (h : Us2 w a c l) (j : Nat) (hj : j < l.length) : ∃ b off, a = some ⟨b, off, none⟩ ∧ w.cell? ⟨b, off + j, none⟩ = some (.int .u64 (l.getD j 0 : Nat)) :=
  h.cell j (U64b (l.getD j 0)) (by simp [List.getElem?_map, List.getElem?_eq_getElem hj, List.getD])

/-- 'append(s, x...)' on numbers, in a walk. -/
theorem wpList_appU2 {w : World} {ops : Array Oper} {rest : List Oper} {o : Oper} {a : Act} {Q : Exit → Act → World → Prop} (hgd : o.guard = none) (s x : Operand)
    (ho : o.op = .call { callee := .builtin .append, args := #[s, x], argTypes := #[93, 93] })
    (v : Value) (b0 : List Nat) (hs : a.eval s = v) (hown : OwnU2 w v b0) (ad : Option Addr) (m c : Nat) (l : List Nat) (hx : a.eval x = .slice ad m c) (hsl : Us2 w ad c l) (hm : m = l.length)
    (hb : b0.length + l.length ≤ 1000000)
    (h : ∀ a' c' w', OwnU2 w' (.slice a' (b0.length + l.length) c') (b0 ++ l) → w.grownBy w' v.ownBlock → (∀ k, ablk a' = some k → v.ownBlock = some k ∨ w.heap.size ≤ k) →
      wpList Tryd.prog ops Q rest (a.put o.dst (.slice a' (b0.length + l.length) c')) w') : wpList Tryd.prog ops Q (o :: rest) a w := by
  subst hm
  obtain ⟨i0, hi, hz0, hz1, hz2⟩ := info_parts Tryd.infoU64b
  refine wpList_app hgd s x 93 ho 37 i0 (.int .u64 0) 1 8 Tryd.underlying93 hi hz0 hz1 hz2 rfl (by decide) v _ _ hs hown ad c _ _ hx hsl Us2.one (by unfold maxLen; omega) (by omega) ?_
  intro a' c' w' h1 h2 h3
  exact h a' c' w' (by simpa [OwnU2] using h1) h2 h3

theorem Us2.of_new (w : World) (x : Nat) : Us2 (w.alloc (.cells #[.int .u64 (x : Int)] 37)) (some ⟨w.heap.size, 0, none⟩) 1 [x] :=
  ⟨rfl, Nat.le_refl _, by unfold maxLen; omega, (fun e => by cases e), fun j u hj => ⟨w.heap.size, 0, rfl, by
    rw [Nat.zero_add, cell_of_row _ _ j _ _ _ (heap_alloc_new w _)]
    match j, hj with
    | 0, hj => simpa [U64b] using hj⟩⟩

theorem digit2_any (a : Option Addr) (n c : Nat) (l : List Nat) (i : Nat) (hn : n = l.length) (w : World) (h : Us2 w a c l) :
    Calls Tryd.prog 75 #[.slice a n c, .int .i64 (i : Int)] w fun e w' => e = .returned (.int .u64 (l.getD i 0 : Nat)) ∧ w' = w := by
  subst hn
  by_cases hi : i < l.length
  · obtain ⟨b, off, rfl, hc⟩ := h.get i hi
    have l1 : (i : Int) < l.length := by omega
    clear h
    generalize l.getD i 0 = v at *
    go_enter Tryd.func75, Tryd.ntmps75
    go_wp2
    go_ret
    exact ⟨rfl, rfl⟩
  · have l1 : ¬ (i : Int) < l.length := by omega
    have e : l.getD i 0 = 0 := by simp [List.getD, List.getElem?_eq_none (show l.length ≤ i by omega)]
    rw [e]
    clear h e
    go_enter Tryd.func75, Tryd.ntmps75
    go_wp2
    go_ret
    exact ⟨rfl, rfl⟩

/-- What is left to be written of a product. -/
def restL (l : List Nat) (x i c : Nat) : List Nat := mulL (l.drop i) x c

theorem restL_in (l : List Nat) (x i c : Nat) (h : i < l.length) : restL l x i c = (c + l.getD i 0 * x) % 65536 :: restL l x (i + 1) ((c + l.getD i 0 * x) / 65536) := by
  rw [restL, List.drop_eq_getElem_cons h]
  simp [mulL, restL, List.getD, List.getElem?_eq_getElem h]

theorem restL_out (l : List Nat) (x i c : Nat) (h : l.length ≤ i) (h0 : 0 < c) (hc : c < 18446744073709551616) : restL l x i c = c % 65536 :: restL l x (i + 1) (c / 65536) := by
  rw [restL, restL, List.drop_eq_nil_of_le h, List.drop_eq_nil_of_le (by omega)]
  exact dig_step c h0 hc

theorem restL_end (l : List Nat) (x i : Nat) (h : l.length ≤ i) : restL l x i 0 = [] := by
  rw [restL, List.drop_eq_nil_of_le h]
  rfl

set_option maxRecDepth 100000 in
set_option maxHeartbeats 8000000 in
theorem power_any (x n : Nat) (hx : x < 1099511627776) (hn : n ≤ 3) (w : World) :
    Calls Tryd.prog 74 #[.int .u64 (x : Int), .int .i64 (n : Int)] w fun e w' => ∃ a c, e = .returned (.slice a (powL x n).length c) ∧ Us2 w' a c (powL x n) ∧ Fr F0 w w' := by
  go_enter Tryd.func74, Tryd.ntmps74
  go_wp2_with fail
  go_loopw [1, 5] (fun nv ov wr => ∃ k : Nat, k ≤ n ∧ nv = .int .i64 ((n - k : Nat) : Int) ∧ (∃ a c, ov = .slice a (powL x k).length c ∧ Us2 wr a c (powL x k)) ∧ Fr F0 w wr) (fun nv _ _ => (intOf nv).toNat)
  case atStart => exact ⟨0, Nat.zero_le _, rfl, ⟨_, _, rfl, Us2.of_new w 1⟩, (Fr.refl F0 w).alloc _⟩
  case round =>
    obtain ⟨k, hk, rfl, ⟨a, c, rfl, hu⟩, hf⟩ := hrel
    obtain ⟨w1, hw1⟩ : ∃ w1, w1 = wr := ⟨_, rfl⟩
    subst hw1
    by_cases hkn : k < n
    · obtain ⟨d, hd⟩ : ∃ d, n - k = d := ⟨_, rfl⟩
      have l1 : (0 : Int) < (d : Int) := by omega
      have HD := Lib.hid hd
      have hsm := powL_small x k
      have hln := powL_length x k
      have hln2 := powL_length x (k + 1)
      have HP := Lib.hid (show powL x (k + 1) = restL (powL x k) x 0 0 by simp [restL, powL])
      generalize powL x k = L at *
      rw [hd]
      clear hd
      have HU := Lib.hid hu
      have HF := Lib.hid hf
      clear hu hf
      go_wp2_with fail
      rw [show decide (0 < d) = true from decide_eq_true (by omega)]
      go_loopw [6, 7, 8] (fun nv cv iv w2 => ∃ (i c' : Nat) (nx : List Nat), iv = .int .i64 i ∧ cv = .int .u64 c' ∧ (c' ≤ x ∧ nx.length = i) ∧ (∃ a2 c2, nv = .slice a2 nx.length c2 ∧ OwnU2 w2 (.slice a2 nx.length c2) nx ∧ ∀ g, ablk a2 = some g → w1.heap.size ≤ g) ∧ nx ++ restL L x i c' = powL x (k + 1) ∧ Fr F0 w1 w2)
        (fun _ cv iv _ => (L.length - (intOf iv).toNat) * 18446744073709551616 + (intOf cv).toNat)
      case atStart => exact ⟨0, 0, [], rfl, rfl, ⟨Nat.zero_le _, rfl⟩, ⟨_, _, rfl, World.ownsRow_made w1 #[] 0 (Nat.zero_le _) (Nat.zero_le _) rfl, fun g e => by cases e; exact Nat.le_refl _⟩, HP.out.symm, (Fr.refl F0 w1).alloc _⟩
      case round =>
        obtain ⟨i, c', nx, rfl, rfl, ⟨hcx, hni⟩, ⟨a2, c2, rfl, hown, hblk⟩, hres, hf2⟩ := hrel
        have hnl : nx.length ≤ 1 + 8 * (k + 1) := by have := congrArg List.length hres; simp at this; omega
        have hil : i ≤ 1000 := by omega
        have HNI := Lib.hid hni
        clear hni
        have HR := Lib.hid hres
        have HB := Lib.hid hblk
        clear hres hblk
        have hu2 : Us2 wr a c L := Sl.fr HU.out hf2 fun _ _ f => f
        by_cases hin : i < L.length
        · obtain ⟨b, off, ea, hc⟩ := hu2.get i hin
          have hd := hsm _ (List.getElem_mem hin)
          have e1 : L.getD i 0 = L[i] := by simp [List.getD, List.getElem?_eq_getElem hin]
          have hst := restL_in L x i c' hin
          rw [e1] at hst hc
          generalize L[i] = dd at *
          have hmul : dd * x ≤ 65535 * x := Nat.mul_le_mul_right _ (by omega)
          generalize hpr : dd * x = pr at *
          have m1 : IntKind.u64.wrap ((dd : Int) * x) = (pr : Int) := by
            rw [← Int.natCast_mul, hpr]
            exact IntWalk.u64_in _ (by omega)
          have m2 : IntKind.u64.wrap ((c' : Int) + pr) = ((c' + pr : Nat) : Int) := by rw [IntWalk.u64_in _ (by omega)]; omega
          obtain ⟨sm, hsmm⟩ : ∃ sm, c' + pr = sm := ⟨_, rfl⟩
          rw [hsmm] at m2 hst
          have hq : sm / 65536 ≤ x := by omega
          obtain ⟨r, hr⟩ : ∃ r, sm % 65536 = r := ⟨_, rfl⟩
          obtain ⟨z, hz⟩ : ∃ z, sm / 65536 = z := ⟨_, rfl⟩
          have mr : (sm : Int) % 65536 = (r : Int) := by omega
          have mz : (sm : Int) / 65536 = (z : Int) := by omega
          rw [hr, hz] at hst
          have l2 : (i : Int) < L.length := by omega
          have HST := Lib.hid hst
          have HZ := Lib.hid hz
          have hzx : z ≤ x := by omega
          clear hst hsmm hpr hmul e1 hr hz
          subst ea
          go_wp2_with (at_builtin; refine wpList_appU2 rfl _ _ rfl _ nx rfl (hown.fr ((Fr.refl F0 wr).alloc _) (fun _ _ f => f)) _ _ _ [r] rfl (Us2.of_new wr r) rfl (by simp; omega) ?_; intro a3 c3 w3 ho hg hb)
          go_roundw
          case rel =>
            refine ⟨i + 1, z, nx ++ [r], by go_num, rfl, ⟨by omega, by have := HNI.out; simp; omega⟩, ⟨a3, c3, by simp, by simpa using ho, fun g hg' => ?_⟩, ?_, (hf2.alloc _).grown hg fun g e hl => ?_⟩
            · rcases hb g hg' with h | h
              · exact HB.out g (by rw [← ablk_own]; exact h)
              · have := hf2.size; simp only [World.size_alloc] at h; omega
            · rw [← HR.out, HST.out, List.append_assoc]; rfl
            · have := HB.out g (by rw [← ablk_own]; exact e)
              omega
          case measure => simp [intOf]; omega
        · by_cases hc0 : 0 < c'
          · have hst := restL_out L x i c' (by omega) hc0 (by omega)
            obtain ⟨r, hr⟩ : ∃ r, c' % 65536 = r := ⟨_, rfl⟩
            obtain ⟨z, hz⟩ : ∃ z, c' / 65536 = z := ⟨_, rfl⟩
            have mr : (c' : Int) % 65536 = (r : Int) := by omega
            have mz : (c' : Int) / 65536 = (z : Int) := by omega
            rw [hr, hz] at hst
            have l2 : ¬ (i : Int) < L.length := by omega
            have HLE := Lib.hid (show L.length ≤ i by omega)
            have l3 : (0 : Int) < (c' : Int) := by omega
            have HST := Lib.hid hst
            have HZ := Lib.hid hz
            have hzx : z ≤ x := by omega
            clear hst hr hz
            go_wp2_with (at_builtin; refine wpList_appU2 rfl _ _ rfl _ nx rfl (hown.fr ((Fr.refl F0 wr).alloc _) (fun _ _ f => f)) _ _ _ [r] rfl (Us2.of_new wr r) rfl (by simp; omega) ?_; intro a3 c3 w3 ho hg hb)
            go_roundw
            case rel =>
              refine ⟨i + 1, z, nx ++ [r], by go_num, rfl, ⟨by have := HZ.out; omega, by have := HNI.out; simp; omega⟩, ⟨a3, c3, by simp, by simpa using ho, fun g hg' => ?_⟩, ?_, (hf2.alloc _).grown hg fun g e hl => ?_⟩
              · rcases hb g hg' with h | h
                · exact HB.out g (by rw [← ablk_own]; exact h)
                · have := hf2.size; simp only [World.size_alloc] at h; omega
              · rw [← HR.out, HST.out, List.append_assoc]; rfl
              · have := HB.out g (by rw [← ablk_own]; exact e)
                omega
            case measure =>
              have := HZ.out
              have := HLE.out
              simp [intOf]; omega
          · have l2 : ¬ (i : Int) < L.length := by omega
            have l3 : ¬ (0 : Int) < (c' : Int) := by omega
            have hc00 : c' = 0 := by omega
            have hfin : nx = powL x (k + 1) := by
              have := HR.out
              rw [hc00, restL_end _ _ _ (by omega), List.append_nil] at this
              exact this
            have HFIN := Lib.hid hfin
            clear hfin hc00
            have hdn : IntKind.i64.wrap ((d : Int) - 1) = ((d - 1 : Nat) : Int) := by rw [IntWalk.i64_in _ (by have := HD.out; omega)]; omega
            generalize hd1 : d - 1 = d1 at *
            have HD1 := Lib.hid hd1
            clear hd1
            go_wp2
            go_roundw
            case rel =>
              have := HD.out
              have := HD1.out
              refine ⟨k + 1, by omega, by go_num, ⟨a2, c2, by rw [← HFIN.out], ?_⟩, HF.out.trans' hf2⟩
              rw [← HFIN.out]
              exact hown.us.2
            case measure =>
              have := HD1.out
              simp [intOf]; omega
    · obtain rfl : k = n := by omega
      rw [Nat.sub_self]
      go_wp2
      go_ret
      exact ⟨a, c, rfl, hu, hf⟩
end Go.Proofs.YtaobgaoldfeehaaDoor

/- The document's answer 02 (digest): the walk of root. -/
namespace Go.Proofs.YtaobgaoldfeehaaDoor
set_option linter.unusedVariables false
set_option linter.unusedSimpArgs false
open Go.RowKit

theorem made_zeros (q : Nat) : (madeCells #[Value.int IntKind.u64 0] q).toList = (List.replicate q 0).map U64b := by
  apply List.ext_getElem
  · simp [madeCells]
  · intro i h1 h2
    simp [madeCells, Nat.mod_one]
    rfl

theorem ovr_step (a b : List Nat) (i : Nat) (h : a.getD i 0 ≠ b.getD i 0) : ovr a b (i + 1) = decide (b.getD i 0 < a.getD i 0) := by rw [ovr, if_neg h]
theorem ovr_same (a b : List Nat) (i : Nat) (h : a.getD i 0 = b.getD i 0) : ovr a b (i + 1) = ovr a b i := by rw [ovr, if_pos h]

theorem rootX_lt (p n : Nat) : ∀ b x, x + 2 ^ b ≤ 2 ^ 36 → rootX p n b x < 2 ^ 36
  | 0, x, h => by simp only [rootX]; simp at h; omega
  | b + 1, x, h => by
    rw [rootX]
    rw [Nat.pow_succ] at h
    have : 0 < 2 ^ b := Nat.pow_pos (by omega)
    split
    · exact rootX_lt p n b x (by omega)
    · exact rootX_lt p n b _ (by omega)

set_option maxRecDepth 100000 in
set_option maxHeartbeats 8000000 in
theorem root_any (p n : Nat) (hp : p < 1099511627776) (hn : n ≤ 3) (w : World) :
    Calls Tryd.prog 52 #[.int .u64 (p : Int), .int .i64 (n : Int)] w fun e w' => e = .returned (.int .u32 (wi (BitVec.ofNat 32 (rootN p n)))) ∧ Fr F0 w w' := by
  obtain ⟨i0, hi, hz0, hz1, hz2⟩ := info_parts Tryd.infoU64b
  obtain ⟨q, hq⟩ : ∃ q, q = 2 * n := ⟨_, rfl⟩
  have mq : IntKind.i64.wrap (2 * (n : Int)) = (q : Int) := by rw [IntWalk.i64_in _ (by omega)]; omega
  have hq6 : q ≤ 6 := by omega
  have HQ := Lib.hid hq
  clear hq
  go_enter Tryd.func52, Tryd.ntmps52
  go_wp2_with (first | (at_make; refine wpList_make_full w rfl _ _ _ rfl 0 37 i0 _ 1 Tryd.underlying93 hi hz0 hz1 .i64 .i64 q q q rfl rfl rfl rfl (by rw [hz2]; omega) (by unfold maxLen; omega) (Nat.zero_le _) ?_; intro w1 ho hg; have hoU : OwnU2 w1 (.slice (some ⟨w.heap.size, 0, none⟩) q q) (List.replicate q 0) := (by unfold OwnU2; rw [← made_zeros, List.length_replicate]; simpa [Value.cells] using ho)) | (at_builtin; refine wpList_appU2 rfl _ _ rfl _ (List.replicate q 0) rfl (hoU.fr ((Fr.refl F0 w1).alloc _) (fun _ _ f => f)) _ _ _ [p] rfl (Us2.of_new w1 p) rfl (by simp; omega) ?_; intro a3 c3 w3 ho3 hg3 hb3))
  have hF3 : Fr F0 w w3 := ((((Fr.refl F0 w).grown hg (fun k e => by cases e)).alloc _).grown hg3 fun k e hl => by cases e; simp at hl)
  have hW3 : Us2 w3 a3 c3 (wantL p n) := by
    have := ho3.us.2
    rwa [HQ.out] at this
  have hwl : (wantL p n).length = q + 1 := by simp [wantL, HQ.out]
  have hwl' : q + 1 = (wantL p n).length := hwl.symm
  generalize hQ1 : q + 1 = Q1 at *
  clear hQ1 ho hoU ho3 hg hg3 hb3 hwl
  have HF3 := Lib.hid hF3
  have HW3 := Lib.hid hW3
  have HWL := Lib.hid hwl'
  clear hF3 hW3 hwl'
  go_loopw [6, 7] (fun xv bv wr => ∃ b x : Nat, b ≤ 36 ∧ bv = .int .i64 ((b : Int) - 1) ∧ xv = .int .u64 (x : Int) ∧ x + 2 ^ b ≤ 2 ^ 36 ∧ rootX p n b x = rootX p n 36 0 ∧ Fr F0 w3 wr) (fun _ bv _ => (intOf bv + 1).toNat)
  case atStart => exact ⟨36, 0, by omega, rfl, rfl, by omega, rfl, Fr.refl _ _⟩
  case round =>
    obtain ⟨b, x, hb, rfl, rfl, hxb, hres, hf⟩ := hrel
    obtain ⟨w4, hw4⟩ : ∃ w4, w4 = wr := ⟨_, rfl⟩
    subst hw4
    have HR := Lib.hid hres
    clear hres
    cases b with
    | zero =>
      have hx : x < 2 ^ 36 := by simp at hxb; omega
      have hN : wi (BitVec.ofNat 32 (rootN p n)) = (x : Int) % 4294967296 := by
        have := HR.out
        rw [rootX] at this
        rw [wi, rootN, ← this, BitVec.toNat_ofNat]
        show ((x % 4294967296 % 4294967296 : Nat) : Int) = _
        rw [Nat.mod_mod]
        rfl
      have HN := Lib.hid hN
      clear hN
      go_wp2
      go_ret
      refine ⟨?_, HF3.out.trans' hf⟩
      rw [HN.out]
      rfl
    | succ b =>
      have hb1 : ((b + 1 : Nat) : Int) - 1 = (b : Int) := by omega
      have hp0 : 0 < 2 ^ b := Nat.pow_pos (by omega)
      rw [Nat.pow_succ] at hxb
      obtain ⟨P2, hP2⟩ : ∃ P2, 2 ^ b = P2 := ⟨_, rfl⟩
      have HP2 := Lib.hid hP2
      rw [hP2] at hxb hp0
      have mb : IntKind.u64.wrap ((2 : Int) ^ b) = (P2 : Int) := by
        rw [← hP2, show (2 : Int) ^ b = ((2 ^ b : Nat) : Int) by rw [Int.natCast_pow]; rfl]
        exact IntWalk.u64_in _ (by omega)
      have mx : IntKind.u64.wrap ((x : Int) + (P2 : Int)) = ((x + P2 : Nat) : Int) := by rw [IntWalk.u64_in _ (by omega)]; omega
      obtain ⟨y, hy⟩ : ∃ y, x + P2 = y := ⟨_, rfl⟩
      rw [hy] at mx
      have HY := Lib.hid hy
      have hyl : y < 1099511627776 := by omega
      have lb : (b : Int) < 64 := by omega
      clear hy hP2
      rw [hb1]
      clear hb1
      go_wp2_with fail
      refine (power_any y n hyl hn w4).mono ?_
      rintro e w5 ⟨aA, cA, rfl, hA, hf5⟩
      have hf5' := hf.trans' hf5
      have HA := Lib.hid hA
      obtain ⟨LA, hLA⟩ : ∃ l, (powL y n).length = l := ⟨_, rfl⟩
      rw [hLA]
      have HLA := Lib.hid hLA
      clear hA hf hf5 hLA
      go_wp2_with fail
      go_loopw [9, 10] (fun ov iv wr => ∃ i : Nat, i ≤ 16 ∧ iv = .int .i64 i ∧ ov = .bool (ovr (powL y n) (wantL p n) i) ∧ wr = w5) (fun _ iv _ => 16 - (intOf iv).toNat)
      case atStart => exact ⟨0, by omega, rfl, rfl, rfl⟩
      case round =>
        obtain ⟨i, hi, rfl, rfl, rfl⟩ := hrel
        have hWr : Us2 wr a3 c3 (wantL p n) := Sl.fr HW3.out hf5' fun _ _ f => f
        by_cases hi16 : i < 16
        · have l1 : (i : Int) < 16 := by omega
          have C1 := digit2_any aA LA cA (powL y n) i HLA.out.symm wr HA.out
          have C2 := digit2_any a3 Q1 c3 (wantL p n) i HWL.out wr hWr
          have S1 := ovr_step (powL y n) (wantL p n) i
          have S2 := ovr_same (powL y n) (wantL p n) i
          generalize (powL y n).getD i 0 = da at *
          generalize (wantL p n).getD i 0 = db at *
          have D1 := Lib.hid C1
          have D2 := Lib.hid C2
          by_cases hdd : da = db
          · have HS := Lib.hid (S2 hdd)
            subst hdd
            clear C1 C2 S1 S2 hWr
            go_wp2_with fail
            refine D1.out.mono ?_
            rintro e w6 ⟨rfl, rfl⟩
            go_wp2_with fail
            refine D2.out.mono ?_
            rintro e w6 ⟨rfl, rfl⟩
            go_wp2
            go_roundw
            case rel => exact ⟨i + 1, by omega, by go_num, by rw [HS.out], trivial⟩
            case measure => simp [intOf]; omega
          · have HS := Lib.hid (S1 hdd)
            clear C1 C2 S1 S2 hWr
            go_wp2_with fail
            refine D1.out.mono ?_
            rintro e w6 ⟨rfl, rfl⟩
            go_wp2_with fail
            refine D2.out.mono ?_
            rintro e w6 ⟨rfl, rfl⟩
            go_wp2_with fail
            refine D1.out.mono ?_
            rintro e w6 ⟨rfl, rfl⟩
            go_wp2_with fail
            refine D2.out.mono ?_
            rintro e w6 ⟨rfl, rfl⟩
            go_wp2
            go_roundw
            case rel => exact ⟨i + 1, by omega, by go_num, by rw [HS.out], trivial⟩
            case measure => simp [intOf]; omega
        · have hi0 : i = 16 := by omega
          have HO : ovr (powL y n) (wantL p n) i = ovr (powL y n) (wantL p n) 16 := by rw [hi0]
          have HX := Lib.hid (show rootX p n (b + 1) x = rootX p n b (if ovr (powL (x + 2 ^ b) n) (wantL p n) 16 then x else x + 2 ^ b) from rfl)
          rw [HO]
          have HXY : x + 2 ^ b = y := by rw [HP2.out]; exact HY.out
          have HXY' := Lib.hid HXY
          clear hi0 HO hWr HXY
          generalize hov : ovr (powL y n) (wantL p n) 16 = ov at *
          have HOV := Lib.hid hov
          clear hov
          have mb1 : IntKind.i64.wrap ((b : Int) - 1) = (b : Int) - 1 := IntWalk.i64_in _ (by omega)
          cases ov with
          | true =>
            go_wp2
            go_roundw
            case rel =>
              refine ⟨b, x, by omega, by go_num, rfl, by have := HP2.out; omega, ?_, hf5'⟩
              rw [← HR.out, HX.out, HXY'.out, HOV.out]
              rfl
            case measure => simp [intOf] <;> omega
          | false =>
            go_wp2
            go_roundw
            case rel =>
              refine ⟨b, y, by omega, by go_num, rfl, by have := HP2.out; have := HY.out; omega, ?_, hf5'⟩
              rw [← HR.out, HX.out, HXY'.out, HOV.out]
              rfl
            case measure => simp [intOf] <;> omega
end Go.Proofs.YtaobgaoldfeehaaDoor

/- The document's answer 02 (digest): the walk of primes. -/
namespace Go.Proofs.YtaobgaoldfeehaaDoor
set_option linter.unusedVariables false
set_option linter.unusedSimpArgs false
open Go.RowKit

theorem all_take_succ (f : Nat → Bool) (l : List Nat) (k : Nat) (h : k < l.length) : (l.take (k + 1)).all f = ((l.take k).all f && f (l.getD k 0)) := by
  rw [List.take_succ_eq_append_getElem h, List.all_append]
  simp [List.getD, List.getElem?_eq_getElem h]

set_option maxRecDepth 100000 in
set_option maxHeartbeats 8000000 in
theorem primes_any (w : World) :
    Calls Tryd.prog 51 #[.int .i64 64] w fun e w' => ∃ a c, e = .returned (.slice a 64 c) ∧ Us2 w' a c (primesB 312) ∧ Fr F0 w w' ∧ ∀ g, ablk a = some g → w.heap.size ≤ g := by
  go_enter Tryd.func51, Tryd.ntmps51
  go_wp2_with fail
  go_loopw [3, 4] (fun ov pv wr => ∃ p : Nat, 2 ≤ p ∧ p ≤ 312 ∧ pv = .int .u64 p ∧ (∃ a c, ov = .slice a (primesB p).length c ∧ OwnU2 wr (.slice a (primesB p).length c) (primesB p) ∧ ∀ g, ablk a = some g → w.heap.size ≤ g) ∧ Fr F0 w wr) (fun _ pv _ => 312 - (intOf pv).toNat)
  case atStart => exact ⟨2, by omega, by omega, rfl, ⟨_, _, rfl, World.ownsRow_made w #[] 0 (Nat.zero_le _) (Nat.zero_le _) rfl, fun g e => by cases e; exact Nat.le_refl _⟩, (Fr.refl F0 w).alloc _⟩
  case round =>
    obtain ⟨p, hp2, hp, rfl, ⟨a, c, rfl, hown, hblk⟩, hf⟩ := hrel
    by_cases hlt : p < 312
    · have hfew := primes_few p hp2 hlt
      have hpos := primesB_pos p
      have HST := Lib.hid (primesB_step p hp2)
      obtain ⟨w4, hw4⟩ : ∃ w4, w4 = wr := ⟨_, rfl⟩
      subst hw4
      generalize hL : primesB p = L at *
      have HBK := Lib.hid hblk
      have HU := Lib.hid hown.us.2
      have HO := Lib.hid hown
      clear hblk hown
      have l1 : (L.length : Int) < 64 := by omega
      go_wp2_with fail
      go_loopw [5, 17] (fun bv iv wr => ∃ k : Nat, k ≤ L.length ∧ iv = .int .i64 k ∧ bv = .bool ((L.take k).all fun q => decide (p % q ≠ 0)) ∧ wr = w4) (fun _ iv _ => L.length - (intOf iv).toNat)
      case atStart => exact ⟨0, by omega, rfl, by simp, rfl⟩
      case round =>
        obtain ⟨k, hk, rfl, rfl, rfl⟩ := hrel
        by_cases hkl : k < L.length
        · obtain ⟨b, off, ea, hc⟩ := HU.out.get k hkl
          obtain ⟨hq, hqp⟩ := hpos (L.getD k 0) (by simp [List.getD, List.getElem?_eq_getElem hkl])
          have HS := Lib.hid (all_take_succ (fun q => decide (p % q ≠ 0)) L k hkl)
          generalize L.getD k 0 = q at *
          generalize (L.take k).all (fun q => decide (p % q ≠ 0)) = bv at *
          have lk : (k : Int) < L.length := by omega
          have lq : ¬ (q : Int) = 0 := by omega
          obtain ⟨r, hr⟩ : ∃ r, p % q = r := ⟨_, rfl⟩
          have mr : IntKind.u64.wrap (Int.tmod (p : Int) q) = (r : Int) := by
            rw [Int.tmod_eq_emod_of_nonneg (by omega), ← hr, ← Int.natCast_emod]
            have := Nat.mod_lt p (show q > 0 by omega)
            exact IntWalk.u64_in _ (by omega)
          have HR := Lib.hid hr
          clear hr hpos
          subst ea
          cases bv with
          | true =>
            go_wp2
            go_roundw
            case rel =>
              refine ⟨k + 1, by omega, by go_num, ?_, trivial⟩
              rw [HS.out, Bool.true_and, ← Int.natCast_emod]
              by_cases h0 : p % q = 0 <;> simp [h0] <;> omega
            case measure => simp [intOf] <;> omega
          | false =>
            go_wp2
            go_roundw
            case rel => exact ⟨k + 1, by omega, by go_num, by rw [HS.out]; rfl, trivial⟩
            case measure => simp [intOf] <;> omega
        · have hkL : L.take k = L := List.take_of_length_le (by omega)
          rw [hkL]
          have lk : ¬ (k : Int) < L.length := by omega
          have mp : IntKind.u64.wrap ((p : Int) + 1) = ((p + 1 : Nat) : Int) := by rw [IntWalk.u64_in _ (by omega)]; omega
          obtain ⟨p1, hp1⟩ : ∃ p1, p1 = p + 1 := ⟨_, rfl⟩
          rw [← hp1] at mp
          have HP1 := Lib.hid hp1
          have HLL := Lib.hid hL
          clear hkL hp1 hL hpos
          generalize hall : (L.all fun q => decide (p % q ≠ 0)) = al at *
          have HAL := Lib.hid hall
          clear hall
          cases al with
          | true =>
            go_wp2_with (at_builtin; refine wpList_appU2 rfl _ _ rfl _ L rfl (HO.out.fr ((Fr.refl F0 wr).alloc _) (fun _ _ f => f)) _ _ _ [p] rfl (Us2.of_new wr p) rfl (by simp; omega) ?_; intro a3 c3 w3 ho hg hb)
            go_roundw
            case rel =>
              have e1 := HP1.out
              have hn : primesB p1 = L ++ [p] := by rw [e1, HST.out]; rfl
              refine ⟨p1, by omega, by omega, rfl, ⟨a3, c3, by rw [hn]; simp, by rw [hn]; simpa using ho, fun g hg' => ?_⟩, (hf.alloc _).grown hg fun g e hl => ?_⟩
              · rcases hb g hg' with h | h
                · exact HBK.out g (by rw [← ablk_own]; exact h)
                · have := hf.size; simp only [World.size_alloc] at h; omega
              · have := HBK.out g (by rw [← ablk_own]; exact e)
                omega
            case measure =>
              have e1 := HP1.out
              simp [intOf] <;> omega
          | false =>
            go_wp2
            go_roundw
            case rel =>
              have e1 := HP1.out
              have hn : primesB p1 = L := by rw [e1, HST.out]; rfl
              exact ⟨p1, by omega, by omega, rfl, ⟨a, c, by rw [hn], by rw [hn]; exact HO.out, HBK.out⟩, hf⟩
            case measure =>
              have e1 := HP1.out
              simp [intOf] <;> omega
    · obtain rfl : p = 312 := by omega
      have h64 := primes_312
      have hU := hown.us.2
      have HU := Lib.hid hU
      clear hU hown
      rw [h64]
      go_wp2
      go_ret
      exact ⟨a, c, rfl, HU.out, hf, hblk⟩
end Go.Proofs.YtaobgaoldfeehaaDoor

/- The document's answer 02 (digest): words for the walk of Sum. -/
namespace Go.Proofs.YtaobgaoldfeehaaDoor
set_option linter.unusedVariables false
set_option linter.unusedSimpArgs false
open Go.RowKit

attribute [local go_sem high] wdv_and wdv_or wdv_xor wdv_not wdv_add wdv_shl wdv_shr wdv_to8 wdv_of8

theorem Bs.of_new (w : World) (x : UInt8) : Bs (w.alloc (.cells #[.int .u8 (x.toNat : Int)] 5)) (some ⟨w.heap.size, 0, none⟩) 1 [x] :=
  ⟨rfl, Nat.le_refl _, by unfold maxLen; omega, (fun e => by cases e), fun j u hj => ⟨w.heap.size, 0, rfl, by
    rw [Nat.zero_add, cell_of_row _ _ j _ _ _ (heap_alloc_new w _)]
    match j, hj with
    | 0, hj => simpa [B8] using hj⟩⟩

theorem wpList_build_none {P : Program} {w : World} {ops : Array Oper} {rest : List Oper} {o : Oper} {a : Act} {Q : Exit → Act → World → Prop} (hg : o.guard = none) (t : TypeId) (ho : o.op = .build t #[]) (cells : Array Value)
    (hb : P.built t [] = some cells) (h : wpList P ops Q rest (a.put o.dst (.agg cells)) w) : wpList P ops Q (o :: rest) a w := by
  refine wpList_build hg t #[] ho (by simp [hb]) ?_
  simpa [hb] using h

theorem Tryd.built64 : Tryd.prog.built 91 [] = some (arrW [] 64) := by kernel_rfl
theorem Tryd.built8 : Tryd.prog.built 92 [] = some (arrW [] 8) := by kernel_rfl
theorem Tryd.built32 : Tryd.prog.built 33 [] = some (arrB [] 32) := by kernel_rfl
theorem Tryd.sz8w : (Tryd.prog.info? 92).map (·.size) = some 8 := by kernel_rfl
theorem Tryd.sz32w : (Tryd.prog.info? 33).map (·.size) = some 32 := by kernel_rfl

theorem oneV (l : List Value) (z : Value) (n : Nat) (h : ∀ v ∈ l, v.oneCell' = true) (hz : z.oneCell' = true) : (arrV l z n).all (·.oneCell') = true := oneW _ fun v hv => by
  rcases List.mem_append.1 hv with hv | hv
  · exact h v hv
  · rw [List.eq_of_mem_replicate hv]
    exact hz
theorem oneAW (l : List Wd) (n : Nat) : (arrW l n).all (·.oneCell') = true := oneV _ _ _ (fun v h => by
  simp only [List.mem_map] at h
  obtain ⟨x, _, rfl⟩ := h
  rfl) rfl
theorem oneAB (l : List UInt8) (n : Nat) : (arrB l n).all (·.oneCell') = true := oneV _ _ _ Bs.one rfl

theorem Calls.of_world_2 {P : Program} {f : FuncId} {args : Array Value} {w : World} {R : Ending → World → Prop} (W : World) (h : W = w) (k : Calls P f args W R) : Calls P f args w R := h ▸ k

theorem be8_take (x j : Nat) (h : j < 8) : (be8 x).take (j + 1) = (be8 x).take j ++ [UInt8.ofNat (x / 2 ^ (56 - 8 * j))] := by
  rw [List.take_succ_eq_append_getElem (by rw [be8_length]; exact h)]
  simp [be8]

theorem byte_at (x s : Nat) : ((x : Int) * 8 / 2 ^ s % 256) = (((UInt8.ofNat (8 * x / 2 ^ s)).toNat : Nat) : Int) := by
  show _ = ((8 * x / 2 ^ s % 256 : Nat) : Int)
  rw [Int.natCast_emod, Int.natCast_ediv, Int.natCast_pow, Int.natCast_mul, Int.mul_comm]
  rfl

theorem wp_of_world_2 {P : Program} {c : Code} {Q : Exit → Act → World → Prop} {a : Act} {w : World} (W : World) (h : W = w) (k : Code.wp P c Q a W) : Code.wp P c Q a w := h ▸ k

theorem blk_get (m : List UInt8) (k i : Nat) (h : i < 64) : (blk m k).getD i 0 = m.getD (64 * k + i) 0 := by
  simp [blk, List.getD, List.getElem?_take, h]

theorem cell_heap {w w' : World} (h : w'.heap = w.heap) (p : Addr) : w'.cell? p = w.cell? p := by simp [World.cell?, h]

theorem take_succD (l : List Wd) (k : Nat) (h : k < l.length) : l.take (k + 1) = l.take k ++ [l.getD k 0] := by
  rw [List.take_succ_eq_append_getElem h]
  simp [List.getD, List.getElem?_eq_getElem h]

theorem Bs.getD {w : World} {c : Nat} {bs : List UInt8} {b off : Nat} (h : Bs w (some ⟨b, off, none⟩) c bs) (j : Nat) (hj : j < bs.length) : w.cell? ⟨b, off + j, none⟩ = some (.int .u8 ((bs.getD j 0).toNat : Int)) := by
  obtain ⟨b', off', e, hc⟩ := h.at j hj
  cases e
  rw [hc]
  simp [List.getD, List.getElem?_eq_getElem hj]

theorem rowW_set (L : List Wd) (p : Nat) (v : Wd) : ((L.map W32).toArray.setIfInBounds p (.int .u32 (wi v))) = ((L.set p v).map W32).toArray := by
  apply Array.ext'
  simp only [Array.toList_setIfInBounds]
  rw [List.map_set]

theorem arrW_setIn (L : List Wd) (n p : Nat) (v : Wd) (h : L.length = n) : (arrW L n).setIfInBounds p (.int .u32 (wi v)) = arrW (L.set p v) n := by
  rw [arrW_full _ _ h, arrW_full _ _ (by simpa using h), rowW_set]

theorem mix_set (c s : List Wd) (i : Nat) (hi : i < c.length) (hs : s.length = c.length) : (c.take i ++ s.drop i).set i (c.getD i 0) = c.take (i + 1) ++ s.drop (i + 1) := by
  have hl : (c.take i).length = i := by simp; omega
  rw [List.set_append_right _ _ (by omega), hl, Nat.sub_self, List.drop_eq_getElem_cons (by omega), List.set_cons_zero, take_succD c i hi, List.append_assoc]
  rfl

theorem zip_getD (s v : List Wd) (i : Nat) (h : i < s.length) (h' : i < v.length) : (List.zipWith (· + ·) s v).getD i 0 = s.getD i 0 + v.getD i 0 := by
  simp [List.getD, List.getElem?_zipWith, List.getElem?_eq_getElem h, List.getElem?_eq_getElem h']

theorem bytesOf_get : ∀ (s : List Wd) (j r : Nat), j < s.length → r < 4 → (bytesOf s)[4 * j + r]? = some (lo8 (s.getD j 0 >>> (24 - 8 * r)))
  | [], j, r, h, _ => by simp at h
  | x :: s, 0, r, _, hr => by
    have e : bytesOf (x :: s) = [lo8 (x >>> 24), lo8 (x >>> 16), lo8 (x >>> 8), lo8 x] ++ bytesOf s := rfl
    rw [e, List.getElem?_append_left (by simp; omega)]
    match r, hr with
    | 0, _ => rfl
    | 1, _ => rfl
    | 2, _ => rfl
    | 3, _ => simp
  | x :: s, j + 1, r, h, hr => by
    have e : bytesOf (x :: s) = [lo8 (x >>> 24), lo8 (x >>> 16), lo8 (x >>> 8), lo8 x] ++ bytesOf s := rfl
    rw [e, List.getElem?_append_right (by simp; omega)]
    have := bytesOf_get s j r (by simpa using h) hr
    rw [← show 4 * (j + 1) + r - [lo8 (x >>> 24), lo8 (x >>> 16), lo8 (x >>> 8), lo8 x].length = 4 * j + r by simp; omega] at this
    rw [this]
    simp [List.getD]

theorem take_succB (l : List UInt8) (k : Nat) (x : UInt8) (h : l[k]? = some x) : l.take (k + 1) = l.take k ++ [x] := by
  obtain ⟨hk, e⟩ := List.getElem?_eq_some_iff.1 h
  rw [List.take_succ_eq_append_getElem hk, e]


end Go.Proofs.YtaobgaoldfeehaaDoor

/- The document's answer 02 (digest): a statement of Sum's innermost round. -/
namespace Go.Proofs.YtaobgaoldfeehaaDoor
set_option linter.unusedVariables false
set_option linter.unusedSimpArgs false
open Go.RowKit

attribute [local go_sem high] wdv_and wdv_or wdv_xor wdv_not wdv_add wdv_shl wdv_shr wdv_to8 wdv_of8

set_option maxRecDepth 100000 in
set_option maxHeartbeats 16000000 in
theorem reg26 {s0 s1 s2 s3 s4 s5 s6 s8 s11 s13 s14 s15 s16 s17 s18 s19 s20 s21 s22 s23 s24 s25 s26 s27 s28 s29 s30 s31 s32 s33 s34 s35 s36 s37 s38 s39 s40 s41 s42 s43 s44 s45 s46 s47 s48 s49 s50 s51 s52 s53 s54 s55 s56 s57 s58 s59 s60 s61 s62 s63 s64 s65 s66 s67 s68 s69 s70 s71 s72 s73 s74 s75 s76 s77 s78 s79 s80 s81 s82 s83 s84 s85 s86 s87 s88 s89 s90 s91 s92 s93 s94 s95 s96 s97 s98 s99 s100 s101 s102 s103 s104 s105 s106 s107 s108 s109 s110 s111 s112 s113 s114 s115 s116 s117 s118 s119 s120 s121 s122 s123 s124 s125 s126 s127 s128 s129 s130 s131 s132 s133 s134 s135 s136 s137 s138 s139 s140 s141 s142 s143 s144 s145 s146 s147 s148 s149 s150 s151 s152 s153 s154 s155 s156 s157 s158 s159 s160 s161 s162 s163 s164 s165 s166 s167 s168 s169 s170 s171 s172 s173 s174 s175 s176 s177 s178 s179 s180 s181 s182 s183 s184 s185 s186 s187 s188 s189 s190 s191 s192 s193 s194 s195 s196 s197 s198 s199 s200 s201 s202 s203 s204 s205 s206 s207 s208 s209 s210 s211 s212 s213 s214 s215 s216 s217 s218 s219 s220 s221 s222 s223 s224 s225 s226 s227 s228 s229 s230 s231 s232 s233 s234 s235 s236 s237 s238 s239 s240 s241 s242 s243 s244 s245 s246 s247 s248 s249 s250 s251 s252 s253 s254 s255 s256 s257 s258 s259 s260 s261 s262 s263 s264 s265 s266 s267 s268 s269 s270 s271 s272 s273 s274 s275 s276 s277 s278 s279 s280 s281 s282 s283 : Value} {K : Act → World → Prop} {Q : Exit → Act → World → Prop} (wr : World) (Wb t b8 off8 L c8 p q0 r0 r1 r2 r3 : Nat) (x0 x1 x2 x3 : UInt8) (lt64 : (t : Int) < 64) (hneW : b8 ≠ Wb) (m0 : IntKind.i64.wrap (4 * (t : Int)) = (q0 : Int)) (m1 : IntKind.i64.wrap ((p : Int) + (q0 : Int)) = (r0 : Int)) (m2 : IntKind.i64.wrap ((r0 : Int) + 1) = (r1 : Int)) (m3 : IntKind.i64.wrap ((r0 : Int) + 2) = (r2 : Int)) (m4 : IntKind.i64.wrap ((r0 : Int) + 3) = (r3 : Int)) (n0 : (r0 : Int) < (L : Int)) (n1 : (r1 : Int) < (L : Int)) (n2 : (r2 : Int) < (L : Int)) (n3 : (r3 : Int) < (L : Int)) (k0 : wr.drew.cell? ⟨Wb, t, none⟩ = some (.int .u32 0)) (z0 : wr.drew.frozen? ⟨Wb, t, none⟩ = false) (c0 : wr.drew.cell? ⟨b8, off8 + r0, none⟩ = some (.int .u8 (x0.toNat : Int))) (c1 : wr.drew.cell? ⟨b8, off8 + r1, none⟩ = some (.int .u8 (x1.toNat : Int))) (c2 : wr.drew.cell? ⟨b8, off8 + r2, none⟩ = some (.int .u8 (x2.toNat : Int))) (c3 : wr.drew.cell? ⟨b8, off8 + r3, none⟩ = some (.int .u8 (x3.toNat : Int)))
    (hK : RowKit.Hid (∀ {u79 u80 u81 u82 u83 u84 u85 u86 u87 u88 u89 u90 u91 u92 u93 u94 u95 u96 u97 u98 u99 u100 u101 u102 u103 u104 u105 u106 u107 u108 u109 u110 u111 u112 u113 u114 u115 u116 u117 u118 u119 u120 u121 : Value} {w' : World}, (w'.heap = (wr.setCell ⟨Wb, t, none⟩ (.int .u32 (wi (w8 x0 <<< 24 ||| w8 x1 <<< 16 ||| w8 x2 <<< 8 ||| w8 x3)))).heap ∧ Fr F0 (wr.setCell ⟨Wb, t, none⟩ (.int .u32 (wi (w8 x0 <<< 24 ||| w8 x1 <<< 16 ||| w8 x2 <<< 8 ||| w8 x3)))) w') → K ⟨#[s0, s1, s2, s3, s4, s5, s6, .slice (some ⟨b8, off8, none⟩) L c8, s8, .int .i64 p, .pointer (some ⟨Wb, 0, none⟩), s11, .int .i64 t, s13, s14, s15, s16, s17, s18, s19, s20, s21, s22, s23, s24, s25, s26, s27, s28, s29, s30, s31, s32, s33, s34, s35, s36, s37, s38, s39, s40, s41, s42, s43, s44, s45, s46, s47, s48, s49, s50, s51, s52, s53, s54, s55, s56, s57, s58, s59, s60, s61, s62, s63, s64, s65, s66, s67, s68, s69, s70, s71, s72, s73, s74, s75, s76, s77, s78, u79, u80, u81, u82, u83, u84, u85, u86, u87, u88, u89, u90, u91, u92, u93, u94, u95, u96, u97, u98, u99, u100, u101, u102, u103, u104, u105, u106, u107, u108, u109, u110, u111, u112, u113, u114, u115, u116, u117, u118, u119, u120, u121, s122, s123, s124, s125, s126, s127, s128, s129, s130, s131, s132, s133, s134, s135, s136, s137, s138, s139, s140, s141, s142, s143, s144, s145, s146, s147, s148, s149, s150, s151, s152, s153, s154, s155, s156, s157, s158, s159, s160, s161, s162, s163, s164, s165, s166, s167, s168, s169, s170, s171, s172, s173, s174, s175, s176, s177, s178, s179, s180, s181, s182, s183, s184, s185, s186, s187, s188, s189, s190, s191, s192, s193, s194, s195, s196, s197, s198, s199, s200, s201, s202, s203, s204, s205, s206, s207, s208, s209, s210, s211, s212, s213, s214, s215, s216, s217, s218, s219, s220, s221, s222, s223, s224, s225, s226, s227, s228, s229, s230, s231, s232, s233, s234, s235, s236, s237, s238, s239, s240, s241, s242, s243, s244, s245, s246, s247, s248, s249, s250, s251, s252, s253, s254, s255, s256, s257, s258, s259, s260, s261, s262, s263, s264, s265, s266, s267, s268, s269, s270, s271, s272, s273, s274, s275, s276, s277, s278, s279, s280, s281, s282, s283], []⟩ w')) :
    Code.wp Tryd.prog ((Tryd.f26.body.bind (findRegion 26)).getD .skip) (Exit.then K Q) ⟨#[s0, s1, s2, s3, s4, s5, s6, .slice (some ⟨b8, off8, none⟩) L c8, s8, .int .i64 p, .pointer (some ⟨Wb, 0, none⟩), s11, .int .i64 t, s13, s14, s15, s16, s17, s18, s19, s20, s21, s22, s23, s24, s25, s26, s27, s28, s29, s30, s31, s32, s33, s34, s35, s36, s37, s38, s39, s40, s41, s42, s43, s44, s45, s46, s47, s48, s49, s50, s51, s52, s53, s54, s55, s56, s57, s58, s59, s60, s61, s62, s63, s64, s65, s66, s67, s68, s69, s70, s71, s72, s73, s74, s75, s76, s77, s78, s79, s80, s81, s82, s83, s84, s85, s86, s87, s88, s89, s90, s91, s92, s93, s94, s95, s96, s97, s98, s99, s100, s101, s102, s103, s104, s105, s106, s107, s108, s109, s110, s111, s112, s113, s114, s115, s116, s117, s118, s119, s120, s121, s122, s123, s124, s125, s126, s127, s128, s129, s130, s131, s132, s133, s134, s135, s136, s137, s138, s139, s140, s141, s142, s143, s144, s145, s146, s147, s148, s149, s150, s151, s152, s153, s154, s155, s156, s157, s158, s159, s160, s161, s162, s163, s164, s165, s166, s167, s168, s169, s170, s171, s172, s173, s174, s175, s176, s177, s178, s179, s180, s181, s182, s183, s184, s185, s186, s187, s188, s189, s190, s191, s192, s193, s194, s195, s196, s197, s198, s199, s200, s201, s202, s203, s204, s205, s206, s207, s208, s209, s210, s211, s212, s213, s214, s215, s216, s217, s218, s219, s220, s221, s222, s223, s224, s225, s226, s227, s228, s229, s230, s231, s232, s233, s234, s235, s236, s237, s238, s239, s240, s241, s242, s243, s244, s245, s246, s247, s248, s249, s250, s251, s252, s253, s254, s255, s256, s257, s258, s259, s260, s261, s262, s263, s264, s265, s266, s267, s268, s269, s270, s271, s272, s273, s274, s275, s276, s277, s278, s279, s280, s281, s282, s283], []⟩ wr := by
  conv => arg 2; whnf
  refine wp_region_noPanic ?_
  refine wp_region_held_drew (S := (fun w' => w'.cell? ⟨b8, off8 + r0, none⟩ = some (.int .u8 (x0.toNat : Int)) ∧ w'.cell? ⟨b8, off8 + r1, none⟩ = some (.int .u8 (x1.toNat : Int)) ∧ w'.cell? ⟨b8, off8 + r2, none⟩ = some (.int .u8 (x2.toNat : Int)) ∧ w'.cell? ⟨b8, off8 + r3, none⟩ = some (.int .u8 (x3.toNat : Int)))) (by kernel_rfl) ?_ (fun hHeld => ?_)
  · ((try dsimp only) <;> (first | exact ⟨c0, c1, c2, c3⟩ | (refine ⟨?_, ?_, ?_, ?_⟩ <;> rw [cell_drew, cell_setCell_ne _ _ _ _ hneW] <;> assumption)))
  refine rtake 0 ?_
  refine rtake 1 ?_
  refine rtake 2 ?_
  refine rtake 3 ?_
  refine rtake 4 ?_
  refine rtake 5 ?_
  refine rtake 6 ?_
  refine rtake 7 ?_
  refine rtake 8 ?_
  refine rtake 9 ?_
  refine rtake 10 ?_
  refine rtake 11 ?_
  refine rtake 12 ?_
  refine rtake 13 ?_
  refine rtake 14 ?_
  refine rtake 15 ?_
  refine rtake 16 ?_
  refine rtake 17 ?_
  refine rtake 18 ?_
  refine rtake 19 ?_
  refine rtake 20 ?_
  refine rtake 21 ?_
  refine rtake 22 ?_
  refine rtake 23 ?_
  refine rtake 24 ?_
  refine rtake 25 ?_
  refine rtake 26 ?_
  refine rtake 27 ?_
  refine rtake 28 ?_
  refine rtake 29 ?_
  refine rtake 30 ?_
  refine rtake 31 ?_
  refine rtake 32 ?_
  refine rtake 33 ?_
  refine rtake 34 ?_
  refine rtake 35 ?_
  refine rtake 36 ?_
  refine rtake 37 ?_
  refine rtake 38 ?_
  refine rtake 39 ?_
  refine rtake 40 ?_
  refine rtake 41 ?_
  refine rtake 42 ?_
  refine wpAnyH_ready (rs := [43]) (by kernel_rfl) (by simp) ?_
  refine AllReadyH.cons (o := ⟨_, _, _, _, _, _⟩) rfl (fun K hK => ?_) AllReadyH.nil
  go_simp
  refine hK.out _ _ ?_ (fun hHeld => ?_)
  · ((try dsimp only) <;> (first | exact ⟨c0, c1, c2, c3⟩ | (refine ⟨?_, ?_, ?_, ?_⟩ <;> rw [cell_drew, cell_setCell_ne _ _ _ _ hneW] <;> assumption)))
  clear hK K
  try (simp only [Act.put, List.setIfInBounds_toArray]; dsimp only [List.set_cons_zero, List.set_cons_succ])
  refine wpAnyH_done (by kernel_rfl) ?_ _
  refine NoPanic.normal ?_
  all_goals exact hK.out ⟨by simp only [heap_drew], (Fr.refl F0 _).drew⟩
end Go.Proofs.YtaobgaoldfeehaaDoor

/- The document's answer 02 (digest): a statement of Sum's innermost round. -/
namespace Go.Proofs.YtaobgaoldfeehaaDoor
set_option linter.unusedVariables false
set_option linter.unusedSimpArgs false
open Go.RowKit

attribute [local go_sem high] wdv_and wdv_or wdv_xor wdv_not wdv_add wdv_shl wdv_shr wdv_to8 wdv_of8

set_option maxRecDepth 100000 in
set_option maxHeartbeats 16000000 in
theorem reg27 {s0 s1 s2 s3 s4 s5 s6 s7 s8 s9 s11 s13 s14 s15 s16 s17 s18 s19 s20 s21 s22 s23 s24 s25 s26 s27 s28 s29 s30 s31 s32 s33 s34 s35 s36 s37 s38 s39 s40 s41 s42 s43 s44 s45 s46 s47 s48 s49 s50 s51 s52 s53 s54 s55 s56 s57 s58 s59 s60 s61 s62 s63 s64 s65 s66 s67 s68 s69 s70 s71 s72 s73 s74 s75 s76 s77 s78 s79 s80 s81 s82 s83 s84 s85 s86 s87 s88 s89 s90 s91 s92 s93 s94 s95 s96 s97 s98 s99 s100 s101 s102 s103 s104 s105 s106 s107 s108 s109 s110 s111 s112 s113 s114 s115 s116 s117 s118 s119 s120 s121 s122 s123 s124 s125 s126 s127 s128 s129 s130 s131 s132 s133 s134 s135 s136 s137 s138 s139 s140 s141 s142 s143 s144 s145 s146 s147 s148 s149 s150 s151 s152 s153 s154 s155 s156 s157 s158 s159 s160 s161 s162 s163 s164 s165 s166 s167 s168 s169 s170 s171 s172 s173 s174 s175 s176 s177 s178 s179 s180 s181 s182 s183 s184 s185 s186 s187 s188 s189 s190 s191 s192 s193 s194 s195 s196 s197 s198 s199 s200 s201 s202 s203 s204 s205 s206 s207 s208 s209 s210 s211 s212 s213 s214 s215 s216 s217 s218 s219 s220 s221 s222 s223 s224 s225 s226 s227 s228 s229 s230 s231 s232 s233 s234 s235 s236 s237 s238 s239 s240 s241 s242 s243 s244 s245 s246 s247 s248 s249 s250 s251 s252 s253 s254 s255 s256 s257 s258 s259 s260 s261 s262 s263 s264 s265 s266 s267 s268 s269 s270 s271 s272 s273 s274 s275 s276 s277 s278 s279 s280 s281 s282 s283 : Value} {K : Act → World → Prop} {Q : Exit → Act → World → Prop} (wr : World) (Wb t q2 q7 q15 q16 : Nat) (x2 x7 x15 x16 : Wd) (lt64 : (t : Int) < 64) (m2 : IntKind.i64.wrap ((t : Int) - 2) = (q2 : Int)) (m7 : IntKind.i64.wrap ((t : Int) - 7) = (q7 : Int)) (m15 : IntKind.i64.wrap ((t : Int) - 15) = (q15 : Int)) (m16 : IntKind.i64.wrap ((t : Int) - 16) = (q16 : Int)) (o2 : (q2 : Int) < 64) (o7 : (q7 : Int) < 64) (o15 : (q15 : Int) < 64) (o16 : (q16 : Int) < 64) (n2 : q2 ≠ t) (n7 : q7 ≠ t) (n15 : q15 ≠ t) (n16 : q16 ≠ t) (k0 : wr.drew.cell? ⟨Wb, t, none⟩ = some (.int .u32 0)) (z0 : wr.drew.frozen? ⟨Wb, t, none⟩ = false) (d2 : wr.drew.cell? ⟨Wb, q2, none⟩ = some (.int .u32 (wi x2))) (d7 : wr.drew.cell? ⟨Wb, q7, none⟩ = some (.int .u32 (wi x7))) (d15 : wr.drew.cell? ⟨Wb, q15, none⟩ = some (.int .u32 (wi x15))) (d16 : wr.drew.cell? ⟨Wb, q16, none⟩ = some (.int .u32 (wi x16)))
    (hK : RowKit.Hid (∀ {u122 u123 u124 u125 u126 u127 u128 u129 u130 u131 u132 u133 u134 u135 u136 u137 u138 u139 u140 u141 u142 u143 u144 u145 u146 u147 u148 u149 u150 u151 u152 u153 u154 u155 u156 u157 u158 u159 u160 u161 u162 u163 u164 u165 u166 u167 u168 : Value} {w' : World}, (w'.heap = (wr.setCell ⟨Wb, t, none⟩ (.int .u32 (wi ((rotr x2 17 ^^^ rotr x2 19 ^^^ x2 >>> 10) + x7 + (rotr x15 7 ^^^ rotr x15 18 ^^^ x15 >>> 3) + x16)))).heap ∧ Fr F0 (wr.setCell ⟨Wb, t, none⟩ (.int .u32 (wi ((rotr x2 17 ^^^ rotr x2 19 ^^^ x2 >>> 10) + x7 + (rotr x15 7 ^^^ rotr x15 18 ^^^ x15 >>> 3) + x16)))) w') → K ⟨#[s0, s1, s2, s3, s4, s5, s6, s7, s8, s9, .pointer (some ⟨Wb, 0, none⟩), s11, .int .i64 t, s13, s14, s15, s16, s17, s18, s19, s20, s21, s22, s23, s24, s25, s26, s27, s28, s29, s30, s31, s32, s33, s34, s35, s36, s37, s38, s39, s40, s41, s42, s43, s44, s45, s46, s47, s48, s49, s50, s51, s52, s53, s54, s55, s56, s57, s58, s59, s60, s61, s62, s63, s64, s65, s66, s67, s68, s69, s70, s71, s72, s73, s74, s75, s76, s77, s78, s79, s80, s81, s82, s83, s84, s85, s86, s87, s88, s89, s90, s91, s92, s93, s94, s95, s96, s97, s98, s99, s100, s101, s102, s103, s104, s105, s106, s107, s108, s109, s110, s111, s112, s113, s114, s115, s116, s117, s118, s119, s120, s121, u122, u123, u124, u125, u126, u127, u128, u129, u130, u131, u132, u133, u134, u135, u136, u137, u138, u139, u140, u141, u142, u143, u144, u145, u146, u147, u148, u149, u150, u151, u152, u153, u154, u155, u156, u157, u158, u159, u160, u161, u162, u163, u164, u165, u166, u167, u168, s169, s170, s171, s172, s173, s174, s175, s176, s177, s178, s179, s180, s181, s182, s183, s184, s185, s186, s187, s188, s189, s190, s191, s192, s193, s194, s195, s196, s197, s198, s199, s200, s201, s202, s203, s204, s205, s206, s207, s208, s209, s210, s211, s212, s213, s214, s215, s216, s217, s218, s219, s220, s221, s222, s223, s224, s225, s226, s227, s228, s229, s230, s231, s232, s233, s234, s235, s236, s237, s238, s239, s240, s241, s242, s243, s244, s245, s246, s247, s248, s249, s250, s251, s252, s253, s254, s255, s256, s257, s258, s259, s260, s261, s262, s263, s264, s265, s266, s267, s268, s269, s270, s271, s272, s273, s274, s275, s276, s277, s278, s279, s280, s281, s282, s283], []⟩ w')) :
    Code.wp Tryd.prog ((Tryd.f26.body.bind (findRegion 27)).getD .skip) (Exit.then K Q) ⟨#[s0, s1, s2, s3, s4, s5, s6, s7, s8, s9, .pointer (some ⟨Wb, 0, none⟩), s11, .int .i64 t, s13, s14, s15, s16, s17, s18, s19, s20, s21, s22, s23, s24, s25, s26, s27, s28, s29, s30, s31, s32, s33, s34, s35, s36, s37, s38, s39, s40, s41, s42, s43, s44, s45, s46, s47, s48, s49, s50, s51, s52, s53, s54, s55, s56, s57, s58, s59, s60, s61, s62, s63, s64, s65, s66, s67, s68, s69, s70, s71, s72, s73, s74, s75, s76, s77, s78, s79, s80, s81, s82, s83, s84, s85, s86, s87, s88, s89, s90, s91, s92, s93, s94, s95, s96, s97, s98, s99, s100, s101, s102, s103, s104, s105, s106, s107, s108, s109, s110, s111, s112, s113, s114, s115, s116, s117, s118, s119, s120, s121, s122, s123, s124, s125, s126, s127, s128, s129, s130, s131, s132, s133, s134, s135, s136, s137, s138, s139, s140, s141, s142, s143, s144, s145, s146, s147, s148, s149, s150, s151, s152, s153, s154, s155, s156, s157, s158, s159, s160, s161, s162, s163, s164, s165, s166, s167, s168, s169, s170, s171, s172, s173, s174, s175, s176, s177, s178, s179, s180, s181, s182, s183, s184, s185, s186, s187, s188, s189, s190, s191, s192, s193, s194, s195, s196, s197, s198, s199, s200, s201, s202, s203, s204, s205, s206, s207, s208, s209, s210, s211, s212, s213, s214, s215, s216, s217, s218, s219, s220, s221, s222, s223, s224, s225, s226, s227, s228, s229, s230, s231, s232, s233, s234, s235, s236, s237, s238, s239, s240, s241, s242, s243, s244, s245, s246, s247, s248, s249, s250, s251, s252, s253, s254, s255, s256, s257, s258, s259, s260, s261, s262, s263, s264, s265, s266, s267, s268, s269, s270, s271, s272, s273, s274, s275, s276, s277, s278, s279, s280, s281, s282, s283], []⟩ wr := by
  conv => arg 2; whnf
  refine wp_region_noPanic ?_
  refine wp_region_held_drew (S := (fun w' => w'.cell? ⟨Wb, q2, none⟩ = some (.int .u32 (wi x2)) ∧ w'.cell? ⟨Wb, q7, none⟩ = some (.int .u32 (wi x7)) ∧ w'.cell? ⟨Wb, q15, none⟩ = some (.int .u32 (wi x15)) ∧ w'.cell? ⟨Wb, q16, none⟩ = some (.int .u32 (wi x16)))) (by kernel_rfl) ?_ (fun hHeld => ?_)
  · ((try dsimp only) <;> (first | exact ⟨d2, d7, d15, d16⟩ | (refine ⟨?_, ?_, ?_, ?_⟩ <;> (simp only [cell_drew]; rw [cell_set_off _ _ _ _ _ (by assumption)]; assumption))))
  refine rtake 0 ?_
  refine rtake 1 ?_
  refine rtake 2 ?_
  refine rtake 3 ?_
  refine rtake 4 ?_
  refine rtake 6 ?_
  refine rtake 7 ?_
  refine rtake 8 ?_
  refine rtake 9 ?_
  refine rtake 12 ?_
  refine rtake 13 ?_
  refine rtake 14 ?_
  refine rtake 15 ?_
  refine rtake 16 ?_
  refine rtake 18 ?_
  refine rtake 19 ?_
  refine rtake 20 ?_
  refine rtake 21 ?_
  refine rtake 23 ?_
  refine rtake 24 ?_
  refine rtake 25 ?_
  refine rtake 26 ?_
  refine rtake 28 ?_
  refine rtake 29 ?_
  refine rtake 30 ?_
  refine rtake 31 ?_
  refine rtake 34 ?_
  refine rtake 35 ?_
  refine rtake 36 ?_
  refine rtake 37 ?_
  refine rtake 38 ?_
  refine rtake 41 ?_
  refine rtake 42 ?_
  refine rtake 43 ?_
  refine rtake 44 ?_
  refine wpAnyH_ready (rs := [5]) (by kernel_rfl) (by simp) ?_
  refine AllReadyH.cons (o := ⟨_, _, _, _, _, _⟩) rfl (fun K hK => ?_) AllReadyH.nil
  go_simp
  (refine (r2turn_any x2 17 _ (by omega) (by omega)).mono ?_; rintro e w5 ⟨rfl, rfl⟩)
  refine hK.out _ _ ?_ (fun hHeld => ?_)
  · ((try dsimp only) <;> (first | exact ⟨d2, d7, d15, d16⟩ | (refine ⟨?_, ?_, ?_, ?_⟩ <;> (simp only [cell_drew]; rw [cell_set_off _ _ _ _ _ (by assumption)]; assumption))))
  clear hK K
  try (simp only [Act.put, List.setIfInBounds_toArray]; dsimp only [List.set_cons_zero, List.set_cons_succ])
  refine wpAnyH_ready (rs := [10]) (by kernel_rfl) (by simp) ?_
  refine AllReadyH.cons (o := ⟨_, _, _, _, _, _⟩) rfl (fun K hK => ?_) AllReadyH.nil
  go_simp
  (refine (r2turn_any x2 19 _ (by omega) (by omega)).mono ?_; rintro e w5 ⟨rfl, rfl⟩)
  refine hK.out _ _ ?_ (fun hHeld => ?_)
  · ((try dsimp only) <;> (first | exact ⟨d2, d7, d15, d16⟩ | (refine ⟨?_, ?_, ?_, ?_⟩ <;> (simp only [cell_drew]; rw [cell_set_off _ _ _ _ _ (by assumption)]; assumption))))
  clear hK K
  try (simp only [Act.put, List.setIfInBounds_toArray]; dsimp only [List.set_cons_zero, List.set_cons_succ])
  refine rtake 11 ?_
  refine rtake 17 ?_
  refine rtake 22 ?_
  refine wpAnyH_ready (rs := [27]) (by kernel_rfl) (by simp) ?_
  refine AllReadyH.cons (o := ⟨_, _, _, _, _, _⟩) rfl (fun K hK => ?_) AllReadyH.nil
  go_simp
  (refine (r2turn_any x15 7 _ (by omega) (by omega)).mono ?_; rintro e w5 ⟨rfl, rfl⟩)
  refine hK.out _ _ ?_ (fun hHeld => ?_)
  · ((try dsimp only) <;> (first | exact ⟨d2, d7, d15, d16⟩ | (refine ⟨?_, ?_, ?_, ?_⟩ <;> (simp only [cell_drew]; rw [cell_set_off _ _ _ _ _ (by assumption)]; assumption))))
  clear hK K
  try (simp only [Act.put, List.setIfInBounds_toArray]; dsimp only [List.set_cons_zero, List.set_cons_succ])
  refine wpAnyH_ready (rs := [32]) (by kernel_rfl) (by simp) ?_
  refine AllReadyH.cons (o := ⟨_, _, _, _, _, _⟩) rfl (fun K hK => ?_) AllReadyH.nil
  go_simp
  (refine (r2turn_any x15 18 _ (by omega) (by omega)).mono ?_; rintro e w5 ⟨rfl, rfl⟩)
  refine hK.out _ _ ?_ (fun hHeld => ?_)
  · ((try dsimp only) <;> (first | exact ⟨d2, d7, d15, d16⟩ | (refine ⟨?_, ?_, ?_, ?_⟩ <;> (simp only [cell_drew]; rw [cell_set_off _ _ _ _ _ (by assumption)]; assumption))))
  clear hK K
  try (simp only [Act.put, List.setIfInBounds_toArray]; dsimp only [List.set_cons_zero, List.set_cons_succ])
  refine rtake 33 ?_
  refine rtake 39 ?_
  refine rtake 40 ?_
  refine rtake 45 ?_
  refine rtake 46 ?_
  refine wpAnyH_ready (rs := [47]) (by kernel_rfl) (by simp) ?_
  refine AllReadyH.cons (o := ⟨_, _, _, _, _, _⟩) rfl (fun K hK => ?_) AllReadyH.nil
  go_simp
  refine hK.out _ _ ?_ (fun hHeld => ?_)
  · ((try dsimp only) <;> (first | exact ⟨d2, d7, d15, d16⟩ | (refine ⟨?_, ?_, ?_, ?_⟩ <;> (simp only [cell_drew]; rw [cell_set_off _ _ _ _ _ (by assumption)]; assumption))))
  clear hK K
  try (simp only [Act.put, List.setIfInBounds_toArray]; dsimp only [List.set_cons_zero, List.set_cons_succ])
  refine wpAnyH_done (by kernel_rfl) ?_ _
  refine NoPanic.normal ?_
  all_goals exact hK.out ⟨by simp only [heap_drew], (Fr.refl F0 _).drew.drew.drew.drew.drew⟩
end Go.Proofs.YtaobgaoldfeehaaDoor

/- The document's answer 02 (digest): two statements of Sum's innermost round. -/
namespace Go.Proofs.YtaobgaoldfeehaaDoor
set_option linter.unusedVariables false
set_option linter.unusedSimpArgs false
open Go.RowKit

attribute [local go_sem high] wdv_and wdv_or wdv_xor wdv_not wdv_add wdv_shl wdv_shr wdv_to8 wdv_of8

set_option maxRecDepth 100000 in
set_option maxHeartbeats 16000000 in
theorem reg28 {s0 s1 s2 s4 s5 s6 s7 s8 s9 s13 s14 s15 s16 s17 s18 s19 s20 s21 s22 s23 s24 s25 s26 s27 s28 s29 s30 s31 s32 s33 s34 s35 s36 s37 s38 s39 s40 s41 s42 s43 s44 s45 s46 s47 s48 s49 s50 s51 s52 s53 s54 s55 s56 s57 s58 s59 s60 s61 s62 s63 s64 s65 s66 s67 s68 s69 s70 s71 s72 s73 s74 s75 s76 s77 s78 s79 s80 s81 s82 s83 s84 s85 s86 s87 s88 s89 s90 s91 s92 s93 s94 s95 s96 s97 s98 s99 s100 s101 s102 s103 s104 s105 s106 s107 s108 s109 s110 s111 s112 s113 s114 s115 s116 s117 s118 s119 s120 s121 s122 s123 s124 s125 s126 s127 s128 s129 s130 s131 s132 s133 s134 s135 s136 s137 s138 s139 s140 s141 s142 s143 s144 s145 s146 s147 s148 s149 s150 s151 s152 s153 s154 s155 s156 s157 s158 s159 s160 s161 s162 s163 s164 s165 s166 s167 s168 s169 s170 s171 s172 s173 s174 s175 s176 s177 s178 s179 s180 s181 s182 s183 s184 s185 s186 s187 s188 s189 s190 s191 s192 s193 s194 s195 s196 s197 s198 s199 s200 s201 s202 s203 s204 s205 s206 s207 s208 s209 s210 s211 s212 s213 s214 s215 s216 s217 s218 s219 s220 s221 s222 s223 s224 s225 s226 s227 s228 s229 s230 s231 s232 s233 s234 s235 s236 s237 s238 s239 s240 s241 s242 s243 s244 s245 s246 s247 s248 s249 s250 s251 s252 s253 s254 s255 s256 s257 s258 s259 s260 s261 s262 s263 s264 s265 s266 s267 s268 s269 s270 s271 s272 s273 s274 s275 s276 s277 s278 s279 s280 s281 s282 s283 : Value} {K : Act → World → Prop} {Q : Exit → Act → World → Prop} (wo : World) (Kb Wb Vb t : Nat) (xe xf xg xh kq x : Wd) (lt64 : (t : Int) < 64) (d4 : wo.cell? ⟨Vb, 4, none⟩ = some (.int .u32 (wi xe))) (d5 : wo.cell? ⟨Vb, 5, none⟩ = some (.int .u32 (wi xf))) (d6 : wo.cell? ⟨Vb, 6, none⟩ = some (.int .u32 (wi xg))) (d7 : wo.cell? ⟨Vb, 7, none⟩ = some (.int .u32 (wi xh))) (dk : wo.cell? ⟨Kb, t, none⟩ = some (.int .u32 (wi kq))) (dw : wo.cell? ⟨Wb, t, none⟩ = some (.int .u32 (wi x)))
    (hK : RowKit.Hid (∀ {u13 u169 u170 u171 u172 u173 u174 u175 u176 u177 u178 u179 u180 u181 u182 u183 u184 u185 u186 u187 u188 u189 u190 u191 u192 u193 u194 u195 u196 u197 u198 u199 u200 u201 u202 u203 : Value} {w' : World}, (u13 = .int .u32 (wi (xh + (rotr xe 6 ^^^ rotr xe 11 ^^^ rotr xe 25) + (xe &&& xf ^^^ ~~~ xe &&& xg) + kq + x)) ∧ w'.heap = wo.heap ∧ Fr F0 wo w') → K ⟨#[s0, s1, s2, .pointer (some ⟨Kb, 0, none⟩), s4, s5, s6, s7, s8, s9, .pointer (some ⟨Wb, 0, none⟩), .pointer (some ⟨Vb, 0, none⟩), .int .i64 t, u13, s14, s15, s16, s17, s18, s19, s20, s21, s22, s23, s24, s25, s26, s27, s28, s29, s30, s31, s32, s33, s34, s35, s36, s37, s38, s39, s40, s41, s42, s43, s44, s45, s46, s47, s48, s49, s50, s51, s52, s53, s54, s55, s56, s57, s58, s59, s60, s61, s62, s63, s64, s65, s66, s67, s68, s69, s70, s71, s72, s73, s74, s75, s76, s77, s78, s79, s80, s81, s82, s83, s84, s85, s86, s87, s88, s89, s90, s91, s92, s93, s94, s95, s96, s97, s98, s99, s100, s101, s102, s103, s104, s105, s106, s107, s108, s109, s110, s111, s112, s113, s114, s115, s116, s117, s118, s119, s120, s121, s122, s123, s124, s125, s126, s127, s128, s129, s130, s131, s132, s133, s134, s135, s136, s137, s138, s139, s140, s141, s142, s143, s144, s145, s146, s147, s148, s149, s150, s151, s152, s153, s154, s155, s156, s157, s158, s159, s160, s161, s162, s163, s164, s165, s166, s167, s168, u169, u170, u171, u172, u173, u174, u175, u176, u177, u178, u179, u180, u181, u182, u183, u184, u185, u186, u187, u188, u189, u190, u191, u192, u193, u194, u195, u196, u197, u198, u199, u200, u201, u202, u203, s204, s205, s206, s207, s208, s209, s210, s211, s212, s213, s214, s215, s216, s217, s218, s219, s220, s221, s222, s223, s224, s225, s226, s227, s228, s229, s230, s231, s232, s233, s234, s235, s236, s237, s238, s239, s240, s241, s242, s243, s244, s245, s246, s247, s248, s249, s250, s251, s252, s253, s254, s255, s256, s257, s258, s259, s260, s261, s262, s263, s264, s265, s266, s267, s268, s269, s270, s271, s272, s273, s274, s275, s276, s277, s278, s279, s280, s281, s282, s283], []⟩ w')) :
    Code.wp Tryd.prog ((Tryd.f26.body.bind (findRegion 28)).getD .skip) (Exit.then K Q) ⟨#[s0, s1, s2, .pointer (some ⟨Kb, 0, none⟩), s4, s5, s6, s7, s8, s9, .pointer (some ⟨Wb, 0, none⟩), .pointer (some ⟨Vb, 0, none⟩), .int .i64 t, s13, s14, s15, s16, s17, s18, s19, s20, s21, s22, s23, s24, s25, s26, s27, s28, s29, s30, s31, s32, s33, s34, s35, s36, s37, s38, s39, s40, s41, s42, s43, s44, s45, s46, s47, s48, s49, s50, s51, s52, s53, s54, s55, s56, s57, s58, s59, s60, s61, s62, s63, s64, s65, s66, s67, s68, s69, s70, s71, s72, s73, s74, s75, s76, s77, s78, s79, s80, s81, s82, s83, s84, s85, s86, s87, s88, s89, s90, s91, s92, s93, s94, s95, s96, s97, s98, s99, s100, s101, s102, s103, s104, s105, s106, s107, s108, s109, s110, s111, s112, s113, s114, s115, s116, s117, s118, s119, s120, s121, s122, s123, s124, s125, s126, s127, s128, s129, s130, s131, s132, s133, s134, s135, s136, s137, s138, s139, s140, s141, s142, s143, s144, s145, s146, s147, s148, s149, s150, s151, s152, s153, s154, s155, s156, s157, s158, s159, s160, s161, s162, s163, s164, s165, s166, s167, s168, s169, s170, s171, s172, s173, s174, s175, s176, s177, s178, s179, s180, s181, s182, s183, s184, s185, s186, s187, s188, s189, s190, s191, s192, s193, s194, s195, s196, s197, s198, s199, s200, s201, s202, s203, s204, s205, s206, s207, s208, s209, s210, s211, s212, s213, s214, s215, s216, s217, s218, s219, s220, s221, s222, s223, s224, s225, s226, s227, s228, s229, s230, s231, s232, s233, s234, s235, s236, s237, s238, s239, s240, s241, s242, s243, s244, s245, s246, s247, s248, s249, s250, s251, s252, s253, s254, s255, s256, s257, s258, s259, s260, s261, s262, s263, s264, s265, s266, s267, s268, s269, s270, s271, s272, s273, s274, s275, s276, s277, s278, s279, s280, s281, s282, s283], []⟩ wo := by
  conv => arg 2; whnf
  refine wp_region_noPanic ?_
  refine wp_region_held_drew (S := (fun w' => w'.cell? ⟨Vb, 4, none⟩ = some (.int .u32 (wi xe)) ∧ w'.cell? ⟨Vb, 5, none⟩ = some (.int .u32 (wi xf)) ∧ w'.cell? ⟨Vb, 6, none⟩ = some (.int .u32 (wi xg)) ∧ w'.cell? ⟨Vb, 7, none⟩ = some (.int .u32 (wi xh)) ∧ w'.cell? ⟨Kb, t, none⟩ = some (.int .u32 (wi kq)) ∧ w'.cell? ⟨Wb, t, none⟩ = some (.int .u32 (wi x)))) (by kernel_rfl) ?_ (fun hHeld => ?_)
  · ((try dsimp only) <;> (exact ⟨d4, d5, d6, d7, dk, dw⟩))
  refine rtake 0 ?_
  refine rtake 1 ?_
  refine rtake 2 ?_
  refine rtake 3 ?_
  refine rtake 5 ?_
  refine rtake 6 ?_
  refine rtake 9 ?_
  refine rtake 10 ?_
  refine rtake 14 ?_
  refine rtake 15 ?_
  refine rtake 16 ?_
  refine rtake 17 ?_
  refine rtake 18 ?_
  refine rtake 19 ?_
  refine rtake 20 ?_
  refine rtake 21 ?_
  refine rtake 22 ?_
  refine rtake 23 ?_
  refine rtake 24 ?_
  refine rtake 25 ?_
  refine rtake 27 ?_
  refine rtake 28 ?_
  refine rtake 29 ?_
  refine rtake 31 ?_
  refine rtake 32 ?_
  refine rtake 33 ?_
  refine wpAnyH_ready (rs := [4]) (by kernel_rfl) (by simp) ?_
  refine AllReadyH.cons (o := ⟨_, _, _, _, _, _⟩) rfl (fun K hK => ?_) AllReadyH.nil
  go_simp
  (refine (r2turn_any xe 6 _ (by omega) (by omega)).mono ?_; rintro e w5 ⟨rfl, rfl⟩)
  refine hK.out _ _ ?_ (fun hHeld => ?_)
  · ((try dsimp only) <;> (exact ⟨d4, d5, d6, d7, dk, dw⟩))
  clear hK K
  try (simp only [Act.put, List.setIfInBounds_toArray]; dsimp only [List.set_cons_zero, List.set_cons_succ])
  refine wpAnyH_ready (rs := [7]) (by kernel_rfl) (by simp) ?_
  refine AllReadyH.cons (o := ⟨_, _, _, _, _, _⟩) rfl (fun K hK => ?_) AllReadyH.nil
  go_simp
  (refine (r2turn_any xe 11 _ (by omega) (by omega)).mono ?_; rintro e w5 ⟨rfl, rfl⟩)
  refine hK.out _ _ ?_ (fun hHeld => ?_)
  · ((try dsimp only) <;> (exact ⟨d4, d5, d6, d7, dk, dw⟩))
  clear hK K
  try (simp only [Act.put, List.setIfInBounds_toArray]; dsimp only [List.set_cons_zero, List.set_cons_succ])
  refine rtake 8 ?_
  refine wpAnyH_ready (rs := [11]) (by kernel_rfl) (by simp) ?_
  refine AllReadyH.cons (o := ⟨_, _, _, _, _, _⟩) rfl (fun K hK => ?_) AllReadyH.nil
  go_simp
  (refine (r2turn_any xe 25 _ (by omega) (by omega)).mono ?_; rintro e w5 ⟨rfl, rfl⟩)
  refine hK.out _ _ ?_ (fun hHeld => ?_)
  · ((try dsimp only) <;> (exact ⟨d4, d5, d6, d7, dk, dw⟩))
  clear hK K
  try (simp only [Act.put, List.setIfInBounds_toArray]; dsimp only [List.set_cons_zero, List.set_cons_succ])
  refine rtake 12 ?_
  refine rtake 13 ?_
  refine rtake 26 ?_
  refine rtake 30 ?_
  refine rtake 34 ?_
  refine rtake 35 ?_
  refine wpAnyH_done (by kernel_rfl) ?_ _
  refine NoPanic.normal ?_
  all_goals exact hK.out ⟨rfl, rfl, (Fr.refl F0 wo).drew.drew.drew.drew⟩
end Go.Proofs.YtaobgaoldfeehaaDoor

/- The document's answer 02 (digest): a statement of Sum's innermost round. -/
namespace Go.Proofs.YtaobgaoldfeehaaDoor
set_option linter.unusedVariables false
set_option linter.unusedSimpArgs false
open Go.RowKit

attribute [local go_sem high] wdv_and wdv_or wdv_xor wdv_not wdv_add wdv_shl wdv_shr wdv_to8 wdv_of8

set_option maxRecDepth 100000 in
set_option maxHeartbeats 16000000 in
theorem reg29 {s0 s1 s2 s3 s4 s5 s6 s7 s8 s9 s10 s12 s13 s14 s15 s16 s17 s18 s19 s20 s21 s22 s23 s24 s25 s26 s27 s28 s29 s30 s31 s32 s33 s34 s35 s36 s37 s38 s39 s40 s41 s42 s43 s44 s45 s46 s47 s48 s49 s50 s51 s52 s53 s54 s55 s56 s57 s58 s59 s60 s61 s62 s63 s64 s65 s66 s67 s68 s69 s70 s71 s72 s73 s74 s75 s76 s77 s78 s79 s80 s81 s82 s83 s84 s85 s86 s87 s88 s89 s90 s91 s92 s93 s94 s95 s96 s97 s98 s99 s100 s101 s102 s103 s104 s105 s106 s107 s108 s109 s110 s111 s112 s113 s114 s115 s116 s117 s118 s119 s120 s121 s122 s123 s124 s125 s126 s127 s128 s129 s130 s131 s132 s133 s134 s135 s136 s137 s138 s139 s140 s141 s142 s143 s144 s145 s146 s147 s148 s149 s150 s151 s152 s153 s154 s155 s156 s157 s158 s159 s160 s161 s162 s163 s164 s165 s166 s167 s168 s169 s170 s171 s172 s173 s174 s175 s176 s177 s178 s179 s180 s181 s182 s183 s184 s185 s186 s187 s188 s189 s190 s191 s192 s193 s194 s195 s196 s197 s198 s199 s200 s201 s202 s203 s204 s205 s206 s207 s208 s209 s210 s211 s212 s213 s214 s215 s216 s217 s218 s219 s220 s221 s222 s223 s224 s225 s226 s227 s228 s229 s230 s231 s232 s233 s234 s235 s236 s237 s238 s239 s240 s241 s242 s243 s244 s245 s246 s247 s248 s249 s250 s251 s252 s253 s254 s255 s256 s257 s258 s259 s260 s261 s262 s263 s264 s265 s266 s267 s268 s269 s270 s271 s272 s273 s274 s275 s276 s277 s278 s279 s280 s281 s282 s283 : Value} {K : Act → World → Prop} {Q : Exit → Act → World → Prop} (wo : World) (Vb : Nat) (xa xb xc : Wd) (d0 : wo.cell? ⟨Vb, 0, none⟩ = some (.int .u32 (wi xa))) (d1 : wo.cell? ⟨Vb, 1, none⟩ = some (.int .u32 (wi xb))) (d2 : wo.cell? ⟨Vb, 2, none⟩ = some (.int .u32 (wi xc)))
    (hK : RowKit.Hid (∀ {u14 u204 u205 u206 u207 u208 u209 u210 u211 u212 u213 u214 u215 u216 u217 u218 u219 u220 u221 u222 u223 u224 u225 u226 u227 u228 u229 u230 u231 u232 : Value} {w' : World}, (u14 = .int .u32 (wi ((rotr xa 2 ^^^ rotr xa 13 ^^^ rotr xa 22) + (xa &&& xb ^^^ xa &&& xc ^^^ xb &&& xc))) ∧ w'.heap = wo.heap ∧ Fr F0 wo w') → K ⟨#[s0, s1, s2, s3, s4, s5, s6, s7, s8, s9, s10, .pointer (some ⟨Vb, 0, none⟩), s12, s13, u14, s15, s16, s17, s18, s19, s20, s21, s22, s23, s24, s25, s26, s27, s28, s29, s30, s31, s32, s33, s34, s35, s36, s37, s38, s39, s40, s41, s42, s43, s44, s45, s46, s47, s48, s49, s50, s51, s52, s53, s54, s55, s56, s57, s58, s59, s60, s61, s62, s63, s64, s65, s66, s67, s68, s69, s70, s71, s72, s73, s74, s75, s76, s77, s78, s79, s80, s81, s82, s83, s84, s85, s86, s87, s88, s89, s90, s91, s92, s93, s94, s95, s96, s97, s98, s99, s100, s101, s102, s103, s104, s105, s106, s107, s108, s109, s110, s111, s112, s113, s114, s115, s116, s117, s118, s119, s120, s121, s122, s123, s124, s125, s126, s127, s128, s129, s130, s131, s132, s133, s134, s135, s136, s137, s138, s139, s140, s141, s142, s143, s144, s145, s146, s147, s148, s149, s150, s151, s152, s153, s154, s155, s156, s157, s158, s159, s160, s161, s162, s163, s164, s165, s166, s167, s168, s169, s170, s171, s172, s173, s174, s175, s176, s177, s178, s179, s180, s181, s182, s183, s184, s185, s186, s187, s188, s189, s190, s191, s192, s193, s194, s195, s196, s197, s198, s199, s200, s201, s202, s203, u204, u205, u206, u207, u208, u209, u210, u211, u212, u213, u214, u215, u216, u217, u218, u219, u220, u221, u222, u223, u224, u225, u226, u227, u228, u229, u230, u231, u232, s233, s234, s235, s236, s237, s238, s239, s240, s241, s242, s243, s244, s245, s246, s247, s248, s249, s250, s251, s252, s253, s254, s255, s256, s257, s258, s259, s260, s261, s262, s263, s264, s265, s266, s267, s268, s269, s270, s271, s272, s273, s274, s275, s276, s277, s278, s279, s280, s281, s282, s283], []⟩ w')) :
    Code.wp Tryd.prog ((Tryd.f26.body.bind (findRegion 29)).getD .skip) (Exit.then K Q) ⟨#[s0, s1, s2, s3, s4, s5, s6, s7, s8, s9, s10, .pointer (some ⟨Vb, 0, none⟩), s12, s13, s14, s15, s16, s17, s18, s19, s20, s21, s22, s23, s24, s25, s26, s27, s28, s29, s30, s31, s32, s33, s34, s35, s36, s37, s38, s39, s40, s41, s42, s43, s44, s45, s46, s47, s48, s49, s50, s51, s52, s53, s54, s55, s56, s57, s58, s59, s60, s61, s62, s63, s64, s65, s66, s67, s68, s69, s70, s71, s72, s73, s74, s75, s76, s77, s78, s79, s80, s81, s82, s83, s84, s85, s86, s87, s88, s89, s90, s91, s92, s93, s94, s95, s96, s97, s98, s99, s100, s101, s102, s103, s104, s105, s106, s107, s108, s109, s110, s111, s112, s113, s114, s115, s116, s117, s118, s119, s120, s121, s122, s123, s124, s125, s126, s127, s128, s129, s130, s131, s132, s133, s134, s135, s136, s137, s138, s139, s140, s141, s142, s143, s144, s145, s146, s147, s148, s149, s150, s151, s152, s153, s154, s155, s156, s157, s158, s159, s160, s161, s162, s163, s164, s165, s166, s167, s168, s169, s170, s171, s172, s173, s174, s175, s176, s177, s178, s179, s180, s181, s182, s183, s184, s185, s186, s187, s188, s189, s190, s191, s192, s193, s194, s195, s196, s197, s198, s199, s200, s201, s202, s203, s204, s205, s206, s207, s208, s209, s210, s211, s212, s213, s214, s215, s216, s217, s218, s219, s220, s221, s222, s223, s224, s225, s226, s227, s228, s229, s230, s231, s232, s233, s234, s235, s236, s237, s238, s239, s240, s241, s242, s243, s244, s245, s246, s247, s248, s249, s250, s251, s252, s253, s254, s255, s256, s257, s258, s259, s260, s261, s262, s263, s264, s265, s266, s267, s268, s269, s270, s271, s272, s273, s274, s275, s276, s277, s278, s279, s280, s281, s282, s283], []⟩ wo := by
  conv => arg 2; whnf
  refine wp_region_noPanic ?_
  refine wp_region_held_drew (S := (fun w' => w'.cell? ⟨Vb, 0, none⟩ = some (.int .u32 (wi xa)) ∧ w'.cell? ⟨Vb, 1, none⟩ = some (.int .u32 (wi xb)) ∧ w'.cell? ⟨Vb, 2, none⟩ = some (.int .u32 (wi xc)))) (by kernel_rfl) ?_ (fun hHeld => ?_)
  · ((try dsimp only) <;> (exact ⟨d0, d1, d2⟩))
  refine rtake 0 ?_
  refine rtake 1 ?_
  refine rtake 3 ?_
  refine rtake 4 ?_
  refine rtake 7 ?_
  refine rtake 8 ?_
  refine rtake 11 ?_
  refine rtake 12 ?_
  refine rtake 13 ?_
  refine rtake 14 ?_
  refine rtake 15 ?_
  refine rtake 16 ?_
  refine rtake 17 ?_
  refine rtake 18 ?_
  refine rtake 19 ?_
  refine rtake 20 ?_
  refine rtake 21 ?_
  refine rtake 22 ?_
  refine rtake 23 ?_
  refine rtake 24 ?_
  refine rtake 25 ?_
  refine rtake 26 ?_
  refine rtake 27 ?_
  refine wpAnyH_ready (rs := [2]) (by kernel_rfl) (by simp) ?_
  refine AllReadyH.cons (o := ⟨_, _, _, _, _, _⟩) rfl (fun K hK => ?_) AllReadyH.nil
  go_simp
  (refine (r2turn_any xa 2 _ (by omega) (by omega)).mono ?_; rintro e w5 ⟨rfl, rfl⟩)
  refine hK.out _ _ ?_ (fun hHeld => ?_)
  · ((try dsimp only) <;> (exact ⟨d0, d1, d2⟩))
  clear hK K
  try (simp only [Act.put, List.setIfInBounds_toArray]; dsimp only [List.set_cons_zero, List.set_cons_succ])
  refine wpAnyH_ready (rs := [5]) (by kernel_rfl) (by simp) ?_
  refine AllReadyH.cons (o := ⟨_, _, _, _, _, _⟩) rfl (fun K hK => ?_) AllReadyH.nil
  go_simp
  (refine (r2turn_any xa 13 _ (by omega) (by omega)).mono ?_; rintro e w5 ⟨rfl, rfl⟩)
  refine hK.out _ _ ?_ (fun hHeld => ?_)
  · ((try dsimp only) <;> (exact ⟨d0, d1, d2⟩))
  clear hK K
  try (simp only [Act.put, List.setIfInBounds_toArray]; dsimp only [List.set_cons_zero, List.set_cons_succ])
  refine rtake 6 ?_
  refine wpAnyH_ready (rs := [9]) (by kernel_rfl) (by simp) ?_
  refine AllReadyH.cons (o := ⟨_, _, _, _, _, _⟩) rfl (fun K hK => ?_) AllReadyH.nil
  go_simp
  (refine (r2turn_any xa 22 _ (by omega) (by omega)).mono ?_; rintro e w5 ⟨rfl, rfl⟩)
  refine hK.out _ _ ?_ (fun hHeld => ?_)
  · ((try dsimp only) <;> (exact ⟨d0, d1, d2⟩))
  clear hK K
  try (simp only [Act.put, List.setIfInBounds_toArray]; dsimp only [List.set_cons_zero, List.set_cons_succ])
  refine rtake 10 ?_
  refine rtake 28 ?_
  refine rtake 29 ?_
  refine wpAnyH_done (by kernel_rfl) ?_ _
  refine NoPanic.normal ?_
  all_goals exact hK.out ⟨rfl, rfl, (Fr.refl F0 wo).drew.drew.drew.drew⟩
end Go.Proofs.YtaobgaoldfeehaaDoor

/- The document's answer 02 (digest): the walk of Sum. -/
namespace Go.Proofs.YtaobgaoldfeehaaDoor
set_option linter.unusedVariables false
set_option linter.unusedSimpArgs false
open Go.RowKit

attribute [local go_sem high] wdv_and wdv_or wdv_xor wdv_not wdv_add wdv_shl wdv_shr wdv_to8 wdv_of8

set_option maxRecDepth 100000 in
set_option maxHeartbeats 16000000 in
theorem r2Sum_any (a : Option Addr) (n c : Nat) (bs : List UInt8) (hn : n = bs.length) (hl : bs.length ≤ 1000000) (w : World) (h : Bs w a c bs) :
    Calls Tryd.prog 26 #[.slice a n c] w fun e w' => e = .returned (.agg ((sha bs).map B8).toArray) ∧ Fr F0 w w' := by
  subst hn
  have HB := Lib.hid h
  clear h
  go_enter Tryd.func26, Tryd.ntmps26
  have e64 : (arrW [] 64).size = 64 := arrW_size _ _ (by simp)
  have e8 : (arrW [] 8).size = 8 := arrW_size _ _ (by simp)
  go_wp2_with (first | refine wpList_build_none rfl 91 rfl _ Tryd.built64 ?_ | refine wpList_build_none rfl 92 rfl _ Tryd.built8 ?_ | refine wpList_store_row rfl 91 (.tmp 3) (.tmp 18) rfl (w.heap.size + 1) _ rfl rfl 91 _ (heap3_1 w _ _ _) (by rw [Tryd.sz64, e64]) (by rw [e64]; rfl) (oneAW _ _) ?_ | refine wpList_store_row rfl 92 (.tmp 4) (.tmp 19) rfl (w.heap.size + 1 + 1) _ rfl rfl 92 _ ((setRow_other _ _ _ _ (by omega)).trans (heap3_2 w _ _ _)) (by rw [Tryd.sz8w, e8]) (by rw [e8]; rfl) (oneAW _ _) ?_)
  obtain ⟨W1, hW1⟩ : ∃ W1, W1 = (((((w.alloc (.cells (arrB [] 32) 33)).alloc (.cells (arrW [] 64) 91)).alloc (.cells (arrW [] 8) 92)).setRow (w.heap.size + 1) (arrW [] 64)).setRow (w.heap.size + 1 + 1) (arrW [] 8)) := ⟨_, rfl⟩
  have hR1 : W1.heap[w.heap.size]? = some (.cells (arrB [] 32) 33 (0, 0)) := by
    rw [hW1, setRow_other _ _ _ _ (by omega), setRow_other _ _ _ _ (by omega)]
    exact heap3_0 w _ _ _
  have hK1 : W1.heap[w.heap.size + 1]? = some (.cells (arrW [] 64) 91 (0, 0)) := by
    rw [hW1, setRow_other _ _ _ _ (by omega)]
    exact setRow_heap _ _ _ _ _ _ (heap3_1 w _ _ _)
  have hH1 : W1.heap[w.heap.size + 1 + 1]? = some (.cells (arrW [] 8) 92 (0, 0)) := by
    rw [hW1]
    exact setRow_heap _ _ _ _ _ _ ((setRow_other _ _ _ _ (by omega)).trans (heap3_2 w _ _ _))
  have hF1 : Fr F0 w W1 := by
    rw [hW1]
    exact (((((Fr.refl F0 w).alloc _).alloc _).alloc _).setRow (fun h => by omega) _).setRow (fun h => by omega) _
  refine Calls.of_world_2 W1 hW1 ?_
  clear hW1
  generalize hKb : w.heap.size + 1 = Kb at *
  generalize hHb : Kb + 1 = Hb at *
  refine (primes_any W1).mono ?_
  rintro e w2 ⟨aP, cP, rfl, hP, hf2, hPb⟩
  have hHs : Hb < W1.heap.size := (Array.getElem?_eq_some_iff.1 hH1).1
  replace hR1 := hf2.keeps (fun f => f) hR1
  replace hK1 := hf2.keeps (fun f => f) hK1
  replace hH1 := hf2.keeps (fun f => f) hH1
  replace hF1 := hF1.trans' hf2
  have HP := Lib.hid hP
  have HR1 := Lib.hid (And.intro hR1 hF1)
  have HBa := Lib.hid (fun (k : Nat) (hne : bs.map B8 ≠ []) (e : ablk a = some k) => show k < w.heap.size by
    obtain ⟨b', off, rfl, hc⟩ := HB.out.cells (fun e => hne (by rw [e]; rfl))
    cases e
    exact World.block_lt_of_cell? w _ (hc 0 (List.length_pos_iff.2 fun e => hne (by rw [e]; rfl))))
  clear hP hf2 hR1 hF1 e64 e8
  go_wp2_with fail
  go_loopw [22] (fun iv wr => ∃ i : Nat, i ≤ 64 ∧ iv = .int .i64 i ∧ wr.heap[Kb]? = some (.cells (arrW (cubesL.take i) 64) 91 (0, 0)) ∧ wr.heap[Hb]? = some (.cells (arrW (H0.take i) 8) 92 (0, 0)) ∧ Fr (fun k => k = Kb ∨ k = Hb) w2 wr) (fun iv _ => 64 - (intOf iv).toNat)
  case atStart => exact ⟨0, by omega, rfl, hK1, hH1, Fr.refl _ _⟩
  case round =>
    clear hK1 hH1
    obtain ⟨i, hi, rfl, hK, hH, hf⟩ := hrel
    by_cases hi64 : i < 64
    · have hPw : Us2 wr aP cP (primesB 312) := Sl.kept HP.out fun b e hb => hf.block b hb (by have := hPb b e; omega)
      obtain ⟨b, off, rfl, hc⟩ := hPw.get i (by rw [primes_312]; exact hi64)
      have hpl := primes_small ((primesB 312).getD i 0) (by simp [List.getD, List.getElem?_eq_getElem (show i < (primesB 312).length by rw [primes_312]; exact hi64)])
      have hca := cubes_at i hi64
      have hsa := squares_at i
      generalize (primesB 312).getD i 0 = p at *
      have li : (i : Int) < 64 := by omega
      have HCA := Lib.hid hca
      have HSA := Lib.hid hsa
      have hlk : (cubesL.take i).length = i := by rw [List.length_take, cubesL_length]; omega
      have hTK := Lib.hid (take_succD cubesL i (by rw [cubesL_length]; exact hi64))
      have hTH := Lib.hid (take_succD H0 i)
      clear hca hsa hPw
      go_wp2_with fail
      refine (root_any p 3 (by omega) (by omega) _).mono ?_
      rintro e w3 ⟨rfl, hf3⟩
      have hK3 := hf3.keeps (fun f => f) hK
      have hH3 := hf3.keeps (fun f => f) hH
      have k0 := rowW_get0 (i := i) hK3 (by omega) (by omega)
      have z0 := free_row (i := i) hK3
      have HK3 := Lib.hid hK3
      have HH3 := Lib.hid hH3
      have HF3 := Lib.hid (hf.trans' hf3.of0)
      clear hK hH hf hK3 hH3
      by_cases hi8 : i < 8
      · have li8 : (i : Int) < 8 := by omega
        go_wp2_with fail
        have hne : Hb ≠ Kb := by omega
        have hne' : Kb ≠ Hb := by omega
        have hH4 : (w3.setCell ⟨Kb, i, none⟩ (.int .u32 (wi (BitVec.ofNat 32 (rootN p 3))))).heap[Hb]? = some (.cells (arrW (H0.take i) 8) 92 (0, 0)) := (Below.heap_setCell _ _ _ _ hne).trans HH3.out
        have hK4 : (w3.setCell ⟨Kb, i, none⟩ (.int .u32 (wi (BitVec.ofNat 32 (rootN p 3))))).heap[Kb]? = some (.cells (arrW (cubesL.take (i + 1)) 64) 91 (0, 0)) := by
          have g := heap_setCell_in w3 Kb i _ _ _ (.int .u32 (wi (BitVec.ofNat 32 (rootN p 3)))) HK3.out
          rw [arrW_set _ _ _ _ hlk.symm (by omega), HCA.out, ← hTK.out] at g
          rw [HCA.out]
          exact g
        have hF4 : Fr (fun k => k = Kb ∨ k = Hb) w2 (w3.setCell ⟨Kb, i, none⟩ (.int .u32 (wi (BitVec.ofNat 32 (rootN p 3))))) := HF3.out.setCell (p := ⟨Kb, i, none⟩) (fun _ => .inl rfl) _
        generalize w3.setCell ⟨Kb, i, none⟩ (.int .u32 (wi (BitVec.ofNat 32 (rootN p 3)))) = w4 at *
        refine (root_any p 2 (by omega) (by omega) _).mono ?_
        rintro e w5 ⟨rfl, hf5⟩
        have hlh : (H0.take i).length = i := by rw [List.length_take, H0_length]; omega
        have hK5 := hf5.keeps (fun f => f) hK4
        have hH5 := hf5.keeps (fun f => f) hH4
        have k0 := rowW_get0 (i := i) hH5 (by omega) (by omega)
        have z0 := free_row (i := i) hH5
        have HK5 := Lib.hid hK5
        have HH5 := Lib.hid hH5
        have HF5 := Lib.hid (hF4.trans' hf5.of0)
        clear hK4 hH4 hF4 hK5 hH5 hf5
        go_wp2
        go_roundw
        case rel =>
          refine ⟨i + 1, by omega, by go_num, (Below.heap_setCell _ _ _ _ hne').trans HK5.out, ?_, HF5.out.setCell (p := ⟨Hb, i, none⟩) (fun _ => .inr rfl) _⟩
          have g := heap_setCell_in w5 Hb i _ _ _ (.int .u32 (wi (BitVec.ofNat 32 (rootN p 2)))) HH5.out
          rw [arrW_set _ _ _ _ hlh.symm (by omega), HSA.out hi8, ← hTH.out (by rw [H0_length]; exact hi8)] at g
          rw [HSA.out hi8]
          exact g
        case measure => simp [intOf]; omega
      · have li8 : ¬ (i : Int) < 8 := by omega
        go_wp2
        go_roundw
        case rel =>
          have hne : Hb ≠ Kb := by omega
          refine ⟨i + 1, by omega, by go_num, ?_, ?_, HF3.out.setCell (p := ⟨Kb, i, none⟩) (fun _ => .inl rfl) _⟩
          · have g := heap_setCell_in w3 Kb i _ _ _ (.int .u32 (wi (BitVec.ofNat 32 (rootN p 3)))) HK3.out
            rw [arrW_set _ _ _ _ hlk.symm (by omega), HCA.out, ← hTK.out] at g
            rw [HCA.out]
            exact g
          · rw [List.take_of_length_le (by rw [H0_length]; omega)]
            rw [List.take_of_length_le (by rw [H0_length]; omega)] at HH3
            exact (Below.heap_setCell _ _ _ _ hne).trans HH3.out
        case measure => simp [intOf]; omega
    · have hi0 : i = 64 := by omega
      rw [hi0, List.take_of_length_le (by rw [cubesL_length]; omega)] at hK
      rw [hi0, List.take_of_length_le (by rw [H0_length]; omega)] at hH
      clear hi0
      have hBw : Bs wr a c bs := Sl.frn (Sl.fr HB.out HR1.out.2 fun _ _ f => f) hf fun hne k e h => by
        have h9 : k < w.heap.size := HBa.out k hne e
        have h8 : k = Kb ∨ k = Hb := h
        omega
      have HF := Lib.hid hf
      have HK := Lib.hid hK
      have HH := Lib.hid hH
      clear hf hK hH
      go_wp2_with (first | (at_builtin; refine wpList_appB rfl _ _ rfl _ [] rfl (World.ownsRow_made wr #[] 0 (Nat.zero_le _) (Nat.zero_le _) rfl) _ _ _ _ rfl (Sl.fr hBw ((Fr.refl F0 wr).alloc _) fun _ _ f => f) rfl (by simp; omega) ?_; intro a4 c4 w4 ho4 hg4 hb4; have ho4' : OwnB w4 (.slice a4 bs.length c4) bs := (by simpa using ho4); have h128 : Bs (w4.alloc (.cells #[.int .u8 128] 5)) (some ⟨w4.heap.size, 0, none⟩) 1 [128] := Bs.of_new w4 128) | (at_builtin; refine wpList_appB rfl _ _ rfl _ bs rfl (OwnB.fr ho4' ((Fr.refl F0 w4).alloc _) (fun _ _ f => f)) _ _ _ [128] rfl h128 rfl (by simp; omega) ?_; intro a5 c5 w5 ho5 hg5 hb5))
      rw [show decide ((i : Int) < 64) = false from decide_eq_false (by omega)]
      have ho5' : OwnB w5 (.slice a5 (bs.length + 1) c5) (bs ++ [128]) := by simpa using ho5
      have hb4' : ∀ k, ablk a4 = some k → wr.heap.size ≤ k := fun k e => by
        rcases hb4 k e with h | h
        · cases h
          exact Nat.le_refl _
        · simp at h; omega
      have hF4 : Fr F0 wr w4 := ((Fr.refl F0 wr).alloc _).grown hg4 fun k e hl => by
        cases e
        exact absurd hl (Nat.lt_irrefl _)
      have hF5 : Fr F0 wr w5 := (hF4.alloc _).grown hg5 fun k e hl => by
        have := hb4' k (by rw [← ablk_own]; exact e)
        omega
      have hb5' : ∀ k, ablk a5 = some k → wr.heap.size ≤ k := fun k e => by
        rcases hb5 k e with h | h
        · exact hb4' k (by rw [← ablk_own]; exact h)
        · have := hF4.size; simp only [World.size_alloc] at h; omega
      have HO5 := Lib.hid ho5'
      have HF5 := Lib.hid hF5
      have HB5 := Lib.hid hb5'
      obtain ⟨N, hN⟩ : ∃ N, N = bs.length := ⟨_, rfl⟩
      obtain ⟨Z, hZ⟩ : ∃ Z, Z = padZ bs.length := ⟨_, rfl⟩
      have HN := Lib.hid hN
      have HZ := Lib.hid hZ
      have hZ64 : Z < 64 := by rw [hZ, padZ]; omega
      obtain ⟨wa, hwa⟩ : ∃ wa, wa = wr := ⟨_, rfl⟩
      subst hwa
      clear ho4 ho4' hg4 hb4 h128 ho5 ho5' hg5 hb5 hb4' hF4 hF5 hb5' hN hZ hBw
      go_loopw [7] (fun mv wr => ∃ j : Nat, j ≤ Z ∧ (∃ a6 c6, mv = .slice a6 (bs.length + 1 + j) c6 ∧ OwnB wr (.slice a6 (bs.length + 1 + j) c6) (bs ++ [128] ++ List.replicate j 0) ∧ ∀ k, ablk a6 = some k → wa.heap.size ≤ k) ∧ Fr F0 wa wr) (fun mv _ => match mv with | .slice _ l _ => bs.length + 1 + Z - l | _ => 0)
      case atStart => exact ⟨0, Nat.zero_le _, ⟨a5, c5, rfl, by simpa using HO5.out, HB5.out⟩, HF5.out⟩
      case round =>
        obtain ⟨j, hj, ⟨a6, c6, rfl, ho6, hb6⟩, hf6⟩ := hrel
        have HO6 := Lib.hid ho6
        have HB6 := Lib.hid hb6
        have HF6 := Lib.hid hf6
        clear ho6 hb6 hf6
        by_cases hjz : j < Z
        · have hmod : (((bs.length : Int) + 1 + (j : Int)) % 64 != 56) = true := by
            have := HZ.out
            simp only [padZ] at this
            simp
            omega
          go_wp2_with (at_builtin; refine wpList_appB rfl _ _ rfl _ (bs ++ [128] ++ List.replicate j 0) rfl (OwnB.fr HO6.out ((Fr.refl F0 wr).alloc _) (fun _ _ f => f)) _ _ _ [0] rfl (show Bs (wr.alloc (.cells #[.int .u8 0] 5)) (some ⟨wr.heap.size, 0, none⟩) 1 [0] from Bs.of_new wr 0) rfl (by simp; omega) ?_; intro a7 c7 w7 ho7 hg7 hb7)
          go_roundw
          case rel =>
            refine ⟨j + 1, by omega, ⟨a7, c7, by rw [show bs.length + (j + 1) + 1 = bs.length + 1 + (j + 1) by omega], ?_, fun g hg' => ?_⟩, (HF6.out.alloc _).grown hg7 fun g e hl => ?_⟩
            · rw [List.replicate_succ', ← List.append_assoc]
              have e : (bs ++ [128] ++ List.replicate j 0).length + [(0 : UInt8)].length = bs.length + 1 + (j + 1) := by simp; omega
              rw [e] at ho7
              exact ho7
            · rcases hb7 g hg' with h | h
              · exact HB6.out g (by rw [← ablk_own]; exact h)
              · have := HF6.out.size; simp only [World.size_alloc] at h; omega
            · have := HB6.out g (by rw [← ablk_own]; exact e)
              omega
          case measure =>
            show bs.length + 1 + Z - (bs.length + (j + 1) + 1) < bs.length + 1 + Z - (bs.length + 1 + j)
            omega
        · have hmod : (((bs.length : Int) + 1 + (j : Int)) % 64 != 56) = false := by
            have := HZ.out
            simp only [padZ] at this
            simp
            omega
          have hjZ : j = Z := by omega
          rw [hjZ] at HO6 hmod ⊢
          obtain ⟨wb, hwb⟩ : ∃ wb, wb = wr := ⟨_, rfl⟩
          subst hwb
          go_wp2_with fail
          go_loopw [7, 8] (fun mv iv wr => ∃ j : Nat, j ≤ 8 ∧ iv = .int .i64 (56 - 8 * (j : Int)) ∧ (∃ a6 c6, mv = .slice a6 (bs.length + 1 + Z + j) c6 ∧ OwnB wr (.slice a6 (bs.length + 1 + Z + j) c6) (bs ++ [128] ++ List.replicate Z 0 ++ (be8 (8 * bs.length)).take j) ∧ ∀ k, ablk a6 = some k → wa.heap.size ≤ k) ∧ Fr F0 wa wr) (fun _ iv _ => (intOf iv + 8).toNat)
          case atStart => exact ⟨0, Nat.zero_le _, rfl, ⟨a6, c6, rfl, by simpa using HO6.out, HB6.out⟩, HF6.out⟩
          case round =>
            obtain ⟨j8, hj8, rfl, ⟨a8, c8, rfl, ho8, hb8⟩, hf8⟩ := hrel
            have HO8 := Lib.hid ho8
            have HB8 := Lib.hid hb8
            have HF8 := Lib.hid hf8
            clear ho8 hb8 hf8
            by_cases hj88 : j8 < 8
            · have hT := Lib.hid (be8_take (8 * bs.length) j8 hj88)
              have hv := byte_at bs.length (56 - 8 * j8)
              generalize UInt8.ofNat (8 * bs.length / 2 ^ (56 - 8 * j8)) = B at *
              have hBN : Bs (wr.alloc (.cells #[.int .u8 ((bs.length : Int) * 8 / 2 ^ (56 - 8 * j8) % 256)] 5)) (some ⟨wr.heap.size, 0, none⟩) 1 [B] := by
                rw [hv]
                exact Bs.of_new wr B
              clear hv
              go_wp2_with (at_builtin; refine wpList_appB rfl _ _ rfl _ (bs ++ [128] ++ List.replicate Z 0 ++ (be8 (8 * bs.length)).take j8) rfl (OwnB.fr HO8.out ((Fr.refl F0 wr).alloc _) (fun _ _ f => f)) _ _ _ [B] rfl hBN rfl (by simp [be8_length]; omega) ?_; intro a7 c7 w7 ho7 hg7 hb7)
              have hln : (bs ++ [128] ++ List.replicate Z 0 ++ (be8 (8 * bs.length)).take j8).length + [B].length = bs.length + 1 + Z + (j8 + 1) := by simp [be8_length]; omega
              rw [hln] at ho7
              have HO7 := Lib.hid ho7
              clear ho7
              go_roundw
              case rel =>
                refine ⟨j8 + 1, by omega, by congr 1; omega, ⟨a7, c7, by congr 1; simp [be8_length]; omega, ?_, fun g hg' => ?_⟩, (HF8.out.alloc _).grown hg7 fun g e hl => ?_⟩
                · rw [hT.out, ← List.append_assoc]
                  exact HO7.out
                · rcases hb7 g hg' with h | h
                  · exact HB8.out g (by rw [← ablk_own]; exact h)
                  · have := HF8.out.size; simp only [World.size_alloc] at h; omega
                · have := HB8.out g (by rw [← ablk_own]; exact e)
                  omega
              case measure => simp [intOf]; omega
            · have hj0 : j8 = 8 := by omega
              have l8 : ¬ (0 : Int) ≤ 56 - 8 * (j8 : Int) := by omega
              have HM : OwnB wr (.slice a8 (pad bs).length c8) (pad bs) := by
                have := HO8.out
                rw [hj0, List.take_of_length_le (by rw [be8_length]; omega), HZ.out] at this
                rw [pad_length]
                rw [show bs.length + 9 + padZ bs.length = bs.length + 1 + padZ bs.length + 8 by omega]
                exact this
              have hlen : bs.length + 1 + Z + j8 = (pad bs).length := by rw [pad_length, HZ.out]; omega
              rw [hlen]
              have h64 : (pad bs).length % 64 = 0 := by rw [pad_length, padZ]; omega
              have hpl : (pad bs).length ≤ 1000100 := by rw [pad_length, padZ]; omega
              have HMs := Lib.hid HM.bs.2
              obtain ⟨wm, hwm⟩ : ∃ wm, wm = wr := ⟨_, rfl⟩
              subst hwm
              have hK9 : wm.heap[Kb]? = some (.cells (arrW cubesL 64) 91 (0, 0)) := HF8.out.keeps (fun f => f) HK.out
              have hH9 : wm.heap[Hb]? = some (.cells (arrW H0 8) 92 (0, 0)) := HF8.out.keeps (fun f => f) HH.out
              have hF9 : Fr (fun k => k = Kb ∨ k = Hb) w2 wm := HF.out.trans' HF8.out.of0
              have hm8 : ∀ k, ablk a8 = some k → Hb < k := fun k e => by
                have h1 := HB8.out k e
                have h2 := (Array.getElem?_eq_some_iff.1 HH.out).1
                omega
              generalize hmm : pad bs = m at *
              obtain ⟨M, hM⟩ : ∃ M, m.length = 64 * M := ⟨m.length / 64, by omega⟩
              have HMM := Lib.hid hmm
              have HMl := Lib.hid hM
              clear HO8 HB8 HF8 HF HK HH HM hlen hmod HO6 HB6 HF6 HB5 HF5 HO5 HN hj0 h64 hmm
              go_wp2_with fail
              go_loopw [9] (fun av wr => ∃ k : Nat, k ≤ M ∧ av = .int .i64 ((64 * k : Nat) : Int) ∧ wr.heap[Hb]? = some (.cells (arrW (runB m H0 k) 8) 92 (0, 0)) ∧ Fr (fun b => b = Hb) wm wr) (fun av _ => m.length - (intOf av).toNat)
              case atStart => exact ⟨0, Nat.zero_le _, rfl, hH9, Fr.refl _ _⟩
              case round =>
                obtain ⟨k, hk, rfl, hH, hf⟩ := hrel
                clear hH9
                by_cases hkM : k < M
                · obtain ⟨p, hp⟩ : ∃ p, p = 64 * k := ⟨_, rfl⟩
                  rw [← hp]
                  have hpm : p + 64 ≤ m.length := by omega
                  have lp : (p : Int) < m.length := by omega
                  have HPk := Lib.hid hp
                  clear hp
                  have hsl : (runB m H0 k).length = 8 := by rw [runB_length]; rfl
                  have HRB := Lib.hid (show runB m H0 (k + 1) = compress (blk m k) (runB m H0 k) from rfl)
                  generalize runB m H0 k = s at *
                  have e64 : (arrW [] 64).size = 64 := arrW_size _ _ (by simp)
                  have e8 : (arrW s 8).size = 8 := arrW_size _ _ (by omega)
                  have hHs := (Array.getElem?_eq_some_iff.1 hH).1
                  obtain ⟨wk, hwk⟩ : ∃ wk, wk = wr := ⟨_, rfl⟩
                  subst hwk
                  have HH := Lib.hid hH
                  go_wp2_with (first | refine wpList_build_none rfl 91 rfl _ Tryd.built64 ?_ | refine wpList_store_row rfl 91 (.tmp 10) (.tmp 71) rfl wk.heap.size _ rfl rfl 91 _ (heap_alloc_new wk _) (by rw [Tryd.sz64, e64]) (by rw [e64]; rfl) (oneAW _ _) ?_ | refine wpList_load_row rfl 92 (.tmp 4) rfl Hb rfl 92 _ (0, 0) _ ((setRow_other _ _ _ _ (by omega)).trans ((heap_alloc_old _ _ hHs).trans HH.out)) Tryd.underlying92 rfl (by rw [Tryd.sz8w, e8]) ?_ | refine wpList_store_row rfl 92 (.tmp 11) (.tmp 72) rfl (wk.heap.size + 1) _ rfl rfl 92 (arrW [] 8) (by have g := heap_alloc_new ((wk.alloc (.cells (arrW [] 64) 91)).setRow wk.heap.size (arrW [] 64)) (.cells (arrW [] 8) 92); rw [setRow_size, World.size_alloc] at g; exact g) (by rw [Tryd.sz8w, e8]) (by rw [e8]; rfl) (oneAW _ _) ?_)
                  obtain ⟨W1, hW1⟩ : ∃ W1, W1 = ((((wk.alloc (.cells (arrW [] 64) 91)).setRow wk.heap.size (arrW [] 64)).alloc (.cells (arrW [] 8) 92)).setRow (wk.heap.size + 1) (arrW s 8)) := ⟨_, rfl⟩
                  have hsz1 : (((wk.alloc (.cells (arrW [] 64) 91)).setRow wk.heap.size (arrW [] 64))).heap.size = wk.heap.size + 1 := by rw [setRow_size, World.size_alloc]
                  have w1 : W1.heap[wk.heap.size]? = some (.cells (arrW [] 64) 91 (0, 0)) := by
                    rw [hW1, setRow_other _ _ _ _ (by omega), heap_alloc_old _ _ (by rw [hsz1]; omega)]
                    exact setRow_heap _ _ _ _ _ _ (heap_alloc_new wk _)
                  have v1 : W1.heap[wk.heap.size + 1]? = some (.cells (arrW s 8) 92 (0, 0)) := by
                    rw [hW1]
                    refine setRow_heap _ _ (arrW [] 8) _ _ _ ?_
                    rw [← hsz1]
                    exact heap_alloc_new _ _
                  have F1 : Fr F0 wk W1 := by
                    rw [hW1]
                    exact ((((Fr.refl F0 wk).alloc _).setRow (fun h => by omega) _).alloc _).setRow (fun h => by omega) _
                  have h1 := F1.keeps (fun f => f) HH.out
                  have f1 := hf.trans' F1.of0
                  refine wp_of_world_2 W1 hW1 ?_
                  clear hW1 hsz1 F1 e64 e8 hH
                  have hwms : wm.heap.size ≤ wk.heap.size := hf.size
                  have HFK := Lib.hid hf
                  clear hf
                  generalize hWb : wk.heap.size = Wb at *
                  generalize hVb : Wb + 1 = Vb at *
                  go_loopw [12] (fun tv wx => ∃ t : Nat, t ≤ 64 ∧ tv = .int .i64 t ∧ wx.heap[Wb]? = some (.cells (arrW (sch (blk m k) t) 64) 91 (0, 0)) ∧ wx.heap[Vb]? = some (.cells (arrW (rnds (blk m k) s t) 8) 92 (0, 0)) ∧ wx.heap[Hb]? = some (.cells (arrW s 8) 92 (0, 0)) ∧ Fr (fun b => b = Hb) wm wx) (fun tv _ => 64 - (intOf tv).toNat)
                  case atStart => exact ⟨0, Nat.zero_le _, rfl, w1, v1, h1, f1⟩
                  case round =>
                    clear w1 v1 h1 f1
                    obtain ⟨t, ht, rfl, hW, hV, hH, hf⟩ := hrel
                    by_cases ht64 : t < 64
                    · have lt64 : (t : Int) < 64 := by omega
                      have hwx := hf.size
                      go_upto_if 78 with fail
                      go_cut [] from 77 to 168 (fun wx => wx.heap[Wb]? = some (.cells (arrW (sch (blk m k) (t + 1)) 64) 91 (0, 0)) ∧ wx.heap[Vb]? = some (.cells (arrW (rnds (blk m k) s t) 8) 92 (0, 0)) ∧ wx.heap[Hb]? = some (.cells (arrW s 8) 92 (0, 0)) ∧ Fr (fun b => b = Hb) wm wx)
                      case first =>
                        have hsc := sch_length (blk m k) t
                        have k0 := rowW_get0 (w := wr.drew) (i := t) hW (by omega) (by omega)
                        have z0 := free_row (w := wr.drew) (i := t) hW
                        have HH := Lib.hid (And.intro hW (And.intro hV (And.intro hH hf)))
                        by_cases ht16 : t < 16
                        · have l16 : (t : Int) < 16 := by omega
                          have hBm : Bs wr a8 c8 m := Sl.fr HMs.out hf fun b e h => by
                            have h9 := hm8 b e
                            have h8 : b = Hb := h
                            omega
                          obtain ⟨b8, off8, ea, hb8w⟩ := HMs.out.cells (by intro e; rw [e] at hpm; simp at hpm)
                          have hbl : b8 < wm.heap.size := World.block_lt_of_cell? wm _ (hb8w 0 (by omega))
                          have hneW : b8 ≠ Wb := by omega
                          rw [ea] at hBm
                          obtain ⟨q0, hq0⟩ : ∃ q, q = 4 * t := ⟨_, rfl⟩
                          obtain ⟨r0, hr0⟩ : ∃ q, q = p + q0 := ⟨_, rfl⟩
                          obtain ⟨r1, hr1⟩ : ∃ q, q = r0 + 1 := ⟨_, rfl⟩
                          obtain ⟨r2, hr2⟩ : ∃ q, q = r0 + 2 := ⟨_, rfl⟩
                          obtain ⟨r3, hr3⟩ : ∃ q, q = r0 + 3 := ⟨_, rfl⟩
                          have m0 : IntKind.i64.wrap (4 * (t : Int)) = (q0 : Int) := by rw [IntWalk.i64_in _ (by omega)]; omega
                          have m1 : IntKind.i64.wrap ((p : Int) + (q0 : Int)) = (r0 : Int) := by rw [IntWalk.i64_in _ (by omega)]; omega
                          have m2 : IntKind.i64.wrap ((r0 : Int) + 1) = (r1 : Int) := by rw [IntWalk.i64_in _ (by omega)]; omega
                          have m3 : IntKind.i64.wrap ((r0 : Int) + 2) = (r2 : Int) := by rw [IntWalk.i64_in _ (by omega)]; omega
                          have m4 : IntKind.i64.wrap ((r0 : Int) + 3) = (r3 : Int) := by rw [IntWalk.i64_in _ (by omega)]; omega
                          have n0 : (r0 : Int) < 64 * (M : Int) := by omega
                          have n1 : (r1 : Int) < 64 * (M : Int) := by omega
                          have n2 : (r2 : Int) < 64 * (M : Int) := by omega
                          have n3 : (r3 : Int) < 64 * (M : Int) := by omega
                          have c0 := Bs.getD hBm r0 (by omega)
                          have c1 := Bs.getD hBm r1 (by omega)
                          have c2 := Bs.getD hBm r2 (by omega)
                          have c3 := Bs.getD hBm r3 (by omega)
                          have hpk := HPk.out
                          have HS := Lib.hid (show sch (blk m k) (t + 1) = sch (blk m k) t ++ [w8 (m.getD r0 0) <<< 24 ||| w8 (m.getD r1 0) <<< 16 ||| w8 (m.getD r2 0) <<< 8 ||| w8 (m.getD r3 0)] from by
                            show sch (blk m k) t ++ _ = _
                            rw [if_pos ht16, wordAt, blk_get m k _ (by omega), blk_get m k _ (by omega), blk_get m k _ (by omega), blk_get m k _ (by omega)]
                            rw [show 64 * k + 4 * t = r0 by omega, show 64 * k + (4 * t + 1) = r1 by omega, show 64 * k + (4 * t + 2) = r2 by omega, show 64 * k + (4 * t + 3) = r3 by omega])
                          generalize m.getD r0 0 = x0 at *
                          generalize m.getD r1 0 = x1 at *
                          generalize m.getD r2 0 = x2 at *
                          generalize m.getD r3 0 = x3 at *
                          clear hq0 hr0 hr1 hr2 hr3 hBm hb8w hpk hW hV hH hf
                          subst ea
                          go_wp2_with fail
                          refine reg26 wr Wb t b8 off8 _ _ p q0 r0 r1 r2 r3 x0 x1 x2 x3 lt64 hneW m0 m1 m2 m3 m4 (by omega) (by omega) (by omega) (by omega) k0 z0 c0 c1 c2 c3 (Lib.hid ?_)
                          rename_i w6
                          intro h6
                          obtain ⟨hh6, hf6⟩ := h6
                          have HH6 := Lib.hid (And.intro hh6 hf6)
                          clear hh6 hf6
                          go_wp2_with fail
                          go_meet
                          case rel =>
                            obtain ⟨hW, hV, hH, hf⟩ := HH.out
                            refine ⟨?_, ?_, ?_, ?_⟩
                            · rw [HS.out, HH6.out.1]
                              have g0 := heap_setCell_in wr Wb t _ _ _ (.int .u32 (wi (w8 x0 <<< 24 ||| w8 x1 <<< 16 ||| w8 x2 <<< 8 ||| w8 x3))) hW
                              rw [arrW_set _ _ _ _ hsc.symm (by omega)] at g0
                              exact g0
                            · rw [HH6.out.1, Below.heap_setCell _ _ _ _ (show Vb ≠ Wb by omega)]; exact hV
                            · rw [HH6.out.1, Below.heap_setCell _ _ _ _ (show Hb ≠ Wb by omega)]; exact hH
                            · exact (hf.setCell (p := ⟨Wb, _, none⟩) (fun h => by simp only at h; omega) _).trans' HH6.out.2.of0
                        · have l16 : ¬ (t : Int) < 16 := by omega
                          have d2 := row_get (w := wr.drew) hW (t - 2) (by omega)
                          have d7 := row_get (w := wr.drew) hW (t - 7) (by omega)
                          have d15 := row_get (w := wr.drew) hW (t - 15) (by omega)
                          have d16 := row_get (w := wr.drew) hW (t - 16) (by omega)
                          have HS := Lib.hid (show sch (blk m k) (t + 1) = sch (blk m k) t ++ [(sch (blk m k) t).getD (t - 16) 0 + sig0 ((sch (blk m k) t).getD (t - 15) 0) + (sch (blk m k) t).getD (t - 7) 0 + sig1 ((sch (blk m k) t).getD (t - 2) 0)] from by show sch (blk m k) t ++ _ = _; rw [if_neg ht16]; rfl)
                          generalize (sch (blk m k) t).getD (t - 2) 0 = x2 at *
                          generalize (sch (blk m k) t).getD (t - 7) 0 = x7 at *
                          generalize (sch (blk m k) t).getD (t - 15) 0 = x15 at *
                          generalize (sch (blk m k) t).getD (t - 16) 0 = x16 at *
                          obtain ⟨q2, hq2⟩ : ∃ q, q = t - 2 := ⟨_, rfl⟩
                          obtain ⟨q7, hq7⟩ : ∃ q, q = t - 7 := ⟨_, rfl⟩
                          obtain ⟨q15, hq15⟩ : ∃ q, q = t - 15 := ⟨_, rfl⟩
                          obtain ⟨q16, hq16⟩ : ∃ q, q = t - 16 := ⟨_, rfl⟩
                          have m2 : IntKind.i64.wrap ((t : Int) - 2) = (q2 : Int) := by rw [IntWalk.i64_in _ (by omega)]; omega
                          have m7 : IntKind.i64.wrap ((t : Int) - 7) = (q7 : Int) := by rw [IntWalk.i64_in _ (by omega)]; omega
                          have m15 : IntKind.i64.wrap ((t : Int) - 15) = (q15 : Int) := by rw [IntWalk.i64_in _ (by omega)]; omega
                          have m16 : IntKind.i64.wrap ((t : Int) - 16) = (q16 : Int) := by rw [IntWalk.i64_in _ (by omega)]; omega
                          have o2 : (q2 : Int) < 64 := by omega
                          have o7 : (q7 : Int) < 64 := by omega
                          have o15 : (q15 : Int) < 64 := by omega
                          have o16 : (q16 : Int) < 64 := by omega
                          have n2 : q2 ≠ t := by omega
                          have n7 : q7 ≠ t := by omega
                          have n15 : q15 ≠ t := by omega
                          have n16 : q16 ≠ t := by omega
                          rw [← hq2] at d2
                          rw [← hq7] at d7
                          rw [← hq15] at d15
                          rw [← hq16] at d16
                          clear hq2 hq7 hq15 hq16 hW hV hH hf
                          go_wp2_with fail
                          refine reg27 wr Wb t q2 q7 q15 q16 x2 x7 x15 x16 lt64 m2 m7 m15 m16 o2 o7 o15 o16 n2 n7 n15 n16 k0 z0 d2 d7 d15 d16 (Lib.hid ?_)
                          rename_i w6
                          intro h6
                          obtain ⟨hh6, hf6⟩ := h6
                          have HH6 := Lib.hid (And.intro hh6 hf6)
                          clear hh6 hf6
                          go_wp2_with fail
                          go_meet
                          case rel =>
                            obtain ⟨hW, hV, hH, hf⟩ := HH.out
                            have ev : (rotr x2 17 ^^^ rotr x2 19 ^^^ x2 >>> 10) + x7 + (rotr x15 7 ^^^ rotr x15 18 ^^^ x15 >>> 3) + x16 = x16 + sig0 x15 + x7 + sig1 x2 := by
                              unfold sig0 sig1
                              ac_rfl
                            have g0 := heap_setCell_in wr Wb t _ _ _ (.int .u32 (wi (x16 + sig0 x15 + x7 + sig1 x2))) hW
                            rw [arrW_set _ _ _ _ hsc.symm (by omega), ← HS.out, ← ev] at g0
                            refine ⟨?_, ?_, ?_, ?_⟩
                            · rw [HH6.out.1]; exact g0
                            · rw [HH6.out.1, Below.heap_setCell _ _ _ _ (show Vb ≠ Wb by omega)]; exact hV
                            · rw [HH6.out.1, Below.heap_setCell _ _ _ _ (show Hb ≠ Wb by omega)]; exact hH
                            · exact (hf.setCell (p := ⟨Wb, _, none⟩) (fun h => by simp only at h; omega) _).trans' HH6.out.2.of0
                      case rest =>
                        obtain ⟨hW2, hV2, hH2, hf2⟩ := hcut
                        clear hW hV hH hf
                        have hvl : (rnds (blk m k) s t).length = 8 := by rw [rnds_length]; exact hsl
                        obtain ⟨xa, xb, xc, xd, xe, xf, xg, xh, hve⟩ := eight hvl
                        have HST := Lib.hid (show rnds (blk m k) s (t + 1) = stp (cubesL.getD t 0) ((sch (blk m k) 64).getD t 0) (rnds (blk m k) s t) from rfl)
                        have hK2 : wc.heap[Kb]? = some (.cells (arrW cubesL 64) 91 (0, 0)) := hf2.keeps (fun h => by omega) hK9
                        have dk := row_get hK2 t (by rw [cubesL_length]; exact ht64)
                        have dw := row_get hW2 t (by rw [sch_length]; omega)
                        rw [← sch_get (blk m k) (t + 1) 64 t (by omega) (by omega)] at dw
                        rw [hve] at hV2 HST
                        have d0 := row_get hV2 0 (by simp)
                        have d1 := row_get hV2 1 (by simp)
                        have d2 := row_get hV2 2 (by simp)
                        have d3 := row_get hV2 3 (by simp)
                        have d4 := row_get hV2 4 (by simp)
                        have d5 := row_get hV2 5 (by simp)
                        have d6 := row_get hV2 6 (by simp)
                        have d7 := row_get hV2 7 (by simp)
                        replace d0 : wc.cell? ⟨Vb, 0, none⟩ = some (.int .u32 (wi xa)) := d0
                        replace d1 : wc.cell? ⟨Vb, 1, none⟩ = some (.int .u32 (wi xb)) := d1
                        replace d2 : wc.cell? ⟨Vb, 2, none⟩ = some (.int .u32 (wi xc)) := d2
                        replace d3 : wc.cell? ⟨Vb, 3, none⟩ = some (.int .u32 (wi xd)) := d3
                        replace d4 : wc.cell? ⟨Vb, 4, none⟩ = some (.int .u32 (wi xe)) := d4
                        replace d5 : wc.cell? ⟨Vb, 5, none⟩ = some (.int .u32 (wi xf)) := d5
                        replace d6 : wc.cell? ⟨Vb, 6, none⟩ = some (.int .u32 (wi xg)) := d6
                        replace d7 : wc.cell? ⟨Vb, 7, none⟩ = some (.int .u32 (wi xh)) := d7
                        generalize cubesL.getD t 0 = kq at *
                        generalize (sch (blk m k) 64).getD t 0 = x at *
                        have HVE := Lib.hid hve
                        have HW2 := Lib.hid (And.intro hW2 (And.intro hV2 (And.intro hH2 hf2)))
                        clear hve hW2 hV2 hH2 hf2 hK2 hvl
                        obtain ⟨wo, hwo⟩ : ∃ wo, wo = wc := ⟨_, rfl⟩
                        subst hwo
                        go_upto_region 28 with fail
                        refine reg28 wo Kb Wb Vb t xe xf xg xh kq x lt64 d4 d5 d6 d7 dk dw (Lib.hid ?_)
                        rename_i wc
                        intro hcut
                        · skip
                          obtain ⟨rfl, hh1, hF1⟩ := hcut
                          obtain ⟨wp, hwp⟩ : ∃ wp, wp = wc := ⟨_, rfl⟩
                          subst hwp
                          generalize hT1 : xh + (rotr xe 6 ^^^ rotr xe 11 ^^^ rotr xe 25) + (xe &&& xf ^^^ ~~~ xe &&& xg) + kq + x = T1 at *
                          have HT1 := Lib.hid hT1
                          rw [← cell_heap hh1] at d0 d1 d2 d3 d4 d5 d6
                          clear hT1 d7 dk dw
                          go_upto_region 29 with fail
                          refine reg29 wp Vb xa xb xc d0 d1 d2 (Lib.hid ?_)
                          rename_i wc
                          intro hcut
                          · skip
                            obtain ⟨rfl, hh2, hF2⟩ := hcut
                            generalize hT2 : ((rotr xa 2 ^^^ rotr xa 13 ^^^ rotr xa 22) + (xa &&& xb ^^^ xa &&& xc ^^^ xb &&& xc)) = T2 at *
                            have HT2 := Lib.hid hT2
                            rw [← cell_heap hh2] at d0 d1 d2 d3 d4 d5 d6
                            have hheap : wc.heap = wo.heap := hh2.trans hh1
                            have hV3 : wc.heap[Vb]? = some (.cells (arrW [xa, xb, xc, xd, xe, xf, xg, xh] 8) 92 (0, 0)) := by rw [hheap]; exact HW2.out.2.1
                            have HHP := Lib.hid hheap
                            have HFF := Lib.hid (hF1.trans' hF2)
                            clear hT2 hh1 hh2 hheap hF1 hF2
                            go_wp2_with (refine wpList_store_row rfl 92 (.tmp 11) (.tmp 252) rfl Vb ([T1 + T2, xa, xb, xc, xd + T1, xe, xf, xg].map W32).toArray rfl rfl 92 _ hV3 Tryd.sz8w (arrW_size _ _ (by simp)) (oneW_map _) ?_)
                            go_roundw
                            case rel =>
                              obtain ⟨hW, hV, hH, hf⟩ := HW2.out
                              refine ⟨t + 1, by omega, by go_num, ?_, ?_, ?_, ?_⟩
                              · rw [setRow_other _ _ _ _ (by omega), HHP.out]; exact hW
                              · have e : arrW (stp kq x [xa, xb, xc, xd, xe, xf, xg, xh]) 8 = ([T1 + T2, xa, xb, xc, xd + T1, xe, xf, xg].map W32).toArray := by
                                  rw [arrW_full _ 8 (by rfl), ← HT1.out, ← HT2.out]
                                  rfl
                                rw [HST.out, e]
                                exact setRow_heap _ _ _ _ _ _ hV3
                              · rw [setRow_other _ _ _ _ (by omega), HHP.out]; exact hH
                              · exact (hf.trans' HFF.out.of0).setRow (fun h => by omega) _
                            case measure => simp [intOf]; omega
                    · have ht0 : t = 64 := by omega
                      rw [ht0] at hV
                      clear ht0 hW
                      have lt64 : ¬ (t : Int) < 64 := by omega
                      have hvl : (rnds (blk m k) s 64).length = 8 := by rw [rnds_length]; exact hsl
                      have hcl : (compress (blk m k) s).length = 8 := by rw [compress_length]; exact hsl
                      have hcg : ∀ i, i < 8 → (compress (blk m k) s).getD i 0 = s.getD i 0 + (rnds (blk m k) s 64).getD i 0 := fun i hi => zip_getD _ _ _ (by omega) (by omega)
                      generalize rnds (blk m k) s 64 = vs at *
                      generalize compress (blk m k) s = cs at *
                      have HCG := Lib.hid hcg
                      clear hcg
                      go_wp2_with fail
                      go_loopw [253] (fun iv wx => ∃ i : Nat, i ≤ 8 ∧ iv = .int .i64 i ∧ wx.heap[Hb]? = some (.cells (arrW (cs.take i ++ s.drop i) 8) 92 (0, 0)) ∧ wx.heap[Vb]? = some (.cells (arrW vs 8) 92 (0, 0)) ∧ Fr (fun b => b = Hb) wm wx) (fun iv _ => 8 - (intOf iv).toNat)
                      case atStart => exact ⟨0, by omega, rfl, hH, hV, hf⟩
                      case round =>
                        clear hH hV hf
                        obtain ⟨i6, hi6, rfl, hH, hV, hf⟩ := hrel
                        by_cases hi68 : i6 < 8
                        · have l6 : (i6 : Int) < 8 := by omega
                          have hml : (cs.take i6 ++ s.drop i6).length = 8 := by simp; omega
                          have hge : (cs.take i6 ++ s.drop i6).getD i6 0 = s.getD i6 0 := by
                            rw [List.getD_eq_getElem?_getD, List.getElem?_append_right (by simp; omega)]
                            simp [List.getD, Nat.min_eq_left (show i6 ≤ cs.length by omega)]
                          have dh := row_get (w := wr.drew) hH i6 (by omega)
                          rw [hge] at dh
                          have dv := row_get (w := wr.drew) hV i6 (by omega)
                          have zf := free_row (w := wr.drew) (i := i6) hH
                          have HS := Lib.hid (mix_set cs s i6 (by omega) (by omega))
                          have HC := HCG.out i6 hi68
                          generalize s.getD i6 0 = xs at *
                          generalize vs.getD i6 0 = xv at *
                          have HCX := Lib.hid HC
                          have HH := Lib.hid (And.intro hH (And.intro hV hf))
                          have hneV : Vb ≠ Hb := by omega
                          clear HC hge hH hV hf
                          go_wp2_with fail
                          refine wp_region_noPanic ?_
                          refine wp_region_held_drew (S := (fun w' => w'.cell? ⟨Vb, i6, none⟩ = some (.int .u32 (wi xv)))) (by kernel_rfl) ?_ (fun hHeld => ?_)
                          · ((try dsimp only) <;> (first | exact dv | (simp only [cell_drew]; rw [cell_setCell_ne _ _ _ _ hneV]; exact dv)))
                          refine rtake 0 ?_
                          refine rtake 1 ?_
                          refine rtake 2 ?_
                          refine rtake 4 ?_
                          refine rtake 5 ?_
                          refine rtake 6 ?_
                          refine wpAnyH_ready (rs := [3]) (by kernel_rfl) (by simp) ?_
                          refine AllReadyH.cons (o := ⟨_, _, _, _, _, _⟩) rfl (fun K hK => ?_) AllReadyH.nil
                          go_simp
                          refine hK.out _ _ ?_ (fun hHeld => ?_)
                          · ((try dsimp only) <;> (first | exact dv | (simp only [cell_drew]; rw [cell_setCell_ne _ _ _ _ hneV]; exact dv)))
                          clear hK K
                          try (simp only [Act.put, List.setIfInBounds_toArray]; dsimp only [List.set_cons_zero, List.set_cons_succ])
                          refine rtake 7 ?_
                          refine rtake 8 ?_
                          refine wpAnyH_ready (rs := [9]) (by kernel_rfl) (by simp) ?_
                          refine AllReadyH.cons (o := ⟨_, _, _, _, _, _⟩) rfl (fun K hK => ?_) AllReadyH.nil
                          go_simp
                          refine hK.out _ _ ?_ (fun hHeld => ?_)
                          · ((try dsimp only) <;> (first | exact dv | (simp only [cell_drew]; rw [cell_setCell_ne _ _ _ _ hneV]; exact dv)))
                          clear hK K
                          try (simp only [Act.put, List.setIfInBounds_toArray]; dsimp only [List.set_cons_zero, List.set_cons_succ])
                          refine wpAnyH_done (by kernel_rfl) ?_ _
                          refine NoPanic.normal ?_
                          go_wp2
                          go_roundw
                          case rel =>
                            obtain ⟨hH, hV, hf⟩ := HH.out
                            refine ⟨i6 + 1, by omega, by go_num, ?_, ?_, ?_⟩
                            · have g0 := heap_setCell_in wr Hb i6 _ _ _ (.int .u32 (wi (xs + xv))) hH
                              rw [arrW_setIn _ _ _ _ hml, ← HCX.out, HS.out] at g0
                              simp only [heap_drew]
                              rw [← HCX.out]
                              exact g0
                            · simp only [heap_drew]; rw [Below.heap_setCell _ _ _ _ hneV]; exact hV
                            · exact (hf.setCell (p := ⟨Hb, _, none⟩) (fun _ => rfl) _).drew
                          case measure => simp [intOf]; omega
                        · have hi0 : i6 = 8 := by omega
                          rw [hi0, List.take_of_length_le (by omega), List.drop_eq_nil_of_le (by omega), List.append_nil] at hH
                          clear hi0
                          have l6 : ¬ (i6 : Int) < 8 := by omega
                          have mp : IntKind.i64.wrap ((p : Int) + 64) = ((p + 64 : Nat) : Int) := by rw [IntWalk.i64_in _ (by omega)]; omega
                          obtain ⟨p6, hp6⟩ : ∃ q, q = p + 64 := ⟨_, rfl⟩
                          rw [← hp6] at mp
                          have HP6 := Lib.hid hp6
                          have HHF := Lib.hid (And.intro hH hf)
                          clear hp6 hH hV hf
                          go_wp2
                          go_roundw
                          case rel =>
                            refine ⟨k + 1, by omega, ?_, ?_, HHF.out.2⟩
                            · have := HP6.out
                              have := HPk.out
                              go_num
                            · rw [HRB.out]
                              exact HHF.out.1
                          case measure =>
                            have := HP6.out
                            simp [intOf]; omega
                · have hk0 : k = M := by omega
                  rw [hk0] at hH
                  have lk : ¬ (64 * (k : Int)) < 64 * (M : Int) := by omega
                  have hsl : (runB m H0 M).length = 8 := by rw [runB_length]; rfl
                  have hsha : sha bs = bytesOf (runB m H0 M) := by
                    rw [sha, HMM.out, HMl.out, Nat.mul_div_cancel_left _ (by omega)]
                  have HSHA := Lib.hid hsha
                  clear hk0 hsha
                  generalize runB m H0 M = sF at *
                  have hRw : wr.heap[w.heap.size]? = some (.cells (arrB [] 32) 33 (0, 0)) := (hF9.trans (T := fun b => b = Hb) hf fun i hi h => .inr h).keeps (fun h => by omega) HR1.out.1
                  have hFw : Fr F0 w wr := (HR1.out.2.trans hF9 fun i hi h => by omega).trans hf fun i hi h => by omega
                  have e32 : (arrB [] 32).size = 32 := arrB_size _ _ (by simp)
                  obtain ⟨wz, hwz⟩ : ∃ wz, wz = wr := ⟨_, rfl⟩
                  subst hwz
                  have HHz := Lib.hid (And.intro hH (And.intro hRw hFw))
                  clear hH hRw hFw hf
                  go_wp2_with (first | refine wpList_build_none rfl 33 rfl _ Tryd.built32 ?_ | refine wpList_store_row rfl 33 (.tmp 16) (.tmp 266) rfl wz.heap.size _ rfl rfl 33 (arrB [] 32) (heap_alloc_new wz (.cells (arrB [] 32) 33)) (by rw [Tryd.sz32w, e32]) rfl (oneAB _ _) ?_)
                  obtain ⟨W1, hW1⟩ : ∃ W1, W1 = ((wz.alloc (.cells (arrB [] 32) 33)).setRow wz.heap.size (arrB [] 32)) := ⟨_, rfl⟩
                  have F1 : Fr F0 wz W1 := by
                    rw [hW1]
                    exact ((Fr.refl F0 wz).alloc _).setRow (fun h => by omega) _
                  have o1 : W1.heap[wz.heap.size]? = some (.cells (arrB [] 32) 33 (0, 0)) := by
                    rw [hW1]
                    exact setRow_heap _ _ _ _ _ _ (heap_alloc_new wz _)
                  refine wp_of_world_2 W1 hW1 ?_
                  have hOw : w.heap.size < wz.heap.size := (Array.getElem?_eq_some_iff.1 HHz.out.2.1).1
                  have hOh : Hb < wz.heap.size := (Array.getElem?_eq_some_iff.1 HHz.out.1).1
                  have h1 := F1.keeps (fun f => f) HHz.out.1
                  have r1 := F1.keeps (fun f => f) HHz.out.2.1
                  have f1 := HHz.out.2.2.trans' F1
                  generalize hOb : wz.heap.size = Ob at *
                  clear hW1 F1 e32
                  go_loopw [267] (fun iv wx => ∃ i : Nat, i ≤ 32 ∧ iv = .int .i64 i ∧ wx.heap[Ob]? = some (.cells (arrB ((bytesOf sF).take i) 32) 33 (0, 0)) ∧ wx.heap[Hb]? = some (.cells (arrW sF 8) 92 (0, 0)) ∧ wx.heap[w.heap.size]? = some (.cells (arrB [] 32) 33 (0, 0)) ∧ Fr F0 w wx) (fun iv _ => 32 - (intOf iv).toNat)
                  case atStart => exact ⟨0, by omega, rfl, o1, h1, r1, f1⟩
                  case round =>
                    clear o1 h1 r1 f1
                    obtain ⟨i7, hi7, rfl, hO, hH, hR, hf⟩ := hrel
                    have hbl : (bytesOf sF).length = 32 := by rw [bytesOf_length, hsl]
                    by_cases hi32 : i7 < 32
                    · have li : (i7 : Int) < 32 := by omega
                      obtain ⟨j, hj⟩ : ∃ j, j = i7 / 4 := ⟨_, rfl⟩
                      obtain ⟨r, hr⟩ : ∃ r, r = i7 % 4 := ⟨_, rfl⟩
                      obtain ⟨r8, hr8⟩ : ∃ q, q = 8 * r := ⟨_, rfl⟩
                      obtain ⟨sh, hsh⟩ : ∃ q, q = 24 - r8 := ⟨_, rfl⟩
                      have ej : (i7 : Int) / 4 = (j : Int) := by omega
                      have er : (i7 : Int) % 4 = (r : Int) := by omega
                      have m8 : IntKind.i64.wrap (8 * (r : Int)) = (r8 : Int) := by rw [IntWalk.i64_in _ (by omega)]; omega
                      have m24 : IntKind.i64.wrap (24 - (r8 : Int)) = (sh : Int) := by rw [IntWalk.i64_in _ (by omega)]; omega
                      have lj : (j : Int) < 8 := by omega
                      have lsh : (sh : Int) < 32 := by omega
                      have hg := bytesOf_get sF j r (by omega) (by omega)
                      rw [show 4 * j + r = i7 by omega, show 24 - 8 * r = sh by omega] at hg
                      have HT := Lib.hid (take_succB _ _ _ hg)
                      have dh := row_get hH j (by omega)
                      generalize sF.getD j 0 = xs at *
                      have htl : ((bytesOf sF).take i7).length = i7 := by simp; omega
                      have k0 := rowB_get0 (i := i7) hO (by omega) (by omega)
                      have z0 := free_row (i := i7) hO
                      have HH := Lib.hid (And.intro hO (And.intro hH (And.intro hR hf)))
                      clear hg hj hr hr8 hsh hO hH hR hf hbl
                      go_wp2
                      go_roundw
                      case rel =>
                        obtain ⟨hO, hH, hR, hf⟩ := HH.out
                        refine ⟨i7 + 1, by omega, by go_num, ?_, ?_, ?_, hf.setCell (p := ⟨Ob, _, none⟩) (fun h => by simp only at h; omega) _⟩
                        · have g0 := heap_setCell_in wr Ob i7 _ _ _ (.int .u8 ((lo8 (xs >>> sh)).toNat : Int)) hO
                          rw [arrB_set _ _ _ _ htl.symm (by omega), ← HT.out] at g0
                          exact g0
                        · rw [Below.heap_setCell _ _ _ _ (show Hb ≠ Ob by omega)]; exact hH
                        · rw [Below.heap_setCell _ _ _ _ (show w.heap.size ≠ Ob by omega)]; exact hR
                      case measure => simp [intOf]; omega
                    · have hi0 : i7 = 32 := by omega
                      rw [hi0, List.take_of_length_le (by omega), arrB_full _ _ hbl] at hO
                      have li : ¬ (i7 : Int) < 32 := by omega
                      have hbz : ((bytesOf sF).map B8).toArray.size = 32 := by simp [hbl]
                      have e32 : (arrB [] 32).size = 32 := arrB_size _ _ (by simp)
                      clear hi0 hH
                      go_wp2_with (first | refine wpList_load_row rfl 33 (.tmp 16) rfl Ob rfl 33 _ (0, 0) _ hO Tryd.underlying33 rfl (by rw [Tryd.sz32w, hbz]) ?_ | refine wpList_store_row rfl 33 (.tmp 2) (.tmp 283) rfl w.heap.size _ rfl rfl 33 _ hR (by rw [Tryd.sz32w, hbz]) (by rw [e32, hbz]) (oneB_map _) ?_)
                      refine bodyPost_ret (results_cell_row rfl _ _ w.heap.size _ _ _ _ rfl (setRow_heap _ _ _ _ _ _ hR) Tryd.underlying33 rfl (by rw [Tryd.sz32w, hbz])) rfl ⟨?_, hf.setRow (fun h => by omega) _⟩
                      rw [HSHA.out]
end Go.Proofs.YtaobgaoldfeehaaDoor

/- The document's answer 02 (digest): the walk of Double. -/
namespace Go.Proofs.YtaobgaoldfeehaaDoor
set_option linter.unusedVariables false
set_option linter.unusedSimpArgs false
open Go.RowKit

set_option maxHeartbeats 4000000 in
theorem r2Double_any (a : Option Addr) (n c : Nat) (bs : List UInt8) (hn : n = bs.length) (hl : bs.length ≤ 1000000) (w : World) (h : Bs w a c bs) :
    Calls Tryd.prog 12 #[.slice a n c] w fun e w' => e = .returned (.agg ((sha2 bs).map B8).toArray) ∧ Fr F0 w w' := by
  subst hn
  have hz1 : ((sha bs).map B8).toArray.size = 32 := by simp [sha_length]
  have hz2 : ((sha2 bs).map B8).toArray.size = 32 := by simp [sha2, sha_length]
  have HB := Lib.hid h
  clear h
  go_enter Tryd.func12, Tryd.ntmps12
  go_wp2_with fail
  refine (r2Sum_any a _ c bs rfl hl _ (Sl.fr HB.out ((Fr.refl F0 w).alloc _) fun _ _ f => f)).mono ?_
  rintro e w1 ⟨rfl, h1⟩
  have h1s := h1.size
  simp only [World.size_alloc] at h1s
  go_wp2_with (refine wpList_store_row rfl 33 (.tmp 3) (.tmp 5) rfl w1.heap.size _ rfl rfl 33 _ (heap_alloc_new w1 _) (by rw [Tryd.sz32w, hz1]) (by rw [hz1]; rfl) (oneB_map _) ?_)
  generalize hY : w1.heap.size = Y at *
  have hF2 : Fr F0 w ((w1.alloc (.cells #[.int .u8 0, .int .u8 0, .int .u8 0, .int .u8 0, .int .u8 0, .int .u8 0, .int .u8 0, .int .u8 0, .int .u8 0, .int .u8 0, .int .u8 0, .int .u8 0, .int .u8 0, .int .u8 0, .int .u8 0, .int .u8 0, .int .u8 0, .int .u8 0, .int .u8 0, .int .u8 0, .int .u8 0, .int .u8 0, .int .u8 0, .int .u8 0, .int .u8 0, .int .u8 0, .int .u8 0, .int .u8 0, .int .u8 0, .int .u8 0, .int .u8 0, .int .u8 0] 33)).setRow Y ((sha bs).map B8).toArray) := ((((Fr.refl F0 w).alloc _).trans' h1).alloc _).setRow (fun h => by omega) _
  have hY2 := setRow_heap _ _ _ ((sha bs).map B8).toArray _ _ (show (w1.alloc (.cells #[.int .u8 0, .int .u8 0, .int .u8 0, .int .u8 0, .int .u8 0, .int .u8 0, .int .u8 0, .int .u8 0, .int .u8 0, .int .u8 0, .int .u8 0, .int .u8 0, .int .u8 0, .int .u8 0, .int .u8 0, .int .u8 0, .int .u8 0, .int .u8 0, .int .u8 0, .int .u8 0, .int .u8 0, .int .u8 0, .int .u8 0, .int .u8 0, .int .u8 0, .int .u8 0, .int .u8 0, .int .u8 0, .int .u8 0, .int .u8 0, .int .u8 0, .int .u8 0] 33)).heap[Y]? = some (.cells _ 33 (0, 0)) by rw [← hY]; exact heap_alloc_new w1 _)
  have hR : ∃ cs, ((w1.alloc (.cells #[.int .u8 0, .int .u8 0, .int .u8 0, .int .u8 0, .int .u8 0, .int .u8 0, .int .u8 0, .int .u8 0, .int .u8 0, .int .u8 0, .int .u8 0, .int .u8 0, .int .u8 0, .int .u8 0, .int .u8 0, .int .u8 0, .int .u8 0, .int .u8 0, .int .u8 0, .int .u8 0, .int .u8 0, .int .u8 0, .int .u8 0, .int .u8 0, .int .u8 0, .int .u8 0, .int .u8 0, .int .u8 0, .int .u8 0, .int .u8 0, .int .u8 0, .int .u8 0] 33)).setRow Y ((sha bs).map B8).toArray).heap[w.heap.size]? = some (.cells cs 33 (0, 0)) ∧ cs.size = 32 := ⟨_, by rw [setRow_other _ _ _ _ (by omega), heap_alloc_old _ _ (by omega)]; exact h1.keeps (fun f => f) (heap_alloc_new w _), rfl⟩
  generalize (w1.alloc (.cells #[.int .u8 0, .int .u8 0, .int .u8 0, .int .u8 0, .int .u8 0, .int .u8 0, .int .u8 0, .int .u8 0, .int .u8 0, .int .u8 0, .int .u8 0, .int .u8 0, .int .u8 0, .int .u8 0, .int .u8 0, .int .u8 0, .int .u8 0, .int .u8 0, .int .u8 0, .int .u8 0, .int .u8 0, .int .u8 0, .int .u8 0, .int .u8 0, .int .u8 0, .int .u8 0, .int .u8 0, .int .u8 0, .int .u8 0, .int .u8 0, .int .u8 0, .int .u8 0] 33)).setRow Y ((sha bs).map B8).toArray = w2 at *
  obtain ⟨cs, hR, hRz⟩ := hR
  have hx := Bs.of_row hY2 (by rw [sha_length]; unfold maxLen; omega)
  rw [sha_length] at hx
  refine (r2Sum_any _ 32 32 (sha bs) (sha_length _).symm (by rw [sha_length]; omega) _ hx).mono ?_
  rintro e w3 ⟨rfl, h3⟩
  go_wp2_with (refine wpList_store_row rfl 33 (.tmp 2) (.tmp 7) rfl w.heap.size _ rfl rfl 33 _ (h3.keeps (fun f => f) hR) (by rw [Tryd.sz32w]; exact congrArg some hz2.symm) (by rw [hRz]; exact hz2.symm) (oneB_map _) ?_)
  refine bodyPost_ret (results_cell_row rfl _ _ w.heap.size _ _ _ _ rfl (setRow_heap _ _ _ _ _ _ (h3.keeps (fun f => f) hR)) Tryd.underlying33 rfl (by rw [Tryd.sz32w]; exact congrArg some hz2.symm)) rfl ⟨rfl, ?_⟩
  exact (hF2.trans' h3).setRow (fun h => by omega) _
end Go.Proofs.YtaobgaoldfeehaaDoor

/- Stage 2, digest: Zero. -/
namespace Go.Proofs.YtaobgaoldfeehaaDoor
set_option linter.unusedVariables false
set_option linter.unusedSimpArgs false
open Go.RowKit

theorem wpList_build_no {P : Program} {w : World} {ops : Array Oper} {rest : List Oper} {o : Oper} {a : Act} {Q : Exit → Act → World → Prop} (hg : o.guard = none) (t : TypeId) (ho : o.op = .build t #[]) (cells : Array Value)
    (hb : P.built t [] = some cells) (h : wpList P ops Q rest (a.put o.dst (.agg cells)) w) : wpList P ops Q (o :: rest) a w := by
  refine wpList_build hg t #[] ho (by simp [hb]) ?_
  simpa [hb] using h

theorem Tryd.builtH : Tryd.prog.built 34 [] = some ((List.replicate 32 (0 : UInt8)).map B8).toArray := by kernel_rfl

theorem eql_hashes (w : World) (l m : List UInt8) (h : l.length = 32) (h' : m.length = 32) : (binOp .eql 34 (.agg (l.map B8).toArray) (.agg (m.map B8).toArray)).run Tryd.prog w = .ok (.bool (decide (l = m))) w := by
  obtain ⟨i0, hi, _⟩ := info_parts Tryd.infoU8
  exact run_eql_bytes w 34 5 32 i0 Tryd.underlying34 hi (by kernel_rfl) (by kernel_rfl) Tryd.underlying5 l m h h'

set_option maxHeartbeats 4000000 in
theorem Zero_any (h : List UInt8) (hh : h.length = 32) (w : World) :
    Calls Tryd.prog 10 #[.agg (h.map B8).toArray] w fun e w' => e = .returned (.bool (decide (h = List.replicate 32 0))) ∧ Fr F0 w w' := by
  have E := fun w => eql_hashes w h (List.replicate 32 0) hh (by simp)
  have hz : (h.map B8).toArray.size = 32 := by simp [hh]
  generalize hZ : List.replicate 32 (0 : UInt8) = Z at *
  have hB := Tryd.builtH
  rw [hZ] at hB
  go_enter Tryd.func10, Tryd.ntmps10
  go_wp2_with (first | refine wpList_load_row rfl 34 (.tmp 1) rfl w.heap.size rfl 34 _ (0, 0) _ (heap_alloc_new w _) Tryd.underlying34 rfl (by rw [Tryd.sz32, hz]) ?_ | refine wpList_build_no rfl 34 rfl _ hB ?_)
  go_ret
  exact ⟨rfl, (Fr.refl F0 w).alloc _⟩
end Go.Proofs.YtaobgaoldfeehaaDoor

/- What the row's condition on the table of the cube roots gives. -/
namespace Go.Proofs.YtaobgaoldfeehaaDoor
set_option linter.unusedVariables false
set_option linter.unusedSimpArgs false
open Go.ChangeShapes Go.WideShapes Go.ChangeAt Go.RowKit

abbrev laidC : List (String × DataW Unit) := [("pontage/digest.cubes", Rows.laid_pontage_digest_cubes)]

theorem gCubes : Tryd.prog.globalNamed "pontage/digest.cubes" = some 0 := by kernel_rfl
theorem tCubes : (Tryd.prog.globals[0]?).map (·.type) = some 91 := by kernel_rfl
theorem cubes_data : Rows.laid_pontage_digest_cubes (H := Unit) = .agg (cubesN.map fun n : Nat => .lit (.int .u32 (n : Int))) := by rfl
theorem cubes_wi : ∀ i, i < 64 → wi (cubesL.getD i 0) = ((cubesN.getD i 0 : Nat) : Int) := by decide +kernel

theorem door_met (os : Os) (args : Array Value) : laidMetH Tryd.prog laidC ((World.doorLaid Tryd.prog 400 os).forCall (fun _ _ => 0) ⟨#[], args, []⟩).memory :=
  laidMetH_of_parts3 (fuel := 8) (laidMet_of_run' 8 (by kernel_rfl) (by kernel_rfl)) (by kernel_rfl) (by kernel_rfl)

theorem Cub.of_laid {W : World} (h : laidMetH Tryd.prog laidC W) : Cub W := by
  rw [MakeChecks.laidMetH_plain _ _ _ (by kernel_rfl)] at h
  obtain ⟨ps, ⟨g0, t0, cs0, f0, p0, q0, hg0, ht0, hv0, hd0, _, _⟩, _, _⟩ := h
  obtain rfl := Option.some.inj (gCubes.symm.trans hg0)
  obtain rfl := Option.some.inj (tCubes.symm.trans ht0)
  intro j hj
  obtain ⟨xs, m, rfl, hx, hlen, hn, hel⟩ := DataW.trod_array Tryd.underlying91 hd0
  have c1 : Tryd.prog.cellsOf 22 = 1 := by kernel_rfl
  have hxj := hel j hj
  rw [c1, Nat.mul_one] at hxj
  have hjx : j < xs.length := by omega
  rw [List.getElem?_eq_getElem hjx] at hxj
  obtain ⟨k, e1, e2, _⟩ := DataW.trod_int Tryd.underlying22 hxj
  simp only [Prod.mk.injEq] at hx
  have hx1 := hx.1
  rw [cubes_data, DataW.agg.injEq] at hx1
  have hk := congrArg (fun l => l[j]?) hx1
  simp only [List.getElem?_map, List.getElem?_eq_getElem hjx, Option.map_some] at hk
  have hcl : j < cubesN.length := by show j < 64; exact hj
  rw [List.getElem?_eq_getElem hcl, Option.map_some, e2] at hk
  have hk2 : (cubesN[j] : Int) = k := by simpa using hk
  rw [World.var?_cell hg0 hv0 j, cubes_wi j hj]
  have hcs : cs0.toList.drop j ≠ [] := by intro e; rw [e] at e1; simp at e1
  have hjl : j < cs0.toList.length := by
    rcases Nat.lt_or_ge j cs0.toList.length with h | h
    · exact h
    · exact absurd (List.drop_eq_nil_of_le h) hcs
  rw [List.drop_eq_getElem_cons hjl] at e1
  simp only [List.take_succ_cons, List.take_zero, List.cons.injEq, and_true] at e1
  rw [show cubesN.getD j 0 = cubesN[j] by simp [List.getD, List.getElem?_eq_getElem hcl], hk2, ← e1]
  simp at hjl
  simp [hjl]
end Go.Proofs.YtaobgaoldfeehaaDoor
