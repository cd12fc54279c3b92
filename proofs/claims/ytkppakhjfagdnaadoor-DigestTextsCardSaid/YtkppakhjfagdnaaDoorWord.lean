/- Words of 32 bits as values, and the operations on them. Nothing here speaks of the program. -/
import Derived.Test.YtkppakhjfagdnaaDoorFr
namespace Go.Proofs.YtkppakhjfagdnaaDoor
set_option linter.unusedVariables false
set_option linter.unusedSimpArgs false
open Go.RowKit

abbrev Wd := BitVec 32

/-- A word as a number. -/
def wi (x : Wd) : Int := (x.toNat : Int)
/-- A byte made a word. -/
def w8 (b : UInt8) : Wd := b.toBitVec.setWidth 32
/-- A word cut to a byte. -/
def lo8 (x : Wd) : UInt8 := UInt8.ofBitVec (x.setWidth 8)
/-- A word as a value. -/
@[reducible] def W32 (x : Wd) : Value := .int .u32 (wi x)

theorem wd_wrap (n : Nat) (h : n < 4294967296) : IntKind.u32.wrap (n : Int) = (n : Int) := IntWalk.u32_in _ (by omega)
theorem wd_ofInt (x : Wd) : BitVec.ofInt 32 (wi x) = x := by
  unfold wi
  apply BitVec.eq_of_toNat_eq
  have := x.isLt
  simp

section
variable (t : TypeId) (x y : Wd)
theorem wd_and : bits .and .u32 (wi x) (wi y) = wi (x &&& y) := by
  show IntKind.u32.wrap (BitVec.toNat (BitVec.ofInt 32 _ &&& BitVec.ofInt 32 _) : Int) = _
  rw [wd_ofInt, wd_ofInt]; exact wd_wrap _ (BitVec.isLt _)
theorem wd_or : bits .or .u32 (wi x) (wi y) = wi (x ||| y) := by
  show IntKind.u32.wrap (BitVec.toNat (BitVec.ofInt 32 _ ||| BitVec.ofInt 32 _) : Int) = _
  rw [wd_ofInt, wd_ofInt]; exact wd_wrap _ (BitVec.isLt _)
theorem wd_xor : bits .xor .u32 (wi x) (wi y) = wi (x ^^^ y) := by
  show IntKind.u32.wrap (BitVec.toNat (BitVec.ofInt 32 _ ^^^ BitVec.ofInt 32 _) : Int) = _
  rw [wd_ofInt, wd_ofInt]; exact wd_wrap _ (BitVec.isLt _)
theorem wd_not : bits .xor .u32 4294967295 (wi x) = wi (~~~ x) := by
  show IntKind.u32.wrap (BitVec.toNat (BitVec.ofInt 32 _ ^^^ BitVec.ofInt 32 _) : Int) = _
  rw [wd_ofInt, show BitVec.ofInt 32 4294967295 = BitVec.allOnes 32 from by decide, BitVec.allOnes_xor]; exact wd_wrap _ (BitVec.isLt _)

theorem wdv_and : binOp .and t (.int .u32 (wi x)) (.int .u32 (wi y)) = pure (.int .u32 (wi (x &&& y))) := by
  rw [binOp_and, intBits_and, wd_and]
theorem wdv_or : binOp .or t (.int .u32 (wi x)) (.int .u32 (wi y)) = pure (.int .u32 (wi (x ||| y))) := by
  rw [binOp_or, intBits_or, wd_or]
theorem wdv_xor : binOp .xor t (.int .u32 (wi x)) (.int .u32 (wi y)) = pure (.int .u32 (wi (x ^^^ y))) := by
  rw [binOp_xor, intBits_xor, wd_xor]
theorem wdv_not : Op.unary .xor (.int .u32 (wi x)) = pure (.int .u32 (wi (~~~ x))) := by
  rw [unary_xor, intBits_xor, ← wd_not]; rfl
theorem wdv_add : binOp .add t (.int .u32 (wi x)) (.int .u32 (wi y)) = pure (.int .u32 (wi (x + y))) := by
  rw [binOp_add]
  simp only [Op.intArith]
  unfold wi
  rw [IntKind.wrap_u32, BitVec.toNat_add]
  rw [Int.natCast_emod, Int.natCast_add]
  rfl
theorem wdv_shl (yk : IntKind) (n : Int) (h0 : 0 ≤ n) (h1 : n < 32) : binOp .shl t (.int .u32 (wi x)) (.int yk n) = pure (.int .u32 (wi (x <<< n.toNat))) := by
  rw [binOp_shl]
  have h2 : ¬ n < 0 := by omega
  have h3 : min n.toNat 32 = n.toNat := by omega
  simp only [Op.shift, h2, if_false, IntKind.bits, h3]
  unfold wi
  rw [IntKind.wrap_u32, BitVec.toNat_shiftLeft, Nat.shiftLeft_eq, Int.natCast_emod, Int.natCast_mul, Int.natCast_pow]
  rfl
theorem wdv_shr (yk : IntKind) (n : Int) (h0 : 0 ≤ n) (h1 : n < 32) : binOp .shr t (.int .u32 (wi x)) (.int yk n) = pure (.int .u32 (wi (x >>> n.toNat))) := by
  rw [binOp_shr]
  have h2 : ¬ n < 0 := by omega
  have h3 : min n.toNat 32 = n.toNat := by omega
  simp only [Op.shift, h2, if_false, IntKind.bits, h3]
  unfold wi
  rw [BitVec.toNat_ushiftRight, Nat.shiftRight_eq_div_pow, Int.fdiv_eq_ediv_of_nonneg _ (by exact Int.le_of_lt (Int.pow_pos (by omega)))]
  norm_cast
end

section
variable {P : Program} (w : World)
/-- A byte made a word. -/
theorem wdv_of8 (src dst : TypeId) (b : UInt8) (hs : (P.underlying src).isSome = true) (hd : P.underlying dst = some (.int .u32)) :
    (convert src dst (.int .u8 (b.toNat : Int))).run P w = .ok (.int .u32 (wi (w8 b))) w := by
  obtain ⟨d, hd'⟩ := Option.isSome_iff_exists.mp hs
  have h := b.toNat_lt
  have e : wi (w8 b) = (b.toNat : Int) := by
    show (((b.toBitVec.setWidth 32 : Wd)).toNat : Int) = _
    rw [BitVec.toNat_setWidth]
    congr 1
    exact Nat.mod_eq_of_lt (by show b.toNat < 4294967296; omega)
  simp only [convert, Sem.run_bind, run_underlying hd', run_underlying hd, Result.andThen_ok, Conv.intToInt, Sem.run_pure, e]
  rw [wd_wrap _ (by omega)]
/-- A word cut to a byte. -/
theorem wdv_to8 (src dst : TypeId) (x : Wd) (hs : (P.underlying src).isSome = true) (hd : P.underlying dst = some (.int .u8)) :
    (convert src dst (.int .u32 (wi x))).run P w = .ok (.int .u8 ((lo8 x).toNat : Int)) w := by
  obtain ⟨d, hd'⟩ := Option.isSome_iff_exists.mp hs
  have e : ((lo8 x).toNat : Int) = wi x % 256 := by
    show (((x.setWidth 8).toNat : Nat) : Int) = _
    unfold wi
    rw [BitVec.toNat_setWidth, Int.natCast_emod]
    rfl
  simp only [convert, Sem.run_bind, run_underlying hd', run_underlying hd, Result.andThen_ok, Conv.intToInt, Sem.run_pure, e]
  rw [IntKind.wrap_u8]
end
end Go.Proofs.YtkppakhjfagdnaaDoor
