/- Two rows of bytes, held against each other. Nothing here speaks of the program. -/
import Derived.Test.YtigjoepoaahidaaFr
import Derived.ChangeKeysEq
import Derived.Laws.StructEq
namespace Go.Proofs.Ytigjoepoaahidaa
set_option linter.unusedVariables false
set_option linter.unusedSimpArgs false
open Go.RowKit

theorem run_eqItems_bytes {P : Program} (w : World) (e : TypeId) (d : Nat) (hp : P.plainKey e = true) (he : P.underlying e = some (.int .u8)) (l m : List UInt8) (n : Nat) (hl : l.length = n) (hm : m.length = n) :
    ∀ is : List Nat, (∀ i ∈ is, i < n) → (Op.eqItems (d + 1) e 1 (l.map B8).toArray (m.map B8).toArray is).run P w = .ok (is.all fun i => decide (l.getD i 0 = m.getD i 0)) w
  | [], _ => by simp [Op.eqItems]
  | i :: is, h => by
    have hi := h i (by simp)
    have h1 := run_part_plain w hp (show (l.map B8).toArray[i * 1]? = some (B8 (l.getD i 0)) by simp [List.getD, List.getElem?_eq_getElem (show i < l.length by omega)])
    have h2 := run_part_plain w hp (show (m.map B8).toArray[i * 1]? = some (B8 (m.getD i 0)) by simp [List.getD, List.getElem?_eq_getElem (show i < m.length by omega)])
    have h4 := run_eqItems_bytes w e d hp he l m n hl hm is fun j hj => h j (by simp [hj])
    have hall : (List.all (i :: is) fun i => decide (l.getD i 0 = m.getD i 0)) = (decide (l.getD i 0 = m.getD i 0) && List.all is fun i => decide (l.getD i 0 = m.getD i 0)) := rfl
    rw [hall]
    generalize (List.all is fun i => decide (l.getD i 0 = m.getD i 0)) = r at *
    generalize l.getD i 0 = x at *
    generalize m.getD i 0 = y at *
    have h3 : (Op.equalIn (d + 1) e (B8 x) (B8 y)).run P w = .ok (decide (x = y)) w := by
      have e1 : ((x.toNat : Int) == (y.toNat : Int)) = decide (x = y) := by
        by_cases hq : x = y
        · subst hq; simp
        · have : x.toNat ≠ y.toNat := fun e => hq (UInt8.toNat_inj.1 e)
          have h5 : ¬ (x.toNat : Int) = (y.toNat : Int) := by omega
          rw [decide_eq_false hq]
          exact beq_false_of_ne h5
      rw [← e1]
      simp [Op.equalIn, B8, Sem.run_bind, run_underlying he]
    simp only [Op.eqItems, Sem.run_bind, h1, h2, h3, Result.andThen_ok]
    by_cases hq : x = y
    · simp [hq, h4]
    · simp [hq]

theorem run_eql_bytes {P : Program} (w : World) (t e : TypeId) (n : Nat) (i : TypeInfo) (hu : P.underlying t = some (.array n e)) (hi : P.info? e = some i) (hc : P.cellsOf e = 1) (hp : P.plainKey e = true) (he : P.underlying e = some (.int .u8)) (l m : List UInt8) (hl : l.length = n) (hm : m.length = n) :
    (binOp .eql t (.agg (l.map B8).toArray) (.agg (m.map B8).toArray)).run P w = .ok (.bool (decide (l = m))) w := by
  rw [run_eql_struct, run_equalIn_array w 9999 _ _ hu hi, hc, run_eqItems_bytes w e 9998 hp he l m n hl hm _ (fun j hj => List.mem_range.1 hj)]
  simp only [Result.andThen_ok]
  congr 2
  rw [Bool.eq_iff_iff]
  simp only [List.all_eq_true, List.mem_range, decide_eq_true_eq]
  constructor
  · intro h
    apply List.ext_getElem (by omega)
    intro j h1 h2
    have := h j (by omega)
    simpa [List.getD, List.getElem?_eq_getElem h1, List.getElem?_eq_getElem h2] using this
  · rintro rfl j _
    rfl
end Go.Proofs.Ytigjoepoaahidaa
