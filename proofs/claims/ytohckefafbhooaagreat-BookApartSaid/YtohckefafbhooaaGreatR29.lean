import Derived.Test.YtohckefafbhooaaGreatR18
import Derived.Test.YtohckefafbhooaaGreatR19
import Derived.Test.YtohckefafbhooaaGreatR20
import Derived.Test.YtohckefafbhooaaGreatR21
import Derived.Test.YtohckefafbhooaaGreatR22
import Derived.Test.YtohckefafbhooaaGreatR23
import Derived.Test.YtohckefafbhooaaGreatR24
import Derived.Test.YtohckefafbhooaaGreatR25
import Derived.Test.YtohckefafbhooaaGreatR26
import Derived.Test.YtohckefafbhooaaGreatR27
import Derived.Test.YtohckefafbhooaaGreatR28
namespace Go.Proofs.YtohckefafbhooaaGreat
set_option maxRecDepth 100000
set_option linter.unusedVariables false
set_option linter.unusedSimpArgs false
open Go.RowKit
theorem ajv {k : Nat} (h : 6 ≤ k ∧ k ≤ 18) : k = 6 ∨ k = 7 ∨ k = 8 ∨ k = 9 ∨ k = 10 ∨ k = 11 ∨ k = 12 ∨ k = 13 ∨ k = 14 ∨ k = 15 ∨ k = 16 ∨ k = 17 ∨ k = 18 := by omega
theorem aa9 {d : Dd} (h : d.kind ≠ 18) : ar2 d = d.a := if_neg h
section
variable {B : Nat} {w w' : World} {m : Nat} {R : Nat → Nat} {M : Bok} {sv : Value}
theorem azq {d : Dd} (h : opE M d.w (ar2 d) (ac9 d.kind) ≠ 0) : jk R M d = M.no (opE M d.w (ar2 d) (ac9 d.kind)) := if_neg h
theorem azp {d : Dd} {x : Vlt} (h : opE M d.w (ar2 d) (ac9 d.kind) = 0) (hx : M.vs[atV M.vs d.w]? = some x) : jk R M d = aam R M d (atV M.vs d.w) x := by
 unfold jk
 rw [if_pos h,hx]
theorem qw (h : RB B w m R M sv) (hM : M.Ok) (hR : R 0 < 18446744073709551616) (d : Dd) (hk : 6 ≤ d.kind ∧ d.kind ≤ 18) (hw : d.w < 256) (hv : d.v < 256) (ha : d.a < 18446744073709551616) :
  Calls Tryz.prog 108 #[.pointer (some ⟨m,0,none⟩),.agg (dC d)] w (aaq B w m R sv (jk R M d)) := by
 by_cases he : opE M d.w (ar2 d) (ac9 d.kind) = 0
 ·obtain ⟨x,hx⟩ := ard he
  rw [azp he hx]
  obtain ⟨a,c,rfl,-⟩ := h.vs.is
  obtain ⟨gv,rfl⟩ := uj.agk h.vs (List.getElem?_eq_some_iff.1 hx).1
  unfold aam
  rcases ajv hk with k | k | k | k | k | k | k | k | k | k | k | k | k
  ·rw [aa9 (by omega),k,show ac9 6 = false from rfl] at he
   rw [k]
   exact anl h hM d k hw hv ha hx he
  ·rw [aa9 (by omega),k,show ac9 7 = false from rfl] at he
   rw [k]
   exact ano h hM d k hw hv ha hx he hR
  ·rw [aa9 (by omega),k,show ac9 8 = false from rfl] at he
   rw [k]
   exact ahp h hM d k hw hv ha hx he hR
  ·rw [aa9 (by omega),k,show ac9 9 = true from rfl] at he
   rw [k]
   exact ahq h hM d k hw hv ha hx he
  ·rw [aa9 (by omega),k,show ac9 10 = false from rfl] at he
   rw [k]
   exact anm h hM d k hw hv ha hx he
  ·rw [aa9 (by omega),k,show ac9 11 = false from rfl] at he
   rw [k]
   exact anr h hM d k hw hv ha hx he
  ·rw [aa9 (by omega),k,show ac9 12 = true from rfl] at he
   rw [k]
   exact ana h hM d k hw hv ha hx he
  ·rw [aa9 (by omega),k,show ac9 13 = true from rfl] at he
   rw [k]
   exact ah4 h hM d k hw hv ha hx he
  ·rw [aa9 (by omega),k,show ac9 14 = true from rfl] at he
   rw [k]
   exact akr h hM d k hw hv ha hx he
  ·rw [aa9 (by omega),k,show ac9 15 = false from rfl] at he
   rw [k]
   exact aks h hM d k hw hv ha hx he
  ·rw [aa9 (by omega),k,show ac9 16 = false from rfl] at he
   rw [k]
   exact am9 h hM d k hw hv ha hx he
  ·rw [aa9 (by omega),k,show ac9 17 = false from rfl] at he
   rw [k]
   exact anp h hM d k hw hv ha hx he
  ·rw [show ar2 d = 1 from if_pos k,k,show ac9 18 = false from rfl] at he
   rw [k]
   exact anq h hM d k hw hv ha hx he
 ·rw [azq he]
  rcases ajv hk with k | k | k | k | k | k | k | k | k | k | k | k | k
  ·rw [aa9 (by omega),k,show ac9 6 = false from rfl] at he ⊢
   exact apr h hM d k ha he
  ·rw [aa9 (by omega),k,show ac9 7 = false from rfl] at he ⊢
   exact apq h hM d k ha he
  ·rw [aa9 (by omega),k,show ac9 8 = false from rfl] at he ⊢
   exact apo h hM d k ha he
  ·rw [aa9 (by omega),k,show ac9 9 = true from rfl] at he ⊢
   exact apn h hM d k ha he
  ·rw [aa9 (by omega),k,show ac9 10 = false from rfl] at he ⊢
   exact ank h hM d k ha he
  ·rw [aa9 (by omega),k,show ac9 11 = false from rfl] at he ⊢
   exact anj h hM d k ha he
  ·rw [aa9 (by omega),k,show ac9 12 = true from rfl] at he ⊢
   exact ani h hM d k ha he
  ·rw [aa9 (by omega),k,show ac9 13 = true from rfl] at he ⊢
   exact anh h hM d k ha he
  ·rw [aa9 (by omega),k,show ac9 14 = true from rfl] at he ⊢
   exact ang h hM d k ha he
  ·rw [aa9 (by omega),k,show ac9 15 = false from rfl] at he ⊢
   exact anf h hM d k ha he
  ·rw [aa9 (by omega),k,show ac9 16 = false from rfl] at he ⊢
   exact ane h hM d k ha he
  ·rw [aa9 (by omega),k,show ac9 17 = false from rfl] at he ⊢
   exact anc h hM d k ha he
  ·rw [show ar2 d = 1 from if_pos k,k,show ac9 18 = false from rfl] at he ⊢
   exact anb h hM d k ha he
end
end Go.Proofs.YtohckefafbhooaaGreat
