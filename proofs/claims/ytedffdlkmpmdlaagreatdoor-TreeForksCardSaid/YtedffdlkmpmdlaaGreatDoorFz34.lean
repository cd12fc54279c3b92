import Derived.Test.YtedffdlkmpmdlaaGreatDoorFz18
import Derived.Test.YtedffdlkmpmdlaaGreatDoorFz11
import Derived.Test.YtedffdlkmpmdlaaGreatDoorFz3
import Derived.Lib.SmallJoins
namespace Go.Proofs.YtedffdlkmpmdlaaGreatDoor
set_option maxRecDepth 100000
set_option linter.unusedVariables false
set_option linter.unusedSimpArgs false
open Go.RowKit Go.Shelf
def buildL3 (parts : Array (Nat × Value)) : Sem Value := Instr.buildSlice 54 3 parts
@[go_sem ↓ high] theorem build_L3 (p : Array (Nat × Value)) : Instr.buildSlice 54 3 p = buildL3 p := rfl
end Go.Proofs.YtedffdlkmpmdlaaGreatDoor
namespace Go.Proofs.YtedffdlkmpmdlaaGreatDoor
set_option maxRecDepth 100000
set_option linter.unusedVariables false
set_option linter.unusedSimpArgs false
open Go.RowKit Go.Shelf
end Go.Proofs.YtedffdlkmpmdlaaGreatDoor
namespace Go.Proofs.YtedffdlkmpmdlaaGreatDoor
set_option maxRecDepth 100000
set_option linter.unusedVariables false
set_option linter.unusedSimpArgs false
open Go.RowKit Go.Shelf
theorem flat_one (l : List (List UInt8)) : ∀ u ∈ l.flatMap (fun h => h.map B8),u.oneCell' = true := fun u hu => by
 rw [List.mem_flatMap] at hu
 obtain ⟨x,_,hx⟩ := hu
 exact hc_one' x u hx
theorem OwnL.appLs {B : Nat} {w : World} {v : Value} {l l2 : List (List UInt8)} (h : OwnL 25 B w v l) {a2 : Option Addr} {c2 : Nat} (n2 : Nat) (h2 : Hs w a2 c2 l2) (hn : n2 = l2.length) (hB : B ≤ w.heap.size) (hl : l.length ≤ 100000) (hl2 : l2.length ≤ 100000) (ty : TypeId) :
  ∃ a c w',(appL 54 ty #[v,.slice a2 n2 c2]).run Tryz.prog w = .ok (.slice a (l.length + l2.length) c) w' ∧ OwnL 25 B w' (.slice a (l.length + l2.length) c) (l ++ l2) ∧
   Fr (fun k => v.ownBlock = some k) w w' ∧ ∀ k,ablk a = some k → v.ownBlock = some k ∨ w.heap.size ≤ k := by
 subst hn
 obtain ⟨i0,hi,hz,hs,hb⟩ := info_parts Tryz.infoHashJ
 obtain ⟨v',w',hrun,hown,hg,hnw⟩ := run_app (P := Tryz.prog) (w := w) 54 ty 25 i0 _ 32 32 Tryz.underlying54 hi hz hs hb (hc_size z32_length) (by omega) v l.length _ h.own a2 c2 l2.length (l2.flatMap fun h : List UInt8 => h.map B8) h2.sl
  (flat_one l2) (by unfold maxLen; omega) (by omega)
 obtain ⟨a,c,rfl⟩ := own_slice hown
 have F : Fr (fun k => v.ownBlock = some k) w w' := ((Fr.refl F0 w).of0).grown hg fun k hk hl => hk
 have hnw' : ∀ k,ablk a = some k → v.ownBlock = some k ∨ w.heap.size ≤ k := fun k hk => hnw k (by rw [ablk_own]; exact hk)
 refine ⟨a,c,w',hrun,⟨?_,fun k hk => ?_,fun y hy => ?_⟩,F,hnw'⟩
 ·rw [List.length_append,List.flatMap_append]
  exact hown
 ·rw [ablk_own] at hk
  rcases hnw' k hk with e | e
  ·exact h.blk k e
  ·omega
 ·rw [List.mem_append] at hy
  rcases hy with hy | hy
  ·exact h.ok y hy
  ·exact h2.ok y hy
end Go.Proofs.YtedffdlkmpmdlaaGreatDoor
