import Derived.Test.YtohckefafbhooaaGreatR15
namespace Go.Proofs.YtohckefafbhooaaGreat
set_option maxRecDepth 100000
set_option linter.unusedVariables false
set_option linter.unusedSimpArgs false
open Go.RowKit
attribute [-go_sem] gq
theorem lq {M : Bok} {j : Nat} {x y : Vlt} (h : M.vs[j]? = some x) : (M.uh j y).vs[j]? = some y := by
 have hl := (List.getElem?_eq_some_iff.1 h).1
 show (M.vs.set j y)[j]? = some y
 rw [List.getElem?_set_self hl]
theorem qm (M : Bok) (j : Nat) (a b : Vlt) : (M.uh j a).uh j b = M.uh j b := by
 unfold Bok.uh
 dsimp only
 rw [List.set_set]
theorem ql (M : Bok) (j p : Nat) (a b : Vlt) : ({ M.uh j a with pc := p } : Bok).uh j b = { M.uh j b with pc := p } := by
 unfold Bok.uh
 dsimp only
 rw [List.set_set]
theorem aDx {M : Bok} {i j : Nat} {u y : Vlt} (h : M.vs[i]? = some u) (hij : i ≠ j) : (M.uh j y).vs[i]? = some u := by
 show (M.vs.set j y)[i]? = some u
 rw [List.getElem?_set_ne (Ne.symm hij)]
 exact h
theorem aJk (a b c : Nat) : rdQ (a * b) c true = upP a b c := by
 unfold rdQ upP
 by_cases h : a * b % c = 0
 ·rw [if_neg (fun e => e.2 h),if_pos h]
 ·rw [if_pos ⟨rfl,h⟩,if_neg h]
theorem ard {M : Bok} {p a : Nat} {fo : Bool} (h : opE M p a fo = 0) : ∃ x,M.vs[atV M.vs p]? = some x := by
 rcases aox M p a fo with ⟨_,e⟩ | ⟨_,_,e⟩ | ⟨_,_,_,e⟩ | ⟨x,_,_,_,_,_,e⟩ | ⟨x,_,_,hx,_,_⟩
 ·rw [h] at e; cases e
 ·rw [h] at e; cases e
 ·rw [h] at e; cases e
 ·rw [h] at e; cases e
 ·exact ⟨x,hx⟩
theorem ab3 {M : Bok} {p a : Nat} {fo : Bool} (h : opE M p a fo = 0) : 1 ≤ a ∧ a ≤ 4611686018427387904 := by
 unfold opE at h
 split at h
 ·cases h
 ·omega
section
variable {B : Nat} {w W W' : World} {m g gv nv cv : Nat} {R : Nat → Nat} {d : Dd} {M M' : Bok}
theorem je.uh (s : je B w m g R d (.slice (some ⟨gv,0,none⟩) nv cv) W M) {j k : Nat} {u : Value} (rb : RB B (W.setCell ⟨gv,j * 27 + (21 + k),none⟩ u) m R M' (.slice (some ⟨gv,0,none⟩) nv cv)) : je B w m g R d (.slice (some ⟨gv,0,none⟩) nv cv) (W.setCell ⟨gv,j * 27 + (21 + k),none⟩ u) M' :=
 s.set rb ((Fr.refl (S20 m (.slice (some ⟨gv,0,none⟩) nv cv)) W).setCell (p := ⟨gv,j * 27 + (21 + k),none⟩) (fun _ => .inr rfl) u)
end
end Go.Proofs.YtohckefafbhooaaGreat
