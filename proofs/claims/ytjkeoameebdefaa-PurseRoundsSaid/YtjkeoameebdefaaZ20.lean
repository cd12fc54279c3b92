import Derived.Test.YtjkeoameebdefaaZ19
import Derived.Test.YtjkeoameebdefaaZ12
/- Layer 16 (purse): is, of any purse beside its model. -/
namespace Go.Proofs.Ytjkeoameebdefaa
set_option maxRecDepth 100000
set_option linter.unusedVariables false
set_option linter.unusedSimpArgs false
open Go.RowKit

theorem is16_any {base : Nat} {w : World} {q p m n t h i o : Nat} {ob : Option Nat} {f : Nat → Nat} (D : D16 base w q p ob m n f t h i o) (hn : n ≤ 100000) :
    Calls Try.prog 11 #[.pointer (some ⟨q, 0, none⟩), .pointer (some ⟨m, 0, none⟩)] w fun e w' => e = .returned (.bool true) ∧ Fr F0 w w' := by
  have hs := D.pur.sum
  refine is16_of (T := t) D.mod D.pur.inv.sum (Lib.hid fun W F => puPaid_any (D.pur.fr0 F)) (Lib.hid fun W F => ?_) (Lib.hid fun W F a ha => ?_) (Lib.hid fun W F => puHeld_any (D.pur.fr0 F)) (by omega) (by omega) D.pur.le
  · refine (puAll_any (D.pur.fr0 F)).mono ?_
    rintro e w' ⟨gb, ob', rfl, hb, hm, hf⟩
    exact ⟨_, rfl, hf, count16_any hb hm hn D.pur.inv.sum D.pur.inv.le⟩
  · refine (puOf_any (D.pur.fr0 F) ha).mono ?_
    rintro e w' ⟨he, rfl⟩
    exact ⟨he, Fr.refl _ _⟩
end Go.Proofs.Ytjkeoameebdefaa
