import Derived.Test.YtjkeoameebdefaaZ13
import Derived.Test.YtjkeoameebdefaaZ14
import Derived.Test.YtjkeoameebdefaaZ15
import Derived.Test.YtjkeoameebdefaaZ16
import Derived.Test.YtjkeoameebdefaaZ17
/- Layer 16 (purse): any act of the law. -/
namespace Go.Proofs.Ytjkeoameebdefaa
set_option maxRecDepth 100000
set_option linter.unusedVariables false
set_option linter.unusedSimpArgs false
open Go.RowKit

theorem do16_any {base : Nat} {w : World} {q p m n t h i o : Nat} {ob : Option Nat} {f : Nat → Nat} (D : D16 base w q p ob m n f t h i o) (hn : n < maxLen) (kd : Int) {a x : Nat} (ha : a < 256) (hx : x < 18446744073709551616) :
    Calls Try.prog 8 #[.pointer (some ⟨q, 0, none⟩), .pointer (some ⟨m, 0, none⟩), .agg (actD kd a x)] w fun e w' => e = .returned (.bool true) ∧ (∃ ob' f' t' h' i' o', D16 base w' q p ob' m (n + 1) f' t' h' i' o') ∧ Fr (DX base) w w' := by
  have hA : ∀ {f' : Nat → Nat} {t' h' i' o' : Nat} {e : Ending} {w' : World}, (e = .returned (.bool true) ∧ (∃ ob', D16 base w' q p ob' m (n + 1) f' t' h' i' o') ∧ Fr (DX base) w w') → (e = .returned (.bool true) ∧ (∃ ob' f' t' h' i' o', D16 base w' q p ob' m (n + 1) f' t' h' i' o') ∧ Fr (DX base) w w') :=
    fun ⟨h1, ⟨ob', h2⟩, h3⟩ => ⟨h1, ⟨ob', _, _, _, _, _, h2⟩, h3⟩
  by_cases k0 : kd = 0
  · subst k0
    by_cases h1 : i + x ≤ 4611686018427387904
    · exact (do16_in_ok D hn ha h1).mono fun _ _ => hA
    by_cases h2 : 4611686018427387904 < x
    · exact (do16_in_bad D hn ha (by omega) hx h2).mono fun _ _ => hA
    · exact (do16_in_no D hn ha (by omega) hx (by omega)).mono fun _ _ => hA
  by_cases k1 : kd = 1
  · subst k1
    by_cases h1 : x ≤ f a
    · exact (do16_out_ok D hn ha h1).mono fun _ _ => hA
    by_cases h2 : 4611686018427387904 < x
    · exact (do16_out_bad D hn ha (by omega) hx h2).mono fun _ _ => hA
    · exact (do16_out_no D hn ha (by omega) hx (by omega)).mono fun _ _ => hA
  by_cases k2 : kd = 2
  · subst k2
    by_cases h1 : x ≤ f a
    · exact (do16_hold_ok D hn ha h1).mono fun _ _ => hA
    by_cases h2 : 4611686018427387904 < x
    · exact (do16_hold_bad D hn ha (by omega) hx h2).mono fun _ _ => hA
    · exact (do16_hold_no D hn ha (by omega) hx (by omega)).mono fun _ _ => hA
  by_cases h1 : x ≤ h
  · exact (do16_free_ok D hn k0 k1 k2 ha h1).mono fun _ _ => hA
  by_cases h2 : 4611686018427387904 < x
  · exact (do16_free_bad D hn k0 k1 k2 ha (by omega) hx h2).mono fun _ _ => hA
  · exact (do16_free_no D hn k0 k1 k2 ha (by omega) hx (by omega)).mono fun _ _ => hA
end Go.Proofs.Ytjkeoameebdefaa
