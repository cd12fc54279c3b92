import Derived.Test.YtohckefafbhooaaGreatF36
import Derived.Test.YtohckefafbhooaaGreatF44
import Derived.Test.YtohckefafbhooaaGreatF45
namespace Go.Proofs.YtohckefafbhooaaGreat
set_option maxRecDepth 100000
set_option linter.unusedVariables false
set_option linter.unusedSimpArgs false
open Go.RowKit
attribute [-go_sem] cell_at
structure DeedsL (w : World) (a : Option Addr) (n : Nat) : Prop where
 at_ : ∀ k,k < n → ∃ b off kd x y am A,a = some ⟨b,off,none⟩ ∧ am < 18446744073709551616 ∧ A.length = 20 ∧ ∀ W,Fr F0 w W → (loadRowAt 26 (.pointer (some ⟨b,off + k * 24,none⟩))).run Tryz.prog W = .ok (.agg (dI kd x y am A)) W
structure KApi (KB : (Nat → Prop) → World → Nat → Bok → Prop) : Prop where
 fr : ∀ {S T : Nat → Prop} {w w' : World} {p : Nat} {M : Bok},KB S w p M → Fr T w w' → (∀ k,k < w.heap.size → S k → ¬ T k) → KB S w' p M
 lives : ∀ w,Calls Tryz.prog 7 #[] w fun e w' => e = .returned (.bool true) ∧ Fr F0 w w'
 make : ∀ w,Calls Tryz.prog 8 #[.agg usC] w fun e w' => ∃ p S,e = .returned (.tuple #[.pointer (some ⟨p,0,none⟩),.int .i64 0]) ∧ KB S w' p bok0 ∧ (∀ k,S k → w.heap.size ≤ k ∧ k < w'.heap.size) ∧ Fr F0 w w'
 copy : ∀ {S : Nat → Prop} {w : World} {p : Nat} {M : Bok},KB S w p M → Calls Tryz.prog 16 #[.pointer (some ⟨p,0,none⟩)] w fun e w' => ∃ q T,e = .returned (.pointer (some ⟨q,0,none⟩)) ∧ KB T w' q M ∧ (∀ k,T k → w.heap.size ≤ k ∧ k < w'.heap.size) ∧ Fr F0 w w'
 act : ∀ {S : Nat → Prop} {w : World} {p : Nat} {M : Bok} (d : Dd),KB S w p M → M.Ok → d.kind ≤ 21 → d.w < 256 → d.v < 256 → d.a < 18446744073709551616 → d.addr.length = 20 →
  Calls Tryz.prog 13 #[.pointer (some ⟨p,0,none⟩),.agg (dC d)] w fun e w' => e = .returned (.tuple #[.int .u64 ((step20 usR M d).2.1 : Nat),.int .i64 (step20 usR M d).2.2]) ∧ (∃ T,KB T w' p (step20 usR M d).1 ∧ ∀ k,T k → S k ∨ (w.heap.size ≤ k ∧ k < w'.heap.size)) ∧ Fr S w w'
 sums : ∀ {S : Nat → Prop} {w : World} {p : Nat} {M : Bok},KB S w p M → M.Ok → Calls Tryz.prog 14 #[.pointer (some ⟨p,0,none⟩)] w fun e w' => e = .returned (.bool true) ∧ Fr F0 w w'
 same : ∀ {S : Nat → Prop} {w : World} {p m B : Nat} {M : Bok} {sv : Value},KB S w p M → M.Ok → RB B w m usR M sv → Calls Tryz.prog 15 #[.pointer (some ⟨p,0,none⟩),.pointer (some ⟨m,0,none⟩)] w fun e w' => e = .returned (.bool true) ∧ Fr F0 w w'
end Go.Proofs.YtohckefafbhooaaGreat
