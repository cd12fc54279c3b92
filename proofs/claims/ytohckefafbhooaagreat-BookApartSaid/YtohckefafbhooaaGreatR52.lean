import Derived.Test.YtohckefafbhooaaGreatR43
import Derived.Test.YtohckefafbhooaaGreatR50
import Derived.Test.YtohckefafbhooaaGreatR51
namespace Go.Proofs.YtohckefafbhooaaGreat
set_option maxRecDepth 100000
set_option linter.unusedVariables false
set_option linter.unusedSimpArgs false
open Go.RowKit
def KBk (S : Nat → Prop) (w : World) (p : Nat) (M : Bok) : Prop := ∃ tp q fp vb,KP S w p tp q fp vb M
theorem kapi : aC0 KBk where
 fr := fun ⟨tp,q,fp,vb,h⟩ f hs => ⟨tp,q,fp,vb,h.fr f hs⟩
 lives := ap0
 make := fun w => (arx w).mono fun e w' ⟨p,tp,q,fp,vb,S,h1,h2,h3,h4⟩ => ⟨p,S,h1,⟨tp,q,fp,vb,h2⟩,h3,h4⟩
 copy := fun ⟨tp,q,fp,vb,h⟩ => (auo h).mono fun e w' ⟨c,tp',q',fp',vb',T,h1,h2,h3,h4⟩ => ⟨c,T,h1,⟨tp',q',fp',vb',h2⟩,h3,h4⟩
 act := fun d ⟨tp,q,fp,vb,h⟩ hM hk hw hv ha hA => (kact h hM d hk hw hv ha hA).mono fun e w' ⟨h1,T,h2,h3,h4⟩ => ⟨h1,⟨T,⟨tp,q,fp,vb,h2⟩,h3⟩,h4⟩
 sums := fun ⟨tp,q,fp,vb,h⟩ hM => ash h hM
 same := fun ⟨tp,q,fp,vb,h⟩ hM hd => aA2 h hM hd
theorem ah9 (a : Option Addr) (n c : Nat) (kd x y : Int) (am : Nat) (A : List UInt8) (ham : am < 18446744073709551616) (hA : A.length = 20) (w : World) (h : afq w a n) :
  Calls Tryz.prog 3 #[.slice a n c,.agg (dI kd x y am A)] w fun e w' => e = .returned (.bool true) ∧ Fr F0 w w' := af0 kapi h kd x y am A ham hA
theorem aCp (a : Option Addr) (n c : Nat) (a2 : Option Addr) (n2 c2 : Nat) (w : World) (h : afq w a n) (h2 : afq w a2 n2) :
  Calls Tryz.prog 4 #[.slice a n c,.slice a2 n2 c2] w fun e w' => e = .returned (.bool true) ∧ Fr F0 w w' := aia kapi h h2
end Go.Proofs.YtohckefafbhooaaGreat
