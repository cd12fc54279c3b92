/- Layer 3's laws: 'is', of what it should be. -/
import Derived.Test.YtmebilpmhflahaaRw
import Derived.Test.YtmebilpmhflahaaRe
import Derived.Test.YtmebilpmhflahaaRc
import Derived.Test.YtmebilpmhflahaaLv3
namespace Go.Proofs.Ytmebilpmhflahaa
set_option linter.unusedVariables false
set_option linter.unusedSimpArgs false
open Go.RowKit

set_option maxRecDepth 100000 in
set_option maxHeartbeats 4000000 in
theorem is03_any (a x : Nat) (o : Bool) (p : Option Addr) (c : Nat) (ha : a = x % W256) (ho : o = decide (W256 ≤ x)) (hlx : lg x ≤ 10000) (w : World) (hx : Ns w p c x) :
    Calls Try.prog 16 #[.agg (rowN .u64 64 4 a), .bool o, .slice p (lg x) c] w fun e w' => e = .returned (.bool true) ∧ Fr F0 w w' := by
  have HW := Lib.hid (fun w h => r3Words_any x p c hlx w h)
  rw [← ha, ← ho] at HW
  clear ha ho
  go_enter Try.func16, Try.ntmps16
  go_wp2_with fail
  have r0 := heap_alloc_new w (.cells (rowN .u64 64 4 a) 24)
  have f0 := (Fr.refl F0 w).alloc (.cells (rowN .u64 64 4 a) 24)
  refine (HW.out _ (hx.fr f0)).mono ?_
  rintro e w1 ⟨rfl, f1⟩
  replace r0 := keep_fr f1 r0
  have F := f0.trans' f1
  clear f0 f1
  generalize w.heap.size = g0 at *
  go_upto_region 2 with fail
  obtain ⟨W3, hW3⟩ : ∃ W, W = (w1.alloc (.cells (rowN .u64 64 4 0) 23)).setRow w1.heap.size (rowN .u64 64 4 a) := ⟨_, rfl⟩
  refine wp_of_world W3 hW3 ?_
  have N := put_new w1 (rowN .u64 64 4 0) (rowN .u64 64 4 a) 23
  rw [← hW3] at N
  have r1 := N.new
  have F := F.trans' N.fr
  replace r0 := N.old r0
  clear N hW3
  generalize w1.heap.size = g1 at *
  go_wp2_with fail
  go_ret
  exact ⟨by simp, F⟩
end Go.Proofs.Ytmebilpmhflahaa
