/- Stage 1, octet: appending bytes; bytes.Clone. -/
import Derived.Test.YtigjoepoaahidaaFr
import Derived.Test.YtigjoepoaahidaaOctA
import Derived.Test.YtigjoepoaahidaaApp
namespace Go.Proofs.Ytigjoepoaahidaa
set_option linter.unusedVariables false
set_option linter.unusedSimpArgs false
open Go.RowKit

set_option maxHeartbeats 400000 in
theorem Clone_any (a : Option Addr) (n c : Nat) (bs : List UInt8) (w : World) (h : Bs w a c bs) (hn : n = bs.length) (hl : bs.length ≤ 140737488355328) :
    Calls Try.prog 21 #[.slice a n c] w (NewBytes bs w) := by
  subst hn
  cases a with
  | none =>
    have h0 := h.nil rfl
    have h1 : bs = [] := List.eq_nil_of_length_eq_zero (by have := h.room; omega)
    subst h0 h1
    go_enter Try.func21, Try.ntmps21
    go_wp2
    go_ret
    exact ⟨none, 0, rfl, h, Fr.refl _ _, fun b e => by cases e⟩
  | some ad =>
    have H1 : Bs (w.alloc (.cells #[] 5)) (some ad) c bs := Sl.fr h ((Fr.refl F0 w).alloc _) fun _ _ => id
    have H2 : OwnB (w.alloc (.cells #[] 5)) (.slice (some ⟨w.heap.size, 0, none⟩) 0 0) [] := World.ownsRow_made w #[] 0 (Nat.zero_le _) (Nat.zero_le _) rfl
    go_enter Try.func21, Try.ntmps21
    go_wp2_with (at_builtin; refine wpList_appB rfl _ _ rfl _ [] rfl H2 _ _ _ _ rfl H1 rfl (by simpa using hl) ?_; intro a' c' w' ho hg hb)
    simp only [List.length_nil, Nat.zero_add, List.nil_append] at ho ⊢
    go_wp2
    go_ret
    refine ⟨a', c', rfl, ho.bs.2, ((Fr.refl F0 w).alloc (.cells #[] 5)).grown hg fun k hk hl => ?_, fun b e => ⟨?_, ho.lt b (by rw [ablk_own]; exact e)⟩⟩
    · cases hk
      exact absurd hl (Nat.lt_irrefl _)
    · rcases hb b e with h | h
      · cases h
        exact Nat.le_refl _
      · simp at h
        omega
end Go.Proofs.Ytigjoepoaahidaa
