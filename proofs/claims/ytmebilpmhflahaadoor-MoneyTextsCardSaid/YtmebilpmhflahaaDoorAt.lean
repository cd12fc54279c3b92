/- Layer 4 (money): an amount's digits. -/
import Derived.Test.YtmebilpmhflahaaDoorNu
import Derived.Test.YtmebilpmhflahaaDoorStx
import Derived.Test.YtmebilpmhflahaaDoorWa
import Derived.Shelf.Strconv.AppendUint10
import Derived.Lib.LaidTab
namespace Go.Proofs.YtmebilpmhflahaaDoor
set_option linter.unusedVariables false
set_option linter.unusedSimpArgs false
open Go.RowKit

/-- The table of the powers of ten reads as the program's text lays it. -/
abbrev Pw10 (w : World) : Prop := Lib.TabIs Tryd.prog w "internal/strconv.uint64pow10" .u64 Lib.pow10Tab

theorem iAppend_any (x : Nat) (hx : x < 18446744073709551616) (w : World) (ht : Pw10 w) :
    Calls Tryd.prog 22 #[.slice none 0 0, .int .u64 (x : Int), .int .i64 10] w fun e w' => ∃ a c, e = .returned (.slice a (Lib.decDigits x).length c) ∧ Bs w' a c (Lib.decDigits x) ∧ Fr F0 w w' := by
  have hn := World.ownsRow_nil w w.heap.size 5 1
  have hf : ∀ {e : Ending} {w' : World}, (∃ v', e = .returned v' ∧ w'.ownsRow w.heap.size 5 1 v' (0 + (Lib.decDigits x).length) ([] ++ Lib.byteCells (Lib.decDigits x)) ∧ Below w.heap.size w w' ∧ Lib.OthersKept 5 none w w') → ∃ a c, e = .returned (.slice a (Lib.decDigits x).length c) ∧ Bs w' a c (Lib.decDigits x) ∧ Fr F0 w w' := by
    rintro e w' ⟨v', rfl, ho, hb, -⟩
    rw [Nat.zero_add, List.nil_append] at ho
    obtain ⟨a, c, rfl⟩ := own_slice ho
    obtain ⟨h1, h2, h3⟩ := Bs.of_own (bs := Lib.decDigits x) ho
    exact ⟨a, c, by rw [h1], h3, Fr.of_below hb⟩
  by_cases h : x < 100
  · exact (Any.internal_strconv_AppendUint_10_small Tryd.lays288 w.heap.size 0 x h (.slice none 0 0) [] w hn (Nat.le_refl _) (by omega)).mono fun e w' k => hf k
  · exact (Any.internal_strconv_AppendUint_10_big Tryd.lays288 w.heap.size 0 x (by omega) hx (.slice none 0 0) [] w hn (Nat.le_refl _) (by omega) ht).mono fun e w' k => hf k

theorem sAppend_any (x : Nat) (hx : x < 18446744073709551616) (w : World) (ht : Pw10 w) :
    Calls Tryd.prog 12 #[.slice none 0 0, .int .u64 (x : Int), .int .i64 10] w fun e w' => ∃ a c, e = .returned (.slice a (Lib.decDigits x).length c) ∧ Bs w' a c (Lib.decDigits x) ∧ Fr F0 w w' := by
  have HU := Lib.hid (iAppend_any x hx w ht)
  clear hx ht
  generalize Lib.decDigits x = l at *
  go_enter Tryd.func12, Tryd.ntmps12
  go_wp2_with fail
  (with_reducible refine HU.out.mono ?_); rintro e w1 ⟨a, c, rfl, h1, h2⟩
  have HR := Lib.hid (And.intro h1 h2)
  clear h1 h2
  go_wp2_with fail
  go_ret
  exact ⟨a, c, rfl, HR.out.1, HR.out.2⟩

theorem aText_any (x : Nat) (hx : x < 18446744073709551616) (w : World) (ht : Pw10 w) :
    Calls Tryd.prog 5 #[.int .u64 (x : Int)] w fun e w' => ∃ a c, e = .returned (.slice a (Lib.decDigits x).length c) ∧ Bs w' a c (Lib.decDigits x) ∧ Fr F0 w w' := by
  have HU := Lib.hid (sAppend_any x hx w ht)
  clear hx ht
  generalize Lib.decDigits x = l at *
  go_enter Tryd.func5, Tryd.ntmps5
  go_wp2_with fail
  (with_reducible refine HU.out.mono ?_); rintro e w1 ⟨a, c, rfl, h1, h2⟩
  have HR := Lib.hid (And.intro h1 h2)
  clear h1 h2
  go_wp2_with fail
  go_ret
  exact ⟨a, c, rfl, HR.out.1, HR.out.2⟩
end Go.Proofs.YtmebilpmhflahaaDoor
