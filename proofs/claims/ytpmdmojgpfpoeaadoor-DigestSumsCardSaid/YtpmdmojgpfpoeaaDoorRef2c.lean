/- The document's answer 02 (digest): the walk of primes. -/
import Derived.Test.YtpmdmojgpfpoeaaDoorRef2b
namespace Go.Proofs.YtpmdmojgpfpoeaaDoor
set_option linter.unusedVariables false
set_option linter.unusedSimpArgs false
open Go.RowKit

theorem all_take_succ (f : Nat → Bool) (l : List Nat) (k : Nat) (h : k < l.length) : (l.take (k + 1)).all f = ((l.take k).all f && f (l.getD k 0)) := by
  rw [List.take_succ_eq_append_getElem h, List.all_append]
  simp [List.getD, List.getElem?_eq_getElem h]

set_option maxRecDepth 100000 in
set_option maxHeartbeats 8000000 in
theorem primes_any (w : World) :
    Calls Tryd.prog 20 #[.int .i64 64] w fun e w' => ∃ a c, e = .returned (.slice a 64 c) ∧ Us w' a c (primesB 312) ∧ Fr F0 w w' ∧ ∀ g, ablk a = some g → w.heap.size ≤ g := by
  go_enter Tryd.func20, Tryd.ntmps20
  go_wp2_with fail
  go_loopw [3, 4] (fun ov pv wr => ∃ p : Nat, 2 ≤ p ∧ p ≤ 312 ∧ pv = .int .u64 p ∧ (∃ a c, ov = .slice a (primesB p).length c ∧ OwnU wr (.slice a (primesB p).length c) (primesB p) ∧ ∀ g, ablk a = some g → w.heap.size ≤ g) ∧ Fr F0 w wr) (fun _ pv _ => 312 - (intOf pv).toNat)
  case atStart => exact ⟨2, by omega, by omega, rfl, ⟨_, _, rfl, World.ownsRow_made w #[] 0 (Nat.zero_le _) (Nat.zero_le _) rfl, fun g e => by cases e; exact Nat.le_refl _⟩, (Fr.refl F0 w).alloc _⟩
  case round =>
    obtain ⟨p, hp2, hp, rfl, ⟨a, c, rfl, hown, hblk⟩, hf⟩ := hrel
    by_cases hlt : p < 312
    · have hfew := primes_few p hp2 hlt
      have hpos := primesB_pos p
      have HST := Lib.hid (primesB_step p hp2)
      obtain ⟨w4, hw4⟩ : ∃ w4, w4 = wr := ⟨_, rfl⟩
      subst hw4
      generalize hL : primesB p = L at *
      have HBK := Lib.hid hblk
      have HU := Lib.hid hown.us.2
      have HO := Lib.hid hown
      clear hblk hown
      have l1 : (L.length : Int) < 64 := by omega
      go_wp2_with fail
      go_loopw [5, 17] (fun bv iv wr => ∃ k : Nat, k ≤ L.length ∧ iv = .int .i64 k ∧ bv = .bool ((L.take k).all fun q => decide (p % q ≠ 0)) ∧ wr = w4) (fun _ iv _ => L.length - (intOf iv).toNat)
      case atStart => exact ⟨0, by omega, rfl, by simp, rfl⟩
      case round =>
        obtain ⟨k, hk, rfl, rfl, rfl⟩ := hrel
        by_cases hkl : k < L.length
        · obtain ⟨b, off, ea, hc⟩ := HU.out.get k hkl
          obtain ⟨hq, hqp⟩ := hpos (L.getD k 0) (by simp [List.getD, List.getElem?_eq_getElem hkl])
          have HS := Lib.hid (all_take_succ (fun q => decide (p % q ≠ 0)) L k hkl)
          generalize L.getD k 0 = q at *
          generalize (L.take k).all (fun q => decide (p % q ≠ 0)) = bv at *
          have lk : (k : Int) < L.length := by omega
          have lq : ¬ (q : Int) = 0 := by omega
          obtain ⟨r, hr⟩ : ∃ r, p % q = r := ⟨_, rfl⟩
          have mr : IntKind.u64.wrap (Int.tmod (p : Int) q) = (r : Int) := by
            rw [Int.tmod_eq_emod_of_nonneg (by omega), ← hr, ← Int.natCast_emod]
            have := Nat.mod_lt p (show q > 0 by omega)
            exact IntWalk.u64_in _ (by omega)
          have HR := Lib.hid hr
          clear hr hpos
          subst ea
          cases bv with
          | true =>
            go_wp2
            go_roundw
            case rel =>
              refine ⟨k + 1, by omega, by go_num, ?_, trivial⟩
              rw [HS.out, Bool.true_and, ← Int.natCast_emod]
              by_cases h0 : p % q = 0 <;> simp [h0] <;> omega
            case measure => simp [intOf] <;> omega
          | false =>
            go_wp2
            go_roundw
            case rel => exact ⟨k + 1, by omega, by go_num, by rw [HS.out]; rfl, trivial⟩
            case measure => simp [intOf] <;> omega
        · have hkL : L.take k = L := List.take_of_length_le (by omega)
          rw [hkL]
          have lk : ¬ (k : Int) < L.length := by omega
          have mp : IntKind.u64.wrap ((p : Int) + 1) = ((p + 1 : Nat) : Int) := by rw [IntWalk.u64_in _ (by omega)]; omega
          obtain ⟨p1, hp1⟩ : ∃ p1, p1 = p + 1 := ⟨_, rfl⟩
          rw [← hp1] at mp
          have HP1 := Lib.hid hp1
          have HLL := Lib.hid hL
          clear hkL hp1 hL hpos
          generalize hall : (L.all fun q => decide (p % q ≠ 0)) = al at *
          have HAL := Lib.hid hall
          clear hall
          cases al with
          | true =>
            go_wp2_with (at_builtin; refine wpList_appU rfl _ _ rfl _ L rfl (HO.out.fr ((Fr.refl F0 wr).alloc _) (fun _ _ f => f)) _ _ _ [p] rfl (Us.of_new wr p) rfl (by simp; omega) ?_; intro a3 c3 w3 ho hg hb)
            go_roundw
            case rel =>
              have e1 := HP1.out
              have hn : primesB p1 = L ++ [p] := by rw [e1, HST.out]; rfl
              refine ⟨p1, by omega, by omega, rfl, ⟨a3, c3, by rw [hn]; simp, by rw [hn]; simpa using ho, fun g hg' => ?_⟩, (hf.alloc _).grown hg fun g e hl => ?_⟩
              · rcases hb g hg' with h | h
                · exact HBK.out g (by rw [← ablk_own]; exact h)
                · have := hf.size; simp only [World.size_alloc] at h; omega
              · have := HBK.out g (by rw [← ablk_own]; exact e)
                omega
            case measure =>
              have e1 := HP1.out
              simp [intOf] <;> omega
          | false =>
            go_wp2
            go_roundw
            case rel =>
              have e1 := HP1.out
              have hn : primesB p1 = L := by rw [e1, HST.out]; rfl
              exact ⟨p1, by omega, by omega, rfl, ⟨a, c, by rw [hn], by rw [hn]; exact HO.out, HBK.out⟩, hf⟩
            case measure =>
              have e1 := HP1.out
              simp [intOf] <;> omega
    · obtain rfl : p = 312 := by omega
      have h64 := primes_312
      have hU := hown.us.2
      have HU := Lib.hid hU
      clear hU hown
      rw [h64]
      go_wp2
      go_ret
      exact ⟨a, c, rfl, HU.out, hf, hblk⟩
end Go.Proofs.YtpmdmojgpfpoeaaDoor
