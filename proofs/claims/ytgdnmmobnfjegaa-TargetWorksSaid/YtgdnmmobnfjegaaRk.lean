/- The document's answer 03 (wide): the walk of Bits. -/
import Derived.Test.YtgdnmmobnfjegaaRh
import Derived.Test.YtgdnmmobnfjegaaWk
namespace Go.Proofs.Ytgdnmmobnfjegaa
set_option linter.unusedVariables false
set_option linter.unusedSimpArgs false
open Go.RowKit

/-- n bits. -/
def bs (n x : Nat) : List Nat := (List.range n).map (dgt 1 x)
theorem bs_length (n x : Nat) : (bs n x).length = n := by simp [bs]
theorem bs_succ (n x : Nat) : bs (n + 1) x = bs n x ++ [dgt 1 x n] := by simp [bs, List.range_succ]
theorem dgt1 (x i : Nat) : dgt 1 x i = x / 2 ^ i % 2 := by simp [dgt]

/-- 'append(s, x...)' on words, in a walk. -/
theorem wpList_appU {w : World} {ops : Array Oper} {rest : List Oper} {o : Oper} {a : Act} {Q : Exit → Act → World → Prop} (hgd : o.guard = none) (s x : Operand)
    (ho : o.op = .call { callee := .builtin .append, args := #[s, x], argTypes := #[37, 37] })
    (v : Value) (b0 : List Nat) (hs : a.eval s = v) (hown : OwnU w v b0) (ad : Option Addr) (m c : Nat) (l : List Nat) (hx : a.eval x = .slice ad m c) (hsl : Us w ad c l) (hm : m = l.length)
    (hb : b0.length + l.length ≤ 1000000)
    (h : ∀ a' c' w', OwnU w' (.slice a' (b0.length + l.length) c') (b0 ++ l) → w.grownBy w' v.ownBlock → (∀ k, ablk a' = some k → v.ownBlock = some k ∨ w.heap.size ≤ k) →
      wpList Try.prog ops Q rest (a.put o.dst (.slice a' (b0.length + l.length) c')) w') : wpList Try.prog ops Q (o :: rest) a w := by
  subst hm
  obtain ⟨i0, hi, hz0, hz1, hz2⟩ := info_parts Try.infoU64
  refine wpList_app hgd s x 37 ho 22 i0 (.int .u64 0) 1 8 Try.underlying37 hi hz0 hz1 hz2 rfl (by decide) v _ _ hs hown ad c _ _ hx hsl Us.one (by unfold maxLen; omega) (by omega) ?_
  intro a' c' w' h1 h2 h3
  exact h a' c' w' (by simpa [OwnU] using h1) h2 h3

theorem half_pow (x i : Nat) : x / 2 ^ i / 2 = x / 2 ^ (i + 1) := by rw [Nat.div_div_eq_div_mul, ← Nat.pow_succ]

theorem nbits_lg {x n : Nat} (h : lg x ≤ n) : nbits x ≤ 16 * n := (nbits_le x (16 * n)).2 (Nat.lt_of_lt_of_le (lg_lt x) (Nat.pow_le_pow_right (by omega) (by omega)))

set_option maxRecDepth 100000 in
set_option maxHeartbeats 8000000 in
theorem r3Bits_any (x : Nat) (a : Option Addr) (c : Nat) (hlx : lg x ≤ 10000) (w : World) (hx : Ns w a c x) :
    Calls Try.prog 37 #[.slice a (lg x) c] w fun e w' => ∃ a' c', e = .returned (.slice a' (nbits x) c') ∧ Us w' a' c' (bs (nbits x) x) ∧ Fr F0 w w' := by
  have hn : nbits x ≤ 160000 := nbits_lg hlx
  have hlk : ∀ i, lg (x / 2 ^ i) ≤ 10000 := fun i => Nat.le_trans (lg_min (Nat.lt_of_le_of_lt (Nat.div_le_self _ _) (lg_lt x))) hlx
  have HL := Lib.hid hlk
  clear hlk
  go_enter Try.func37, Try.ntmps37
  go_wp2_with fail
  go_loopw [0, 3] (fun sv bv wr => ∃ i : Nat, i ≤ nbits x ∧ (∃ a' c', sv = .slice a' (lg (x / 2 ^ i)) c' ∧ Ns wr a' c' (x / 2 ^ i)) ∧ Row w (bs i x) bv wr ∧ Fr F0 w wr) (fun _ bv _ => nbits x - vlen bv)
  case atStart => exact ⟨0, Nat.zero_le _, ⟨a, c, by rw [Nat.pow_zero, Nat.div_one], by rw [Nat.pow_zero, Nat.div_one]; exact hx.fr ((Fr.refl F0 w).alloc _)⟩, Row.nil w 0, (Fr.refl F0 w).alloc _⟩
  case round =>
    obtain ⟨i, hi, ⟨a1, c1, rfl, hn1⟩, ⟨a, c, rfl, hown, hblk⟩, hf⟩ := hrel
    rw [bs_length] at hown ⊢
    have HB := Lib.hid hblk
    have HF := Lib.hid hf
    have HI := Lib.hid hi
    have HN := Lib.hid hn
    have HO := Lib.hid hown
    have hi2 : i ≤ 160000 := by omega
    clear hblk hf hx hn hown
    by_cases h0 : lg (x / 2 ^ i) = 0
    · have hz : x / 2 ^ i = 0 := lg_eq0 h0
      have hxi : x < 2 ^ i := by
        rcases Nat.lt_or_ge x (2 ^ i) with h | h
        · exact h
        · have := Nat.div_pos h (Nat.two_pow_pos i); omega
      have he : i = nbits x := Nat.le_antisymm hi ((nbits_le x i).2 hxi)
      have HE := Lib.hid he
      rw [h0]
      clear hz hxi he hi hn1 h0
      go_wp2_with fail
      go_ret
      refine ⟨a, c, by rw [← HE.out]; rfl, ?_, HF.out⟩
      rw [← HE.out]
      exact HO.out.us.2
    · have hne : x / 2 ^ i ≠ 0 := fun h => h0 (by rw [h]; rfl)
      have hi1 : i + 1 ≤ nbits x := by
        refine Nat.lt_of_not_le fun h => ?_
        have := (nbits_le x i).1 h
        exact hne (Nat.div_eq_of_lt this)
      have HI1 := Lib.hid hi1
      have l1 : (0 : Int) < ((lg (x / 2 ^ i) : Nat) : Int) := by omega
      have HH := Lib.hid (r3Half_any (x / 2 ^ i) a1 c1 (HL.out i) wr hn1)
      rw [half_pow, ← dgt1] at HH
      generalize lg (x / 2 ^ i) = n0 at *
      generalize hr : dgt 1 x i = r at *
      have HR := Lib.hid hr
      clear hne hi1 hi hn1 h0 hr
      go_wp2_with fail
      (with_reducible refine HH.out.mono ?_)
      rintro e w5 ⟨a2, c2, rfl, hn2, hnew, f5⟩
      have hown := HO.out.fr f5 (fun _ _ f => f)
      have F5 := Lib.hid f5
      have N2 := Lib.hid (And.intro hn2 hnew)
      clear f5 hn2 hnew
      go_wp2_with (at_builtin; refine wpList_appU rfl _ _ rfl _ (bs i x) rfl (hown.fr ((Fr.refl F0 w5).alloc _) (fun _ _ f => f)) _ _ _ [r] rfl (Us.of_new w5 r) rfl (by rw [bs_length]; simp; omega) ?_; intro a3 c3 w3 ho hg hb)
      go_roundw
      case rel =>
        rw [bs_length] at *
        refine ⟨i + 1, HI1.out, ⟨a2, c2, rfl, ?_⟩, ?_, Row.frame HB.out (HF.out.trans' F5.out) hg⟩
        · refine Sl.fr (N2.out.1) (((Fr.refl (fun k => ablk a = some k) w5).alloc _).grown hg fun k e _ => by rw [← e]; exact (ablk_own a _ _).symm) fun k hk e => ?_
          have h1 := N2.out.2 k hk
          have h2 := HO.out.lt k (by rw [ablk_own]; exact e)
          omega
        · rw [bs_succ, HR.out]
          have := Row.app (l := bs i x) HB.out (HF.out.trans' F5.out) (by rw [bs_length]; exact ho) hb
          rwa [bs_length] at this
      case measure => have := HI1.out; simp [vlen, bs_length]; omega
end Go.Proofs.Ytgdnmmobnfjegaa
