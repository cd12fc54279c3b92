/- slices.Backward at bytes, for the law of Rng. -/
import Derived.Test.YtkppakhjfagdnaaDoorBack
import Derived.Test.YtkppakhjfagdnaaDoorRng
namespace Go.Proofs.YtkppakhjfagdnaaDoor
set_option linter.unusedVariables false
set_option linter.unusedSimpArgs false
open Go.RowKit Go.Shelf

attribute [local go_sem] Oper.semAt_some

def seesB (bs : List UInt8) (Bx b off cap : Nat) (_ : List (Nat × UInt8)) (W : World) : Prop :=
  W.cell? ⟨Bx, 0, none⟩ = some (.slice (some ⟨b, off, none⟩) bs.length cap) ∧ ∀ j, (hj : j < bs.length) → W.cell? ⟨b, off + j, none⟩ = some (.int .u8 (bs[j].toNat : Int))
def nextB (bs : List UInt8) (pre : List (Nat × UInt8)) (x : Nat × UInt8) : Prop := pre.length < bs.length ∧ x = bk bs pre.length ∧ pre = upto (bk bs) pre.length

set_option maxRecDepth 100000 in
set_option maxHeartbeats 2000000 in
theorem BackB1_seq (F : Fence) (n : Nat) (hF : F.fn 20) (hro : F.round = none) (hn : 1 ≤ n) (bs : List UInt8) (Bx b off cap : Nat) (hreach : bs.length ≤ 140737488355328) :
    SeqJ F n Tryd.prog 20 #[.pointer (some ⟨Bx, 0, none⟩)] encB (seesB bs Bx b off cap) (nextB bs) (fun xs => xs = upto (bk bs) bs.length) := by
  intro l J Jx W hC hY h0
  refine callsIn_of_wp Tryd.func20 rfl hF ?_ hro
  simp only [Tryd.ntmps20, List.size_toArray, List.length_cons, List.length_nil, Nat.reduceAdd, Nat.reduceSub, Array.replicate_succ, Array.replicate_zero, List.push_toArray, List.append_toArray, List.nil_append, List.cons_append]
  have hbox := (hC _ _ h0).1
  gi_wp2
  gi_loopw [3] (fun i wr => ∃ k : Nat, k ≤ bs.length ∧ i = .int .i64 ((bs.length : Int) - 1 - k) ∧ J (upto (bk bs) k) wr) (fun i _ => (intOf i + 1).toNat)
  case atStart => exact ⟨0, Nat.zero_le _, by simp, h0⟩
  case round =>
    clear hbox
    obtain ⟨k, hk, rfl, hJs⟩ := hrel
    obtain ⟨hbox, hcx⟩ := hC _ _ hJs
    by_cases hlt : k < bs.length
    · obtain ⟨fn, tmps, assign, body, hy, hR⟩ := hY _ (bk bs k) wr hJs ⟨by rw [upto_length]; exact hlt, by rw [upto_length], by rw [upto_length]⟩
      dsimp only [encB, bk] at hy
      replace hcx := hcx (bs.length - 1 - k) (by omega)
      have e2 : bs.getD (bs.length - 1 - k) 0 = bs[bs.length - 1 - k] := by simp [List.getD, List.getElem?_eq_getElem (show bs.length - 1 - k < bs.length by omega)]
      have e1 : ((bs.length - 1 - k : Nat) : Int) = (bs.length : Int) - 1 - k := by omega
      rw [e1, e2] at hy
      clear e1 e2
      gi_wp2
      refine hR.mono ?_
      rintro e W3 (⟨rfl, hJ3⟩ | ⟨rfl, hJx3⟩)
      · gi_wp2
        go_roundw
        case rel => exact ⟨k + 1, by omega, by go_num, by rw [upto_succ]; exact hJ3⟩
        case measure => simp [intOf]; omega
      · gi_wp2
        refine bodyPost_ret (results_none rfl _ _ _) rfl ?_
        exact ⟨⟨_, rfl⟩, .inr ⟨_, hJx3⟩⟩
    · obtain rfl : k = bs.length := by omega
      gi_wp2
      go_end0
      exact ⟨⟨_, rfl⟩, .inl ⟨_, rfl, hJs⟩⟩
end Go.Proofs.YtkppakhjfagdnaaDoor
