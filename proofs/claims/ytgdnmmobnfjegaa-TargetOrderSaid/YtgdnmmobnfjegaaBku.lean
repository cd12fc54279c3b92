/- slices.Backward at words: what comes next is read when it comes. -/
import Derived.Test.YtgdnmmobnfjegaaRng
import Derived.Test.YtgdnmmobnfjegaaNum
namespace Go.Proofs.Ytgdnmmobnfjegaa
set_option linter.unusedVariables false
set_option linter.unusedSimpArgs false
open Go.RowKit Go.Shelf

attribute [local go_sem] Oper.semAt_some

/-- What has come when k rounds are over: from behind, each as it is then (v tells). -/
def bt (v : List (Nat × Nat) → Nat) (N : Nat) : Nat → List (Nat × Nat)
  | 0 => []
  | k + 1 => bt v N k ++ [(N - 1 - k, v (bt v N k))]
theorem bt_length (v : List (Nat × Nat) → Nat) (N : Nat) : ∀ k, (bt v N k).length = k
  | 0 => rfl
  | k + 1 => by simp [bt, bt_length v N k]

def nextU (v : List (Nat × Nat) → Nat) (N : Nat) (pre : List (Nat × Nat)) (x : Nat × Nat) : Prop := pre.length < N ∧ x = (N - 1 - pre.length, v pre) ∧ pre = bt v N pre.length

abbrev encU (x : Nat × Nat) : Array Value := #[.int .i64 (x.1 : Int), .int .u64 (x.2 : Int)]

/-- What the iterator reads: its slice's header, and the word that comes next. -/
def seesU (v : List (Nat × Nat) → Nat) (N Bx b off cap : Nat) (pre : List (Nat × Nat)) (W : World) : Prop :=
  W.cell? ⟨Bx, 0, none⟩ = some (.slice (some ⟨b, off, none⟩) N cap) ∧ (pre.length < N → W.cell? ⟨b, off + (N - 1 - pre.length), none⟩ = some (.int .u64 (v pre : Nat)))

set_option maxRecDepth 100000 in
set_option maxHeartbeats 2000000 in
theorem BackU1_seq (F : Fence) (n : Nat) (hF : F.fn 47) (hro : F.round = none) (hn : 1 ≤ n) (v : List (Nat × Nat) → Nat) (N Bx b off cap : Nat) (hN : N ≤ 140737488355328) :
    SeqJ F n Try.prog 47 #[.pointer (some ⟨Bx, 0, none⟩)] encU (seesU v N Bx b off cap) (nextU v N) (fun xs => xs = bt v N N) := by
  intro l J Jx W hC hY h0
  refine callsIn_of_wp Try.func47 rfl hF ?_ hro
  simp only [Try.ntmps47, List.size_toArray, List.length_cons, List.length_nil, Nat.reduceAdd, Nat.reduceSub, Array.replicate_succ, Array.replicate_zero, List.push_toArray, List.append_toArray, List.nil_append, List.cons_append]
  have hbox := (hC _ _ h0).1
  gi_wp2
  gi_loopw [3] (fun i wr => ∃ k : Nat, k ≤ N ∧ i = .int .i64 ((N : Int) - 1 - k) ∧ J (bt v N k) wr) (fun i _ => (intOf i + 1).toNat)
  case atStart => exact ⟨0, Nat.zero_le _, by simp, h0⟩
  case round =>
    clear hbox
    obtain ⟨k, hk, rfl, hJs⟩ := hrel
    obtain ⟨hbox, hcx⟩ := hC _ _ hJs
    rw [bt_length] at hcx
    by_cases hlt : k < N
    · replace hcx := hcx hlt
      obtain ⟨fn, tmps, assign, body, hy, hR⟩ := hY _ (N - 1 - k, v (bt v N k)) wr hJs ⟨by rw [bt_length]; exact hlt, by rw [bt_length], by rw [bt_length]⟩
      dsimp only [encU] at hy
      have e1 : ((N - 1 - k : Nat) : Int) = (N : Int) - 1 - k := by omega
      rw [e1] at hy
      clear e1
      gi_wp2
      refine hR.mono ?_
      rintro e W3 (⟨rfl, hJ3⟩ | ⟨rfl, hJx3⟩)
      · gi_wp2
        go_roundw
        case rel => exact ⟨k + 1, by omega, by go_num, hJ3⟩
        case measure => simp [intOf]; omega
      · gi_wp2
        refine bodyPost_ret (results_none rfl _ _ _) rfl ?_
        exact ⟨⟨_, rfl⟩, .inr ⟨_, hJx3⟩⟩
    · obtain rfl : k = N := by omega
      gi_wp2
      go_end0
      exact ⟨⟨_, rfl⟩, .inl ⟨_, rfl, hJs⟩⟩

set_option maxHeartbeats 1000000 in
theorem BackU_in (F : Fence) (n : Nat) (hF : F.fn 28) (hro : F.round = none) (a : Option Addr) (len cap : Nat) (w : World) :
    CallsIn F n Try.prog 28 #[.slice a len cap] w fun e w' => e = .returned (.func (.func 47) #[] #[.pointer (some ⟨w.heap.size, 0, none⟩)]) ∧ w' = w.alloc (.cells #[.slice a len cap] 37) := by
  refine callsIn_of_wp Try.func28 rfl hF ?_ hro
  simp only [Try.ntmps28, List.size_toArray, List.length_cons, List.length_nil, Nat.reduceAdd, Nat.reduceSub, Array.replicate_succ, Array.replicate_zero, List.push_toArray, List.append_toArray, List.nil_append, List.cons_append]
  gi_wp2
  go_ret
  exact ⟨rfl, rfl⟩
end Go.Proofs.Ytgdnmmobnfjegaa
