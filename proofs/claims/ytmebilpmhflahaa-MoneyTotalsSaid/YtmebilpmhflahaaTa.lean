/- Layer 4 (money): amounts, told one by one; the deferred function that recovers. -/
import Derived.Test.YtmebilpmhflahaaMc
import Derived.Test.YtmebilpmhflahaaRa
import Derived.Test.YtmebilpmhflahaaRng
import Derived.RecoverIn
namespace Go.Proofs.Ytmebilpmhflahaa
set_option linter.unusedVariables false
set_option linter.unusedSimpArgs false
open Go.RowKit Go.Shelf

attribute [local go_sem] Oper.semAt_some

abbrev encA (x : Nat) : Array Value := #[.int .u64 (x : Int)]
/-- What the iterator reads: its slice's header, and the amounts. -/
def seesA (l : List Nat) (Bx : Nat) (a : Option Addr) (c : Nat) (_ : List Nat) (W : World) : Prop :=
  W.cell? ⟨Bx, 0, none⟩ = some (.slice a l.length c) ∧ Us W a c l
def nextA (l : List Nat) (pre : List Nat) (x : Nat) : Prop := pre.length < l.length ∧ x = l.getD pre.length 0 ∧ pre = l.take pre.length

set_option maxRecDepth 100000 in
set_option maxHeartbeats 2000000 in
theorem each041_seq (F : Fence) (n : Nat) (hF : F.fn 47) (hro : F.round = none) (hn : 1 ≤ n) (l : List Nat) (Bx : Nat) (a : Option Addr) (c : Nat) (hl : l.length ≤ 140737488355328) :
    SeqJ F n Try.prog 47 #[.pointer (some ⟨Bx, 0, none⟩)] encA (seesA l Bx a c) (nextA l) (fun xs => xs = l) := by
  intro lp J Jx W hC hY h0
  refine callsIn_of_wp Try.func47 rfl hF ?_ hro
  simp only [Try.ntmps47, List.size_toArray, List.length_cons, List.length_nil, Nat.reduceAdd, Nat.reduceSub, Array.replicate_succ, Array.replicate_zero, List.push_toArray, List.append_toArray, List.nil_append, List.cons_append]
  have hbox := (hC _ _ h0).1
  rw [cell_at] at hbox
  gi_wp2
  gi_loopw [7] (fun i wr => ∃ k : Nat, k ≤ l.length ∧ i = .int .i64 (k : Int) ∧ J (l.take k) wr) (fun i _ => l.length - (intOf i).toNat)
  case atStart => exact ⟨0, Nat.zero_le _, rfl, h0⟩
  case round =>
    clear hbox
    obtain ⟨k, hk, rfl, hJs⟩ := hrel
    obtain ⟨_, hus⟩ := hC _ _ hJs
    by_cases hlt : k < l.length
    · have hlk : (l.take k).length = k := by simp; omega
      obtain ⟨b, off, rfl, hc⟩ := hus.get k hlt
      obtain ⟨fn, tmps, assign, body, hy, hR⟩ := hY _ (l.getD k 0) wr hJs ⟨by rw [hlk]; exact hlt, by rw [hlk], by rw [hlk]⟩
      dsimp only [encA] at hy
      have hx : l.take k ++ [l.getD k 0] = l.take (k + 1) := by rw [List.take_add_one]; simp [List.getD, List.getElem?_eq_getElem hlt]
      rw [hx] at hR
      have l1 : (k : Int) < (l.length : Int) := by omega
      have hroom := hus.room
      clear hus hx hlk
      generalize l.getD k 0 = x at *
      gi_wp2
      refine hR.mono ?_
      rintro e W3 (⟨rfl, hJ3⟩ | ⟨rfl, hJx3⟩)
      · gi_wp2
        go_roundw
        case rel => exact ⟨k + 1, by omega, by go_num, hJ3⟩
        case measure => simp [intOf]; omega
      · gi_wp2
        refine bodyPost_ret (results_none rfl _ _ _) rfl ?_
        exact ⟨⟨_, rfl⟩, .inr ⟨_, hJx3⟩⟩
    · obtain rfl : k = l.length := by omega
      rw [List.take_length] at hJs
      gi_wp2
      go_end0
      exact ⟨⟨_, rfl⟩, .inl ⟨_, rfl, hJs⟩⟩

set_option maxHeartbeats 1000000 in
theorem each04_any (a : Option Addr) (len cap : Nat) (w : World) :
    Calls Try.prog 33 #[.slice a len cap] w fun e w' => e = .returned (.func (.func 47) #[] #[.pointer (some ⟨w.heap.size, 0, none⟩)]) ∧ w' = w.alloc (.cells #[.slice a len cap] 57) := by
  have hmf : ∀ (fn : Fn) (first cap : Array Value) (w : World), (Instr.makeFunc fn first cap).run Try.prog w = .ok (.func fn first cap) w := fun _ _ _ _ => rfl
  go_enter Try.func33, Try.ntmps33
  go_wp2
  go_ret
  exact ⟨rfl, rfl⟩

theorem recover_idle (n : Nat) (w : World) :
    CallsDIn Fence.wide n Try.prog 46 #[] .returning w fun e u' w' => (∃ v, e = .returned v) ∧ u' = .returning ∧ w' = w := by
  refine callsDIn_of_wpSIn Try.func46 rfl (by trivial) fun c₀ cs hu => ?_
  apply wpSIn_region
  simp [wpOpsSIn, go_sem, recoverD, hu, Try.ntmps46, Exit.thenS]
  cases c₀
  simp_all [bodyPostS, results, Try.results46]
end Go.Proofs.Ytmebilpmhflahaa
