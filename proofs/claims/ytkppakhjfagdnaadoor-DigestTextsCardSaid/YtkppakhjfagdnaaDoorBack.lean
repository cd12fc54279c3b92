/- slices.Backward at bytes. -/
import Derived.Test.YtkppakhjfagdnaaDoorKc
namespace Go.Proofs.YtkppakhjfagdnaaDoor
set_option linter.unusedVariables false
set_option linter.unusedSimpArgs false
open Go.RowKit Go.Shelf

attribute [local go_sem] Oper.semAt_some

/-- What has come when k rounds are over. -/
def upto {α : Type} (f : Nat → α) (k : Nat) : List α := (List.range k).map f
theorem upto_succ {α : Type} (f : Nat → α) (k : Nat) : upto f (k + 1) = upto f k ++ [f k] := by simp [upto, List.range_succ]
theorem upto_length {α : Type} (f : Nat → α) (k : Nat) : (upto f k).length = k := by simp [upto]

/-- The k-th from behind. -/
def bk (bs : List UInt8) (k : Nat) : Nat × UInt8 := (bs.length - 1 - k, bs.getD (bs.length - 1 - k) 0)

theorem bk_all (bs : List UInt8) : (upto (bk bs) bs.length).map (·.2) = bs.reverse := by
  apply List.ext_getElem
  · simp [upto]
  · intro i h1 h2
    have h3 : i < bs.length := by simpa using h2
    simp [upto, bk, List.getElem_reverse]
    rw [List.getElem?_eq_getElem (by omega)]
    rfl

abbrev encB (x : Nat × UInt8) : Array Value := #[.int .i64 (x.1 : Int), .int .u8 (x.2.toNat : Int)]

set_option maxRecDepth 100000 in
set_option maxHeartbeats 2000000 in
theorem Backward1_in (F : Fence) (n : Nat) (hF : F.fn 20) (hro : F.round = none) (hn : 1 ≤ n) (l Bx X b off cap : Nat) (bs : List UInt8) (hreach : bs.length ≤ 140737488355328) (hbX : b ≠ X) (hBX : Bx ≠ X) (J Jx : List (Nat × UInt8) → World → Prop)
    (hY : ∀ pre x W, J pre W → pre.length < bs.length → YieldAt F (n - 1) Tryd.prog l (encB x) W fun e W' =>
      (e = .returned (.bool true) ∧ J (pre ++ [x]) W' ∧ Kc X W W') ∨ (e = .returned (.bool false) ∧ Jx (pre ++ [x]) W'))
    (W : World) (hBs : W.cell? ⟨Bx, 0, none⟩ = some (.slice (some ⟨b, off, none⟩) bs.length cap)) (hc : ∀ j, (hj : j < bs.length) → W.cell? ⟨b, off + j, none⟩ = some (.int .u8 (bs[j].toNat : Int))) (h0 : J [] W) :
    CallsIn F n Tryd.prog 20 #[.func (.yield l) #[] #[], .pointer (some ⟨Bx, 0, none⟩)] W fun e W' => (∃ v, e = .returned v) ∧
      ((∃ ys, ys = upto (bk bs) bs.length ∧ J ys W') ∨ (∃ pre, True ∧ Jx pre W')) := by
  refine callsIn_of_wp Tryd.func20 rfl hF ?_ hro
  simp only [Tryd.ntmps20, List.size_toArray, List.length_cons, List.length_nil, Nat.reduceAdd, Nat.reduceSub, Array.replicate_succ, Array.replicate_zero, List.push_toArray, List.append_toArray, List.nil_append, List.cons_append]
  gi_wp2
  gi_loopw [3] (fun i wr => ∃ k : Nat, k ≤ bs.length ∧ i = .int .i64 ((bs.length : Int) - 1 - k) ∧ J (upto (bk bs) k) wr ∧ Kc X W wr)
    (fun i _ => (intOf i + 1).toNat)
  case atStart => exact ⟨0, Nat.zero_le _, by simp, h0, Kc.refl _ _⟩
  case round =>
    obtain ⟨k, hk, rfl, hJs, hnx⟩ := hrel
    have hbox := hnx.cell (p := ⟨Bx, 0, none⟩) hBX hBs
    by_cases hlt : k < bs.length
    · obtain ⟨fn, tmps, assign, body, hy, hR⟩ := hY _ (bk bs k) wr hJs (by rw [upto_length]; exact hlt)
      dsimp only [encB, bk] at hy
      have hcx := hnx.cell (p := ⟨b, off + (bs.length - 1 - k), none⟩) hbX (hc (bs.length - 1 - k) (by omega))
      have e2 : bs.getD (bs.length - 1 - k) 0 = bs[bs.length - 1 - k] := by simp [List.getD, List.getElem?_eq_getElem (show bs.length - 1 - k < bs.length by omega)]
      have e1 : ((bs.length - 1 - k : Nat) : Int) = (bs.length : Int) - 1 - k := by omega
      rw [e1, e2] at hy
      clear e1 e2
      gi_wp2
      refine hR.mono ?_
      rintro e W3 (⟨rfl, hJ3, hk3⟩ | ⟨rfl, hJx3⟩)
      · gi_wp2
        go_roundw
        case rel => exact ⟨k + 1, by omega, by go_num, by rw [upto_succ]; exact hJ3, hnx.trans hk3⟩
        case measure => simp [intOf]; omega
      · gi_wp2
        refine bodyPost_ret (results_none rfl _ _ _) rfl ?_
        exact ⟨⟨_, rfl⟩, .inr ⟨_, trivial, hJx3⟩⟩
    · obtain rfl : k = bs.length := by omega
      gi_wp2
      go_end0
      exact ⟨⟨_, rfl⟩, .inl ⟨_, rfl, hJs⟩⟩

set_option maxRecDepth 100000 in
set_option maxHeartbeats 1000000 in
/-- .. at no bytes: no round. -/
theorem Backward1_nil_in (F : Fence) (n : Nat) (hF : F.fn 20) (hro : F.round = none) (l Bx : Nat) (a : Option Addr) (cap : Nat) (J : List (Nat × UInt8) → World → Prop) (W : World) (hBs : W.cell? ⟨Bx, 0, none⟩ = some (.slice a 0 cap)) (h0 : J [] W) :
    CallsIn F n Tryd.prog 20 #[.func (.yield l) #[] #[], .pointer (some ⟨Bx, 0, none⟩)] W fun e W' => (∃ v, e = .returned v) ∧ J [] W' := by
  refine callsIn_of_wp Tryd.func20 rfl hF ?_ hro
  simp only [Tryd.ntmps20, List.size_toArray, List.length_cons, List.length_nil, Nat.reduceAdd, Nat.reduceSub, Array.replicate_succ, Array.replicate_zero, List.push_toArray, List.append_toArray, List.nil_append, List.cons_append]
  gi_wp2
  gi_loopw [3] (fun i wr => i = .int .i64 (-1) ∧ J [] wr) (fun _ _ => 0)
  case atStart => exact ⟨rfl, h0⟩
  case round =>
    obtain ⟨rfl, hJs⟩ := hrel
    gi_wp2
    go_end0
    exact ⟨⟨_, rfl⟩, hJs⟩

set_option maxHeartbeats 1000000 in
theorem Backward_in (F : Fence) (n : Nat) (hF : F.fn 13) (hro : F.round = none) (a : Option Addr) (len cap : Nat) (w : World) :
    CallsIn F n Tryd.prog 13 #[.slice a len cap] w fun e w' => e = .returned (.func (.func 20) #[] #[.pointer (some ⟨w.heap.size, 0, none⟩)]) ∧ w' = w.alloc (.cells #[.slice a len cap] 34) := by
  refine callsIn_of_wp Tryd.func13 rfl hF ?_ hro
  simp only [Tryd.ntmps13, List.size_toArray, List.length_cons, List.length_nil, Nat.reduceAdd, Nat.reduceSub, Array.replicate_succ, Array.replicate_zero, List.push_toArray, List.append_toArray, List.nil_append, List.cons_append]
  gi_wp2
  go_ret
  exact ⟨rfl, rfl⟩

theorem Backward_stops (F : Fence) (n : Nat) (hF : F.fn 20) (hro : F.round = none) (hn : 1 ≤ n) (Bx X : Nat) (a : Option Addr) (cap : Nat) (bs : List UInt8) (hreach : bs.length ≤ 140737488355328) (w : World)
    (hBX : Bx ≠ X) (hc : w.cell? ⟨Bx, 0, none⟩ = some (.slice a bs.length cap)) (hI : Bs w a cap bs) (hX : ∀ k, bs ≠ [] → ablk a = some k → k ≠ X) :
    SeqStopsK F n Tryd.prog 20 #[.pointer (some ⟨Bx, 0, none⟩)] encB (Kc X) (fun ys => ys = upto (bk bs) bs.length) (fun _ => True) bs.length w := fun l J Jx W hW _ _ hY h0 => by
  have hK : Kc X w W := Kc.below hW
  have hc' := hK.cell (p := ⟨Bx, 0, none⟩) hBX hc
  by_cases hb : bs = []
  · subst hb
    exact (Backward1_nil_in F n hF hro l Bx a cap J W hc' h0).mono fun e W' ⟨he, hj⟩ => ⟨he, .inl ⟨_, rfl, hj⟩⟩
  · obtain ⟨b, off, rfl, hcs⟩ := hI.cells hb
    have hbX := hX b hb rfl
    exact Backward1_in F n hF hro hn l Bx X b off cap bs hreach hbX hBX J Jx hY W hc' (fun j hj => hK.cell (p := ⟨b, off + j, none⟩) hbX (hcs j hj)) h0
end Go.Proofs.YtkppakhjfagdnaaDoor
