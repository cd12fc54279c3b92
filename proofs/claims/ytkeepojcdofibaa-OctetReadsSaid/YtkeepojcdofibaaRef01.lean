/- The document's answer for layer 1 (package pontageref01). -/
import Derived.Test.YtkeepojcdofibaaOctW
import Derived.Test.YtkeepojcdofibaaOctC
namespace Go.Proofs.Ytkeepojcdofibaa
set_option linter.unusedVariables false
set_option linter.unusedSimpArgs false
open Go.RowKit

theorem made_own (w : World) (cur : Array Value) (bs : List UInt8) (h : cur.toList = bs.map B8) (hl : bs.length ≤ maxLen) :
    OwnB (w.alloc (.cells cur 5)) (.slice (some ⟨w.heap.size, 0, none⟩) bs.length bs.length) bs := by
  have hc : cur.size = bs.length := by
    have := congrArg List.length h
    simpa using this
  refine ⟨by simp, .inr ⟨w.heap.size, bs.length, cur, rfl, Nat.zero_le _, heap_alloc_new w _, Nat.le_refl _, hl, by omega, ?_⟩⟩
  rw [h]
  exact List.take_of_length_le (by simp)

theorem NewBytes.mk' {w w' : World} {a : Option Addr} {n c : Nat} {bs : List UInt8} (h : OwnB w' (.slice a n c) bs) (hf : Fr F0 w w') (hb : ∀ k, ablk a = some k → w.heap.size ≤ k) : NewBytes bs w (.returned (.slice a n c)) w' := by
  obtain ⟨rfl, hs⟩ := h.bs
  exact ⟨a, c, rfl, hs, hf, fun k hk => ⟨hb k hk, h.lt k (by rw [ablk_own]; exact hk)⟩⟩

set_option maxHeartbeats 1000000 in
theorem refPut_any (x n : Nat) (w : World) (hx : x < 18446744073709551616) (hn : n ≤ 8) :
    Calls Try.prog 9 #[.int .u64 x, .int .i64 n] w (NewBytes (le n x) w) := by
  go_enter Try.func9, Try.ntmps9
  go_wp2
  go_loopw [0, 5, 6] (fun xv ov iv wr => ∃ (k X : Nat) (a : Option Addr) (m c : Nat), k ≤ n ∧ iv = .int .i64 k ∧ xv = .int .u64 X ∧ X < 2 ^ 64 ∧ Hid (X = x / 256 ^ k) ∧ ov = .slice a m c ∧ OwnB wr (.slice a m c) (le k x) ∧ Fr F0 w wr ∧ Hid (∀ i, ablk a = some i → w.heap.size ≤ i)) (fun _ _ iv _ => n - (intOf iv).toNat)
  case atStart => exact ⟨0, x, _, 0, 0, Nat.zero_le _, rfl, rfl, hx, by simp [Hid], rfl, made_own w #[] [] rfl (by simp), (Fr.refl _ _).alloc _, fun i e => by cases e; exact Nat.le_refl _⟩
  case round =>
    obtain ⟨k, X, a, m, c, hk, rfl, rfl, hX, HX, rfl, ho, hf, HA⟩ := hrel
    by_cases hkn : k < n
    · have A1 : Fr F0 wr (wr.alloc (.cells #[.int .u8 ((X : Int) % 256)] 5)) := (Fr.refl _ _).alloc _
      have O1 := ho.fr A1 fun _ _ => id
      have hll := le_length k x
      have E1 := Lib.hid hll
      clear hll
      go_wp2_with (at_builtin; refine wpList_appB rfl _ _ rfl (.slice a m c) _ rfl O1 _ _ _ _ rfl (one_byte wr X) rfl (by have := E1.out; simp; omega) ?_; intro a' c' w1 ho1 hg hb; have HB := Lib.hid hb; clear hb)
      have hf1 : Fr F0 w w1 := by
        refine (hf.trans' A1).grown hg fun i hi hl => ?_
        rw [ablk_own] at hi
        have := HA.out i hi
        omega
      have hs1 := hf.size
      simp only [List.length_append, List.length_cons, List.length_nil, Nat.zero_add] at ho1
      go_roundw
      case rel =>
        refine ⟨k + 1, X / 256, a', (le k x).length + 1, c', by omega, by go_num, by go_num, by omega, ?_, rfl, ?_, hf1, fun i hi => ?_⟩
        · rw [HX.out]; simp [Hid, Nat.div_div_eq_div_mul, Nat.pow_succ]
        · rw [le_snoc, ← HX.out]
          exact ho1
        · rcases HB.out i hi with h | h
          · rw [ablk_own] at h
            exact HA.out i h
          · simp at h
            omega
      case measure => simp [intOf]; omega
    · go_wp2
      go_ret
      have : k = n := by omega
      subst this
      exact NewBytes.mk' ho hf HA.out

theorem refPut_at (x n : Int) (w : World) (h0 : 0 ≤ x) (hx : x < 18446744073709551616) (h1 : 0 ≤ n) (hn : n ≤ 8) :
    Calls Try.prog 9 #[.int .u64 x, .int .i64 n] w (NewBytes (le n.toNat x.toNat) w) := by
  obtain ⟨x, rfl⟩ := Int.eq_ofNat_of_zero_le h0
  obtain ⟨n, rfl⟩ := Int.eq_ofNat_of_zero_le h1
  exact refPut_any x n w (by omega) (by omega)

theorem ofLE_drop (bs : List UInt8) (k : Nat) (hk : k < bs.length) : ofLE (bs.drop k) = ofLE (bs.drop (k + 1)) * 256 + bs[k].toNat := by
  rw [List.drop_eq_getElem_cons hk, ofLE]
  omega

set_option maxHeartbeats 1000000 in
theorem refGet_any (a : Option Addr) (n c : Nat) (bs : List UInt8) (w : World) (h : Bs w a c bs) (hn : n = bs.length) (hl : bs.length ≤ 8) :
    Calls Try.prog 18 #[.slice a n c] w fun e w' => e = .returned (.int .u64 (ofLE bs)) ∧ w = w' := by
  subst hn
  go_enter Try.func18, Try.ntmps18
  go_wp2
  go_loop [3, 4] (fun xv iv => ∃ (k X : Nat), k ≤ bs.length ∧ iv = .int .i64 ((k : Int) - 1) ∧ xv = .int .u64 X ∧ X < 256 ^ (bs.length - k) ∧ Hid (X = ofLE (bs.drop k))) (fun _ iv => (intOf iv + 1).toNat)
  case atStart => exact ⟨bs.length, 0, Nat.le_refl _, rfl, rfl, by simp, by simp [Hid, ofLE]⟩
  case round =>
    obtain ⟨k, X, hk, rfl, rfl, hX, HX⟩ := hrel
    by_cases hk0 : 0 < k
    · obtain ⟨b, off, rfl, hc⟩ := h.at (k - 1) (by omega)
      have hlt : X < 72057594037927936 := by
        have : 256 ^ (bs.length - k) ≤ 256 ^ 7 := Nat.pow_le_pow_right (by omega) (by omega)
        omega
      have hx8 := (bs[k - 1]'(by omega)).toNat_lt
      have HS := Lib.hid (ofLE_drop bs (k - 1) (by omega))
      have HP : Hid (256 ^ (bs.length - (k - 1)) = 256 ^ (bs.length - k) * 256) := by
        rw [show bs.length - (k - 1) = (bs.length - k) + 1 from by omega, Nat.pow_succ]
        rfl
      have HX' := Lib.hid hX
      generalize hbv : (bs[k - 1]'(by omega)).toNat = v at *
      clear hX
      have hv : ((k : Int) - 1).toNat = k - 1 := by omega
      go_wp2
      have hX := HX'.out
      have hp := HP.out
      go_round
      case rel =>
        refine ⟨k - 1, X * 256 + v, by omega, by go_num, by go_num, by rw [hp]; omega, ?_⟩
        rw [Hid, HS.out, show k - 1 + 1 = k from by omega, HX.out]
      case measure => simp [intOf]; omega
    · go_wp2
      go_ret
      obtain rfl : k = 0 := by omega
      refine ⟨?_, rfl⟩
      rw [HX.out]
      rfl

/-- A literal of one byte. -/
theorem lit_own (w : World) (v : Int) (b : UInt8) (h : B8 b = .int .u8 v) : OwnB (w.alloc (.cells #[.int .u8 v] 5)) (.slice (some ⟨w.heap.size, 0, none⟩) 1 1) [b] :=
  made_own w #[.int .u8 v] [b] (by simp [h]) (by simp [maxLen])

set_option maxRecDepth 100000 in
set_option maxHeartbeats 1000000 in
theorem refCount_any (x : Nat) (w : World) (hx : x < 18446744073709551616) :
    Calls Try.prog 11 #[.int .u64 x] w (NewBytes (cnt x) w) := by
  by_cases c1 : x < 253
  · have e : cnt x = [UInt8.ofNat (x % 256)] := by simp [cnt, c1, le]
    rw [e]
    have O := lit_own w ((x : Int) % 256) (UInt8.ofNat (x % 256)) (byte_val x)
    have h1 : (x : Int) % 256 = x := by omega
    rw [h1] at O
    clear e h1
    go_enter Try.func11, Try.ntmps11
    go_wp2
    go_ret
    exact NewBytes.mk' (bs := [UInt8.ofNat (x % 256)]) O ((Fr.refl _ _).alloc _) fun i e => by cases e; exact Nat.le_refl _
  -- a first byte, and a number behind it
  have big : ∀ (f : Int) (b : UInt8) (k : Nat), B8 b = .int .u8 f → k ≤ 8 → cnt x = b :: le k x → Calls Try.prog 9 #[.int .u64 x, .int .i64 k] (w.alloc (.cells #[.int .u8 f] 5))
      (fun e w1 => ∃ a c, e = .returned (.slice a (le k x).length c) ∧ Bs w1 a c (le k x) ∧ Fr F0 w w1 ∧ OwnB w1 (.slice (some ⟨w.heap.size, 0, none⟩) 1 1) [b] ∧ w.heap.size < w1.heap.size) := by
    intro f b k hb hk _
    refine (refPut_any x k _ hx hk).mono ?_
    rintro e w1 ⟨a, c, rfl, h1, hf, _⟩
    exact ⟨a, c, rfl, h1, ((Fr.refl F0 w).alloc _).trans' hf, (lit_own w f b hb).fr hf fun _ _ f => f, hf.lt (by simp)⟩
  have fin : ∀ (w1 w2 : World) (b : UInt8) (k : Nat) (a' : Option Addr) (n c' : Nat), cnt x = b :: le k x → Fr F0 w w1 → w.heap.size < w1.heap.size → OwnB w2 (.slice a' n c') ([b] ++ le k x) → w1.grownBy w2 (some w.heap.size) →
      (∀ i, ablk a' = some i → some w.heap.size = some i ∨ w1.heap.size ≤ i) → NewBytes (cnt x) w (.returned (.slice a' n c')) w2 := by
    intro w1 w2 b k a' n c' e hf hs ho hg hb
    rw [e]
    refine NewBytes.mk' ho (hf.grown hg fun i hi hl => ?_) fun i hi => ?_
    · cases hi; omega
    · rcases hb i hi with h | h
      · cases h; exact Nat.le_refl _
      · omega
  by_cases c2 : x < 65536
  · have e : cnt x = 253 :: le 2 x := by simp [cnt, c1, c2, le]
    have B := Lib.hid (big 253 253 2 rfl (by omega) e)
    have FI := Lib.hid (fun w1 w2 => fin w1 w2 253 2)
    have E := Lib.hid e
    have d1 : ¬ (x : Int) < 253 := by omega
    have d2 : (x : Int) < 65536 := by omega
    clear c1 c2
    clear big fin e
    go_enter Try.func11, Try.ntmps11
    go_wp2_with (first | (go_at_call 9; refine B.out.mono ?_; rintro e w1 ⟨a, c, rfl, h1, hf, ho, hs⟩) | (at_builtin; refine wpList_appB rfl _ _ rfl (.slice (some ⟨w.heap.size, 0, none⟩) 1 1) _ rfl ho _ _ _ _ rfl h1 rfl (by simp [le_length]) ?_; intro a' c' w2 ho2 hg hb; have HF := Lib.hid (FI.out w1 w2 _ _ c' E.out hf hs ho2 hg hb); clear hb hg ho2))
    go_ret
    exact HF.out
  by_cases c3 : x < 4294967296
  · have e : cnt x = 254 :: le 4 x := by simp [cnt, c1, c2, c3, le]
    have B := Lib.hid (big 254 254 4 rfl (by omega) e)
    have FI := Lib.hid (fun w1 w2 => fin w1 w2 254 4)
    have E := Lib.hid e
    have d1 : ¬ (x : Int) < 253 := by omega
    have d2 : ¬ (x : Int) < 65536 := by omega
    have d3 : (x : Int) < 4294967296 := by omega
    clear c1 c2 c3
    clear big fin e
    go_enter Try.func11, Try.ntmps11
    go_wp2_with (first | (go_at_call 9; refine B.out.mono ?_; rintro e w1 ⟨a, c, rfl, h1, hf, ho, hs⟩) | (at_builtin; refine wpList_appB rfl _ _ rfl (.slice (some ⟨w.heap.size, 0, none⟩) 1 1) _ rfl ho _ _ _ _ rfl h1 rfl (by simp [le_length]) ?_; intro a' c' w2 ho2 hg hb; have HF := Lib.hid (FI.out w1 w2 _ _ c' E.out hf hs ho2 hg hb); clear hb hg ho2))
    go_ret
    exact HF.out
  · have e : cnt x = 255 :: le 8 x := by simp [cnt, c1, c2, c3, le]
    have B := Lib.hid (big 255 255 8 rfl (by omega) e)
    have FI := Lib.hid (fun w1 w2 => fin w1 w2 255 8)
    have E := Lib.hid e
    have d1 : ¬ (x : Int) < 253 := by omega
    have d2 : ¬ (x : Int) < 65536 := by omega
    have d3 : ¬ (x : Int) < 4294967296 := by omega
    clear c1 c2 c3
    clear big fin e
    go_enter Try.func11, Try.ntmps11
    go_wp2_with (first | (go_at_call 9; refine B.out.mono ?_; rintro e w1 ⟨a, c, rfl, h1, hf, ho, hs⟩) | (at_builtin; refine wpList_appB rfl _ _ rfl (.slice (some ⟨w.heap.size, 0, none⟩) 1 1) _ rfl ho _ _ _ _ rfl h1 rfl (by simp [le_length]) ?_; intro a' c' w2 ho2 hg hb; have HF := Lib.hid (FI.out w1 w2 _ _ c' E.out hf hs ho2 hg hb); clear hb hg ho2))
    go_ret
    exact HF.out

theorem refCount_at (x : Int) (w : World) (h0 : 0 ≤ x) (hx : x < 18446744073709551616) :
    Calls Try.prog 11 #[.int .u64 x] w (NewBytes (cnt x.toNat) w) := by
  obtain ⟨x, rfl⟩ := Int.eq_ofNat_of_zero_le h0
  exact refCount_any x w (by omega)

end Go.Proofs.Ytkeepojcdofibaa
