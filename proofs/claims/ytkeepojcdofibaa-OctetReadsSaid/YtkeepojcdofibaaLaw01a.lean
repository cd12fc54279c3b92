/- The law's own calls of layer 1: items, right, few, lives. -/
import Derived.Test.YtkeepojcdofibaaRef01b
namespace Go.Proofs.Ytkeepojcdofibaa
set_option linter.unusedVariables false
set_option linter.unusedSimpArgs false
open Go.RowKit

/-- An item, and where its bytes lie. -/
structure It where
  kind : Int
  size : Int
  x : Nat
  ba : Option Addr
  bc : Nat
  bs : List UInt8

def It.cells (t : It) : List Value := [.int .i64 t.kind, .int .i64 t.size, .int .u64 t.x, .slice t.ba t.bs.length t.bc]

/-- An item that is read. -/
structure It.ok (w : World) (t : It) : Prop where
  bytes : Bs w t.ba t.bc t.bs
  x : t.x < 18446744073709551616
  k0 : -9223372036854775808 ≤ t.kind
  k1 : t.kind ≤ 9223372036854775807
  s0 : -9223372036854775808 ≤ t.size
  s1 : t.size ≤ 9223372036854775807

/-- Items that are read: all lies below block B. -/
structure Its (w : World) (a : Option Addr) (c : Nat) (l : List It) : Prop where
  cells : ∀ k (h : k < l.length), ∃ b off, a = some ⟨b, off, none⟩ ∧ b < w.heap.size ∧ ∀ i u, l[k].cells[i]? = some u → w.cell? ⟨b, off + k * 4 + i, none⟩ = some u
  ok : ∀ t ∈ l, t.ok w
  blk : ∀ t ∈ l, t.bs ≠ [] → ∀ k, ablk t.ba = some k → k < w.heap.size
  most : l.length ≤ 9223372036854775807

theorem Its.below {w w' : World} {a : Option Addr} {c : Nat} {l : List It} (h : Its w a c l) (hf : Fr F0 w w') : Its w' a c l := by
  refine ⟨fun k hk => ?_, fun t ht => ?_, fun t ht hn k hk => hf.lt (h.blk t ht hn k hk), h.most⟩
  · obtain ⟨b, off, e, hb, hc⟩ := h.cells k hk
    exact ⟨b, off, e, hf.lt hb, fun i u hi => hf.cell (fun f => f) (hc i u hi)⟩
  · have ho := h.ok t ht
    exact ⟨Sl.fr ho.bytes hf fun _ _ f => f, ho.x, ho.k0, ho.k1, ho.s0, ho.s1⟩

set_option maxHeartbeats 400000 in
theorem right01_any (n : Int) (w : World) : Calls Try.prog 8 #[.int .i64 n] w fun e w' => e = .returned (.bool (szB n)) ∧ w = w' := by
  by_cases h1 : n = 1
  · subst h1; go_enter Try.func8, Try.ntmps8
    go_wp2
    go_ret
    exact ⟨rfl, rfl⟩
  have b1 : (n == 1) = false := by simpa using h1
  by_cases h2 : n = 2
  · subst h2; go_enter Try.func8, Try.ntmps8
    go_wp2
    go_ret
    exact ⟨rfl, rfl⟩
  have b2 : (n == 2) = false := by simpa using h2
  by_cases h4 : n = 4
  · subst h4; go_enter Try.func8, Try.ntmps8
    go_wp2
    go_ret
    exact ⟨rfl, rfl⟩
  have b4 : (n == 4) = false := by simpa using h4
  go_enter Try.func8, Try.ntmps8
  go_wp2
  go_ret
  exact ⟨by simp [szB, b1, b2, b4], rfl⟩

/-- Are items few, and short? -/
def fewB (l : List It) : Bool := l.all (fun t => t.bs.length ≤ 300) && decide (l.length ≤ 40)

set_option maxHeartbeats 1000000 in
theorem few01_any (a : Option Addr) (n c : Nat) (l : List It) (w : World) (h : Its w a c l) (hn : n = l.length) :
    Calls Try.prog 6 #[.slice a n c] w fun e w' => e = .returned (.bool (fewB l)) ∧ Fr F0 w w' := by
  subst hn
  have hm := h.most
  go_enter Try.func6, Try.ntmps6
  go_wp2
  go_loopw [7] (fun iv wr => ∃ k : Nat, k ≤ l.length ∧ iv = .int .i64 k ∧ Hid ((l.take k).all (fun t => t.bs.length ≤ 300) = true) ∧ Fr F0 w wr) (fun iv _ => l.length - (intOf iv).toNat)
  case atStart => exact ⟨0, Nat.zero_le _, rfl, by simp [Hid], Fr.refl _ _⟩
  case round =>
    obtain ⟨k, hk, rfl, HK, hf⟩ := hrel
    by_cases hkn : k < l.length
    · have hr := h.below hf
      obtain ⟨b, off, rfl, hb, hc⟩ := hr.cells k hkn
      have c0 := hc 0 _ rfl
      have c1 := hc 1 _ rfl
      have c2 := hc 2 _ rfl
      have c3 := hc 3 _ rfl
      have hlen := (hr.ok _ (List.getElem_mem hkn)).bytes.room
      have hmx := (hr.ok _ (List.getElem_mem hkn)).bytes.most
      generalize ht : l[k] = t at *
      simp only [Nat.add_zero] at c0
      clear hc hr
      go_wp2
      · have hbig : (300 : Int) < t.bs.length := by assumption
        go_ret
        refine ⟨?_, hf.alloc _⟩
        have : fewB l = false := by
          simp only [fewB, Bool.and_eq_false_iff, List.all_eq_false]
          exact .inl ⟨t, by rw [← ht]; exact List.getElem_mem hkn, by simp; omega⟩
        rw [this]
        rfl
      · have hsm : (t.bs.length : Int) ≤ 300 := by assumption
        go_roundw
        case rel =>
          refine ⟨k + 1, by omega, by go_num, ?_, hf.alloc _⟩
          rw [Hid, List.take_succ_eq_append_getElem hkn, List.all_append, HK.out, ht]
          simp
          omega
        case measure => simp [intOf]; omega
    · have : k = l.length := by omega
      subst this
      have e : fewB l = decide ((l.length : Int) ≤ 40) := by
        have := HK.out
        rw [List.take_length] at this
        rw [fewB, this, Bool.true_and, decide_eq_decide]
        omega
      have E := Lib.hid e
      clear e
      go_wp2
      go_ret
      exact ⟨by rw [E.out]; rfl, hf⟩

/-- The chapter's example. -/
theorem lives_bytes : cnt 252 ++ cnt 253 ++ cnt 65536 = [252, 253, 253, 0, 254, 0, 0, 1, 0] := by decide +kernel

set_option maxRecDepth 100000 in
set_option maxHeartbeats 1000000 in
theorem lives01_any (w : World) : Calls Try.prog 5 #[] w fun e w' => e = .returned (.bool true) ∧ Fr F0 w w' := by
  have h0 : IsW (w.alloc (.cells #[.slice none 0 0] 28)) w.heap.size (.slice none 0 0) [] := ⟨heap_alloc_new w _, OwnB.nil _⟩
  have A0 : Fr F0 w (w.alloc (.cells #[.slice none 0 0] 28)) := (Fr.refl _ _).alloc _
  go_enter Try.func5, Try.ntmps5
  go_wp2_with fail
  refine (WCount_any _ _ _ _ _ h0 (by omega) (by omega) (by simp)).mono ?_
  rintro e w1 ⟨rfl, p1⟩
  go_wp2_with fail
  obtain ⟨v1, h1, hf1, ho1⟩ := p1
  refine (WCount_any _ _ _ _ _ h1 (by omega) (by omega) (by rw [List.length_append, cnt_length]; have := csz_le 252; simp; omega)).mono ?_
  rintro e w2 ⟨rfl, p2⟩
  have q2 := WPost.trans h1 hf1 ho1 p2
  go_wp2_with fail
  obtain ⟨v2, h2, hf2, ho2⟩ := q2
  refine (WCount_any _ _ _ _ _ h2 (by omega) (by omega) (by simp only [List.length_append, cnt_length]; have := csz_le 252; have := csz_le 253; simp; omega)).mono ?_
  rintro e w3 ⟨rfl, p3⟩
  have q3 := WPost.trans h2 hf2 ho2 p3
  clear p2 p3 h1 hf1 ho1 h2 hf2 ho2
  go_wp2_with fail
  obtain ⟨v3, h3, hf3, ho3⟩ := q3
  have e3 : [] ++ cnt (252 : Int).toNat ++ cnt (253 : Int).toNat ++ cnt (65536 : Int).toNat = [252, 253, 253, 0, 254, 0, 0, 1, 0] := lives_bytes
  rw [e3] at h3
  refine (WBytes_any _ _ _ _ h3 (by simp)).mono ?_
  rintro e w4 ⟨a, c, rfl, hb, hf4, _⟩
  have hs := fun dst hd => run_str (P := Try.prog) 26 dst 5 Try.underlying26 Try.underlying5 hd hb 9 rfl
  have hs9 := hs 9 Try.underlying9
  have HF : Hid (Fr F0 w w4) := by
    refine ((A0.of0 (T := WS w.heap.size (.slice none 0 0))).trans' hf3 |>.mono fun k hk hs => ?_).trans' hf4
    rcases hs with rfl | hs
    · exact absurd hk (Nat.lt_irrefl _)
    · cases hs
  clear hs hf3 ho3 h3 hf4 A0 h0 e3
  simp only [List.length_cons, List.length_nil, Nat.zero_add, Nat.reduceAdd] at hb ⊢
  go_wp2
  go_ret
  exact ⟨by rw [strOf_toList]; rfl, HF.out⟩
end Go.Proofs.Ytkeepojcdofibaa
