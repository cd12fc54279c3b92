/- Stage 2, digest: the last blocks, filled. -/
import Derived.Test.YtkppakhjfagdnaaDoorDigC
import Derived.Test.YtkppakhjfagdnaaDoorApp
import Derived.OwnWalk
import Derived.Deep.CutBlock
import Derived.Deep.DeepCutAuto
import Derived.Laws.CopyOwn
namespace Go.Proofs.YtkppakhjfagdnaaDoor
set_option linter.unusedVariables false
set_option linter.unusedSimpArgs false
open Go.RowKit

theorem rowB_set (L : List UInt8) (p : Nat) (v : UInt8) : ((L.map B8).toArray.setIfInBounds p (.int .u8 (v.toNat : Int))) = ((L.set p v).map B8).toArray := by
  apply Array.ext'
  simp only [Array.toList_setIfInBounds]
  rw [List.map_set]
  rfl

/-- What lies there when k of the last eight bytes are written. -/
def filk (r : List UInt8) (n k : Nat) : List UInt8 := r ++ [128] ++ List.replicate (fsize r.length - 9 - r.length) 0 ++ (List.replicate (8 - k) 0 ++ (be8 (8 * n)).drop (8 - k))

theorem filk_all (r : List UInt8) (n : Nat) : filk r n 8 = fil r n := by simp [filk, fil]

theorem filk_length (r : List UInt8) (n k : Nat) (h : r.length < 64) (hk : k ≤ 8) : (filk r n k).length = fsize r.length := by
  simp [filk, be8_length, fsize]
  split <;> omega

theorem filk_zero (r : List UInt8) (n q : Nat) (hq : q = fsize r.length) (h : r.length < 64) : (r ++ List.replicate (q - r.length) 0).set r.length 128 = filk r n 0 := by
  have h8 : q - r.length = (q - 9 - r.length) + 8 + 1 := by rw [hq]; unfold fsize; split <;> omega
  rw [h8, List.replicate_succ, List.set_append_right _ _ (Nat.le_refl _), Nat.sub_self, List.set_cons_zero, filk, ← hq]
  rw [List.drop_eq_nil_of_le (by rw [be8_length]; omega), List.append_nil]
  simp only [Nat.sub_zero, List.append_assoc, List.replicate_append_replicate, List.cons_append, List.nil_append]

theorem be8_get (x i : Nat) (h : i < 8) : (be8 x)[7 - i]? = some (UInt8.ofNat (x / 2 ^ (8 * i))) := by
  simp [be8, List.getElem?_map, List.getElem?_range (show 7 - i < 8 by omega)]
  congr 3
  omega

theorem filk_succ (r : List UInt8) (n k : Nat) (h : r.length < 64) (hk : k < 8) : (filk r n k).set (fsize r.length - 1 - k) (UInt8.ofNat (8 * n / 2 ^ (8 * k))) = filk r n (k + 1) := by
  have hA : (r ++ [128] ++ List.replicate (fsize r.length - 9 - r.length) (0 : UInt8)).length = fsize r.length - 8 := by
    simp [fsize]
    split <;> omega
  have h8 : fsize r.length ≥ 64 := by unfold fsize; split <;> omega
  unfold filk
  generalize r ++ [128] ++ List.replicate (fsize r.length - 9 - r.length) (0 : UInt8) = A at *
  have e1 : 8 - k = (7 - k) + 1 := by omega
  have e2 : 8 - (k + 1) = 7 - k := by omega
  have hd : (be8 (8 * n)).drop (7 - k) = UInt8.ofNat (8 * n / 2 ^ (8 * k)) :: (be8 (8 * n)).drop (8 - k) := by
    have hg := be8_get (8 * n) k hk
    obtain ⟨hlt, hg⟩ := List.getElem?_eq_some_iff.1 hg
    rw [List.drop_eq_getElem_cons hlt, hg, e1]
  rw [e2, hd, e1, List.replicate_succ', List.set_append_right _ _ (by omega), hA]
  congr 1
  rw [List.append_assoc, List.set_append_right _ _ (by simp; omega)]
  congr 1
  simp only [List.length_replicate, List.cons_append, List.nil_append]
  rw [show fsize r.length - 1 - k - (fsize r.length - 8) - (7 - k) = 0 by omega]
  rfl

theorem own_full {w : World} {base e g n : Nat} {xs : List Value} (h : w.ownsRow base e 1 (.slice (some ⟨g, 0, none⟩) n n) n xs) : w.heap[g]? = some (.cells xs.toArray e (0, 0)) := by
  rcases h.2 with ⟨h, _⟩ | ⟨g', cap, cur, h, _, hg, hn, hm, hs, ht⟩
  · cases h
  · cases h
    rw [hg, ← ht]
    congr 2
    apply Array.ext'
    simp [hs, List.take_of_length_le]

/-- Cells that are bytes, read as a slice. -/
theorem Bs.of_row {w : World} {g : Nat} {t : TypeId} {L : List UInt8} (h : w.heap[g]? = some (.cells (L.map B8).toArray t (0, 0))) (hm : L.length ≤ maxLen) : Bs w (some ⟨g, 0, none⟩) L.length L :=
  ⟨by simp, Nat.le_refl _, hm, (fun e => by cases e), fun j u hj => ⟨g, 0, rfl, by rw [Nat.zero_add, cell_of_row w g j _ t _ h]; simpa using hj⟩⟩

theorem splice_front (r : List UInt8) (q : Nat) (h : r.length ≤ q) : splice (madeCells #[Value.int IntKind.u8 0] q).toList 0 (r.map B8) = (r ++ List.replicate (q - r.length) 0).map B8 := by
  have e : (madeCells #[Value.int IntKind.u8 0] q).toList = List.replicate q (B8 0) := by
    apply List.ext_getElem
    · simp [madeCells]
    · intro i h1 h2
      simp [madeCells, Nat.mod_one]
      rfl
  rw [e]
  simp [splice]

theorem Bs.src {w : World} {a : Option Addr} {c : Nat} {r : List UInt8} (h : Bs w a c r) (hn : 0 < (r.map B8).length) : ∃ ad, a = some ad ∧ ∀ j v, (r.map B8)[j]? = some v → w.cell? (ad.add j) = some v := by
  cases a with
  | none =>
    have h0 := h.nil rfl
    have := h.room
    simp at hn
    omega
  | some ad => exact ⟨ad, rfl, h.addr⟩

set_option maxRecDepth 100000 in
set_option maxHeartbeats 8000000 in
theorem filled_any (a : Option Addr) (n c : Nat) (r : List UInt8) (hn : n = r.length) (hr : r.length < 64) (m : Nat) (hm : m ≤ 140737488355328) (w : World) (h : Bs w a c r) :
    Calls Tryd.prog 17 #[.slice a n c, .int .u64 (m : Int)] w fun e w' => ∃ b, e = .returned (.slice (some ⟨b, 0, none⟩) (fsize r.length) (fsize r.length)) ∧ Bs w' (some ⟨b, 0, none⟩) (fsize r.length) (fil r m) ∧ Fr F0 w w' ∧ w.heap.size ≤ b := by
  subst hn
  obtain ⟨i0, hi, hz0, hz1, hz2⟩ := info_parts Tryd.infoU8
  obtain ⟨q, hq⟩ : ∃ q, q = fsize r.length := ⟨_, rfl⟩
  have hq2 : q = if 56 ≤ r.length then 128 else 64 := hq
  have hqs : q = 64 ∨ q = 128 := by rw [hq2]; split <;> omega
  rw [← hq]
  have HQ := Lib.hid hq
  have HB := Lib.hid h
  go_enter Tryd.func17, Tryd.ntmps17
  go_upto_if 12 with fail
  go_cut [5] (fun v w' => v = .int .i64 (q : Int) ∧ w' = w)
  case first =>
    by_cases h56 : 56 ≤ r.length
    · have hq8 : q = 128 := by rw [hq2, if_pos h56]
      have h57 : (56 : Int) ≤ (r.length : Int) := by omega
      subst hq8
      go_wp2_with fail
      go_meet
      case rel => exact ⟨rfl, rfl⟩
    · have hq8 : q = 64 := by rw [hq2, if_neg h56]
      have h57 : ¬ (56 : Int) ≤ (r.length : Int) := by omega
      subst hq8
      go_wp2_with fail
      go_meet
      case rel => exact ⟨rfl, rfl⟩
  case rest =>
    obtain ⟨rfl, rfl⟩ := hcut
    have hlq : (q : Int) < 129 := by omega
    have hgq : (63 : Int) < q := by omega
    clear hq hq2
    have hrl : (r.length : Int) < q := by omega
    have hmin : r.length.min q = r.length := Nat.min_eq_left (by omega)
    go_wp2_with (first | (at_make; refine wpList_make_full wc rfl _ _ _ rfl 0 5 i0 _ 1 Tryd.underlying34 hi hz0 hz1 .i64 .i64 q q q rfl rfl rfl rfl (by rw [hz2]; omega) (by unfold maxLen; omega) (Nat.zero_le _) ?_; intro w1 ho hg) | (refine wpList_copy_splice rfl (.tmp 17) (.tmp 18) 34 34 rfl 5 Tryd.underlying34 (by rw [hi]; simp [hz1]) _ _ _ _ _ _ rfl rfl wc.heap.size 0 _ 5 (own_full ho) (r.map B8) (by simp [hmin]) (fun hp => ⟨rfl, Bs.src (Sl.fr HB.out ((Fr.refl F0 wc).grown hg (fun k e => by cases e)) fun _ _ f => f) hp⟩) (by simp [madeCells]; omega) Bs.one wc.heap.size wc (((Fr.refl F0 wc).grown hg (fun k e => by cases e)).below (Nat.le_refl _) fun _ _ f => f) (Nat.le_refl _) ?_))
    intro w2 hb2 hf2
    rw [splice_front r q (by omega)] at hb2
    have hF2 : Fr F0 wc w2 := Fr.of_below hf2
    have hb2 := hb2.out
    generalize hX : wc.heap.size = X at *
    have c0 : w2.cell? ⟨X, r.length, none⟩ = some (.int .u8 0) := by
      rw [cell_of_row w2 X _ _ _ _ hb2]
      simp [List.getElem?_append_right, List.getElem?_replicate]
      exact ⟨by omega, rfl⟩
    have z0 := free_row (i := r.length) hb2
    have HF2 := Lib.hid hF2
    have HB2 := Lib.hid hb2
    clear ho hg hF2 hf2 hb2
    have hm8 : IntKind.u64.wrap ((m : Int) * 8) = ((8 * m : Nat) : Int) := by rw [IntWalk.u64_in _ (by omega)]; omega
    generalize h8 : 8 * m = M at *
    have H8 := Lib.hid h8
    clear h8
    go_wp2_with fail
    have hst : (w2.setCell ⟨X, r.length, none⟩ (.int .u8 128)).heap[X]? = some (.cells ((filk r m 0).map B8).toArray 5 (0, 0)) := by
      have g := heap_setCell_in w2 X r.length _ _ _ (.int .u8 ((128 : UInt8).toNat : Int)) HB2.out
      rw [rowB_set, filk_zero r m q HQ.out hr] at g
      exact g
    have HST := Lib.hid hst
    clear hst c0 z0
    go_loopw [25] (fun i wr => ∃ k : Nat, k ≤ 8 ∧ i = .int .i64 k ∧ wr.heap[X]? = some (.cells ((filk r m k).map B8).toArray 5 (0, 0)) ∧ Fr F0 wc wr) (fun i _ => 8 - (intOf i).toNat)
    case atStart => exact ⟨0, by omega, rfl, HST.out, HF2.out.setCell (p := ⟨X, _, none⟩) (fun h => by simp only at h; omega) _⟩
    case round =>
      obtain ⟨k, hk, rfl, h2, hf⟩ := hrel
      by_cases hk8 : k < 8
      · have hL := filk_length r m k hr (by omega)
        rw [← HQ.out] at hL
        obtain ⟨p1, hp1⟩ : ∃ p, p = q - 1 := ⟨_, rfl⟩
        obtain ⟨p, hp⟩ : ∃ p, p = p1 - k := ⟨_, rfl⟩
        obtain ⟨s, hs⟩ : ∃ s, s = 8 * k := ⟨_, rfl⟩
        have m1 : IntKind.i64.wrap ((q : Int) - 1) = (p1 : Int) := by rw [IntWalk.i64_in _ (by omega)]; omega
        have m2 : IntKind.i64.wrap ((p1 : Int) - k) = (p : Int) := by rw [IntWalk.i64_in _ (by omega)]; omega
        have m3 : IntKind.i64.wrap (8 * (k : Int)) = (s : Int) := by rw [IntWalk.i64_in _ (by omega)]; omega
        have l1 : (p : Int) < q := by omega
        have l2 : (s : Int) < 64 := by omega
        have c0 : ∃ v, wr.cell? ⟨X, p, none⟩ = some v := by
          rw [cell_of_row wr X _ _ _ _ h2]
          exact ⟨_, Array.getElem?_eq_getElem (by simp [hL]; omega)⟩
        obtain ⟨v0, c0⟩ := c0
        have z0 := free_row (i := p) h2
        have HH := Lib.hid (And.intro h2 hf)
        have HP := Lib.hid (And.intro hp1 (And.intro hp hs))
        clear h2 hf hp hp1 hs hL
        go_wp2
        go_roundw
        case rel =>
          obtain ⟨h2, hf⟩ := HH.out
          obtain ⟨hp1, hp, hs⟩ := HP.out
          have hv : (M : Int) / 2 ^ s % 256 = (((UInt8.ofNat (M / 2 ^ s)).toNat : Nat) : Int) := by
            show _ = ((M / 2 ^ s % 256 : Nat) : Int)
            rw [Int.natCast_emod, Int.natCast_ediv, Int.natCast_pow]
            rfl
          refine ⟨k + 1, by omega, by go_num, ?_, hf.setCell (p := ⟨X, _, none⟩) (fun h => by simp only at h; omega) _⟩
          rw [hv]
          have g := heap_setCell_in wr X p _ _ _ (.int .u8 ((UInt8.ofNat (M / 2 ^ s)).toNat : Int)) h2
          have e : p = fsize r.length - 1 - k := by rw [hp, hp1, HQ.out]
          rw [rowB_set, ← H8.out, hs, e, filk_succ r m k hr hk8] at g
          rw [← H8.out, hs, e]
          exact g
        case measure => simp [intOf]; omega
      · obtain rfl : k = 8 := by omega
        go_wp2
        go_ret
        refine ⟨X, rfl, ?_, hf, by omega⟩
        rw [filk_all] at h2
        have g := Bs.of_row h2 (by rw [fil_length _ _ hr, ← HQ.out]; unfold maxLen; omega)
        rw [fil_length _ _ hr, ← HQ.out] at g
        exact g
end Go.Proofs.YtkppakhjfagdnaaDoor
