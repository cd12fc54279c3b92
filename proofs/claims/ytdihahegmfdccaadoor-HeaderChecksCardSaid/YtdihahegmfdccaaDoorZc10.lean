import Derived.Test.YtdihahegmfdccaaDoorZc9
import Derived.Test.YtdihahegmfdccaaDoorZc2
import Derived.OwnWalk
import Derived.Deep.CutBlock
import Derived.Deep.DeepCutAuto
import Derived.Laws.CopyOwn
import Derived.Deep.RegionHeld3
import Derived.OrdersHeld
import Derived.Laws.BitsAllLaws
import Derived.ArgAppend
import Derived.Laws.ResultCell
import Derived.RangeFuncNested
import Derived.RangeFuncBound
import Derived.RangeFuncCalls
import Derived.RangeFuncLeaves
import Derived.Shelf.Abstract
import Derived.Shelf.RegionOpen
import Derived.OwnWalkIn
import Derived.TacticsInMore
import Derived.LoopNIn
import Derived.LoopIn
import Derived.RangeFuncBox
import Derived.OrdersIn
import Derived.RegionIn
import Derived.BigRegionIn
import Derived.ProofKit
import Derived.LaidMore
import Derived.OpenShut
import Derived.Stop.Joined
import Derived.MakeChecks
import Derived.FnData
/- Stage 2, digest: the last blocks, filled. -/
namespace Go.Proofs.YtdihahegmfdccaaDoor
set_option linter.unusedVariables false
set_option linter.unusedSimpArgs false
open Go.RowKit

theorem rowB_set (L : List UInt8) (p : Nat) (v : UInt8) : ((L.map B8).toArray.setIfInBounds p (.int .u8 (v.toNat : Int))) = ((L.set p v).map B8).toArray := by
  apply Array.ext'
  simp only [Array.toList_setIfInBounds]
  rw [List.map_set]
  rfl

/-- What lies there when k of the last eight bytes are written. -/
def filk (r : List UInt8) (n k : Nat) : List UInt8 := r ++ [128] ++ List.replicate (fsize r.length - 9 - r.length) 0 ++ (List.replicate (8 - k) 0 ++ (be8 (8 * n)).drop (8 - k))

theorem filk_all (r : List UInt8) (n : Nat) : filk r n 8 = fil r n := by simp [filk, fil]

theorem filk_length (r : List UInt8) (n k : Nat) (h : r.length < 64) (hk : k ≤ 8) : (filk r n k).length = fsize r.length := by
  simp [filk, be8_length, fsize]
  split <;> omega

theorem filk_zero (r : List UInt8) (n q : Nat) (hq : q = fsize r.length) (h : r.length < 64) : (r ++ List.replicate (q - r.length) 0).set r.length 128 = filk r n 0 := by
  have h8 : q - r.length = (q - 9 - r.length) + 8 + 1 := by rw [hq]; unfold fsize; split <;> omega
  rw [h8, List.replicate_succ, List.set_append_right _ _ (Nat.le_refl _), Nat.sub_self, List.set_cons_zero, filk, ← hq]
  rw [List.drop_eq_nil_of_le (by rw [be8_length]; omega), List.append_nil]
  simp only [Nat.sub_zero, List.append_assoc, List.replicate_append_replicate, List.cons_append, List.nil_append]

theorem be8_get (x i : Nat) (h : i < 8) : (be8 x)[7 - i]? = some (UInt8.ofNat (x / 2 ^ (8 * i))) := by
  simp [be8, List.getElem?_map, List.getElem?_range (show 7 - i < 8 by omega)]
  congr 3
  omega

theorem filk_succ (r : List UInt8) (n k : Nat) (h : r.length < 64) (hk : k < 8) : (filk r n k).set (fsize r.length - 1 - k) (UInt8.ofNat (8 * n / 2 ^ (8 * k))) = filk r n (k + 1) := by
  have hA : (r ++ [128] ++ List.replicate (fsize r.length - 9 - r.length) (0 : UInt8)).length = fsize r.length - 8 := by
    simp [fsize]
    split <;> omega
  have h8 : fsize r.length ≥ 64 := by unfold fsize; split <;> omega
  unfold filk
  generalize r ++ [128] ++ List.replicate (fsize r.length - 9 - r.length) (0 : UInt8) = A at *
  have e1 : 8 - k = (7 - k) + 1 := by omega
  have e2 : 8 - (k + 1) = 7 - k := by omega
  have hd : (be8 (8 * n)).drop (7 - k) = UInt8.ofNat (8 * n / 2 ^ (8 * k)) :: (be8 (8 * n)).drop (8 - k) := by
    have hg := be8_get (8 * n) k hk
    obtain ⟨hlt, hg⟩ := List.getElem?_eq_some_iff.1 hg
    rw [List.drop_eq_getElem_cons hlt, hg, e1]
  rw [e2, hd, e1, List.replicate_succ', List.set_append_right _ _ (by omega), hA]
  congr 1
  rw [List.append_assoc, List.set_append_right _ _ (by simp; omega)]
  congr 1
  simp only [List.length_replicate, List.cons_append, List.nil_append]
  rw [show fsize r.length - 1 - k - (fsize r.length - 8) - (7 - k) = 0 by omega]
  rfl

theorem own_full {w : World} {base e g n : Nat} {xs : List Value} (h : w.ownsRow base e 1 (.slice (some ⟨g, 0, none⟩) n n) n xs) : w.heap[g]? = some (.cells xs.toArray e (0, 0)) := by
  rcases h.2 with ⟨h, _⟩ | ⟨g', cap, cur, h, _, hg, hn, hm, hs, ht⟩
  · cases h
  · cases h
    rw [hg, ← ht]
    congr 2
    apply Array.ext'
    simp [hs, List.take_of_length_le]

/-- Cells that are bytes, read as a slice. -/
theorem Bs.of_row {w : World} {g : Nat} {t : TypeId} {L : List UInt8} (h : w.heap[g]? = some (.cells (L.map B8).toArray t (0, 0))) (hm : L.length ≤ maxLen) : Bs w (some ⟨g, 0, none⟩) L.length L :=
  ⟨by simp, Nat.le_refl _, hm, (fun e => by cases e), fun j u hj => ⟨g, 0, rfl, by rw [Nat.zero_add, cell_of_row w g j _ t _ h]; simpa using hj⟩⟩

theorem splice_front (r : List UInt8) (q : Nat) (h : r.length ≤ q) : splice (madeCells #[Value.int IntKind.u8 0] q).toList 0 (r.map B8) = (r ++ List.replicate (q - r.length) 0).map B8 := by
  have e : (madeCells #[Value.int IntKind.u8 0] q).toList = List.replicate q (B8 0) := by
    apply List.ext_getElem
    · simp [madeCells]
    · intro i h1 h2
      simp [madeCells, Nat.mod_one]
      rfl
  rw [e]
  simp [splice]

theorem Bs.src {w : World} {a : Option Addr} {c : Nat} {r : List UInt8} (h : Bs w a c r) (hn : 0 < (r.map B8).length) : ∃ ad, a = some ad ∧ ∀ j v, (r.map B8)[j]? = some v → w.cell? (ad.add j) = some v := by
  cases a with
  | none =>
    have h0 := h.nil rfl
    have := h.room
    simp at hn
    omega
  | some ad => exact ⟨ad, rfl, h.addr⟩

set_option maxRecDepth 100000 in
set_option maxHeartbeats 8000000 in
theorem filled_any (a : Option Addr) (n c : Nat) (r : List UInt8) (hn : n = r.length) (hr : r.length < 64) (m : Nat) (hm : m ≤ 140737488355328) (w : World) (h : Bs w a c r) :
    Calls Tryd.prog 70 #[.slice a n c, .int .u64 (m : Int)] w fun e w' => ∃ b, e = .returned (.slice (some ⟨b, 0, none⟩) (fsize r.length) (fsize r.length)) ∧ Bs w' (some ⟨b, 0, none⟩) (fsize r.length) (fil r m) ∧ Fr F0 w w' ∧ w.heap.size ≤ b := by
  subst hn
  obtain ⟨i0, hi, hz0, hz1, hz2⟩ := info_parts Tryd.infoU8
  obtain ⟨q, hq⟩ : ∃ q, q = fsize r.length := ⟨_, rfl⟩
  have hq2 : q = if 56 ≤ r.length then 128 else 64 := hq
  have hqs : q = 64 ∨ q = 128 := by rw [hq2]; split <;> omega
  rw [← hq]
  have HQ := Lib.hid hq
  have HB := Lib.hid h
  go_enter Tryd.func70, Tryd.ntmps70
  go_upto_if 12 with fail
  go_cut [5] (fun v w' => v = .int .i64 (q : Int) ∧ w' = w)
  case first =>
    by_cases h56 : 56 ≤ r.length
    · have hq8 : q = 128 := by rw [hq2, if_pos h56]
      have h57 : (56 : Int) ≤ (r.length : Int) := by omega
      subst hq8
      go_wp2_with fail
      go_meet
      case rel => exact ⟨rfl, rfl⟩
    · have hq8 : q = 64 := by rw [hq2, if_neg h56]
      have h57 : ¬ (56 : Int) ≤ (r.length : Int) := by omega
      subst hq8
      go_wp2_with fail
      go_meet
      case rel => exact ⟨rfl, rfl⟩
  case rest =>
    obtain ⟨rfl, rfl⟩ := hcut
    have hlq : (q : Int) < 129 := by omega
    have hgq : (63 : Int) < q := by omega
    clear hq hq2
    have hrl : (r.length : Int) < q := by omega
    have hmin : r.length.min q = r.length := Nat.min_eq_left (by omega)
    go_wp2_with (first | (at_make; refine wpList_make_full wc rfl _ _ _ rfl 0 5 i0 _ 1 Tryd.underlying28 hi hz0 hz1 .i64 .i64 q q q rfl rfl rfl rfl (by rw [hz2]; omega) (by unfold maxLen; omega) (Nat.zero_le _) ?_; intro w1 ho hg) | (refine wpList_copy_splice rfl (.tmp 17) (.tmp 18) 28 28 rfl 5 Tryd.underlying28 (by rw [hi]; simp [hz1]) _ _ _ _ _ _ rfl rfl wc.heap.size 0 _ 5 (own_full ho) (r.map B8) (by simp [hmin]) (fun hp => ⟨rfl, Bs.src (Sl.fr HB.out ((Fr.refl F0 wc).grown hg (fun k e => by cases e)) fun _ _ f => f) hp⟩) (by simp [madeCells]; omega) Bs.one wc.heap.size wc (((Fr.refl F0 wc).grown hg (fun k e => by cases e)).below (Nat.le_refl _) fun _ _ f => f) (Nat.le_refl _) ?_))
    intro w2 hb2 hf2
    rw [splice_front r q (by omega)] at hb2
    have hF2 : Fr F0 wc w2 := Fr.of_below hf2
    have hb2 := hb2.out
    generalize hX : wc.heap.size = X at *
    have c0 : w2.cell? ⟨X, r.length, none⟩ = some (.int .u8 0) := by
      rw [cell_of_row w2 X _ _ _ _ hb2]
      simp [List.getElem?_append_right, List.getElem?_replicate]
      exact ⟨by omega, rfl⟩
    have z0 := free_row (i := r.length) hb2
    have HF2 := Lib.hid hF2
    have HB2 := Lib.hid hb2
    clear ho hg hF2 hf2 hb2
    have hm8 : IntKind.u64.wrap ((m : Int) * 8) = ((8 * m : Nat) : Int) := by rw [IntWalk.u64_in _ (by omega)]; omega
    generalize h8 : 8 * m = M at *
    have H8 := Lib.hid h8
    clear h8
    go_wp2_with fail
    have hst : (w2.setCell ⟨X, r.length, none⟩ (.int .u8 128)).heap[X]? = some (.cells ((filk r m 0).map B8).toArray 5 (0, 0)) := by
      have g := heap_setCell_in w2 X r.length _ _ _ (.int .u8 ((128 : UInt8).toNat : Int)) HB2.out
      rw [rowB_set, filk_zero r m q HQ.out hr] at g
      exact g
    have HST := Lib.hid hst
    clear hst c0 z0
    go_loopw [25] (fun i wr => ∃ k : Nat, k ≤ 8 ∧ i = .int .i64 k ∧ wr.heap[X]? = some (.cells ((filk r m k).map B8).toArray 5 (0, 0)) ∧ Fr F0 wc wr) (fun i _ => 8 - (intOf i).toNat)
    case atStart => exact ⟨0, by omega, rfl, HST.out, HF2.out.setCell (p := ⟨X, _, none⟩) (fun h => by simp only at h; omega) _⟩
    case round =>
      obtain ⟨k, hk, rfl, h2, hf⟩ := hrel
      by_cases hk8 : k < 8
      · have hL := filk_length r m k hr (by omega)
        rw [← HQ.out] at hL
        obtain ⟨p1, hp1⟩ : ∃ p, p = q - 1 := ⟨_, rfl⟩
        obtain ⟨p, hp⟩ : ∃ p, p = p1 - k := ⟨_, rfl⟩
        obtain ⟨s, hs⟩ : ∃ s, s = 8 * k := ⟨_, rfl⟩
        have m1 : IntKind.i64.wrap ((q : Int) - 1) = (p1 : Int) := by rw [IntWalk.i64_in _ (by omega)]; omega
        have m2 : IntKind.i64.wrap ((p1 : Int) - k) = (p : Int) := by rw [IntWalk.i64_in _ (by omega)]; omega
        have m3 : IntKind.i64.wrap (8 * (k : Int)) = (s : Int) := by rw [IntWalk.i64_in _ (by omega)]; omega
        have l1 : (p : Int) < q := by omega
        have l2 : (s : Int) < 64 := by omega
        have c0 : ∃ v, wr.cell? ⟨X, p, none⟩ = some v := by
          rw [cell_of_row wr X _ _ _ _ h2]
          exact ⟨_, Array.getElem?_eq_getElem (by simp [hL]; omega)⟩
        obtain ⟨v0, c0⟩ := c0
        have z0 := free_row (i := p) h2
        have HH := Lib.hid (And.intro h2 hf)
        have HP := Lib.hid (And.intro hp1 (And.intro hp hs))
        clear h2 hf hp hp1 hs hL
        go_wp2
        go_roundw
        case rel =>
          obtain ⟨h2, hf⟩ := HH.out
          obtain ⟨hp1, hp, hs⟩ := HP.out
          have hv : (M : Int) / 2 ^ s % 256 = (((UInt8.ofNat (M / 2 ^ s)).toNat : Nat) : Int) := by
            show _ = ((M / 2 ^ s % 256 : Nat) : Int)
            rw [Int.natCast_emod, Int.natCast_ediv, Int.natCast_pow]
            rfl
          refine ⟨k + 1, by omega, by go_num, ?_, hf.setCell (p := ⟨X, _, none⟩) (fun h => by simp only at h; omega) _⟩
          rw [hv]
          have g := heap_setCell_in wr X p _ _ _ (.int .u8 ((UInt8.ofNat (M / 2 ^ s)).toNat : Int)) h2
          have e : p = fsize r.length - 1 - k := by rw [hp, hp1, HQ.out]
          rw [rowB_set, ← H8.out, hs, e, filk_succ r m k hr hk8] at g
          rw [← H8.out, hs, e]
          exact g
        case measure => simp [intOf]; omega
      · obtain rfl : k = 8 := by omega
        go_wp2
        go_ret
        refine ⟨X, rfl, ?_, hf, by omega⟩
        rw [filk_all] at h2
        have g := Bs.of_row h2 (by rw [fil_length _ _ hr, ← HQ.out]; unfold maxLen; omega)
        rw [fil_length _ _ hr, ← HQ.out] at g
        exact g
end Go.Proofs.YtdihahegmfdccaaDoor

/- The document's answer 02 (digest): the walk of Double. -/
namespace Go.Proofs.YtdihahegmfdccaaDoor
set_option linter.unusedVariables false
set_option linter.unusedSimpArgs false
open Go.RowKit

set_option maxHeartbeats 4000000 in
theorem r2Double_any (a : Option Addr) (n c : Nat) (bs : List UInt8) (hn : n = bs.length) (hl : bs.length ≤ 1000000) (w : World) (h : Bs w a c bs) :
    Calls Tryd.prog 12 #[.slice a n c] w fun e w' => e = .returned (.agg ((sha2 bs).map B8).toArray) ∧ Fr F0 w w' := by
  subst hn
  have hz1 : ((sha bs).map B8).toArray.size = 32 := by simp [sha_length]
  have hz2 : ((sha2 bs).map B8).toArray.size = 32 := by simp [sha2, sha_length]
  have HB := Lib.hid h
  clear h
  go_enter Tryd.func12, Tryd.ntmps12
  go_wp2_with fail
  refine (r2Sum_any a _ c bs rfl hl _ (Sl.fr HB.out ((Fr.refl F0 w).alloc _) fun _ _ f => f)).mono ?_
  rintro e w1 ⟨rfl, h1⟩
  have h1s := h1.size
  simp only [World.size_alloc] at h1s
  go_wp2_with (refine wpList_store_row rfl 23 (.tmp 3) (.tmp 5) rfl w1.heap.size _ rfl rfl 23 _ (heap_alloc_new w1 _) (by rw [Tryd.sz32w, hz1]) (by rw [hz1]; rfl) (oneB_map _) ?_)
  generalize hY : w1.heap.size = Y at *
  have hF2 : Fr F0 w ((w1.alloc (.cells #[.int .u8 0, .int .u8 0, .int .u8 0, .int .u8 0, .int .u8 0, .int .u8 0, .int .u8 0, .int .u8 0, .int .u8 0, .int .u8 0, .int .u8 0, .int .u8 0, .int .u8 0, .int .u8 0, .int .u8 0, .int .u8 0, .int .u8 0, .int .u8 0, .int .u8 0, .int .u8 0, .int .u8 0, .int .u8 0, .int .u8 0, .int .u8 0, .int .u8 0, .int .u8 0, .int .u8 0, .int .u8 0, .int .u8 0, .int .u8 0, .int .u8 0, .int .u8 0] 23)).setRow Y ((sha bs).map B8).toArray) := ((((Fr.refl F0 w).alloc _).trans' h1).alloc _).setRow (fun h => by omega) _
  have hY2 := setRow_heap _ _ _ ((sha bs).map B8).toArray _ _ (show (w1.alloc (.cells #[.int .u8 0, .int .u8 0, .int .u8 0, .int .u8 0, .int .u8 0, .int .u8 0, .int .u8 0, .int .u8 0, .int .u8 0, .int .u8 0, .int .u8 0, .int .u8 0, .int .u8 0, .int .u8 0, .int .u8 0, .int .u8 0, .int .u8 0, .int .u8 0, .int .u8 0, .int .u8 0, .int .u8 0, .int .u8 0, .int .u8 0, .int .u8 0, .int .u8 0, .int .u8 0, .int .u8 0, .int .u8 0, .int .u8 0, .int .u8 0, .int .u8 0, .int .u8 0] 23)).heap[Y]? = some (.cells _ 23 (0, 0)) by rw [← hY]; exact heap_alloc_new w1 _)
  have hR : ∃ cs, ((w1.alloc (.cells #[.int .u8 0, .int .u8 0, .int .u8 0, .int .u8 0, .int .u8 0, .int .u8 0, .int .u8 0, .int .u8 0, .int .u8 0, .int .u8 0, .int .u8 0, .int .u8 0, .int .u8 0, .int .u8 0, .int .u8 0, .int .u8 0, .int .u8 0, .int .u8 0, .int .u8 0, .int .u8 0, .int .u8 0, .int .u8 0, .int .u8 0, .int .u8 0, .int .u8 0, .int .u8 0, .int .u8 0, .int .u8 0, .int .u8 0, .int .u8 0, .int .u8 0, .int .u8 0] 23)).setRow Y ((sha bs).map B8).toArray).heap[w.heap.size]? = some (.cells cs 23 (0, 0)) ∧ cs.size = 32 := ⟨_, by rw [setRow_other _ _ _ _ (by omega), heap_alloc_old _ _ (by omega)]; exact h1.keeps (fun f => f) (heap_alloc_new w _), rfl⟩
  generalize (w1.alloc (.cells #[.int .u8 0, .int .u8 0, .int .u8 0, .int .u8 0, .int .u8 0, .int .u8 0, .int .u8 0, .int .u8 0, .int .u8 0, .int .u8 0, .int .u8 0, .int .u8 0, .int .u8 0, .int .u8 0, .int .u8 0, .int .u8 0, .int .u8 0, .int .u8 0, .int .u8 0, .int .u8 0, .int .u8 0, .int .u8 0, .int .u8 0, .int .u8 0, .int .u8 0, .int .u8 0, .int .u8 0, .int .u8 0, .int .u8 0, .int .u8 0, .int .u8 0, .int .u8 0] 23)).setRow Y ((sha bs).map B8).toArray = w2 at *
  obtain ⟨cs, hR, hRz⟩ := hR
  have hx := Bs.of_row hY2 (by rw [sha_length]; unfold maxLen; omega)
  rw [sha_length] at hx
  refine (r2Sum_any _ 32 32 (sha bs) (sha_length _).symm (by rw [sha_length]; omega) _ hx).mono ?_
  rintro e w3 ⟨rfl, h3⟩
  go_wp2_with (refine wpList_store_row rfl 23 (.tmp 2) (.tmp 7) rfl w.heap.size _ rfl rfl 23 _ (h3.keeps (fun f => f) hR) (by rw [Tryd.sz32w]; exact congrArg some hz2.symm) (by rw [hRz]; exact hz2.symm) (oneB_map _) ?_)
  refine bodyPost_ret (results_cell_row rfl _ _ w.heap.size _ _ _ _ rfl (setRow_heap _ _ _ _ _ _ (h3.keeps (fun f => f) hR)) Tryd.underlying23 rfl (by rw [Tryd.sz32w]; exact congrArg some hz2.symm)) rfl ⟨rfl, ?_⟩
  exact (hF2.trans' h3).setRow (fun h => by omega) _
end Go.Proofs.YtdihahegmfdccaaDoor

/- Hashes as texts, as Lean says it; the document's answer 02: Text. -/
namespace Go.Proofs.YtdihahegmfdccaaDoor
set_option linter.unusedVariables false
set_option linter.unusedSimpArgs false
open Go.RowKit

attribute [local go_sem] strOf_size strOf_append

def signsL : List UInt8 := [48, 49, 50, 51, 52, 53, 54, 55, 56, 57, 97, 98, 99, 100, 101, 102]
def hexd (n : Nat) : UInt8 := signsL.getD n 0
def hexT (l : List UInt8) : List UInt8 := l.flatMap fun c => [hexd (c.toNat / 16), hexd (c.toNat % 16)]
/-- A hash as a text. -/
def textL (h : List UInt8) : List UInt8 := hexT h.reverse

theorem hexT_snoc (l : List UInt8) (c : UInt8) : hexT (l ++ [c]) = hexT l ++ [hexd (c.toNat / 16)] ++ [hexd (c.toNat % 16)] := by simp [hexT]
theorem hexT_length (l : List UInt8) : (hexT l).length = 2 * l.length := by
  induction l with
  | nil => rfl
  | cons x l ih => simp only [hexT, List.flatMap_cons, List.length_append, List.length_cons, List.length_nil] at *; omega

theorem signs_ext : ∀ q, q < 16 → (ByteArray.mk #[48, 49, 50, 51, 52, 53, 54, 55, 56, 57, 97, 98, 99, 100, 101, 102]).extract q (q + 1) = strOf [hexd q] := by decide +kernel

theorem take_rev (h : List UInt8) (k : Nat) (hk : k < h.length) : h.reverse.take (k + 1) = h.reverse.take k ++ [h.getD (h.length - 1 - k) 0] := by
  rw [List.take_succ_eq_append_getElem (by simpa using hk)]
  simp [List.getElem_reverse, List.getD, List.getElem?_eq_getElem (show h.length - 1 - k < h.length by omega)]

theorem rowB_get {w : World} {g : Nat} {t : TypeId} {fr : Nat × Nat} {h : List UInt8} (hg : w.heap[g]? = some (.cells (h.map B8).toArray t fr)) (j : Nat) (hj : j < h.length) : w.cell? ⟨g, j, none⟩ = some (.int .u8 ((h.getD j 0).toNat : Int)) := by
  rw [cell_of_row w g j _ t fr hg]
  simp [List.getD, List.getElem?_eq_getElem hj, B8]


end Go.Proofs.YtdihahegmfdccaaDoor

/- Stage 2, digest: Zero. -/
namespace Go.Proofs.YtdihahegmfdccaaDoor
set_option linter.unusedVariables false
set_option linter.unusedSimpArgs false
open Go.RowKit

theorem wpList_build_no {P : Program} {w : World} {ops : Array Oper} {rest : List Oper} {o : Oper} {a : Act} {Q : Exit → Act → World → Prop} (hg : o.guard = none) (t : TypeId) (ho : o.op = .build t #[]) (cells : Array Value)
    (hb : P.built t [] = some cells) (h : wpList P ops Q rest (a.put o.dst (.agg cells)) w) : wpList P ops Q (o :: rest) a w := by
  refine wpList_build hg t #[] ho (by simp [hb]) ?_
  simpa [hb] using h

theorem Tryd.builtH : Tryd.prog.built 24 [] = some ((List.replicate 32 (0 : UInt8)).map B8).toArray := by kernel_rfl

theorem eql_hashes (w : World) (l m : List UInt8) (h : l.length = 32) (h' : m.length = 32) : (binOp .eql 24 (.agg (l.map B8).toArray) (.agg (m.map B8).toArray)).run Tryd.prog w = .ok (.bool (decide (l = m))) w := by
  obtain ⟨i0, hi, _⟩ := info_parts Tryd.infoU8
  exact run_eql_bytes w 24 5 32 i0 Tryd.underlying24 hi (by kernel_rfl) (by kernel_rfl) Tryd.underlying5 l m h h'


end Go.Proofs.YtdihahegmfdccaaDoor

/- Stage 2, digest: Text. -/
namespace Go.Proofs.YtdihahegmfdccaaDoor
set_option linter.unusedVariables false
set_option linter.unusedSimpArgs false
open Go.RowKit Go.Shelf

attribute [local go_sem] Oper.semAt_some

theorem signs_nat : ∀ q, (hq : q < 16) → ({ data := #[48, 49, 50, 51, 52, 53, 54, 55, 56, 57, 97, 98, 99, 100, 101, 102] } : ByteArray)[q]'hq = hexd q := by decide +kernel

theorem wpIn_of_worldB {F : Fence} {n : Nat} {P : Program} {c : Code} {Q : Exit → Act → World → Prop} {a : Act} {w : World} (W : World) (h : W = w) (k : Code.wpIn F n P c Q a W) : Code.wpIn F n P c Q a w := h ▸ k
theorem heap4B (w : World) (A B C D : Obj) : let W := (((w.alloc A).alloc B).alloc C).alloc D
    W.heap[w.heap.size]? = some A ∧ W.heap[w.heap.size + 1]? = some B ∧ W.heap[w.heap.size + 1 + 1]? = some C ∧ W.heap[w.heap.size + 1 + 1 + 1]? = some D := by
  have o := fun (w : World) (o : Obj) (k : Nat) (hk : k < w.heap.size) => (show (w.alloc o).heap[k]? = w.heap[k]? by first | exact heap_alloc_old w o k hk | exact heap_alloc_old w o hk)
  intro W
  have s1 : (w.alloc A).heap.size = w.heap.size + 1 := World.size_alloc _ _
  have s2 : ((w.alloc A).alloc B).heap.size = w.heap.size + 1 + 1 := by rw [World.size_alloc, s1]
  have s3 : (((w.alloc A).alloc B).alloc C).heap.size = w.heap.size + 1 + 1 + 1 := by rw [World.size_alloc, s2]
  refine ⟨?_, ?_, ?_, ?_⟩
  · exact (o (((w.alloc A).alloc B).alloc C) D _ (by omega)).trans ((o ((w.alloc A).alloc B) C _ (by omega)).trans ((o (w.alloc A) B _ (by omega)).trans (heap_alloc_new w A)))
  · exact (o (((w.alloc A).alloc B).alloc C) D _ (by omega)).trans ((o ((w.alloc A).alloc B) C _ (by omega)).trans (by rw [← s1]; exact heap_alloc_new _ B))
  · exact (o (((w.alloc A).alloc B).alloc C) D _ (by omega)).trans (by rw [← s2]; exact heap_alloc_new _ C)
  · rw [← s3]; exact heap_alloc_new _ D
theorem run_make_text (w : World) :
    (Instr.makeSlice 28 (.int .i64 0) (.int .i64 64)).run Tryd.prog w = .ok (.slice (some ⟨w.heap.size, 0, none⟩) 0 64) (w.alloc (.cells (arrB [] 64) 5)) := by
  obtain ⟨i0, hi, hz0, hz1, hz2⟩ := info_parts Tryd.infoU8
  have := run_make (P := Tryd.prog) w 28 5 i0 (.int .u8 0) Tryd.underlying28 hi hz0 .i64 .i64 0 64 (by omega) (by omega) (by rw [hz2]; omega) (by omega)
  rw [hz1] at this
  have e : madeCells (Value.int IntKind.u8 0).cells (Int.toNat 64 * 1) = arrB [] 64 := by kernel_rfl
  rw [e] at this
  exact this

theorem Fr.keepsFromB {W W' : World} (h : Fr F0 W W') (B : Nat) : KeepsFrom B W W' := ⟨h.size, fun k o _ hk _ => h.keeps (fun f => f) hk⟩

theorem append2 {V : World} {T N : Nat} {tx : List UInt8} {a b : UInt8} (hT : V.heap[T]? = some (.cells (arrB tx 64) 5 (0, 0))) (hl : tx.length + 2 ≤ 64) (hN : V.heap[N]? = some (.cells #[.int .u8 (a.toNat : Int), .int .u8 (b.toNat : Int)] 5 (0, 0))) :
    (Builtin.append_ #[28, 28] 28 #[.slice (some ⟨T, 0, none⟩) tx.length 64, .slice (some ⟨N, 0, none⟩) 2 2]).run Tryd.prog V =
      .ok (.slice (some ⟨T, 0, none⟩) (tx.length + 2) 64) ((V.setCell ⟨T, tx.length, none⟩ (.int .u8 (a.toNat : Int))).setCell ⟨T, tx.length + 1, none⟩ (.int .u8 (b.toNat : Int))) := by
  obtain ⟨i0, hi, hz0, hz1, hz2⟩ := info_parts Tryd.infoU8
  have h := run_append_room_cells (P := Tryd.prog) (w := V) 28 28 5 i0 Tryd.underlying28 hi T 0 tx.length 64 ⟨N, 0, none⟩ 2 2 [.int .u8 (a.toNat : Int), .int .u8 (b.toNat : Int)] (by rw [hz1]; rfl)
    (fun j u hj => by
      rw [Addr.add_lit, Nat.zero_add, cell_of_row V N j _ _ _ hN]
      match j, hj with
      | 0, hj => simpa using hj
      | 1, hj => simpa using hj)
    (by intro u hu; simp at hu; rcases hu with rfl | rfl <;> rfl) hl
    (fun j hj => by
      rw [hz1, Nat.zero_add, Nat.mul_one, cell_of_row V T _ _ _ _ hT, arrB_get0 _ _ _ (by omega) (by simp at hj; omega)]; rfl)
    (fun j hj => free_row hT)
  rw [hz1, Nat.zero_add, Nat.mul_one] at h
  exact h

theorem row2 {V : World} {T : Nat} {tx : List UInt8} {a b : UInt8} (hT : V.heap[T]? = some (.cells (arrB tx 64) 5 (0, 0))) (hl : tx.length + 2 ≤ 64) :
    ((V.setCell ⟨T, tx.length, none⟩ (.int .u8 (a.toNat : Int))).setCell ⟨T, tx.length + 1, none⟩ (.int .u8 (b.toNat : Int))).heap[T]? = some (.cells (arrB (tx ++ [a] ++ [b]) 64) 5 (0, 0)) := by
  have h1 := heap_setCell_in V T tx.length _ _ _ (.int .u8 (a.toNat : Int)) hT
  rw [arrB_set _ _ _ _ rfl (by omega)] at h1
  have h2 := heap_setCell_in _ T (tx.length + 1) _ _ _ (.int .u8 (b.toNat : Int)) h1
  rwa [arrB_set _ _ _ _ (by simp) (by simp; omega)] at h2

set_option maxRecDepth 100000 in
set_option maxHeartbeats 8000000 in
theorem dText_any (h : List UInt8) (hh : h.length = 32) (w : World) :
    Calls Tryd.prog 21 #[.agg (h.map B8).toArray] w fun e w' => e = .returned (.string (strOf (textL h))) ∧ Fr F0 w w' := by
  have hz : (h.map B8).toArray.size = 32 := by simp [hh]
  have hmk := run_make_text
  refine callsIn_wide (n := 6) |>.1 ?_
  refine callsIn_of_wp_marks Tryd.func21 rfl trivial ?_ rfl
  simp only [Tryd.ntmps21, List.size_toArray, List.length_cons, List.length_nil, Nat.reduceAdd, Nat.reduceSub, Array.replicate_succ, Array.replicate_zero, List.push_toArray, List.append_toArray, List.nil_append, List.cons_append]
  gi_wp2_with (refine ⟨trivial, ?_⟩; gi_at_call 42; refine (Backward_in _ _ trivial rfl _ _ _ _).mono ?_; rintro e w4 ⟨rfl, rfl⟩)
  obtain ⟨W1, hW1⟩ : ∃ W1, W1 = (((w.alloc (.cells (h.map B8).toArray 24)).alloc (.cells (arrB [] 64) 5)).alloc (.cells #[.slice (some ⟨w.heap.size + 1, 0, none⟩) 0 64] 28)).alloc (.cells #[.slice (some ⟨w.heap.size, 0, none⟩) 32 32] 28) := ⟨_, rfl⟩
  refine wpIn_of_worldB W1 hW1 ?_
  have f1 : Fr F0 w W1 := by rw [hW1]; exact ((((Fr.refl F0 w).alloc _).alloc _).alloc _).alloc _
  obtain ⟨r0, r1, r2, r3⟩ := heap4B w (.cells (h.map B8).toArray 24) (.cells (arrB [] 64) 5) (.cells #[.slice (some ⟨w.heap.size + 1, 0, none⟩) 0 64] 28) (.cells #[.slice (some ⟨w.heap.size, 0, none⟩) 32 32] 28)
  rw [← hW1] at r0 r1 r2 r3
  have hs1 : W1.heap.size = w.heap.size + 1 + 1 + 1 + 1 := by rw [hW1]; simp
  clear hW1 hmk
  generalize hY : w.heap.size = Y at *
  generalize hT : Y + 1 = T at *
  generalize hG : T + 1 = G at *
  generalize hBx : G + 1 = Bx at *
  have HG := Lib.hid (show w.heap.size = Y ∧ Y ≤ W1.heap.size ∧ Y ≤ T ∧ Y ≤ G by omega)
  have m1 : Y ≠ T ∧ Y ≠ G ∧ Bx ≠ T ∧ Bx ≠ G ∧ T ≠ G ∧ G ≠ T := by omega
  obtain ⟨nYT, nYG, nBT, nBG, nTG, nGT⟩ := m1
  clear hY hT hG hBx hs1
  refine range_law rfl (by omega) (gf := 64) (lb := #[.pointer (some ⟨Bx, 0, none⟩)]) rfl trivial (enters_of Tryd.func64 (by kernel_rfl) rfl)
    (BackB1_seq Fence.wide 5 trivial rfl (by omega) h Bx Y 0 32 (by omega)) (fun _ => rfl)
    (fun pre W => (W.heap[Y]? = some (.cells (h.map B8).toArray 24 (0, 0)) ∧ W.heap[T]? = some (.cells (arrB (hexT (pre.map (·.2))) 64) 5 (0, 0)) ∧ W.heap[G]? = some (.cells #[.slice (some ⟨T, 0, none⟩) (hexT (pre.map (·.2))).length 64] 28 (0, 0)) ∧ W.heap[Bx]? = some (.cells #[.slice (some ⟨Y, 0, none⟩) 32 32] 28 (0, 0))) ∧ Below Y W1 W)
    (fun c _ W => False)
    (OwnFrom.and (OwnFrom.and (own_heap _ _ _ _ _) (OwnFrom.and (own_heap _ _ (fun pre : List (Nat × UInt8) => arrB (hexT (pre.map (·.2))) 64) _ _) (OwnFrom.and (own_heap _ _ (fun pre : List (Nat × UInt8) => #[.slice (some ⟨T, 0, none⟩) (hexT (pre.map (·.2))).length 64]) _ _) (own_heap _ _ _ _ _)))) (own_below _ _ _ (Nat.le_refl _) HG.out.2.1))
    (fun c => own_pure _ _)
    ?sees ⟨⟨r0, r1, r2, r3⟩, Below.refl _ _⟩
    (fun x => { tmps := #[.agg (h.map B8).toArray, .pointer (some ⟨Y, 0, none⟩), .string { data := #[] }, .pointer (some ⟨G, 0, none⟩), undef, .int .u8 (x.2.toNat : Int), .slice (some ⟨T, 0, none⟩) 0 64, .slice (some ⟨Y, 0, none⟩) 32 32, .func (.func 64) #[] #[.pointer (some ⟨Bx, 0, none⟩)], .int .i64 (x.1 : Int), .int .u8 (x.2.toNat : Int), undef, undef, undef, undef, undef, undef, undef, undef, undef, undef, undef], defers := [] }) ?assign ?body ?done ?stop
  case sees =>
    rintro pre W ⟨⟨q0, q1, q2, q3⟩, hB⟩
    refine ⟨by rw [cell_of_row W Bx 0 _ _ _ q3, hh]; rfl, fun j hj => ?_⟩
    have := rowB_get q0 j hj
    rw [Nat.zero_add, this]
    simp [List.getD, List.getElem?_eq_getElem hj]
  case assign =>
    intro l x W K hK
    gi_wp2
    exact hK
  case body =>
    rintro l pre x W ⟨⟨q0, q1, q2, q3⟩, hB⟩ ⟨hlen, rfl, hpre⟩
    have hL : (hexT (pre.map (·.2))).length = 2 * pre.length := by rw [hexT_length, List.length_map]
    have hHX : hexT ((pre ++ [bk h pre.length]).map (·.2)) = hexT (pre.map (·.2)) ++ [hexd ((bk h pre.length).2.toNat / 16)] ++ [hexd ((bk h pre.length).2.toNat % 16)] := by rw [List.map_append]; exact hexT_snoc _ _
    generalize bk h pre.length = x at *
    generalize hexT (pre.map (·.2)) = tx at *
    obtain ⟨tx2, htx2⟩ : ∃ t, t = hexT ((pre ++ [x]).map (·.2)) := ⟨_, rfl⟩
    rw [← htx2] at hHX
    have HTX := Lib.hid htx2.symm
    clear htx2

    obtain ⟨k, c⟩ := x
    obtain ⟨q, hq⟩ : ∃ q, q = c.toNat / 16 := ⟨_, rfl⟩
    obtain ⟨r, hr⟩ : ∃ r, r = c.toNat % 16 := ⟨_, rfl⟩
    dsimp only at hHX ⊢
    rw [← hq, ← hr] at hHX
    have hc := c.toNat_lt
    obtain ⟨X, hX⟩ : ∃ X, X = c.toNat := ⟨_, rfl⟩
    rw [← hX] at hq hr hc ⊢
    have hq16 : q < 16 := by omega
    have hr16 : r < 16 := by omega
    have dq : (X : Int) / 16 = (q : Int) := by omega
    have da : bits .and .u8 (X : Int) 15 = (r : Int) := by
      rw [show (15 : Int) = ((15 : Nat) : Int) from rfl, u8_and_nat X 15 hc (by omega), show (15 : Nat) = 2 ^ 4 - 1 from rfl, Nat.and_two_pow_sub_one_eq_mod, hr]
    have lq : (q : Int) < 16 := by omega
    have lr : (r : Int) < 16 := by omega
    have sq := signs_nat q hq16
    have sr := signs_nat r hr16
    have HXX := Lib.hid (And.intro hX (And.intro hq hr))
    have hl2 : tx.length + 2 ≤ 64 := by omega
    clear hL hlen
    have HHX := Lib.hid hHX
    clear hX hq hr hHX hpre
    gi_wp2
    refine region_round (by kernel_rfl) rfl (by kernel_rfl) ?_
    refine wpAnyIn_take (oi := ⟨_, _, _, _, _, _⟩) (i := 1) (v := ?_) rfl rfl (by kernel_rfl) (by kernel_rfl) (by kernel_rfl) (fun _ _ _ h => h) ⟨Or.inl ⟨by rfl, ?_⟩, fun _ => rfl⟩ ?_
    rotate_left
    · intro w; go_simp; (try (with_reducible rfl)); done
    (simp only [Act.put, List.setIfInBounds_toArray]; try dsimp only [List.set_cons_zero, List.set_cons_succ])
    refine wpAnyIn_take (oi := ⟨_, _, _, _, _, _⟩) (i := 2) (v := ?_) rfl rfl (by kernel_rfl) (by kernel_rfl) (by kernel_rfl) (fun _ _ _ h => h) ⟨Or.inl ⟨by rfl, ?_⟩, fun _ => rfl⟩ ?_
    rotate_left
    · intro w; go_simp; (try (with_reducible rfl)); done
    (simp only [Act.put, List.setIfInBounds_toArray]; try dsimp only [List.set_cons_zero, List.set_cons_succ])
    refine wpAnyIn_take (oi := ⟨_, _, _, _, _, _⟩) (i := 3) (v := ?_) rfl rfl (by kernel_rfl) (by kernel_rfl) (by kernel_rfl) (fun _ _ _ h => h) ⟨Or.inl ⟨by rfl, ?_⟩, fun _ => rfl⟩ ?_
    rotate_left
    · intro w; go_simp; (try (with_reducible rfl)); done
    (simp only [Act.put, List.setIfInBounds_toArray]; try dsimp only [List.set_cons_zero, List.set_cons_succ])
    refine wpAnyIn_take (oi := ⟨_, _, _, _, _, _⟩) (i := 4) (v := ?_) rfl rfl (by kernel_rfl) (by kernel_rfl) (by kernel_rfl) (fun _ _ _ h => h) ⟨Or.inl ⟨by rfl, ?_⟩, fun _ => rfl⟩ ?_
    rotate_left
    · intro w; go_simp; (try (with_reducible rfl)); done
    (simp only [Act.put, List.setIfInBounds_toArray]; try dsimp only [List.set_cons_zero, List.set_cons_succ])
    refine wpAnyIn_take (oi := ⟨_, _, _, _, _, _⟩) (i := 5) (v := ?_) rfl rfl (by kernel_rfl) (by kernel_rfl) (by kernel_rfl) (fun _ _ _ h => h) ⟨Or.inl ⟨by rfl, ?_⟩, fun _ => rfl⟩ ?_
    rotate_left
    · intro w; go_simp; (try (with_reducible rfl)); done
    (simp only [Act.put, List.setIfInBounds_toArray]; try dsimp only [List.set_cons_zero, List.set_cons_succ])
    refine wpAnyIn_take (oi := ⟨_, _, _, _, _, _⟩) (i := 6) (v := ?_) rfl rfl (by kernel_rfl) (by kernel_rfl) (by kernel_rfl) (fun _ _ _ h => h) ⟨Or.inl ⟨by rfl, ?_⟩, fun _ => rfl⟩ ?_
    rotate_left
    · intro w; go_simp; (try (with_reducible rfl)); done
    (simp only [Act.put, List.setIfInBounds_toArray]; try dsimp only [List.set_cons_zero, List.set_cons_succ])
    have hcG : W.cell? ⟨G, 0, none⟩ = some (.slice (some ⟨T, 0, none⟩) tx.length 64) := by rw [cell_of_row W G 0 _ _ _ q2]; rfl
    refine wpAnyIn_ready (rs := [0, 7]) (by kernel_rfl) (by simp) ?_
    refine BigFrame.allReadyIn_want (o := ⟨_, _, _, _, _, _⟩) rfl (by rfl) (fun K hK => ?_) (BigFrame.allReadyIn_want (o := ⟨_, _, _, _, _, _⟩) rfl (by rfl) (fun K hK => ?_) AllReadyIn.nil)
    · go_simp
      refine hK _ _ ?_
      clear hK K
      try (simp only [Act.put, List.setIfInBounds_toArray]; try dsimp only [List.set_cons_zero, List.set_cons_succ])
      refine wpAnyIn_ready (rs := [7]) (by kernel_rfl) (by simp) ?_
      refine BigFrame.allReadyIn_want (o := ⟨_, _, _, _, _, _⟩) rfl (by rfl) (fun K hK => ?_) AllReadyIn.nil
      go_simp
      refine hK _ _ ?_
      clear hK K
      try (simp only [Act.put, List.setIfInBounds_toArray]; try dsimp only [List.set_cons_zero, List.set_cons_succ])
      obtain ⟨V, hV⟩ : ∃ V, V = (W.alloc (.cells #[.int .u8 ((hexd q).toNat : Int), .int .u8 ((hexd r).toNat : Int)] 5)).drew := ⟨_, rfl⟩
      change wpAnyIn _ _ _ _ _ _ _ _ _ ((W.alloc (.cells #[.int .u8 ((hexd q).toNat : Int), .int .u8 ((hexd r).toNat : Int)] 5)).drew)
      rw [← hV]
      have HV : Fr F0 W V := by rw [hV]; exact ((Fr.refl F0 W).alloc _).drew
      have hN : V.heap[W.heap.size]? = some (.cells #[.int .u8 ((hexd q).toNat : Int), .int .u8 ((hexd r).toNat : Int)] 5 (0, 0)) := by rw [hV]; exact heap_alloc_new W _
      clear hV
      replace q0 := HV.keeps (fun f => f) q0
      replace q1 := HV.keeps (fun f => f) q1
      replace q2 := HV.keeps (fun f => f) q2
      replace q3 := HV.keeps (fun f => f) q3
      replace hcG : V.cell? ⟨G, 0, none⟩ = some (.slice (some ⟨T, 0, none⟩) tx.length 64) := by rw [cell_of_row V G 0 _ _ _ q2]; rfl
      refine wpAnyIn_ready (rs := [8]) (by kernel_rfl) (by simp) ?_
      refine BigFrame.allReadyIn_want (o := ⟨_, _, _, _, _, _⟩) rfl (by rfl) (fun K hK => ?_) AllReadyIn.nil
      refine oper_append_in (v' := .slice (some ⟨T, 0, none⟩) (tx.length + 2) 64) (w' := (V.setCell ⟨T, tx.length, none⟩ (.int .u8 ((hexd q).toNat : Int))).setCell ⟨T, tx.length + 1, none⟩ (.int .u8 ((hexd r).toNat : Int))) rfl rfl ?_ ?_
      · dsimp only [Act.eval]
        exact append2 q1 hl2 hN
      refine hK _ _ ?_
      clear hK K
      try (simp only [Act.put, List.setIfInBounds_toArray]; try dsimp only [List.set_cons_zero, List.set_cons_succ])
      obtain ⟨U, hU⟩ : ∃ U, U = (V.setCell ⟨T, tx.length, none⟩ (.int .u8 ((hexd q).toNat : Int))).setCell ⟨T, tx.length + 1, none⟩ (.int .u8 ((hexd r).toNat : Int)) := ⟨_, rfl⟩
      rw [← hU]
      have u1 : U.heap[T]? = some (.cells (arrB tx2 64) 5 (0, 0)) := by rw [hU, HHX.out]; exact row2 q1 hl2
      have u0 : U.heap[Y]? = some (.cells (h.map B8).toArray 24 (0, 0)) := by rw [hU, Below.heap_setCell _ _ _ _ nYT, Below.heap_setCell _ _ _ _ nYT]; exact q0
      have u2 : U.heap[G]? = some (.cells #[.slice (some ⟨T, 0, none⟩) tx.length 64] 28 (0, 0)) := by rw [hU, Below.heap_setCell _ _ _ _ nGT, Below.heap_setCell _ _ _ _ nGT]; exact q2
      have u3 : U.heap[Bx]? = some (.cells #[.slice (some ⟨Y, 0, none⟩) 32 32] 28 (0, 0)) := by rw [hU, Below.heap_setCell _ _ _ _ nBT, Below.heap_setCell _ _ _ _ nBT]; exact q3
      have hB2 : Below Y W1 U := by
        rw [hU]
        exact ((hB.trans (HV.below (Nat.le_trans HG.out.2.1 hB.size) fun _ _ f => f)).setCell (p := ⟨T, tx.length, none⟩) HG.out.2.2.1 _).setCell (p := ⟨T, tx.length + 1, none⟩) HG.out.2.2.1 _
      have hk2 : KeepsFrom W1.heap.size W U := by
        rw [hU]
        exact (((HV.keepsFromB W1.heap.size).trans ((KeepsOthers.setCell V ⟨T, tx.length, none⟩ _).from _)).trans ((KeepsOthers.setCell _ ⟨T, tx.length + 1, none⟩ _).from _))
      have hcU : U.cell? ⟨G, 0, none⟩ = some (.slice (some ⟨T, 0, none⟩) tx.length 64) := by rw [cell_of_row U G 0 _ _ _ u2]; rfl
      have hfU : U.frozen? ⟨G, 0, none⟩ = false := free_row u2
      have hl3 : tx2.length = tx.length + 2 := by rw [HHX.out]; simp
      clear hU q0 q1 q2 q3 hN HV hcG hB
      refine wpAnyIn_ready (rs := [9]) (by kernel_rfl) (by simp) ?_
      refine BigFrame.allReadyIn_want (o := ⟨_, _, _, _, _, _⟩) rfl (by rfl) (fun K hK => ?_) AllReadyIn.nil
      have HL3 := Lib.hid hl3
      clear hl3
      go_simp
      refine hK _ _ ?_
      clear hK K
      refine wpAnyIn_done (by kernel_rfl) ?_ _
      refine ⟨hk2.trans ((KeepsOthers.setCell U ⟨G, 0, none⟩ _).from _), trivial, ⟨?_, ?_, ?_, ?_⟩, hB2.setCell (p := ⟨G, 0, none⟩) HG.out.2.2.2 _⟩
      · rw [Below.heap_setCell _ _ _ _ nYG]; exact u0
      · rw [Below.heap_setCell _ _ _ _ nTG, HTX.out]; exact u1
      · rw [heap_setCell_in U G 0 _ _ _ _ u2, HTX.out, HL3.out]; rfl
      · rw [Below.heap_setCell _ _ _ _ nBG]; exact u3
    · go_simp
      refine hK _ _ ?_
      clear hK K
      try (simp only [Act.put, List.setIfInBounds_toArray]; try dsimp only [List.set_cons_zero, List.set_cons_succ])
      obtain ⟨V, hV⟩ : ∃ V, V = (W.alloc (.cells #[.int .u8 ((hexd q).toNat : Int), .int .u8 ((hexd r).toNat : Int)] 5)).drew := ⟨_, rfl⟩
      change wpAnyIn _ _ _ _ _ _ _ _ _ ((W.alloc (.cells #[.int .u8 ((hexd q).toNat : Int), .int .u8 ((hexd r).toNat : Int)] 5)).drew)
      rw [← hV]
      have HV : Fr F0 W V := by rw [hV]; exact ((Fr.refl F0 W).alloc _).drew
      have hN : V.heap[W.heap.size]? = some (.cells #[.int .u8 ((hexd q).toNat : Int), .int .u8 ((hexd r).toNat : Int)] 5 (0, 0)) := by rw [hV]; exact heap_alloc_new W _
      clear hV
      replace q0 := HV.keeps (fun f => f) q0
      replace q1 := HV.keeps (fun f => f) q1
      replace q2 := HV.keeps (fun f => f) q2
      replace q3 := HV.keeps (fun f => f) q3
      replace hcG : V.cell? ⟨G, 0, none⟩ = some (.slice (some ⟨T, 0, none⟩) tx.length 64) := by rw [cell_of_row V G 0 _ _ _ q2]; rfl
      refine wpAnyIn_ready (rs := [0]) (by kernel_rfl) (by simp) ?_
      refine BigFrame.allReadyIn_want (o := ⟨_, _, _, _, _, _⟩) rfl (by rfl) (fun K hK => ?_) AllReadyIn.nil
      go_simp
      refine hK _ _ ?_
      clear hK K
      try (simp only [Act.put, List.setIfInBounds_toArray]; try dsimp only [List.set_cons_zero, List.set_cons_succ])
      refine wpAnyIn_ready (rs := [8]) (by kernel_rfl) (by simp) ?_
      refine BigFrame.allReadyIn_want (o := ⟨_, _, _, _, _, _⟩) rfl (by rfl) (fun K hK => ?_) AllReadyIn.nil
      refine oper_append_in (v' := .slice (some ⟨T, 0, none⟩) (tx.length + 2) 64) (w' := (V.setCell ⟨T, tx.length, none⟩ (.int .u8 ((hexd q).toNat : Int))).setCell ⟨T, tx.length + 1, none⟩ (.int .u8 ((hexd r).toNat : Int))) rfl rfl ?_ ?_
      · dsimp only [Act.eval]
        exact append2 q1 hl2 hN
      refine hK _ _ ?_
      clear hK K
      try (simp only [Act.put, List.setIfInBounds_toArray]; try dsimp only [List.set_cons_zero, List.set_cons_succ])
      obtain ⟨U, hU⟩ : ∃ U, U = (V.setCell ⟨T, tx.length, none⟩ (.int .u8 ((hexd q).toNat : Int))).setCell ⟨T, tx.length + 1, none⟩ (.int .u8 ((hexd r).toNat : Int)) := ⟨_, rfl⟩
      rw [← hU]
      have u1 : U.heap[T]? = some (.cells (arrB tx2 64) 5 (0, 0)) := by rw [hU, HHX.out]; exact row2 q1 hl2
      have u0 : U.heap[Y]? = some (.cells (h.map B8).toArray 24 (0, 0)) := by rw [hU, Below.heap_setCell _ _ _ _ nYT, Below.heap_setCell _ _ _ _ nYT]; exact q0
      have u2 : U.heap[G]? = some (.cells #[.slice (some ⟨T, 0, none⟩) tx.length 64] 28 (0, 0)) := by rw [hU, Below.heap_setCell _ _ _ _ nGT, Below.heap_setCell _ _ _ _ nGT]; exact q2
      have u3 : U.heap[Bx]? = some (.cells #[.slice (some ⟨Y, 0, none⟩) 32 32] 28 (0, 0)) := by rw [hU, Below.heap_setCell _ _ _ _ nBT, Below.heap_setCell _ _ _ _ nBT]; exact q3
      have hB2 : Below Y W1 U := by
        rw [hU]
        exact ((hB.trans (HV.below (Nat.le_trans HG.out.2.1 hB.size) fun _ _ f => f)).setCell (p := ⟨T, tx.length, none⟩) HG.out.2.2.1 _).setCell (p := ⟨T, tx.length + 1, none⟩) HG.out.2.2.1 _
      have hk2 : KeepsFrom W1.heap.size W U := by
        rw [hU]
        exact (((HV.keepsFromB W1.heap.size).trans ((KeepsOthers.setCell V ⟨T, tx.length, none⟩ _).from _)).trans ((KeepsOthers.setCell _ ⟨T, tx.length + 1, none⟩ _).from _))
      have hcU : U.cell? ⟨G, 0, none⟩ = some (.slice (some ⟨T, 0, none⟩) tx.length 64) := by rw [cell_of_row U G 0 _ _ _ u2]; rfl
      have hfU : U.frozen? ⟨G, 0, none⟩ = false := free_row u2
      have hl3 : tx2.length = tx.length + 2 := by rw [HHX.out]; simp
      clear hU q0 q1 q2 q3 hN HV hcG hB
      refine wpAnyIn_ready (rs := [9]) (by kernel_rfl) (by simp) ?_
      refine BigFrame.allReadyIn_want (o := ⟨_, _, _, _, _, _⟩) rfl (by rfl) (fun K hK => ?_) AllReadyIn.nil
      have HL3 := Lib.hid hl3
      clear hl3
      go_simp
      refine hK _ _ ?_
      clear hK K
      refine wpAnyIn_done (by kernel_rfl) ?_ _
      refine ⟨hk2.trans ((KeepsOthers.setCell U ⟨G, 0, none⟩ _).from _), trivial, ⟨?_, ?_, ?_, ?_⟩, hB2.setCell (p := ⟨G, 0, none⟩) HG.out.2.2.2 _⟩
      · rw [Below.heap_setCell _ _ _ _ nYG]; exact u0
      · rw [Below.heap_setCell _ _ _ _ nTG, HTX.out]; exact u1
      · rw [heap_setCell_in U G 0 _ _ _ _ u2, HTX.out, HL3.out]; rfl
      · rw [Below.heap_setCell _ _ _ _ nBG]; exact u3
  case done =>
    rintro D ys W hD hy ⟨⟨q0, q1, q2, q3⟩, hB⟩ hK
    have hm : ys.map (·.2) = h.reverse := by rw [hy, bk_all]
    rw [hm] at q1 q2
    have h64 : (textL h).length = 64 := by unfold textL; rw [hexT_length]; simp [hh]
    change W.heap[T]? = some (.cells (arrB (textL h) 64) 5 (0, 0)) at q1
    change W.heap[G]? = some (.cells #[.slice (some ⟨T, 0, none⟩) (textL h).length 64] 28 (0, 0)) at q2
    have hbs : Bs W (some ⟨T, 0, none⟩) 64 (textL h) := ⟨by simp, by omega, by unfold maxLen; omega, (fun e => by cases e), fun j u hj => ⟨T, 0, rfl, by
      rw [Nat.zero_add, cell_of_row W T j _ _ _ q1, arrB_full _ _ h64]
      simpa using hj⟩⟩
    have hs := run_str (P := Tryd.prog) 28 9 5 Tryd.underlying28 Tryd.underlying5 Tryd.underlying9 hbs _ rfl
    have hcG : W.cell? ⟨G, 0, none⟩ = some (.slice (some ⟨T, 0, none⟩) (textL h).length 64) := by rw [cell_of_row W G 0 _ _ _ q2]; rfl
    clear hm hy h64 hbs q0 q1 q2 q3
    generalize (textL h).length = n at *
    generalize hS : strOf (textL h) = S at *
    gi_wp2
    refine ⟨by simp, .inl ⟨_, _, rfl, run_takeDeferred hK, ?_⟩⟩
    have hBD := hB.trans (belowK_b (w := W1) HG.out.2.1 W D _ (.deferred none) hD hK rfl rfl)
    exact ⟨_, results_tmp rfl _ _ _, by rw [hS]; rfl, f1.trans (Fr.of_below' hBD) (fun i hi hk => by have := HG.out; omega)⟩
  case stop =>
    rintro D c pre W hD hf hK
    exact hf.elim
end Go.Proofs.YtdihahegmfdccaaDoor

/- Texts read as hashes, as Lean says it; the document's answer 02: Parse. -/
namespace Go.Proofs.YtdihahegmfdccaaDoor
set_option linter.unusedVariables false
set_option linter.unusedSimpArgs false
open Go.RowKit

attribute [local go_sem] strOf_size

/-- What a sign of hexadecimal stands for. -/
def hexv (c : UInt8) : Option UInt8 :=
  if 48 ≤ c.toNat ∧ c.toNat ≤ 57 then some (UInt8.ofNat (c.toNat - 48)) else if 97 ≤ c.toNat ∧ c.toNat ≤ 102 then some (UInt8.ofNat (c.toNat - 87)) else none

/-- The hash that the first signs give. -/
def parseN (s : List UInt8) : Nat → Option (List UInt8)
  | 0 => some (List.replicate 32 0)
  | i + 1 => match parseN s i, hexv (s.getD i 0) with
    | some h, some d => some (h.set (31 - i / 2) (UInt8.ofNat ((h.getD (31 - i / 2) 0).toNat * 16 + d.toNat)))
    | _, _ => none

/-- The hash of a text. -/
def parseL (s : List UInt8) : Option (List UInt8) := if s.length = 64 then parseN s 64 else none

theorem parseN_length (s : List UInt8) : ∀ i h, parseN s i = some h → h.length = 32
  | 0, h, e => by simp only [parseN, Option.some.injEq] at e; subst e; simp
  | i + 1, h, e => by
    rw [parseN] at e
    cases hp : parseN s i with
    | none => rw [hp] at e; cases e
    | some g =>
      rw [hp] at e
      cases hd : hexv (s.getD i 0) with
      | none => rw [hd] at e; cases e
      | some d =>
        rw [hd] at e
        simp only [Option.some.injEq] at e
        subst e
        simpa using parseN_length s i g hp

theorem parseN_none (s : List UInt8) (i : Nat) (h : parseN s i = none) : ∀ u, parseN s (i + u) = none
  | 0 => h
  | u + 1 => by rw [← Nat.add_assoc, parseN, parseN_none s i h u]

theorem results_cell_row_tmp {P : Program} {fn : Func} {p u : Tmp} {ty : TypeId} (h : fn.results = #[.cell p ty, .tmp u]) (tmps : Array Value) (w : World) (g : Nat) (t : TypeId) (cs : Array Value) (fr : Nat × Nat) (d : TypeDesc)
    (hp : tmps.getD p undef = .pointer (some ⟨g, 0, none⟩)) (hg : w.heap[g]? = some (.cells cs t fr))
    (hu : P.underlying ty = some d) (hd : (match d with | .struct _ | .array _ _ => true | _ => false) = true) (hi : (P.info? ty).map (·.size) = some cs.size) :
    (results fn tmps).run P w = .ok (.tuple #[.agg cs, tmps.getD u undef]) w := by
  rw [results_cell_tmp h, hp]
  simp [asAddr, run_loadVar_row w g t ty cs fr d hg hu hd hi]
end Go.Proofs.YtdihahegmfdccaaDoor

/- The document's answer 02 (digest): the walk of Parse. -/
namespace Go.Proofs.YtdihahegmfdccaaDoor
set_option linter.unusedVariables false
set_option linter.unusedSimpArgs false
open Go.RowKit

attribute [local go_sem] strOf_size

theorem Tryd.builtR : Tryd.prog.built 23 [] = some ((List.replicate 32 (0 : UInt8)).map B8).toArray := by kernel_rfl
theorem Tryd.szR : (Tryd.prog.info? 23).map (·.size) = some 32 := by kernel_rfl

/-- What Parse answers: the hash (of noughts, where there is none). -/
def hashOr (o : Option (List UInt8)) : List UInt8 := o.getD (List.replicate 32 0)

theorem strOf_at (s : List UInt8) (i : Nat) (h : i < s.length) : (strOf s)[i]? = some (s.getD i 0) := by
  rw [getElem?_pos (strOf s) i (by rw [strOf_size]; exact h)]
  simp [strOf, ByteArray.getElem_eq_getElem_data, List.getD, List.getElem?_eq_getElem h]

theorem setB (L : List UInt8) (p : Nat) (v : UInt8) : ((L.map B8).toArray.setIfInBounds p (.int .u8 (v.toNat : Int))) = ((L.set p v).map B8).toArray := by
  apply Array.ext'
  simp only [Array.toList_setIfInBounds]
  rw [List.map_set]
  rfl

theorem wp_of_world2 {P : Program} {c : Code} {Q : Exit → Act → World → Prop} {a : Act} {w : World} (W : World) (h : W = w) (k : Code.wp P c Q a W) : Code.wp P c Q a w := h ▸ k


end Go.Proofs.YtdihahegmfdccaaDoor

/- The sum of bytes reckoned in numbers, in a form that the kernel reckons fast: any sum of given bytes by one 'decide +kernel'. Nothing here speaks of the program. -/
namespace Go.Proofs.YtdihahegmfdccaaDoor
set_option linter.unusedVariables false
set_option linter.unusedSimpArgs false

def rN (x k j : Nat) : Nat := Nat.lor (Nat.shiftRight x k) (Nat.mod (Nat.shiftLeft x j) 4294967296)
theorem rN_rotr (x : Wd) (k : Nat) : (rotr x k).toNat = rN x.toNat k (32 - k) := by
  unfold rotr rN
  rw [BitVec.toNat_or, BitVec.toNat_ushiftRight, BitVec.toNat_shiftLeft]
  rfl
def s0N (x : Nat) : Nat := Nat.xor (Nat.xor (rN x 7 25) (rN x 18 14)) (Nat.shiftRight x 3)
def s1N (x : Nat) : Nat := Nat.xor (Nat.xor (rN x 17 15) (rN x 19 13)) (Nat.shiftRight x 10)
theorem s0N_sig0 (x : Wd) : (sig0 x).toNat = s0N x.toNat := by
  unfold sig0 s0N
  rw [BitVec.toNat_xor, BitVec.toNat_xor, rN_rotr, rN_rotr, BitVec.toNat_ushiftRight]
  rfl
theorem s1N_sig1 (x : Wd) : (sig1 x).toNat = s1N x.toNat := by
  unfold sig1 s1N
  rw [BitVec.toNat_xor, BitVec.toNat_xor, rN_rotr, rN_rotr, BitVec.toNat_ushiftRight]
  rfl
def nxN (a b c d : Nat) : Nat := Nat.mod (Nat.add (Nat.add (Nat.add a (s0N b)) c) (s1N d)) 4294967296
theorem nxN_is (a b c d : Wd) : (a + sig0 b + c + sig1 d).toNat = nxN a.toNat b.toNat c.toNat d.toNat := by
  show _ = (a.toNat + s0N b.toNat + c.toNat + s1N d.toNat) % 4294967296
  simp only [BitVec.toNat_add, s0N_sig0, s1N_sig1, Nat.mod_add_mod]
def t1N (e f g h k w : Nat) : Nat := Nat.add (Nat.add (Nat.add (Nat.add h (Nat.xor (Nat.xor (rN e 6 26) (rN e 11 21)) (rN e 25 7))) (Nat.xor (Nat.land e f) (Nat.land (Nat.sub 4294967295 e) g))) k) w
def t2N (a b c : Nat) : Nat := Nat.add (Nat.xor (Nat.xor (rN a 2 30) (rN a 13 19)) (rN a 22 10)) (Nat.xor (Nat.xor (Nat.land a b) (Nat.land a c)) (Nat.land b c))
theorem t1N_is (e f g h k w : Wd) : (h + (rotr e 6 ^^^ rotr e 11 ^^^ rotr e 25) + (e &&& f ^^^ ~~~ e &&& g) + k + w).toNat = t1N e.toNat f.toNat g.toNat h.toNat k.toNat w.toNat % 4294967296 := by
  show _ = (h.toNat + ((rN e.toNat 6 26 ^^^ rN e.toNat 11 21) ^^^ rN e.toNat 25 7) + ((e.toNat &&& f.toNat) ^^^ ((4294967295 - e.toNat) &&& g.toNat)) + k.toNat + w.toNat) % 4294967296
  simp only [BitVec.toNat_add, BitVec.toNat_xor, BitVec.toNat_and, BitVec.toNat_not, rN_rotr, Nat.mod_add_mod]
theorem t2N_is (a b c : Wd) : (((rotr a 2 ^^^ rotr a 13 ^^^ rotr a 22) + (a &&& b ^^^ a &&& c ^^^ b &&& c) : Wd)).toNat = t2N a.toNat b.toNat c.toNat % 4294967296 := by
  show _ = (((rN a.toNat 2 30 ^^^ rN a.toNat 13 19) ^^^ rN a.toNat 22 10) + (((a.toNat &&& b.toNat) ^^^ (a.toNat &&& c.toNat)) ^^^ (b.toNat &&& c.toNat))) % 4294967296
  simp only [BitVec.toNat_add, BitVec.toNat_xor, BitVec.toNat_and, rN_rotr]

/-- The rounds: the constants that are left, the state, the next sixteen words. -/
def goN : List Nat → Nat → Nat → Nat → Nat → Nat → Nat → Nat → Nat → Nat → Nat → Nat → Nat → Nat → Nat → Nat → Nat → Nat → Nat → Nat → Nat → Nat → Nat → Nat → Nat → List Nat
  | [], a, b, c, d, e, f, g, h, _, _, _, _, _, _, _, _, _, _, _, _, _, _, _, _ => [a, b, c, d, e, f, g, h]
  | k :: ks, a, b, c, d, e, f, g, h, w0, w1, w2, w3, w4, w5, w6, w7, w8, w9, w10, w11, w12, w13, w14, w15 =>
    goN ks (Nat.mod (Nat.add (t1N e f g h k w0) (t2N a b c)) 4294967296) a b c (Nat.mod (Nat.add d (t1N e f g h k w0)) 4294967296) e f g w1 w2 w3 w4 w5 w6 w7 w8 w9 w10 w11 w12 w13 w14 w15 (nxN w0 w1 w9 w14)

/-- A word of the schedule, however far. -/
def wSc (b : List UInt8) (t : Nat) : Wd := (sch b (t + 1)).getD t 0
theorem wSc_at (b : List UInt8) (n t : Nat) (h : t < n) : (sch b n).getD t 0 = wSc b t := sch_get b (t + 1) n t (by omega) (by omega)
theorem wSc_next (b : List UInt8) (t : Nat) : wSc b (t + 16) = wSc b t + sig0 (wSc b (t + 1)) + wSc b (t + 9) + sig1 (wSc b (t + 14)) := by
  have e : wSc b (t + 16) = nextW (sch b (t + 16)) (t + 16) := by
    rw [wSc, sch, List.getD_eq_getElem?_getD, List.getElem?_append_right (by rw [sch_length]; exact Nat.le_refl _), sch_length, Nat.sub_self, if_neg (by omega)]
    rfl
  rw [e, nextW, show t + 16 - 16 = t by omega, show t + 16 - 15 = t + 1 by omega, show t + 16 - 7 = t + 9 by omega, show t + 16 - 2 = t + 14 by omega, wSc_at _ _ _ (by omega), wSc_at _ _ _ (by omega), wSc_at _ _ _ (by omega), wSc_at _ _ _ (by omega)]
theorem wSc_first (b : List UInt8) (t : Nat) (h : t < 16) : wSc b t = wordAt b t := by
  rw [wSc, sch, List.getD_eq_getElem?_getD, List.getElem?_append_right (by rw [sch_length]; exact Nat.le_refl _), sch_length, Nat.sub_self, if_pos h]
  rfl

theorem cubes_nat : ∀ t, t < 64 → (cubesL.getD t 0).toNat = cubesN.getD t 0 := by decide +kernel

theorem goN_is (b : List UInt8) (s : List Wd) (hs : s.length = 8) : ∀ u t, t + u = 64 → ∀ A B C D E F G H, rnds b s t = [A, B, C, D, E, F, G, H] →
    goN (cubesN.drop t) A.toNat B.toNat C.toNat D.toNat E.toNat F.toNat G.toNat H.toNat (wSc b t).toNat (wSc b (t + 1)).toNat (wSc b (t + 2)).toNat (wSc b (t + 3)).toNat (wSc b (t + 4)).toNat (wSc b (t + 5)).toNat (wSc b (t + 6)).toNat (wSc b (t + 7)).toNat
      (wSc b (t + 8)).toNat (wSc b (t + 9)).toNat (wSc b (t + 10)).toNat (wSc b (t + 11)).toNat (wSc b (t + 12)).toNat (wSc b (t + 13)).toNat (wSc b (t + 14)).toNat (wSc b (t + 15)).toNat = (rnds b s 64).map BitVec.toNat
  | 0, t, ht, A, B, C, D, E, F, G, H, h => by
    obtain rfl : t = 64 := by omega
    rw [h, show cubesN.drop 64 = [] by decide]
    rfl
  | u + 1, t, ht, A, B, C, D, E, F, G, H, h => by
    have hd : cubesN.drop t = cubesN.getD t 0 :: cubesN.drop (t + 1) := by
      have hl : t < cubesN.length := by show t < 64; omega
      rw [List.drop_eq_getElem_cons hl]
      simp [List.getD, List.getElem?_eq_getElem hl]
    have hn := wSc_next b t
    have hr : rnds b s (t + 1) = stp (cubesL.getD t 0) (wSc b t) [A, B, C, D, E, F, G, H] := by rw [rnds, h, wSc_at _ _ _ (by omega)]
    have h1 := t1N_is E F G H (cubesL.getD t 0) (wSc b t)
    have h2 := t2N_is A B C
    have hk := cubes_nat t (by omega)
    simp only [stp] at hr
    have ih := goN_is b s hs u (t + 1) (by omega) _ _ _ _ _ _ _ _ hr
    rw [← ih, hd, goN]
    have e1 : (H + (rotr E 6 ^^^ rotr E 11 ^^^ rotr E 25) + (E &&& F ^^^ ~~~ E &&& G) + cubesL.getD t 0 + wSc b t + ((rotr A 2 ^^^ rotr A 13 ^^^ rotr A 22) + (A &&& B ^^^ A &&& C ^^^ B &&& C))).toNat
        = Nat.mod (Nat.add (t1N E.toNat F.toNat G.toNat H.toNat (cubesN.getD t 0) (wSc b t).toNat) (t2N A.toNat B.toNat C.toNat)) 4294967296 := by
      rw [BitVec.toNat_add, h1, h2, ← hk]
      exact (Nat.add_mod _ _ _).symm
    have e2 : (D + (H + (rotr E 6 ^^^ rotr E 11 ^^^ rotr E 25) + (E &&& F ^^^ ~~~ E &&& G) + cubesL.getD t 0 + wSc b t)).toNat
        = Nat.mod (Nat.add D.toNat (t1N E.toNat F.toNat G.toNat H.toNat (cubesN.getD t 0) (wSc b t).toNat)) 4294967296 := by
      rw [BitVec.toNat_add, h1, ← hk]
      exact Nat.add_mod_mod _ _ _
    have e3 : (wSc b (t + 1 + 15)).toNat = nxN (wSc b t).toNat (wSc b (t + 1)).toNat (wSc b (t + 9)).toNat (wSc b (t + 14)).toNat := by
      rw [show t + 1 + 15 = t + 16 by omega, hn, nxN_is]
    rw [e1, e2, e3]

def wdN (b : List UInt8) (i : Nat) : Nat := Nat.lor (Nat.lor (Nat.lor (Nat.mod (Nat.shiftLeft (b.getD (4 * i) 0).toNat 24) 4294967296) (Nat.mod (Nat.shiftLeft (b.getD (4 * i + 1) 0).toNat 16) 4294967296)) (Nat.mod (Nat.shiftLeft (b.getD (4 * i + 2) 0).toNat 8) 4294967296)) (b.getD (4 * i + 3) 0).toNat
theorem w8_nat (x : UInt8) : (w8 x).toNat = x.toNat := by
  unfold w8
  rw [BitVec.toNat_setWidth]
  have := x.toNat_lt
  exact Nat.mod_eq_of_lt (show x.toNat < 2 ^ 32 by omega)
theorem wdN_is (b : List UInt8) (i : Nat) : (wordAt b i).toNat = wdN b i := by
  unfold wordAt wdN
  simp only [BitVec.toNat_or, BitVec.toNat_shiftLeft, w8_nat]
  rfl

/-- A block. -/
def cmN (b : List UInt8) : List Nat → List Nat
  | [a, b', c, d, e, f, g, h] => List.zipWith (fun x y => Nat.mod (Nat.add x y) 4294967296) [a, b', c, d, e, f, g, h]
      (goN cubesN a b' c d e f g h (wdN b 0) (wdN b 1) (wdN b 2) (wdN b 3) (wdN b 4) (wdN b 5) (wdN b 6) (wdN b 7) (wdN b 8) (wdN b 9) (wdN b 10) (wdN b 11) (wdN b 12) (wdN b 13) (wdN b 14) (wdN b 15))
  | l => l
theorem zip_nat : ∀ (l m : List Wd), List.zipWith (fun x y => Nat.mod (Nat.add x y) 4294967296) (l.map BitVec.toNat) (m.map BitVec.toNat) = (List.zipWith (· + ·) l m).map BitVec.toNat
  | [], _ => rfl
  | _ :: _, [] => rfl
  | x :: l, y :: m => by
    simp only [List.map_cons, List.zipWith_cons_cons, zip_nat l m, BitVec.toNat_add]
    rfl
theorem cmN_is (b : List UInt8) (s : List Wd) (hs : s.length = 8) : cmN b (s.map BitVec.toNat) = (compress b s).map BitVec.toNat := by
  obtain ⟨A, B, C, D, E, F, G, H, rfl⟩ := eight hs
  have h := goN_is b [A, B, C, D, E, F, G, H] rfl 64 0 rfl A B C D E F G H rfl
  simp only [Nat.zero_add, List.drop_zero, wSc_first b 0 (by omega), wSc_first b 1 (by omega), wSc_first b 2 (by omega), wSc_first b 3 (by omega), wSc_first b 4 (by omega), wSc_first b 5 (by omega), wSc_first b 6 (by omega), wSc_first b 7 (by omega), wSc_first b 8 (by omega), wSc_first b 9 (by omega),
    wSc_first b 10 (by omega), wSc_first b 11 (by omega), wSc_first b 12 (by omega), wSc_first b 13 (by omega), wSc_first b 14 (by omega), wSc_first b 15 (by omega), wdN_is] at h
  rw [compress, ← zip_nat, ← h]
  rfl

def rnN (m : List UInt8) : Nat → List Nat
  | 0 => squaresN
  | n + 1 => cmN (blk m n) (rnN m n)
theorem rnN_is (m : List UInt8) : ∀ n, rnN m n = (runB m H0 n).map BitVec.toNat
  | 0 => by show squaresN = H0.map BitVec.toNat; decide +kernel
  | n + 1 => by rw [rnN, rnN_is m n, cmN_is _ _ (by rw [runB_length, H0_length]), runB]

def byN (x : Nat) : List UInt8 := [UInt8.ofNat (Nat.shiftRight x 24), UInt8.ofNat (Nat.shiftRight x 16), UInt8.ofNat (Nat.shiftRight x 8), UInt8.ofNat x]
theorem lo8_nat (x : Wd) : lo8 x = UInt8.ofNat x.toNat := by
  unfold lo8
  apply UInt8.toNat_inj.1
  simp [UInt8.toNat_ofNat']
theorem byN_one (x : Wd) : byN x.toNat = [lo8 (x >>> 24), lo8 (x >>> 16), lo8 (x >>> 8), lo8 x] := by
  simp only [lo8_nat, BitVec.toNat_ushiftRight, byN]
  rfl
theorem byN_is (s : List Wd) : (s.map BitVec.toNat).flatMap byN = bytesOf s := by
  induction s with
  | nil => rfl
  | cons x s ih =>
    simp only [bytesOf, List.map_cons, List.flatMap_cons, byN_one] at *
    rw [ih]

/-- The sum, reckoned. -/
def shaN (bs : List UInt8) : List UInt8 := (rnN (pad bs) ((pad bs).length / 64)).flatMap byN
theorem sha_is (bs : List UInt8) : sha bs = shaN bs := by rw [shaN, rnN_is, byN_is, sha]

theorem shaN_abc : shaN [97, 98, 99] = [186, 120, 22, 191, 143, 1, 207, 234, 65, 65, 64, 222, 93, 174, 34, 35, 176, 3, 97, 163, 150, 23, 122, 156, 180, 16, 255, 97, 242, 0, 21, 173] := by decide +kernel
end Go.Proofs.YtdihahegmfdccaaDoor

/- slices.Chunk at bytes, 64 at a time, of whole blocks; whole rows loaded and stored inside a fence; what a ranging leaves alone. -/
namespace Go.Proofs.YtdihahegmfdccaaDoor
set_option linter.unusedVariables false
set_option linter.unusedSimpArgs false
open Go.RowKit Go.Shelf

attribute [local go_sem] Oper.semAt_some

theorem wpListIn_load_row {F : Fence} {n : Nat} {P : Program} {ops : Array Oper} {rest : List Oper} {o : Oper} {a : Act} {w : World} {Q : Exit → Act → World → Prop} (hgd : o.guard = none) (ty : TypeId) (x : Operand) (ho : o.op = .load ty x)
    (g : Nat) (hx : a.eval x = .pointer (some ⟨g, 0, none⟩)) (t : TypeId) (cs : Array Value) (fr : Nat × Nat) (d : TypeDesc) (hg : w.heap[g]? = some (.cells cs t fr))
    (hu : P.underlying ty = some d) (hd : (match d with | .struct _ | .array _ _ => true | _ => false) = true) (hi : (P.info? ty).map (·.size) = some cs.size)
    (h : wpListIn F n P ops Q rest (a.put o.dst (.agg cs)) w) : wpListIn F n P ops Q (o :: rest) a w := by
  refine wpListIn_plain hgd fun K hK => ?_
  unfold Oper.wpIn
  refine ⟨?_, ?_⟩
  · simp [Oper.about, ho]
  · rw [Oper.semAt_plain F _ _ (by rw [ho]; intro c hc'; cases hc')]
    simp only [execOp, ho, hx, Instr.loadAt, Instr.sureAddr, Sem.run_bind, Sem.run_pure, Result.andThen_ok, run_loadVar_row w g t ty cs fr d hg hu hd hi]
    exact hK _ _ h

theorem wpListIn_store_row {F : Fence} {n : Nat} {P : Program} {ops : Array Oper} {rest : List Oper} {o : Oper} {a : Act} {w : World} {Q : Exit → Act → World → Prop} (hgd : o.guard = none) (ty : TypeId) (x y : Operand) (ho : o.op = .store ty x y)
    (g : Nat) (cells : Array Value) (hx : a.eval x = .pointer (some ⟨g, 0, none⟩)) (hy : a.eval y = .agg cells)
    (t : TypeId) (old : Array Value) (hg : w.heap[g]? = some (.cells old t (0, 0))) (hi : (P.info? ty).map (·.size) = some cells.size)
    (hold : old.size = cells.size) (h1 : cells.all (·.oneCell') = true)
    (h : wpListIn F n P ops Q rest (a.put o.dst undef) (w.setRow g cells)) : wpListIn F n P ops Q (o :: rest) a w := by
  refine wpListIn_plain hgd fun K hK => ?_
  unfold Oper.wpIn
  refine ⟨?_, ?_⟩
  · simp [Oper.about, ho]
  · rw [Oper.semAt_plain F _ _ (by rw [ho]; intro c hc'; cases hc')]
    simp only [execOp, ho, hx, hy, Instr.storeAt, Instr.sureAddr, Sem.run_bind, Sem.run_pure, Result.andThen_ok, run_storeVar_row w g t ty old cells hg hi hold h1]
    exact hK _ _ h

/-- The first k of m numbers. -/
def fins (m k : Nat) : List (Fin m) := (List.finRange m).take k
theorem fins_succ (m k : Nat) (h : k < m) : fins m (k + 1) = fins m k ++ [⟨k, h⟩] := by
  rw [fins, List.take_succ_eq_append_getElem (by simpa using h)]
  simp [fins]
theorem fins_length (m k : Nat) (h : k ≤ m) : (fins m k).length = k := by simp [fins]; omega

/-- The blocks that come: where the k-th begins. -/
abbrev encC (m : Nat) (a : Option Addr) (k : Fin m) : Array Value := #[.slice (a.map fun x => ⟨x.block, x.off + 64 * k.val, none⟩) 64 64]

set_option maxRecDepth 100000 in
set_option maxHeartbeats 4000000 in
theorem Chunk1_in (F : Fence) (n : Nat) (hF : F.fn 83) (hro : F.round = none) (hn : 1 ≤ n) (l Bx By X b off cap m : Nat) (hm : 64 * m ≤ 140737488355328) (hcap : 64 * m ≤ cap) (hBX : Bx ≠ X) (hBY : By ≠ X) (J Jx : List (Fin m) → World → Prop)
    (hY : ∀ pre x W, J pre W → pre.length < m → YieldAt F (n - 1) Tryd.prog l (encC m (some ⟨b, off, none⟩) x) W fun e W' =>
      (e = .returned (.bool true) ∧ J (pre ++ [x]) W' ∧ Kc X W W') ∨ (e = .returned (.bool false) ∧ Jx (pre ++ [x]) W'))
    (hJd : ∀ pre W, J pre W → J pre W.drew) (W : World) (hBs : W.cell? ⟨Bx, 0, none⟩ = some (.slice (some ⟨b, off, none⟩) (64 * m) cap)) (hBn : W.cell? ⟨By, 0, none⟩ = some (.int .i64 64)) (h0 : J [] W) :
    CallsIn F n Tryd.prog 83 #[.func (.yield l) #[] #[], .pointer (some ⟨Bx, 0, none⟩), .pointer (some ⟨By, 0, none⟩)] W fun e W' => (∃ v, e = .returned v) ∧
      ((∃ ys, ys = fins m m ∧ J ys W') ∨ (∃ pre, True ∧ Jx pre W')) := by
  refine callsIn_of_wp Tryd.func83 rfl hF ?_ hro
  simp only [Tryd.ntmps83, List.size_toArray, List.length_cons, List.length_nil, Nat.reduceAdd, Nat.reduceSub, Array.replicate_succ, Array.replicate_zero, List.push_toArray, List.append_toArray, List.nil_append, List.cons_append]
  obtain ⟨M, hM⟩ : ∃ M, M = 64 * m := ⟨_, rfl⟩
  rw [← hM] at hBs hm hcap
  have HM := Lib.hid hM
  clear hM
  gi_wp2
  gi_loopw [4] (fun i wr => ∃ k : Nat, k ≤ m ∧ i = .int .i64 ((64 * k : Nat) : Int) ∧ J (fins m k) wr ∧ Kc X W wr)
    (fun i _ => (64 * m - (intOf i).toNat))
  case atStart => exact ⟨0, Nat.zero_le _, rfl, h0, Kc.refl _ _⟩
  case round =>
    obtain ⟨k, hk, rfl, hJs, hnx⟩ := hrel
    have hbox := hnx.cell (p := ⟨Bx, 0, none⟩) hBX hBs
    have hboy := hnx.cell (p := ⟨By, 0, none⟩) hBY hBn
    obtain ⟨p, hp⟩ : ∃ p, p = 64 * k := ⟨_, rfl⟩
    have HP := Lib.hid hp
    rw [← hp]
    by_cases hlt : k < m
    · obtain ⟨fn, tmps, assign, body, hy, hR⟩ := hY _ ⟨k, hlt⟩ wr.drew (hJd _ _ hJs) (by rw [fins_length _ _ hk]; exact hlt)
      dsimp only [encC, Option.map] at hy
      rw [← hp] at hy
      have l1 : (p : Int) < (M : Int) := by have := HM.out; omega
      have l2 : p + 64 ≤ M := by have := HM.out; omega
      have l3 : ¬ ((M - p : Nat) : Int) < 64 := by omega
      have l4 : (p : Int) + 64 ≤ cap := by omega
      clear hp
      gi_wp2
      refine wpIn_mono (Q := fun e a' w' => e = .normal ∧ a' = { tmps := #[.func (.yield l) #[] #[], .pointer (some ⟨Bx, 0, none⟩), .pointer (some ⟨By, 0, none⟩), undef, .int .i64 p, .int .i64 64, .int .i64 p, .slice (some ⟨b, off, none⟩) M cap, .int .i64 M, .bool true, u10, u11, u12, .int .i64 64, .slice (some ⟨b, off, none⟩) M cap, .int .i64 p, .slice (some ⟨b, off + p, none⟩) (M - p) (cap - p), .int .i64 ((M - p : Nat) : Int), .int .i64 64, u19, u20, u21, u22, u23, u24, u25, u26, u27, u28, u29, u30], defers := [] } ∧ w' = wr.drew) ?_ ?_
      · gi_region
        all_goals exact ⟨by trivial, by rw [if_neg (show ¬ ((M - p : Nat) : Int) < 64 by omega)], by trivial⟩
      rintro e a' w' ⟨rfl, rfl, rfl⟩
      gi_wp2
      refine hR.mono ?_
      rintro e W3 (⟨rfl, hJ3, hk3⟩ | ⟨rfl, hJx3⟩)
      · have hboy3 := hk3.cell (p := ⟨By, 0, none⟩) hBY hboy
        gi_wp2
        go_roundw
        case rel =>
          have hk' : Kc X wr W3 := hk3
          refine ⟨k + 1, by omega, ?_, by rw [fins_succ m k hlt]; exact hJ3, hnx.trans hk'⟩
          have := HP.out
          go_num
        case measure =>
          have := HP.out
          simp [intOf]; omega
      · gi_wp2
        refine bodyPost_ret (results_none rfl _ _ _) rfl ?_
        exact ⟨⟨_, rfl⟩, .inr ⟨_, trivial, hJx3⟩⟩
    · obtain rfl : k = m := by omega
      have l1 : ¬ (p : Int) < (M : Int) := by have := HM.out; omega
      clear hp
      gi_wp2
      go_end0
      exact ⟨⟨_, rfl⟩, .inl hJs⟩

set_option maxRecDepth 100000 in
set_option maxHeartbeats 1000000 in
/-- .. at no bytes: no round. -/
theorem Chunk1_nil_in (F : Fence) (n : Nat) (hF : F.fn 83) (hro : F.round = none) (l Bx By : Nat) (a : Option Addr) (cap : Nat) (J : List (Fin 0) → World → Prop) (W : World) (hBs : W.cell? ⟨Bx, 0, none⟩ = some (.slice a 0 cap)) (h0 : J [] W) :
    CallsIn F n Tryd.prog 83 #[.func (.yield l) #[] #[], .pointer (some ⟨Bx, 0, none⟩), .pointer (some ⟨By, 0, none⟩)] W fun e W' => (∃ v, e = .returned v) ∧ J [] W' := by
  refine callsIn_of_wp Tryd.func83 rfl hF ?_ hro
  simp only [Tryd.ntmps83, List.size_toArray, List.length_cons, List.length_nil, Nat.reduceAdd, Nat.reduceSub, Array.replicate_succ, Array.replicate_zero, List.push_toArray, List.append_toArray, List.nil_append, List.cons_append]
  gi_wp2
  gi_loopw [4] (fun i wr => i = .int .i64 0 ∧ W.cell? ⟨Bx, 0, none⟩ = wr.cell? ⟨Bx, 0, none⟩ ∧ J [] wr) (fun _ _ => 0)
  case atStart => exact ⟨rfl, rfl, h0⟩
  case round =>
    obtain ⟨rfl, hc, hJs⟩ := hrel
    rw [hc] at hBs
    gi_wp2
    go_end0
    exact ⟨⟨_, rfl⟩, hJs⟩

set_option maxHeartbeats 1000000 in
theorem Chunk_in (F : Fence) (n : Nat) (hF : F.fn 68) (hro : F.round = none) (a : Option Addr) (len cap : Nat) (w : World) :
    CallsIn F n Tryd.prog 68 #[.slice a len cap, .int .i64 64] w fun e w' => e = .returned (.func (.func 83) #[] #[.pointer (some ⟨w.heap.size, 0, none⟩), .pointer (some ⟨w.heap.size + 1, 0, none⟩)]) ∧ w' = (w.alloc (.cells #[.slice a len cap] 28)).alloc (.cells #[.int .i64 64] 3) := by
  refine callsIn_of_wp Tryd.func68 rfl hF ?_ hro
  simp only [Tryd.ntmps68, List.size_toArray, List.length_cons, List.length_nil, Nat.reduceAdd, Nat.reduceSub, Array.replicate_succ, Array.replicate_zero, List.push_toArray, List.append_toArray, List.nil_append, List.cons_append]
  gi_wp2
  go_ret
  exact ⟨rfl, rfl⟩

theorem Chunk_stops (F : Fence) (n : Nat) (hF : F.fn 83) (hro : F.round = none) (hn : 1 ≤ n) (Bx By X : Nat) (a : Option Addr) (cap m : Nat) (hm : 64 * m ≤ 140737488355328) (hcap : 64 * m ≤ cap) (w : World)
    (hBX : Bx ≠ X) (hBY : By ≠ X) (hcx : w.cell? ⟨Bx, 0, none⟩ = some (.slice a (64 * m) cap)) (hcy : w.cell? ⟨By, 0, none⟩ = some (.int .i64 64)) (ha : m ≠ 0 → ∃ b off, a = some ⟨b, off, none⟩) :
    SeqStopsK F n Tryd.prog 83 #[.pointer (some ⟨Bx, 0, none⟩), .pointer (some ⟨By, 0, none⟩)] (encC m a) (Kc X) (fun ys => ys = fins m m) (fun _ => True) m w := fun l J Jx W hW hJ _ hY h0 => by
  have hK : Kc X w W := Kc.below hW
  have hcx' := hK.cell (p := ⟨Bx, 0, none⟩) hBX hcx
  have hcy' := hK.cell (p := ⟨By, 0, none⟩) hBY hcy
  by_cases hm0 : m = 0
  · subst hm0
    exact (Chunk1_nil_in F n hF hro l Bx By a cap J W hcx' h0).mono fun e W' ⟨he, hj⟩ => ⟨he, .inl ⟨_, rfl, hj⟩⟩
  · obtain ⟨b, off, rfl⟩ := ha hm0
    exact Chunk1_in F n hF hro hn l Bx By X b off cap m hm hcap hBX hBY J Jx hY (fun pre W h => hJ _ _ _ none h ⟨rfl, rfl, rfl, Nat.le_refl _, fun _ _ _ => rfl⟩ (fun _ e => by cases e)) W hcx' hcy' h0
end Go.Proofs.YtdihahegmfdccaaDoor

/- Stage 2, digest: Sum, Double. -/
namespace Go.Proofs.YtdihahegmfdccaaDoor
set_option linter.unusedVariables false
set_option linter.unusedSimpArgs false
open Go.RowKit Go.Shelf

attribute [local go_sem] Oper.semAt_some

/-- What blocks of m make of a state. -/
def runF (bs : List UInt8) (s : List Wd) {m : Nat} (l : List (Fin m)) : List Wd := l.foldl (fun s k => compress (blk bs k.val) s) s

theorem runF_snoc (bs : List UInt8) (s : List Wd) {m : Nat} (l : List (Fin m)) (x : Fin m) : runF bs s (l ++ [x]) = compress (blk bs x.val) (runF bs s l) := by simp [runF]

theorem runF_length (bs : List UInt8) (s : List Wd) {m : Nat} (l : List (Fin m)) : (runF bs s l).length = s.length := by
  obtain ⟨r, rfl⟩ : ∃ r, l = List.reverse r := ⟨l.reverse, by simp⟩
  induction r with
  | nil => rfl
  | cons x r ih => rw [List.reverse_cons, runF_snoc, compress_length, ih]

theorem runF_fins (bs : List UInt8) (s : List Wd) (m : Nat) : ∀ k, k ≤ m → runF bs s (fins m k) = runB bs s k
  | 0, _ => by simp [runF, fins, runB]
  | k + 1, h => by rw [fins_succ m k (by omega), runF_snoc, runF_fins bs s m k (by omega)]; rfl

theorem blk_length (bs : List UInt8) (k m : Nat) (h : k < m) (hb : 64 * m ≤ bs.length) : (blk bs k).length = 64 := by simp [blk]; omega

/-- A block of what is read. -/
theorem Bs.blk {w : World} {b off c : Nat} {bs : List UInt8} (h : Bs w (some ⟨b, off, none⟩) c bs) (k m : Nat) (hk : k < m) (hb : 64 * m ≤ bs.length) : Bs w (some ⟨b, off + 64 * k, none⟩) 64 (blk bs k) := by
  have hl := blk_length bs k m hk hb
  refine ⟨by simp, by omega, by unfold maxLen; omega, (fun e => by cases e), fun j u hj => ⟨b, off + 64 * k, rfl, ?_⟩⟩
  have hj' : j < 64 := by
    have := (List.getElem?_eq_some_iff.1 hj).1
    simp [hl] at this
    exact this
  have hc := h.cell (64 * k + j) u (by
    rw [← hj]
    simp only [List.getElem?_map, Go.Proofs.YtdihahegmfdccaaDoor.blk, List.getElem?_take, hj', if_true, List.getElem?_drop])
  obtain ⟨b', off', e, hc⟩ := hc
  cases e
  rw [← hc]
  congr 2
  omega

theorem Own.block {β : Type} (g : Nat) (f : β → Array Value) (t : TypeId) (fr : Nat × Nat) (B : Nat) : OwnFrom B (fun (s : β) W => W.heap[g]? = some (.cells (f s) t fr)) := by
  intro s A A' row hs hg hr
  rw [hg.block g (Array.getElem?_eq_some_iff.1 hs).1 fun e => ?_]
  · exact hs
  · obtain ⟨_, o, ho, hc⟩ := hr g e.symm
    rw [hs] at ho
    cases ho
    cases hc

theorem ownFrom_fr {β : Type} {S : Nat → Prop} {B : Nat} {w₀ : World} (hB : w₀.heap.size ≤ B) : OwnFrom B (fun (_ : β) W => Fr S w₀ W) :=
  fun _ _ _ _ hs hg hr => hs.grown hg fun k e hk => by have := (hr k e).1; omega

theorem heap_putObj_ne (w : World) (l k : Nat) (o : Obj) (h : k ≠ l) : (w.putObj l o).heap[k]? = w.heap[k]? := by
  simp only [World.putObj]
  rw [Array.getElem?_setIfInBounds_ne (by omega)]

theorem Fr.putObj {S : Nat → Prop} {a w : World} (h : Fr S a w) {l : Nat} (hp : l < a.heap.size → S l) (o : Obj) : Fr S a (w.putObj l o) :=
  h.trans (T := fun k => k = l) ⟨rfl, rfl, rfl, by simp [World.putObj], fun k _ hk => heap_putObj_ne w l k o hk⟩ fun i hi e => by subst e; exact hp hi

/-- The rest of a slice, as Go cuts it. -/
theorem Bs.tail {w : World} {a : Option Addr} {c : Nat} {bs : List UInt8} (h : Bs w a c bs) (q : Nat) (hq : q ≤ bs.length) : Bs w (a.map fun x => x.add q) (c - q) (bs.drop q) := by
  refine ⟨by simp, by have := h.room; simp; omega, by have := h.most; omega, fun e => ?_, fun j u hj => ?_⟩
  · have : a = none := by simpa using e
    rw [h.nil this]; omega
  · obtain ⟨b, off, e, hc⟩ := h.cell (q + j) u (by rw [← hj]; simp)
    subst e
    exact ⟨b, off + q, by simp [Addr.add], by rw [← hc]; congr 2; omega⟩

theorem Bs.none_left {w : World} {a : Option Addr} {bs : List UInt8} (q : Nat) (hq : bs.length = q) : Bs w a 0 (bs.drop q) := by
  rw [List.drop_eq_nil_of_le (by omega)]
  exact ⟨rfl, Nat.le_refl _, by unfold maxLen; omega, fun _ => rfl, fun j u hj => by simp at hj⟩

theorem KeepsOthers.row {W W' : World} {g : Nat} {cs : Array Value} {t : TypeId} {fr : Nat × Nat} (hg : W.heap[g]? = some (.cells cs t fr)) (h : Fr (fun k => k = g) W W') : KeepsOthers W W' := by
  refine ⟨h.size, fun l o ho hc => (h.block l (Array.getElem?_eq_some_iff.1 ho).1 fun e => ?_).trans ho⟩
  subst e
  rw [hg] at ho
  cases ho
  cases hc

set_option maxRecDepth 100000 in
set_option maxHeartbeats 8000000 in
theorem Sum_any (a : Option Addr) (n c : Nat) (bs : List UInt8) (hn : n = bs.length) (hl : bs.length ≤ 140737488355000) (w : World) (h : Bs w a c bs) (hcub : Cub w) :
    Calls Tryd.prog 48 #[.slice a n c] w fun e w' => e = .returned (.agg ((sha bs).map B8).toArray) ∧ Fr F0 w w' := by
  subst hn
  have HB := Lib.hid h
  have HC := Lib.hid hcub
  clear h hcub
  refine callsIn_wide (n := 6) |>.1 ?_
  refine callsIn_of_wp_marks Tryd.func48 rfl trivial ?_ rfl
  simp only [Tryd.ntmps48, List.size_toArray, List.length_cons, List.length_nil, Nat.reduceAdd, Nat.reduceSub, Array.replicate_succ, Array.replicate_zero, List.push_toArray, List.append_toArray, List.nil_append, List.cons_append]
  obtain ⟨m, hm⟩ : ∃ m, m = bs.length / 64 := ⟨_, rfl⟩
  obtain ⟨q, hq0⟩ : ∃ q, q = 64 * m := ⟨_, rfl⟩
  have hq : (bs.length : Int) - (bs.length : Int) % 64 = (q : Int) := by omega
  have hqc : (q : Int) ≤ c := by have := HB.out.room; omega
  have hql : q ≤ bs.length := by omega
  have HQ := Lib.hid (And.intro hm hq0)
  clear hm hq0
  gi_wp2_with (first | ((with_reducible apply And.intro); (exact trivial); gi_at_call 67; refine (callsIn_wide.2 (begin_any _)).mono ?_; rintro e w1 ⟨rfl, h1⟩) | (refine wpListIn_store_row rfl 110 (.tmp 3) (.tmp 7) rfl w1.heap.size _ rfl rfl 110 _ (heap_alloc_new w1 _) (by rw [Tryd.sz8]; rfl) rfl (oneW_map _) ?_) | ((with_reducible apply And.intro); (exact trivial); gi_at_call 68; refine (Chunk_in _ _ trivial rfl _ _ _ _).mono ?_; rintro e w2 ⟨rfl, rfl⟩))
  generalize hSt : w1.heap.size = St at *
  have h1s := h1.size
  have hlt : w.heap.size < St := by simp at h1s; omega
  have hF0 : Fr F0 w ((w1.alloc (.cells #[.int .u32 0, .int .u32 0, .int .u32 0, .int .u32 0, .int .u32 0, .int .u32 0, .int .u32 0, .int .u32 0] 110)).setRow St (List.map W32 H0).toArray) := ((((Fr.refl F0 w).alloc _).trans' h1).alloc _).setRow (fun h => by omega) _
  have hSt0 : ((w1.alloc (.cells #[.int .u32 0, .int .u32 0, .int .u32 0, .int .u32 0, .int .u32 0, .int .u32 0, .int .u32 0, .int .u32 0] 110)).setRow St (List.map W32 H0).toArray).heap[St]? = some (.cells (List.map W32 H0).toArray 110 (0, 0)) := setRow_heap _ _ _ _ _ _ (by rw [← hSt]; exact heap_alloc_new w1 _)
  have hR0 : ∃ cs, ((w1.alloc (.cells #[.int .u32 0, .int .u32 0, .int .u32 0, .int .u32 0, .int .u32 0, .int .u32 0, .int .u32 0, .int .u32 0] 110)).setRow St (List.map W32 H0).toArray).heap[w.heap.size]? = some (.cells cs 24 (0, 0)) ∧ cs.size = 32 := ⟨_, by rw [setRow_other _ _ _ _ (by omega), heap_alloc_old _ _ (by omega)]; exact h1.keeps (fun f => f) (heap_alloc_new w _), rfl⟩
  have hw3 : ((w1.alloc (.cells #[.int .u32 0, .int .u32 0, .int .u32 0, .int .u32 0, .int .u32 0, .int .u32 0, .int .u32 0, .int .u32 0] 110)).setRow St (List.map W32 H0).toArray).heap.size = St + 1 := by simp [hSt]
  generalize ((w1.alloc (.cells #[.int .u32 0, .int .u32 0, .int .u32 0, .int .u32 0, .int .u32 0, .int .u32 0, .int .u32 0, .int .u32 0] 110)).setRow St (List.map W32 H0).toArray) = w3 at *
  have hB3 : Bs w3 a c bs := Sl.fr HB.out hF0 fun _ _ f => f
  have hC3 : Cub w3 := HC.out.fr hF0 fun f => f
  have hal : ∀ b, bs ≠ [] → ablk a = some b → b < w.heap.size := fun b hne e => by
    obtain ⟨b', off, rfl, hc⟩ := HB.out.cells hne
    cases e
    exact World.block_lt_of_cell? w _ (hc 0 (List.length_pos_iff.2 hne))
  have hcl : 0 < w.heap.size := HC.out.lt
  obtain ⟨hm, hq0⟩ := HQ.out
  have hb4 : ((w3.alloc (.cells #[.slice a q c] 28)).alloc (.cells #[.int .i64 64] 3)).cell? ⟨St + 1, 0, none⟩ = some (.slice a q c) := by rw [← hw3]; exact cell_of_one (heap_alloc2_old w3 _ _)
  have hn4 : ((w3.alloc (.cells #[.slice a q c] 28)).alloc (.cells #[.int .i64 64] 3)).cell? ⟨St + 1 + 1, 0, none⟩ = some (.int .i64 64) := by rw [← hw3]; exact cell_of_one (heap_alloc2_new w3 _ _)
  have hF4 : Fr F0 w3 ((w3.alloc (.cells #[.slice a q c] 28)).alloc (.cells #[.int .i64 64] 3)) := ((Fr.refl F0 w3).alloc _).alloc _
  have hsz4 : ((w3.alloc (.cells #[.slice a q c] 28)).alloc (.cells #[.int .i64 64] 3)).heap.size = St + 3 := by simp [hw3]
  generalize (w3.alloc (.cells #[.slice a q c] 28)).alloc (.cells #[.int .i64 64] 3) = w4 at *
  refine wpIn_rangeFunc_ownG rfl (by omega) (gf := 83) (lb := #[.pointer (some ⟨St + 1, 0, none⟩), .pointer (some ⟨St + 1 + 1, 0, none⟩)]) rfl trivial (enters_of Tryd.func83 (by kernel_rfl) rfl)
    (Chunk_stops Fence.wide 5 trivial rfl (by omega) (St + 1) (St + 1 + 1) St a c m (by omega) (by omega) w4 (by omega) (by omega) (by rw [hb4, hq0]) hn4 (fun h0 => by
      obtain ⟨b, off, e, _⟩ := HB.out.cells (by intro e; simp [e] at hm; omega)
      exact ⟨b, off, e⟩))
    (fun h k => Kc.trans h k) (fun W l o o' _ h hc _ => Kc.putObj W l o o' h hc) (Below.refl _ _) (fun _ => rfl)
    (fun pre W => W.heap[St]? = some (.cells ((runF bs H0 pre).map W32).toArray 110 (0, 0)) ∧ Below St w4 W)
    (fun _ _ _ => False)
    (OwnFrom.and (Own.block _ _ _ _ _) (ownFrom_below (by omega) (by omega)))
    (fun _ _ _ _ _ hs _ _ => hs)
    ⟨hF4.keeps (fun f => f) hSt0, Below.refl _ _⟩
    (fun x => { tmps := #[.slice a bs.length c, undef, .pointer (some ⟨w.heap.size, 0, none⟩), .pointer (some ⟨St, 0, none⟩), .int .i64 q, .slice (a.map fun y => ⟨y.block, y.off + 64 * x.val, none⟩) 64 64, undef,
      .agg (List.map W32 H0).toArray, .slice a bs.length c, .int .i64 bs.length, .slice a bs.length c, .int .i64 bs.length, .int .i64 ((bs.length : Int) % 64), .int .i64 q, .slice a bs.length c, .int .i64 q, .slice a q c,
      .func (.func 83) #[] #[.pointer (some ⟨St + 1, 0, none⟩), .pointer (some ⟨St + 1 + 1, 0, none⟩)], .slice (a.map fun y => ⟨y.block, y.off + 64 * x.val, none⟩) 64 64,
      undef, undef, undef, undef, undef, undef, undef, undef, undef, undef, undef, undef, undef, undef, undef, undef, undef], defers := [] }) ?assign ?body ?done ?stop
  case assign =>
    intro l x W K hK
    clear hm hq0
    gi_wp2
    exact hK
  case body =>
    rintro l pre x W ⟨hst, hB⟩ hlen
    obtain ⟨b, off, rfl, _⟩ := HB.out.cells (by have := x.isLt; intro e; simp [e] at hm; omega)
    have hb := hal b (by have := x.isLt; intro e; simp [e] at hm; omega) rfl
    have hx : Bs W (some ⟨b, off + 64 * x.val, none⟩) 64 (blk bs x.val) := Bs.blk (Sl.kept (Sl.fr hB3 hF4 fun _ _ f => f) fun k e hk => hB.block k (by have := Option.some.inj e; simp only at this; omega)) x.val m x.isLt (by omega)
    have hC : Cub W := fun j hj => (hB.cell (p := ⟨0, j, none⟩) (by simp only; omega)).trans (hC3.fr hF4 (fun f => f) j hj)
    have hz : (runF bs H0 pre).length = 8 := by rw [runF_length]; rfl
    have hb64 := blk_length bs x.val m x.isLt (by omega)
    have hsn := Lib.hid (runF_snoc bs H0 pre x)
    generalize runF bs H0 pre = s at *
    dsimp only [Option.map]
    clear hm hq0
    have hsz : (s.map W32).toArray.size = 8 := by simp [hz]
    gi_wp2_with (first | (refine wpListIn_load_row rfl 110 (.tmp 3) rfl St rfl 110 _ (0, 0) _ hst Tryd.underlying110 rfl (by rw [Tryd.sz8, hsz]) ?_) | ((with_reducible apply And.intro); (exact trivial); gi_at_call 69; refine (CallsIn.inRound l (callsIn_wide.2 (after_any s hz _ 64 64 _ rfl hb64 _ hx hC))).mono ?_; rintro e w5 ⟨rfl, h5⟩) | (refine wpListIn_store_row rfl 110 (.tmp 3) (.tmp 21) rfl St _ rfl rfl 110 _ (h5.keeps (fun f => f) hst) (by rw [Tryd.sz8]; simp [compress_length, hz]) (by simp [compress_length, hz]) (oneW_map _) ?_))
    have hF5 : Fr (fun k => k = St) W (w5.setRow St ((compress (blk bs x.val) s).map W32).toArray) := Fr.setRow (S := fun k => k = St) (Fr.of0 h5) (fun _ => rfl) _
    refine ⟨(KeepsOthers.row hst hF5).from _, Kc.fr hF5, ?_, hB.trans (hF5.below (by have := hB.size; omega) fun k hk => by omega)⟩
    rw [hsn.out]
    exact setRow_heap _ _ _ _ _ _ (h5.keeps (fun f => f) hst)
  case done =>
    rintro D ys W hD rfl ⟨hst, hB⟩ hK
    rw [runF_fins bs H0 m m (Nat.le_refl _)] at hst
    clear hm hq0
    have hSth : St < W.heap.size := (Array.getElem?_eq_some_iff.1 hst).1
    have HCW : Cub W := fun j hj => (hB.cell (p := ⟨0, j, none⟩) (by simp only; omega)).trans (hC3.fr hF4 (fun f => f) j hj)
    have hBs := Bs.tail (Sl.frn (S := fun k => St ≤ k) (Sl.fr hB3 hF4 fun _ _ f => f) (Fr.of_below' hB) fun hne k e h => by
      have := hal k (fun e => hne (by rw [e]; rfl)) e
      omega) q hql
    have hd : (bs.drop q).length < 64 := by have := HQ.out; simp; omega
    have hlb : bs.length ≤ 140737488355328 := by omega
    gi_wp2_with (first | ((with_reducible apply And.intro); (exact trivial); gi_at_call 70; refine (callsIn_wide.2 (filled_any _ _ _ (bs.drop q) (by simp) hd bs.length hlb _ (by first | exact hBs | exact Bs.none_left _ (by have := HB.out.room; omega)))).mono ?_; rintro e w6 ⟨b6, rfl, hb6, h6, hg6⟩) | ((with_reducible apply And.intro); (exact trivial); gi_at_call 68; refine (Chunk_in _ _ trivial rfl _ _ _ _).mono ?_; rintro e w7 ⟨rfl, rfl⟩))
    · try generalize a.map (fun x => x.add q) = a2 at *
      have hfl := fil_length (bs.drop q) bs.length hd
      obtain ⟨m2, hm2⟩ : ∃ m2, fsize (bs.length - q) = 64 * m2 := ⟨fsize (bs.length - q) / 64, by unfold fsize; split <;> omega⟩
      have hm2s : m2 ≤ 2 := by have : fsize (bs.length - q) ≤ 128 := (by unfold fsize; split <;> omega); omega
      have hfl2 : (fil (bs.drop q) bs.length).length = 64 * m2 := by rw [hfl, List.length_drop, hm2]
      have hdl : (bs.drop q).length = bs.length - q := List.length_drop
      rw [hdl] at hb6
      rw [hm2] at hb6 ⊢
      have hst6 := h6.keeps (fun f => f) hst
      have hF7 : Fr F0 w6 ((w6.alloc (.cells #[.slice (some ⟨b6, 0, none⟩) (64 * m2) (64 * m2)] 28)).alloc (.cells #[.int .i64 64] 3)) := ((Fr.refl F0 w6).alloc _).alloc _
      have hb7 : ((w6.alloc (.cells #[.slice (some ⟨b6, 0, none⟩) (64 * m2) (64 * m2)] 28)).alloc (.cells #[.int .i64 64] 3)).cell? ⟨w6.heap.size, 0, none⟩ = some (.slice (some ⟨b6, 0, none⟩) (64 * m2) (64 * m2)) := cell_of_one (heap_alloc2_old w6 _ _)
      have hn7 : ((w6.alloc (.cells #[.slice (some ⟨b6, 0, none⟩) (64 * m2) (64 * m2)] 28)).alloc (.cells #[.int .i64 64] 3)).cell? ⟨w6.heap.size + 1, 0, none⟩ = some (.int .i64 64) := cell_of_one (heap_alloc2_new w6 _ _)
      generalize (w6.alloc (.cells #[.slice (some ⟨b6, 0, none⟩) (64 * m2) (64 * m2)] 28)).alloc (.cells #[.int .i64 64] 3) = w7 at *
      have hSt6 : St < w6.heap.size := (Array.getElem?_eq_some_iff.1 hst6).1
      have hSb : St ≠ b6 := by have := (Array.getElem?_eq_some_iff.1 hst).1; omega
      refine wpIn_rangeFunc_ownG rfl (by omega) (gf := 83) (lb := #[.pointer (some ⟨w6.heap.size, 0, none⟩), .pointer (some ⟨w6.heap.size + 1, 0, none⟩)]) rfl trivial (enters_of Tryd.func83 (by kernel_rfl) rfl)
        (Chunk_stops Fence.wide 5 trivial rfl (by omega) (w6.heap.size) (w6.heap.size + 1) St (some ⟨b6, 0, none⟩) (64 * m2) m2 (by omega) (by omega) w7 (by omega) (by omega) hb7 hn7 (fun h0 => ⟨b6, 0, rfl⟩))
        (fun h k => Kc.trans h k) (fun W l o o' _ h hc _ => Kc.putObj W l o o' h hc) (Below.refl _ _) (fun _ => rfl)
        (fun pre W' => W'.heap[St]? = some (.cells ((runF (fil (bs.drop q) bs.length) (runB bs H0 m) pre).map W32).toArray 110 (0, 0)) ∧ Fr (fun k => k = St) w7 W')
        (fun _ _ _ => False)
        (OwnFrom.and (Own.block _ _ _ _ _) (ownFrom_fr (Nat.le_refl _)))
        (fun _ _ _ _ _ hs _ _ => hs)
        ⟨hF7.keeps (fun f => f) hst6, Fr.refl _ _⟩
        ?a1a ?assign2a ?body2a ?done2a ?stop2a
      case assign2a =>
        intro l x W' K hK
        gi_wp2
        exact hK
      case body2a =>
        rintro l pre x W' ⟨hst', hF'⟩ hlen
        have hxl := x.isLt
        have hB' : Bs W' (some ⟨b6, 0, none⟩) (64 * m2) (fil (bs.drop q) bs.length) := Sl.fr (Sl.fr hb6 hF7 fun _ _ f => f) hF' fun k e h => by
          cases e
          exact hSb h.symm
        have hx := Bs.blk hB' x.val m2 hxl (by omega)
        rw [Nat.zero_add] at hx
        have hC : Cub W' := (HCW.fr h6 fun f => f).fr (hF7.of0.trans' hF') fun h => by omega
        have hz : (runF (fil (bs.drop q) bs.length) (runB bs H0 m) pre).length = 8 := by rw [runF_length, runB_length]; rfl
        have hb64 := blk_length (fil (bs.drop q) bs.length) x.val m2 hxl (by omega)
        have hsn := Lib.hid (runF_snoc (fil (bs.drop q) bs.length) (runB bs H0 m) pre x)
        generalize runF (fil (bs.drop q) bs.length) (runB bs H0 m) pre = s at *
        try dsimp only [Option.map]
        have hsz : (s.map W32).toArray.size = 8 := by simp [hz]
        gi_wp2_with (first | (refine wpListIn_load_row rfl 110 (.tmp 3) rfl St rfl 110 _ (0, 0) _ hst' Tryd.underlying110 rfl (by rw [Tryd.sz8, hsz]) ?_) | ((with_reducible apply And.intro); (exact trivial); gi_at_call 69; refine (CallsIn.inRound l (callsIn_wide.2 (after_any s hz _ 64 64 _ rfl hb64 _ hx hC))).mono ?_; rintro e w8 ⟨rfl, h8⟩) | (refine wpListIn_store_row rfl 110 (.tmp 3) (.tmp 33) rfl St _ rfl rfl 110 _ (h8.keeps (fun f => f) hst') (by rw [Tryd.sz8]; simp [compress_length, hz]) (by simp [compress_length, hz]) (oneW_map _) ?_))
        have hF8 : Fr (fun k => k = St) W' (w8.setRow St ((compress (blk (fil (bs.drop q) bs.length) x.val) s).map W32).toArray) := Fr.setRow (S := fun k => k = St) (Fr.of0 h8) (fun _ => rfl) _
        refine ⟨(KeepsOthers.row hst' hF8).from _, Kc.fr hF8, ?_, hF'.trans' hF8⟩
        rw [hsn.out]
        exact setRow_heap _ _ _ _ _ _ (h8.keeps (fun f => f) hst')
      case done2a =>
        rintro D2 ys W' hD2 rfl ⟨hst', hF'⟩ hK2
        rw [runF_fins _ _ m2 m2 (Nat.le_refl _)] at hst'
        have hlen8 : (runB (fil (bs.drop q) bs.length) (runB bs H0 m) m2).length = 8 := by rw [runB_length, runB_length]; rfl
        have hsha : sha bs = bytesOf (runB (fil (bs.drop q) bs.length) (runB bs H0 m) m2) := by
          have hq' := HQ.out
          rw [sha_cut, ← hq'.1, ← hq'.2]
          have e1 : bs.length % 64 = bs.length - q := by omega
          have e2 : runB (bs.take q) H0 m = runB bs H0 m := by
            have := runB_left (bs.take q) (bs.drop q) H0 m (by simp; omega)
            rw [List.take_append_drop] at this
            exact this.symm
          rw [e1, e2, hm2, Nat.mul_div_cancel_left _ (by omega)]
        have HS := Lib.hid hsha
        generalize runB (fil (bs.drop q) bs.length) (runB bs H0 m) m2 = sF at *
        obtain ⟨csR, hR3, hRz⟩ := hR0
        have hR' := hF'.keeps (k := w.heap.size) (fun h => by omega) (hF7.keeps (fun f => f) (h6.keeps (fun f => f) ((hB.block w.heap.size hlt).trans (hF4.keeps (fun f => f) hR3))))
        have hsz : (sF.map W32).toArray.size = 8 := by simp [hlen8]
        have hbz : ((bytesOf sF).map B8).toArray.size = 32 := by simp [bytesOf_length, hlen8]
        have hWs := hB.size
        have hW6 := h6.size
        have hW7 := hF7.size
        have hDW := (Array.getElem?_eq_some_iff.1 hK).1
        have HF := Lib.hid ((((((hF0.trans' hF4).trans (Fr.of_below' hB) fun i hi h => by omega).trans' h6).trans' hF7).trans hF' fun i hi h => by omega))
        have HD := Lib.hid (hF'.keeps (k := D) (fun h => by subst h; rw [hst] at hK; cases hK) (hF7.keeps (fun f => f) (h6.keeps (fun f => f) hK)))
        have HD2 := Lib.hid hK2
        clear hK hK2
        clear hB hB3 hC3 hF0 hSt0 hR3 hb4 hn4 hst hBs hb6 hst6 hb7 hn7 HCW
        gi_wp2_with (first | (refine wpListIn_load_row rfl 110 (.tmp 3) rfl St rfl 110 _ (0, 0) _ hst' Tryd.underlying110 rfl (by rw [Tryd.sz8, hsz]) ?_) | ((with_reducible apply And.intro); (exact trivial); gi_at_call 71; refine (callsIn_wide.2 (hash_any sF hlen8 _)).mono ?_; rintro e w9 ⟨rfl, h9⟩) | (refine wpListIn_store_row rfl 24 (.tmp 2) (.tmp 35) rfl w.heap.size _ rfl rfl 24 csR (h9.keeps (fun f => f) hR') (by rw [Tryd.sz32, hbz]) (by rw [hRz, hbz]) (oneB_map _) ?_))
        have g2 : (w9.setRow w.heap.size ((bytesOf sF).map B8).toArray).heap[D2]? = some (.deferred (some [])) := by
          rw [setRow_other _ _ _ _ (by omega)]
          exact h9.keeps (fun f => f) HD2.out
        have g1 : ((w9.setRow w.heap.size ((bytesOf sF).map B8).toArray).putObj D2 (.deferred none)).heap[D]? = some (.deferred (some [])) := by
          rw [heap_putObj_ne _ _ _ _ (by omega), setRow_other _ _ _ _ (by omega)]
          exact h9.keeps (fun f => f) HD.out
        have g0 : (((w9.setRow w.heap.size ((bytesOf sF).map B8).toArray).putObj D2 (.deferred none)).putObj D (.deferred none)).heap[w.heap.size]? = some (.cells ((bytesOf sF).map B8).toArray 24 (0, 0)) := by
          rw [heap_putObj_ne _ _ _ _ (by omega), heap_putObj_ne _ _ _ _ (by omega)]
          exact setRow_heap _ _ _ _ _ _ (h9.keeps (fun f => f) hR')
        refine ⟨by simp, .inl ⟨_, _, rfl, run_takeDeferred g2, by simp, .inl ⟨_, _, rfl, run_takeDeferred g1, ?_⟩⟩⟩
        refine ⟨_, results_cell_row rfl _ _ w.heap.size _ _ _ _ rfl g0 Tryd.underlying24 rfl (by rw [Tryd.sz32, hbz]), ?_⟩
        exact ⟨by rw [HS.out], (((HF.out.trans' h9).setRow (fun h => by omega) _).putObj (fun h => by omega) _).putObj (fun h => by omega) _⟩
      case stop2a =>
        rintro D c pre W _ _ h _
        exact h.elim
    · try generalize a.map (fun x => x.add q) = a2 at *
      have hfl := fil_length (bs.drop q) bs.length hd
      obtain ⟨m2, hm2⟩ : ∃ m2, fsize (bs.length - q) = 64 * m2 := ⟨fsize (bs.length - q) / 64, by unfold fsize; split <;> omega⟩
      have hm2s : m2 ≤ 2 := by have : fsize (bs.length - q) ≤ 128 := (by unfold fsize; split <;> omega); omega
      have hfl2 : (fil (bs.drop q) bs.length).length = 64 * m2 := by rw [hfl, List.length_drop, hm2]
      have hdl : (bs.drop q).length = bs.length - q := List.length_drop
      rw [hdl] at hb6
      rw [hm2] at hb6 ⊢
      have hst6 := h6.keeps (fun f => f) hst
      have hF7 : Fr F0 w6 ((w6.alloc (.cells #[.slice (some ⟨b6, 0, none⟩) (64 * m2) (64 * m2)] 28)).alloc (.cells #[.int .i64 64] 3)) := ((Fr.refl F0 w6).alloc _).alloc _
      have hb7 : ((w6.alloc (.cells #[.slice (some ⟨b6, 0, none⟩) (64 * m2) (64 * m2)] 28)).alloc (.cells #[.int .i64 64] 3)).cell? ⟨w6.heap.size, 0, none⟩ = some (.slice (some ⟨b6, 0, none⟩) (64 * m2) (64 * m2)) := cell_of_one (heap_alloc2_old w6 _ _)
      have hn7 : ((w6.alloc (.cells #[.slice (some ⟨b6, 0, none⟩) (64 * m2) (64 * m2)] 28)).alloc (.cells #[.int .i64 64] 3)).cell? ⟨w6.heap.size + 1, 0, none⟩ = some (.int .i64 64) := cell_of_one (heap_alloc2_new w6 _ _)
      generalize (w6.alloc (.cells #[.slice (some ⟨b6, 0, none⟩) (64 * m2) (64 * m2)] 28)).alloc (.cells #[.int .i64 64] 3) = w7 at *
      have hSt6 : St < w6.heap.size := (Array.getElem?_eq_some_iff.1 hst6).1
      have hSb : St ≠ b6 := by have := (Array.getElem?_eq_some_iff.1 hst).1; omega
      refine wpIn_rangeFunc_ownG rfl (by omega) (gf := 83) (lb := #[.pointer (some ⟨w6.heap.size, 0, none⟩), .pointer (some ⟨w6.heap.size + 1, 0, none⟩)]) rfl trivial (enters_of Tryd.func83 (by kernel_rfl) rfl)
        (Chunk_stops Fence.wide 5 trivial rfl (by omega) (w6.heap.size) (w6.heap.size + 1) St (some ⟨b6, 0, none⟩) (64 * m2) m2 (by omega) (by omega) w7 (by omega) (by omega) hb7 hn7 (fun h0 => ⟨b6, 0, rfl⟩))
        (fun h k => Kc.trans h k) (fun W l o o' _ h hc _ => Kc.putObj W l o o' h hc) (Below.refl _ _) (fun _ => rfl)
        (fun pre W' => W'.heap[St]? = some (.cells ((runF (fil (bs.drop q) bs.length) (runB bs H0 m) pre).map W32).toArray 110 (0, 0)) ∧ Fr (fun k => k = St) w7 W')
        (fun _ _ _ => False)
        (OwnFrom.and (Own.block _ _ _ _ _) (ownFrom_fr (Nat.le_refl _)))
        (fun _ _ _ _ _ hs _ _ => hs)
        ⟨hF7.keeps (fun f => f) hst6, Fr.refl _ _⟩
        ?a1b ?assign2b ?body2b ?done2b ?stop2b
      case assign2b =>
        intro l x W' K hK
        gi_wp2
        exact hK
      case body2b =>
        rintro l pre x W' ⟨hst', hF'⟩ hlen
        have hxl := x.isLt
        have hB' : Bs W' (some ⟨b6, 0, none⟩) (64 * m2) (fil (bs.drop q) bs.length) := Sl.fr (Sl.fr hb6 hF7 fun _ _ f => f) hF' fun k e h => by
          cases e
          exact hSb h.symm
        have hx := Bs.blk hB' x.val m2 hxl (by omega)
        rw [Nat.zero_add] at hx
        have hC : Cub W' := (HCW.fr h6 fun f => f).fr (hF7.of0.trans' hF') fun h => by omega
        have hz : (runF (fil (bs.drop q) bs.length) (runB bs H0 m) pre).length = 8 := by rw [runF_length, runB_length]; rfl
        have hb64 := blk_length (fil (bs.drop q) bs.length) x.val m2 hxl (by omega)
        have hsn := Lib.hid (runF_snoc (fil (bs.drop q) bs.length) (runB bs H0 m) pre x)
        generalize runF (fil (bs.drop q) bs.length) (runB bs H0 m) pre = s at *
        try dsimp only [Option.map]
        have hsz : (s.map W32).toArray.size = 8 := by simp [hz]
        gi_wp2_with (first | (refine wpListIn_load_row rfl 110 (.tmp 3) rfl St rfl 110 _ (0, 0) _ hst' Tryd.underlying110 rfl (by rw [Tryd.sz8, hsz]) ?_) | ((with_reducible apply And.intro); (exact trivial); gi_at_call 69; refine (CallsIn.inRound l (callsIn_wide.2 (after_any s hz _ 64 64 _ rfl hb64 _ hx hC))).mono ?_; rintro e w8 ⟨rfl, h8⟩) | (refine wpListIn_store_row rfl 110 (.tmp 3) (.tmp 33) rfl St _ rfl rfl 110 _ (h8.keeps (fun f => f) hst') (by rw [Tryd.sz8]; simp [compress_length, hz]) (by simp [compress_length, hz]) (oneW_map _) ?_))
        have hF8 : Fr (fun k => k = St) W' (w8.setRow St ((compress (blk (fil (bs.drop q) bs.length) x.val) s).map W32).toArray) := Fr.setRow (S := fun k => k = St) (Fr.of0 h8) (fun _ => rfl) _
        refine ⟨(KeepsOthers.row hst' hF8).from _, Kc.fr hF8, ?_, hF'.trans' hF8⟩
        rw [hsn.out]
        exact setRow_heap _ _ _ _ _ _ (h8.keeps (fun f => f) hst')
      case done2b =>
        rintro D2 ys W' hD2 rfl ⟨hst', hF'⟩ hK2
        rw [runF_fins _ _ m2 m2 (Nat.le_refl _)] at hst'
        have hlen8 : (runB (fil (bs.drop q) bs.length) (runB bs H0 m) m2).length = 8 := by rw [runB_length, runB_length]; rfl
        have hsha : sha bs = bytesOf (runB (fil (bs.drop q) bs.length) (runB bs H0 m) m2) := by
          have hq' := HQ.out
          rw [sha_cut, ← hq'.1, ← hq'.2]
          have e1 : bs.length % 64 = bs.length - q := by omega
          have e2 : runB (bs.take q) H0 m = runB bs H0 m := by
            have := runB_left (bs.take q) (bs.drop q) H0 m (by simp; omega)
            rw [List.take_append_drop] at this
            exact this.symm
          rw [e1, e2, hm2, Nat.mul_div_cancel_left _ (by omega)]
        have HS := Lib.hid hsha
        generalize runB (fil (bs.drop q) bs.length) (runB bs H0 m) m2 = sF at *
        obtain ⟨csR, hR3, hRz⟩ := hR0
        have hR' := hF'.keeps (k := w.heap.size) (fun h => by omega) (hF7.keeps (fun f => f) (h6.keeps (fun f => f) ((hB.block w.heap.size hlt).trans (hF4.keeps (fun f => f) hR3))))
        have hsz : (sF.map W32).toArray.size = 8 := by simp [hlen8]
        have hbz : ((bytesOf sF).map B8).toArray.size = 32 := by simp [bytesOf_length, hlen8]
        have hWs := hB.size
        have hW6 := h6.size
        have hW7 := hF7.size
        have hDW := (Array.getElem?_eq_some_iff.1 hK).1
        have HF := Lib.hid ((((((hF0.trans' hF4).trans (Fr.of_below' hB) fun i hi h => by omega).trans' h6).trans' hF7).trans hF' fun i hi h => by omega))
        have HD := Lib.hid (hF'.keeps (k := D) (fun h => by subst h; rw [hst] at hK; cases hK) (hF7.keeps (fun f => f) (h6.keeps (fun f => f) hK)))
        have HD2 := Lib.hid hK2
        clear hK hK2
        clear hB hB3 hC3 hF0 hSt0 hR3 hb4 hn4 hst hBs hb6 hst6 hb7 hn7 HCW
        gi_wp2_with (first | (refine wpListIn_load_row rfl 110 (.tmp 3) rfl St rfl 110 _ (0, 0) _ hst' Tryd.underlying110 rfl (by rw [Tryd.sz8, hsz]) ?_) | ((with_reducible apply And.intro); (exact trivial); gi_at_call 71; refine (callsIn_wide.2 (hash_any sF hlen8 _)).mono ?_; rintro e w9 ⟨rfl, h9⟩) | (refine wpListIn_store_row rfl 24 (.tmp 2) (.tmp 35) rfl w.heap.size _ rfl rfl 24 csR (h9.keeps (fun f => f) hR') (by rw [Tryd.sz32, hbz]) (by rw [hRz, hbz]) (oneB_map _) ?_))
        have g2 : (w9.setRow w.heap.size ((bytesOf sF).map B8).toArray).heap[D2]? = some (.deferred (some [])) := by
          rw [setRow_other _ _ _ _ (by omega)]
          exact h9.keeps (fun f => f) HD2.out
        have g1 : ((w9.setRow w.heap.size ((bytesOf sF).map B8).toArray).putObj D2 (.deferred none)).heap[D]? = some (.deferred (some [])) := by
          rw [heap_putObj_ne _ _ _ _ (by omega), setRow_other _ _ _ _ (by omega)]
          exact h9.keeps (fun f => f) HD.out
        have g0 : (((w9.setRow w.heap.size ((bytesOf sF).map B8).toArray).putObj D2 (.deferred none)).putObj D (.deferred none)).heap[w.heap.size]? = some (.cells ((bytesOf sF).map B8).toArray 24 (0, 0)) := by
          rw [heap_putObj_ne _ _ _ _ (by omega), heap_putObj_ne _ _ _ _ (by omega)]
          exact setRow_heap _ _ _ _ _ _ (h9.keeps (fun f => f) hR')
        refine ⟨by simp, .inl ⟨_, _, rfl, run_takeDeferred g2, by simp, .inl ⟨_, _, rfl, run_takeDeferred g1, ?_⟩⟩⟩
        refine ⟨_, results_cell_row rfl _ _ w.heap.size _ _ _ _ rfl g0 Tryd.underlying24 rfl (by rw [Tryd.sz32, hbz]), ?_⟩
        exact ⟨by rw [HS.out], (((HF.out.trans' h9).setRow (fun h => by omega) _).putObj (fun h => by omega) _).putObj (fun h => by omega) _⟩
      case stop2b =>
        rintro D c pre W _ _ h _
        exact h.elim
  case stop =>
    rintro D c pre W _ _ h _
    exact h.elim
end Go.Proofs.YtdihahegmfdccaaDoor

/- Stage 2, digest: Double. -/
namespace Go.Proofs.YtdihahegmfdccaaDoor
set_option linter.unusedVariables false
set_option linter.unusedSimpArgs false
open Go.RowKit

set_option maxHeartbeats 4000000 in
theorem Double_any (a : Option Addr) (n c : Nat) (bs : List UInt8) (hn : n = bs.length) (hl : bs.length ≤ 140737488355000) (w : World) (h : Bs w a c bs) (hcub : Cub w) :
    Calls Tryd.prog 29 #[.slice a n c] w fun e w' => e = .returned (.agg ((sha2 bs).map B8).toArray) ∧ Fr F0 w w' := by
  subst hn
  have hz1 : ((sha bs).map B8).toArray.size = 32 := by simp [sha_length]
  have hz2 : ((sha2 bs).map B8).toArray.size = 32 := by simp [sha2, sha_length]
  have HB := Lib.hid h
  have HC := Lib.hid hcub
  clear h hcub
  go_enter Tryd.func29, Tryd.ntmps29
  go_wp2_with fail
  refine (Sum_any a _ c bs rfl hl _ (Sl.fr HB.out ((Fr.refl F0 w).alloc _) fun _ _ f => f) (HC.out.fr ((Fr.refl F0 w).alloc _) fun f => f)).mono ?_
  rintro e w1 ⟨rfl, h1⟩
  have h1s := h1.size
  simp only [World.size_alloc] at h1s
  go_wp2_with (refine wpList_store_row rfl 24 (.tmp 3) (.tmp 5) rfl w1.heap.size _ rfl rfl 24 _ (heap_alloc_new w1 _) (by rw [Tryd.sz32, hz1]) (by rw [hz1]; rfl) (oneB_map _) ?_)
  generalize hY : w1.heap.size = Y at *
  have hF2 : Fr F0 w ((w1.alloc (.cells #[.int .u8 0, .int .u8 0, .int .u8 0, .int .u8 0, .int .u8 0, .int .u8 0, .int .u8 0, .int .u8 0, .int .u8 0, .int .u8 0, .int .u8 0, .int .u8 0, .int .u8 0, .int .u8 0, .int .u8 0, .int .u8 0, .int .u8 0, .int .u8 0, .int .u8 0, .int .u8 0, .int .u8 0, .int .u8 0, .int .u8 0, .int .u8 0, .int .u8 0, .int .u8 0, .int .u8 0, .int .u8 0, .int .u8 0, .int .u8 0, .int .u8 0, .int .u8 0] 24)).setRow Y ((sha bs).map B8).toArray) := ((((Fr.refl F0 w).alloc _).trans' h1).alloc _).setRow (fun h => by omega) _
  have hY2 := setRow_heap _ _ _ ((sha bs).map B8).toArray _ _ (show (w1.alloc (.cells #[.int .u8 0, .int .u8 0, .int .u8 0, .int .u8 0, .int .u8 0, .int .u8 0, .int .u8 0, .int .u8 0, .int .u8 0, .int .u8 0, .int .u8 0, .int .u8 0, .int .u8 0, .int .u8 0, .int .u8 0, .int .u8 0, .int .u8 0, .int .u8 0, .int .u8 0, .int .u8 0, .int .u8 0, .int .u8 0, .int .u8 0, .int .u8 0, .int .u8 0, .int .u8 0, .int .u8 0, .int .u8 0, .int .u8 0, .int .u8 0, .int .u8 0, .int .u8 0] 24)).heap[Y]? = some (.cells _ 24 (0, 0)) by rw [← hY]; exact heap_alloc_new w1 _)
  have hR : ∃ cs, ((w1.alloc (.cells #[.int .u8 0, .int .u8 0, .int .u8 0, .int .u8 0, .int .u8 0, .int .u8 0, .int .u8 0, .int .u8 0, .int .u8 0, .int .u8 0, .int .u8 0, .int .u8 0, .int .u8 0, .int .u8 0, .int .u8 0, .int .u8 0, .int .u8 0, .int .u8 0, .int .u8 0, .int .u8 0, .int .u8 0, .int .u8 0, .int .u8 0, .int .u8 0, .int .u8 0, .int .u8 0, .int .u8 0, .int .u8 0, .int .u8 0, .int .u8 0, .int .u8 0, .int .u8 0] 24)).setRow Y ((sha bs).map B8).toArray).heap[w.heap.size]? = some (.cells cs 24 (0, 0)) ∧ cs.size = 32 := ⟨_, by rw [setRow_other _ _ _ _ (by omega), heap_alloc_old _ _ (by omega)]; exact h1.keeps (fun f => f) (heap_alloc_new w _), rfl⟩
  generalize (w1.alloc (.cells #[.int .u8 0, .int .u8 0, .int .u8 0, .int .u8 0, .int .u8 0, .int .u8 0, .int .u8 0, .int .u8 0, .int .u8 0, .int .u8 0, .int .u8 0, .int .u8 0, .int .u8 0, .int .u8 0, .int .u8 0, .int .u8 0, .int .u8 0, .int .u8 0, .int .u8 0, .int .u8 0, .int .u8 0, .int .u8 0, .int .u8 0, .int .u8 0, .int .u8 0, .int .u8 0, .int .u8 0, .int .u8 0, .int .u8 0, .int .u8 0, .int .u8 0, .int .u8 0] 24)).setRow Y ((sha bs).map B8).toArray = w2 at *
  obtain ⟨cs, hR, hRz⟩ := hR
  have hx := Bs.of_row hY2 (by rw [sha_length]; unfold maxLen; omega)
  rw [sha_length] at hx
  refine (Sum_any _ 32 32 (sha bs) (sha_length _).symm (by rw [sha_length]; omega) _ hx (HC.out.fr hF2 fun f => f)).mono ?_
  rintro e w3 ⟨rfl, h3⟩
  go_wp2_with (refine wpList_store_row rfl 24 (.tmp 2) (.tmp 7) rfl w.heap.size _ rfl rfl 24 _ (h3.keeps (fun f => f) hR) (by rw [Tryd.sz32]; exact congrArg some hz2.symm) (by rw [hRz]; exact hz2.symm) (oneB_map _) ?_)
  refine bodyPost_ret (results_cell_row rfl _ _ w.heap.size _ _ _ _ rfl (setRow_heap _ _ _ _ _ _ (h3.keeps (fun f => f) hR)) Tryd.underlying24 rfl (by rw [Tryd.sz32]; exact congrArg some hz2.symm)) rfl ⟨rfl, ?_⟩
  exact (hF2.trans' h3).setRow (fun h => by omega) _
end Go.Proofs.YtdihahegmfdccaaDoor

/- What the row's condition on the table of the cube roots gives. -/
namespace Go.Proofs.YtdihahegmfdccaaDoor
set_option linter.unusedVariables false
set_option linter.unusedSimpArgs false
open Go.ChangeShapes Go.WideShapes Go.ChangeAt Go.RowKit

abbrev laidC : List (String × DataW Unit) := [("pontage/digest.cubes", Rows.laid_pontage_digest_cubes)]

theorem gCubes : Tryd.prog.globalNamed "pontage/digest.cubes" = some 0 := by kernel_rfl
theorem tCubes : (Tryd.prog.globals[0]?).map (·.type) = some 92 := by kernel_rfl
theorem cubes_data : Rows.laid_pontage_digest_cubes (H := Unit) = .agg (cubesN.map fun n : Nat => .lit (.int .u32 (n : Int))) := by rfl
theorem cubes_wi : ∀ i, i < 64 → wi (cubesL.getD i 0) = ((cubesN.getD i 0 : Nat) : Int) := by decide +kernel

theorem door_met (os : Os) (args : Array Value) : laidMetH Tryd.prog laidC ((World.doorLaid Tryd.prog 400 os).forCall (fun _ _ => 0) ⟨#[], args, []⟩).memory :=
  laidMetH_of_parts3 (fuel := 8) (laidMet_of_run' 8 (by kernel_rfl) (by kernel_rfl)) (by kernel_rfl) (by kernel_rfl)

theorem Cub.of_laid {W : World} (h : laidMetH Tryd.prog laidC W) : Cub W := by
  rw [MakeChecks.laidMetH_plain _ _ _ (by kernel_rfl)] at h
  obtain ⟨ps, ⟨g0, t0, cs0, f0, p0, q0, hg0, ht0, hv0, hd0, _, _⟩, _, _⟩ := h
  obtain rfl := Option.some.inj (gCubes.symm.trans hg0)
  obtain rfl := Option.some.inj (tCubes.symm.trans ht0)
  intro j hj
  obtain ⟨xs, m, rfl, hx, hlen, hn, hel⟩ := DataW.trod_array Tryd.underlying92 hd0
  have c1 : Tryd.prog.cellsOf 22 = 1 := by kernel_rfl
  have hxj := hel j hj
  rw [c1, Nat.mul_one] at hxj
  have hjx : j < xs.length := by omega
  rw [List.getElem?_eq_getElem hjx] at hxj
  obtain ⟨k, e1, e2, _⟩ := DataW.trod_int Tryd.underlying22 hxj
  simp only [Prod.mk.injEq] at hx
  have hx1 := hx.1
  rw [cubes_data, DataW.agg.injEq] at hx1
  have hk := congrArg (fun l => l[j]?) hx1
  simp only [List.getElem?_map, List.getElem?_eq_getElem hjx, Option.map_some] at hk
  have hcl : j < cubesN.length := by show j < 64; exact hj
  rw [List.getElem?_eq_getElem hcl, Option.map_some, e2] at hk
  have hk2 : (cubesN[j] : Int) = k := by simpa using hk
  rw [World.var?_cell hg0 hv0 j, cubes_wi j hj]
  have hcs : cs0.toList.drop j ≠ [] := by intro e; rw [e] at e1; simp at e1
  have hjl : j < cs0.toList.length := by
    rcases Nat.lt_or_ge j cs0.toList.length with h | h
    · exact h
    · exact absurd (List.drop_eq_nil_of_le h) hcs
  rw [List.drop_eq_getElem_cons hjl] at e1
  simp only [List.take_succ_cons, List.take_zero, List.cons.injEq, and_true] at e1
  rw [show cubesN.getD j 0 = cubesN[j] by simp [List.getD, List.getElem?_eq_getElem hcl], hk2, ← e1]
  simp at hjl
  simp [hjl]
end Go.Proofs.YtdihahegmfdccaaDoor
