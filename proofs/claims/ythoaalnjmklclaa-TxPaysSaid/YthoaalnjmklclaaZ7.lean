import Derived.Test.YthoaalnjmklclaaZ2
import Derived.RangeFuncNested
import Derived.RangeFuncBound
import Derived.RangeFuncCalls
import Derived.RangeFuncLeaves
import Derived.Shelf.Abstract
import Derived.Shelf.RegionOpen
import Derived.OwnWalkIn
import Derived.TacticsInMore
import Derived.LoopNIn
import Derived.LoopIn
import Derived.RangeFuncBox
import Derived.Laws.BitsAllLaws
/- Pieces of slices: s[:n], s[n:], s[m:n].  -/
namespace Go.Proofs.Ythoaalnjmklclaa
set_option linter.unusedVariables false
set_option linter.unusedSimpArgs false
open Go.RowKit

/-- The address of what is left of a slice behind its first l elements. -/
def cutA (a : Option Addr) (cap l s : Nat) : Option Addr := if cap = l then a else a.map (·.add (l * s))

@[go_sem high] theorem run_slice_from_g {P : Program} (w : World) (t : TypeId) (ht : P.underlying t = some (.slice (P.elem t))) (a : Option Addr) (len cap : Nat) (kl : IntKind) (l : Int) (h0 : 0 ≤ l) (h1 : l ≤ len) :
    (Instr.slice t (.slice a len cap) (some (.int kl l)) none none).run P w = ((sizeOf (P.elem t)).run P w).andThen fun s w => .ok (.slice (cutA a cap l.toNat s) (len - l.toNat) (cap - l.toNat)) w := by
  rw [run_slice_l w t a len cap ht kl l h0 h1]
  rfl

@[go_sem high] theorem run_slice_to_g {P : Program} (w : World) (t : TypeId) (ht : P.underlying t = some (.slice (P.elem t))) (a : Option Addr) (len cap : Nat) (kh : IntKind) (h : Int) (h0 : 0 ≤ h) (h2 : h ≤ cap) :
    (Instr.slice t (.slice a len cap) none (some (.int kh h)) none).run P w = ((sizeOf (P.elem t)).run P w).andThen fun _ w => .ok (.slice a h.toNat cap) w := by
  rw [run_slice_h w t a len cap ht kh h h0 h2]
  congr 1
  funext s w
  simp only [sliced, Nat.zero_mul, Nat.sub_zero]
  congr 2
  split
  · rfl
  · cases a <;> simp [Addr.add]

@[go_sem high] theorem run_slice_fromto_g {P : Program} (w : World) (t : TypeId) (ht : P.underlying t = some (.slice (P.elem t))) (a : Option Addr) (len cap : Nat) (kl kh : IntKind) (l h : Int) (h0 : 0 ≤ l) (h1 : l ≤ h) (h2 : h ≤ cap) :
    (Instr.slice t (.slice a len cap) (some (.int kl l)) (some (.int kh h)) none).run P w = ((sizeOf (P.elem t)).run P w).andThen fun s w => .ok (.slice (cutA a cap l.toNat s) (h.toNat - l.toNat) (cap - l.toNat)) w := by
  rw [run_slice_lh w t a len cap ht kl kh l h h0 h1 h2]
  rfl

theorem Bs.take {w : World} {a : Option Addr} {c : Nat} {bs : List UInt8} (h : Bs w a c bs) (n : Nat) : Bs w a c (bs.take n) := by
  refine ⟨by simp, by have := h.room; simp; omega, h.most, h.nil, fun j u hj => ?_⟩
  rw [List.map_take, List.getElem?_take] at hj
  split at hj
  · exact h.cell j u hj
  · cases hj

theorem Bs.drop {w : World} {a : Option Addr} {c : Nat} {bs : List UInt8} (h : Bs w a c bs) (n : Nat) (_hn : n ≤ bs.length) : Bs w (cutA a c n 1) (c - n) (bs.drop n) := by
  have hr := h.room
  have hm := h.most
  refine ⟨by simp, by simp; omega, by omega, fun e => ?_, fun j u hj => ?_⟩
  · have : a = none := by
      unfold cutA at e
      split at e
      · exact e
      · simpa using e
    have := h.nil this
    omega
  · rw [List.map_drop, List.getElem?_drop] at hj
    obtain ⟨b, off, rfl, hc⟩ := h.cell (n + j) u hj
    have hlt : n + j < bs.length := by
      have := (List.getElem?_eq_some_iff.1 hj).1
      simpa using this
    refine ⟨b, off + n, ?_, by rw [Nat.add_assoc]; exact hc⟩
    unfold cutA
    rw [if_neg (by omega)]
    simp [Addr.add_lit]

theorem cutA_blk (a : Option Addr) (c l s : Nat) : ablk (cutA a c l s) = ablk a := by
  unfold cutA
  split
  · rfl
  · cases a with
    | none => rfl
    | some a => simp [ablk, Addr.add]; split <;> rfl

end Go.Proofs.Ythoaalnjmklclaa

/- Stage 1, octet: the reader, but for Get. -/
namespace Go.Proofs.Ythoaalnjmklclaa
set_option linter.unusedVariables false
set_option linter.unusedSimpArgs false
open Go.RowKit

/-- A reader at block b: what is left, or none: it is wrong. -/
structure IsR (w : World) (b : Nat) (a : Option Addr) (st : Option (List UInt8)) : Prop where
  at_ : ∃ c, w.heap[b]? = some (.cells #[.slice a (st.getD []).length c, .bool st.isNone] 102 (0, 0)) ∧ Bs w a c (st.getD [])
  blk : ∀ k, ablk a = some k → k < w.heap.size

theorem IsR.lt {w : World} {b : Nat} {a : Option Addr} {st : Option (List UInt8)} (h : IsR w b a st) : b < w.heap.size := by
  obtain ⟨c, h, _⟩ := h.at_
  exact (Array.getElem?_eq_some_iff.1 h).1

theorem IsR.fr {S : Nat → Prop} {w w' : World} {b : Nat} {a : Option Addr} {st : Option (List UInt8)} (h : IsR w b a st) (hf : Fr S w w') (hb : ¬ S b) (ha : ∀ k, ablk a = some k → ¬ S k) : IsR w' b a st := by
  obtain ⟨c, h1, h2⟩ := h.at_
  exact ⟨⟨c, hf.keeps hb h1, Sl.fr h2 hf ha⟩, fun k hk => hf.lt (h.blk k hk)⟩

theorem IsR.below {w w' : World} {b n : Nat} {a : Option Addr} {st : Option (List UInt8)} (h : IsR w b a st) (hf : Below n w w') (hb : b < n) (ha : ∀ k, ablk a = some k → k < n) : IsR w' b a st := by
  obtain ⟨c, h1, h2⟩ := h.at_
  exact ⟨⟨c, (hf.block b hb).trans h1, h2.kept fun k hk _ => hf.block k (ha k hk)⟩, fun k hk => Nat.lt_of_lt_of_le (h.blk k hk) hf.size⟩

/-- The cells of a pair. -/
theorem pair_cell {w : World} {b : Nat} {u v : Value} {t : TypeId} (h : w.heap[b]? = some (.cells #[u, v] t (0, 0))) : w.cell? ⟨b, 0, none⟩ = some u ∧ w.cell? ⟨b, 1, none⟩ = some v ∧ (∀ o, w.frozen? ⟨b, o, none⟩ = false) := by
  simp [World.cell?, World.frozen?, h]

theorem pair_set0 {w : World} {b : Nat} {u v x : Value} {t : TypeId} (h : w.heap[b]? = some (.cells #[u, v] t (0, 0))) : (w.setCell ⟨b, 0, none⟩ x).heap[b]? = some (.cells #[x, v] t (0, 0)) := by
  simp only [World.setCell, Array.getElem?_modify, if_true, h, Option.map_some]
  rfl

theorem pair_set1 {w : World} {b : Nat} {u v x : Value} {t : TypeId} (h : w.heap[b]? = some (.cells #[u, v] t (0, 0))) : (w.setCell ⟨b, 1, none⟩ x).heap[b]? = some (.cells #[u, x] t (0, 0)) := by
  simp only [World.setCell, Array.getElem?_modify, if_true, h, Option.map_some]
  rfl

/-- What lies in no pair of a slice and a bool is not changed by a store there. -/
theorem Bs.pair {w w' : World} {b : Nat} {u v : Value} {t : TypeId} (hu : ∀ n, u ≠ .int .u8 n) (hv : ∀ n, v ≠ .int .u8 n) (h : w.heap[b]? = some (.cells #[u, v] t (0, 0))) (hf : Fr (fun k => k = b) w w') {a : Option Addr} {c : Nat} {bs : List UInt8} (hb : Bs w a c bs) : Bs w' a c bs := by
  refine ⟨hb.len, hb.room, hb.most, hb.nil, fun j x hj => ?_⟩
  obtain ⟨b', off, rfl, hc⟩ := hb.cell j x hj
  have hx : ∃ n, x = .int .u8 n := by
    simp only [List.getElem?_map, Option.map_eq_some_iff] at hj
    obtain ⟨y, _, rfl⟩ := hj
    exact ⟨_, rfl⟩
  obtain ⟨n, rfl⟩ := hx
  by_cases e : b' = b
  · subst e
    simp only [World.cell?, h, Option.isSome_none, Bool.false_eq_true, if_false] at hc
    match h' : off + j, hc with
    | 0, hc => simp at hc; exact absurd hc (hu n)
    | 1, hc => simp at hc; exact absurd hc (hv n)
    | k + 2, hc => simp at hc
  · exact ⟨b', off, rfl, hf.cell (p := ⟨b', off + j, none⟩) e hc⟩

/-- Behind a call of a reader's. -/
def RPost (w : World) (b : Nat) (a : Option Addr) (st : Option (List UInt8)) (w' : World) : Prop :=
  ∃ a', IsR w' b a' st ∧ Fr (fun k => k = b) w w' ∧ ∀ k, ablk a' = some k → ablk a = some k

theorem RPost.refl {w : World} {b : Nat} {a : Option Addr} {st : Option (List UInt8)} (h : IsR w b a st) : RPost w b a st w := ⟨a, h, Fr.refl _ _, fun _ => id⟩

theorem RPost.trans {w w1 w2 : World} {b : Nat} {a a1 : Option Addr} {st2 : Option (List UInt8)} (hf : Fr (fun k => k = b) w w1) (ha : ∀ k, ablk a1 = some k → ablk a = some k)
    (h2 : RPost w1 b a1 st2 w2) : RPost w b a st2 w2 := by
  obtain ⟨a2, h, hf2, ha2⟩ := h2
  exact ⟨a2, h, hf.trans' hf2, fun k hk => ha k (ha2 k hk)⟩

set_option maxHeartbeats 400000 in
theorem rfail_any (b : Nat) (a : Option Addr) (st : Option (List UInt8)) (w : World) (h : IsR w b a st) :
    Calls Try.prog 76 #[.pointer (some ⟨b, 0, none⟩)] w fun e w' => e = .returned (.tuple #[]) ∧ RPost w b a none w' := by
  obtain ⟨c, h1, h2⟩ := h.at_
  obtain ⟨c0, c1, z⟩ := pair_cell h1
  have z0 := z 0
  have z1 := z 1
  have p0 := pair_set0 (x := .slice none 0 0) h1
  have P := Lib.hid (pair_set1 (x := .bool true) p0)
  clear h1 z p0 h2 h
  go_enter Try.func76, Try.ntmps76
  go_wp2
  go_end0
  exact ⟨rfl, none, ⟨⟨0, P.out, Bs.nothing _⟩, fun k e => by cases e⟩, (Fr.setCell (S := fun k => k = b) (Fr.refl _ _) (p := ⟨b, 0, none⟩) (fun _ => rfl) _).setCell (p := ⟨b, 1, none⟩) (fun _ => rfl) _, fun k e => by cases e⟩

theorem rfail_none (w : World) : Calls Try.prog 76 #[.pointer none] w fun e w' => e = .returned (.tuple #[]) ∧ w = w' := by
  go_enter Try.func76, Try.ntmps76
  go_wp2
  exact bodyPost_ret (results_none rfl _ _ _) rfl ⟨rfl, rfl⟩

/-- How much is left, as a number. -/
def lft (st : Option (List UInt8)) : Nat := (st.getD []).length

theorem RLeft_any (b : Nat) (a : Option Addr) (st : Option (List UInt8)) (w : World) (h : IsR w b a st) (_hl : lft st ≤ 140737488355328) :
    Calls Try.prog 55 #[.pointer (some ⟨b, 0, none⟩)] w fun e w' => e = .returned (.int .i64 (lft st)) ∧ w = w' := by
  obtain ⟨c, h1, h2⟩ := h.at_
  obtain ⟨c0, c1, z⟩ := pair_cell h1
  change w.cell? _ = some (.slice a (lft st) c) at c0
  clear h1 z h2 h c1
  go_enter Try.func55, Try.ntmps55
  go_wp2
  go_ret
  exact ⟨rfl, rfl⟩

theorem RLeft_none (w : World) : Calls Try.prog 55 #[.pointer none] w fun e w' => e = .returned (.int .i64 0) ∧ w = w' := by
  go_enter Try.func55, Try.ntmps55
  go_wp2
  go_ret
  exact ⟨rfl, rfl⟩

theorem RWrong_any (b : Nat) (a : Option Addr) (st : Option (List UInt8)) (w : World) (h : IsR w b a st) :
    Calls Try.prog 54 #[.pointer (some ⟨b, 0, none⟩)] w fun e w' => e = .returned (.bool st.isNone) ∧ w = w' := by
  obtain ⟨c, h1, h2⟩ := h.at_
  obtain ⟨c0, c1, z⟩ := pair_cell h1
  generalize hs : st.isNone = q at c1 ⊢
  clear h1 z h2 h hs c0
  go_enter Try.func54, Try.ntmps54
  go_wp2
  go_ret
  exact ⟨rfl, rfl⟩

theorem RWrong_none (w : World) : Calls Try.prog 54 #[.pointer none] w fun e w' => e = .returned (.bool true) ∧ w = w' := by
  go_enter Try.func54, Try.ntmps54
  go_wp2
  go_ret
  exact ⟨rfl, rfl⟩

/-- Is all read, and all right? -/
def endB (st : Option (List UInt8)) : Bool := match st with | some bs => bs.isEmpty | none => false

theorem REnd_any (b : Nat) (a : Option Addr) (st : Option (List UInt8)) (w : World) (h : IsR w b a st) (hl : lft st ≤ 140737488355328) :
    Calls Try.prog 25 #[.pointer (some ⟨b, 0, none⟩)] w fun e w' => e = .returned (.bool (endB st)) ∧ w = w' := by
  cases st with
  | none =>
    have C1 := Lib.hid (RWrong_any b a none w h)
    go_enter Try.func25, Try.ntmps25
    go_wp2_with (go_at_call 54; refine C1.out.mono ?_; rintro e w' ⟨rfl, rfl⟩)
    go_ret
    exact ⟨rfl, rfl⟩
  | some bs =>
    have C1 := Lib.hid (RWrong_any b a (some bs) w h)
    have C2 := Lib.hid (RLeft_any b a (some bs) w h hl)
    have hlf : lft (some bs) = bs.length := rfl
    by_cases h0 : bs = []
    · subst h0
      go_enter Try.func25, Try.ntmps25
      go_wp2_with (first | (go_at_call 54; refine C1.out.mono ?_; rintro e w' ⟨rfl, rfl⟩) | (go_at_call 55; refine C2.out.mono ?_; rintro e w' ⟨rfl, rfl⟩))
      go_ret
      exact ⟨rfl, rfl⟩
    · have hp : 0 < bs.length := List.length_pos_iff.2 h0
      have he : endB (some bs) = false := by simp [endB, h0]
      rw [he]
      clear he hlf
      have hq : ((lft (some bs) : Int) == 0) = false := by simp [lft, h0]
      clear h0
      go_enter Try.func25, Try.ntmps25
      go_wp2_with (first | (go_at_call 54; refine C1.out.mono ?_; rintro e w' ⟨rfl, rfl⟩) | (go_at_call 55; refine C2.out.mono ?_; rintro e w' ⟨rfl, rfl⟩))
      go_ret
      exact ⟨rfl, rfl⟩

theorem REnd_none (w : World) : Calls Try.prog 25 #[.pointer none] w fun e w' => e = .returned (.bool false) ∧ w = w' := by
  go_enter Try.func25, Try.ntmps25
  go_wp2_with (go_at_call 54; refine (RWrong_none _).mono ?_; rintro e w' ⟨rfl, rfl⟩)
  go_ret
  exact ⟨rfl, rfl⟩

/-- The next so many bytes, and what is left behind them. -/
def tk (n : Int) (st : Option (List UInt8)) : List UInt8 × Option (List UInt8) :=
  match st with
  | none => ([], none)
  | some bs => if 0 ≤ n ∧ n ≤ bs.length then (bs.take n.toNat, some (bs.drop n.toNat)) else ([], none)

/-- Behind take: a piece of the reader's own bytes. -/
def TPost (w : World) (b : Nat) (a : Option Addr) (r : List UInt8) (st : Option (List UInt8)) (e : Ending) (w' : World) : Prop :=
  ∃ a2 c2, e = .returned (.slice a2 r.length c2) ∧ Bs w' a2 c2 r ∧ RPost w b a st w' ∧ ∀ k, ablk a2 = some k → ablk a = some k

set_option maxHeartbeats 400000 in
theorem take_bad (b : Nat) (a : Option Addr) (st : Option (List UInt8)) (n : Int) (w : World) (h : IsR w b a st) (hl : lft st ≤ 140737488355328) (hn : n < 0 ∨ (lft st : Int) < n) :
    Calls Try.prog 88 #[.pointer (some ⟨b, 0, none⟩), .int .i64 n] w (TPost w b a [] none) := by
  have C1 := Lib.hid (RLeft_any b a st w h hl)
  have C2 := Lib.hid (rfail_any b a st w h)
  rcases hn with hn | hn
  all_goals
    by_cases hneg : n < 0
    all_goals
      first
      | omega
      | (go_enter Try.func88, Try.ntmps88
         go_wp2_with (first | (go_at_call 55; refine C1.out.mono ?_; rintro e w' ⟨rfl, rfl⟩) | (go_at_call 76; refine C2.out.mono ?_; rintro e w1 ⟨rfl, h1⟩))
         go_ret
         exact ⟨none, 0, rfl, Bs.nothing _, h1, fun k e => by cases e⟩)

set_option maxHeartbeats 400000 in
theorem take_wrong (b : Nat) (a : Option Addr) (w : World) (h : IsR w b a none) :
    Calls Try.prog 88 #[.pointer (some ⟨b, 0, none⟩), .int .i64 0] w (TPost w b a [] none) := by
  have C1 := Lib.hid (RLeft_any b a none w h (by simp [lft]))
  have C2 := Lib.hid (RWrong_any b a none w h)
  have C3 := Lib.hid (RPost.refl h)
  go_enter Try.func88, Try.ntmps88
  go_wp2_with (first | (go_at_call 55; refine C1.out.mono ?_; rintro e w' ⟨rfl, rfl⟩) | (go_at_call 54; refine C2.out.mono ?_; rintro e w1 ⟨rfl, rfl⟩))
  go_ret
  exact ⟨none, 0, rfl, Bs.nothing _, C3.out, fun k e => by cases e⟩

set_option maxHeartbeats 400000 in
theorem take_ok (b : Nat) (a : Option Addr) (bs : List UInt8) (n : Nat) (w : World) (h : IsR w b a (some bs)) (hl : bs.length ≤ 140737488355328) (hn : n ≤ bs.length) :
    Calls Try.prog 88 #[.pointer (some ⟨b, 0, none⟩), .int .i64 n] w (TPost w b a (bs.take n) (some (bs.drop n))) := by
  have C1 := Lib.hid (RLeft_any b a (some bs) w h hl)
  have C2 := Lib.hid (RWrong_any b a (some bs) w h)
  have C3 := Lib.hid (RPost.refl h)
  obtain ⟨c, h1, h2⟩ := h.at_
  obtain ⟨c0, c1, z⟩ := pair_cell h1
  simp only [Option.getD_some] at c0 h2
  have hc := h2.room
  have z0 := z 0
  have H1 := Lib.hid h1
  have hlf : ¬ (lft (some bs) : Int) < n := by simp [lft]; omega
  have HB := Lib.hid h.blk
  clear h1 z h c1
  go_enter Try.func88, Try.ntmps88
  go_wp2_with (first | (go_at_call 55; refine C1.out.mono ?_; rintro e w' ⟨rfl, rfl⟩) | (go_at_call 54; refine C2.out.mono ?_; rintro e w1 ⟨rfl, rfl⟩))
  go_ret
  have P := pair_set0 (x := .slice (cutA a c n 1) (bs.length - n) (c - n)) H1.out
  have F := Fr.setCell (S := fun k => k = b) (Fr.refl _ w) (p := ⟨b, 0, none⟩) (fun _ => rfl) (.slice (cutA a c n 1) (bs.length - n) (c - n))
  have T := Bs.pair (fun n e => by cases e) (fun n e => by cases e) H1.out F (h2.take n)
  have D := Bs.pair (fun n e => by cases e) (fun n e => by cases e) H1.out F (h2.drop n hn)
  refine ⟨a, c, by rw [List.length_take, Nat.min_eq_left hn]; rfl, T, ⟨cutA a c n 1, ⟨⟨c - n, ?_, D⟩, fun k hk => F.lt (HB.out k (by rwa [cutA_blk] at hk))⟩, F, fun k hk => by rwa [cutA_blk] at hk⟩, fun k => id⟩
  simp only [Option.getD_some, List.length_drop]
  exact P

theorem take_any (b : Nat) (a : Option Addr) (st : Option (List UInt8)) (n : Int) (w : World) (h : IsR w b a st) (hl : lft st ≤ 140737488355328) :
    Calls Try.prog 88 #[.pointer (some ⟨b, 0, none⟩), .int .i64 n] w (TPost w b a (tk n st).1 (tk n st).2) := by
  cases st with
  | none =>
    by_cases h0 : n = 0
    · subst h0
      exact take_wrong b a w h
    · exact take_bad b a none n w h hl (by simp [lft]; omega)
  | some bs =>
    by_cases h0 : 0 ≤ n ∧ n ≤ bs.length
    · obtain ⟨n, rfl⟩ := Int.eq_ofNat_of_zero_le h0.1
      simp only [tk, if_pos h0, Int.toNat_natCast]
      exact take_ok b a bs n w h hl (by omega)
    · simp only [tk, if_neg h0]
      exact take_bad b a (some bs) n w h hl (by simp [lft]; omega)

theorem take_none (n : Int) (w : World) :
    Calls Try.prog 88 #[.pointer none, .int .i64 n] w fun e w' => e = .returned (.slice none 0 0) ∧ w = w' := by
  by_cases hneg : n < 0
  · go_enter Try.func88, Try.ntmps88
    go_wp2_with (first | (go_at_call 55; refine (RLeft_none _).mono ?_; rintro e w' ⟨rfl, rfl⟩) | (go_at_call 76; refine (rfail_none _).mono ?_; rintro e w1 ⟨rfl, rfl⟩))
    go_ret
    exact ⟨rfl, rfl⟩
  by_cases hpos : 0 < n
  · go_enter Try.func88, Try.ntmps88
    go_wp2_with (first | (go_at_call 55; refine (RLeft_none _).mono ?_; rintro e w' ⟨rfl, rfl⟩) | (go_at_call 76; refine (rfail_none _).mono ?_; rintro e w1 ⟨rfl, rfl⟩))
    go_ret
    exact ⟨rfl, rfl⟩
  · obtain rfl : n = 0 := by omega
    go_enter Try.func88, Try.ntmps88
    go_wp2_with (first | (go_at_call 55; refine (RLeft_none _).mono ?_; rintro e w' ⟨rfl, rfl⟩) | (go_at_call 54; refine (RWrong_none _).mono ?_; rintro e w1 ⟨rfl, rfl⟩))
    go_ret
    exact ⟨rfl, rfl⟩

/-- Bytes in new memory, behind a reader's call. -/
def RBytes (w : World) (b : Nat) (a : Option Addr) (r : List UInt8) (st : Option (List UInt8)) (e : Ending) (w' : World) : Prop :=
  ∃ a2 c2, e = .returned (.slice a2 r.length c2) ∧ Bs w' a2 c2 r ∧ RPost w b a st w' ∧ ∀ k, ablk a2 = some k → w.heap.size ≤ k

theorem tk_len (n : Int) (st : Option (List UInt8)) : (tk n st).1.length ≤ lft st ∧ lft (tk n st).2 ≤ lft st := by
  unfold tk lft
  cases st with
  | none => simp
  | some bs =>
    dsimp only
    split
    · simp; omega
    · simp

set_option maxHeartbeats 400000 in
theorem RRaw_any (b : Nat) (a : Option Addr) (st : Option (List UInt8)) (n : Int) (w : World) (h : IsR w b a st) (hl : lft st ≤ 140737488355328) :
    Calls Try.prog 77 #[.pointer (some ⟨b, 0, none⟩), .int .i64 n] w (RBytes w b a (tk n st).1 (tk n st).2) := by
  have C1 := Lib.hid (take_any b a st n w h hl)
  have ht := (tk_len n st).1
  generalize tk n st = q at *
  obtain ⟨r, st'⟩ := q
  dsimp only at *
  go_enter Try.func77, Try.ntmps77
  go_wp2_with (first | (go_at_call 88; refine C1.out.mono ?_; rintro e w1 ⟨a2, c2, rfl, hb, hp, _⟩; have HP := Lib.hid hp) | (go_at_call 44; refine (Clone_any _ _ _ _ _ hb rfl (by omega)).mono ?_; rintro e w2 ⟨a3, c3, rfl, hb3, hf3, hk3⟩))
  go_ret
  obtain ⟨a', hr, hf, ha⟩ := hp
  exact ⟨a3, c3, rfl, hb3, ⟨a', hr.fr hf3 (fun f => f) (fun _ _ f => f), hf.trans' hf3.of0, ha⟩, fun k hk => Nat.le_trans hf.size (hk3 k hk).1⟩

theorem RRaw_none (n : Int) (w : World) :
    Calls Try.prog 77 #[.pointer none, .int .i64 n] w (NewBytes [] w) := by
  go_enter Try.func77, Try.ntmps77
  go_wp2_with (first | (go_at_call 88; refine (take_none _ _).mono ?_; rintro e w' ⟨rfl, rfl⟩) | (go_at_call 44; refine (Clone_any _ _ _ [] _ (Bs.nothing _) rfl (by simp)).mono ?_; rintro e w2 ⟨a3, c3, rfl, hb3, hf3, hk3⟩))
  go_ret
  exact ⟨a3, c3, rfl, hb3, hf3, hk3⟩

/-- A new reader. -/
def NewReader (bs : List UInt8) (w : World) (e : Ending) (w' : World) : Prop :=
  ∃ b a, e = .returned (.pointer (some ⟨b, 0, none⟩)) ∧ IsR w' b a (some bs) ∧ Fr F0 w w' ∧ w.heap.size ≤ b ∧ b < w'.heap.size ∧ ∀ k, ablk a = some k → w.heap.size ≤ k ∧ k < w'.heap.size

set_option maxHeartbeats 400000 in
theorem Read_any (a : Option Addr) (n c : Nat) (bs : List UInt8) (w : World) (h : Bs w a c bs) (hn : n = bs.length) (hl : bs.length ≤ 140737488355328) :
    Calls Try.prog 23 #[.slice a n c] w (NewReader bs w) := by
  have HN := Lib.hid hn
  clear hn
  go_enter Try.func23, Try.ntmps23
  go_wp2_with (go_at_call 44; refine (Clone_any _ _ _ _ _ h HN.out hl).mono ?_; rintro e w1 ⟨a', c', rfl, h1, h2, h3⟩; have H3 := Lib.hid h3; clear h3)
  go_ret
  have hn : (w1.alloc (Obj.cells #[.slice a' bs.length c', .bool false] 102)).heap[w1.heap.size]? = some (.cells #[.slice a' bs.length c', .bool false] 102 (0, 0)) := heap_alloc_new _ _
  refine ⟨w1.heap.size, a', rfl, ⟨⟨c', hn, Sl.fr h1 ((Fr.refl F0 _).alloc _) fun _ _ => id⟩, fun k hk => by have := H3.out k hk; simp; omega⟩, h2.alloc _, h2.size, by simp, fun k hk => ?_⟩
  have := H3.out k hk
  simp
  omega
end Go.Proofs.Ythoaalnjmklclaa

/- Stage 1, octet: slices.Backward at bytes; the reader's Get. -/
namespace Go.Proofs.Ythoaalnjmklclaa
set_option linter.unusedVariables false
set_option linter.unusedSimpArgs false
open Go.RowKit Go.Shelf

attribute [local go_sem] Oper.semAt_some

/-! ### Get -/

/-- The number of bytes, the lowest first. -/
def ofLE : List UInt8 → Nat
  | [] => 0
  | c :: r => c.toNat + 256 * ofLE r

/-- What has been gathered. -/
def acc (l : List (Nat × UInt8)) : Nat := l.foldl (fun s p => s * 256 + p.2.toNat) 0

theorem acc_snoc (l : List (Nat × UInt8)) (x : Nat × UInt8) : acc (l ++ [x]) = acc l * 256 + x.2.toNat := by simp [acc]

theorem acc_lt (l : List (Nat × UInt8)) : acc l < 256 ^ l.length := by
  obtain ⟨r, rfl⟩ : ∃ r, l = List.reverse r := ⟨l.reverse, by simp⟩
  induction r with
  | nil => simp [acc]
  | cons x r ih =>
    rw [List.reverse_cons, acc_snoc]
    have := x.2.toNat_lt
    simp only [List.length_append, List.length_cons, List.length_nil, Nat.pow_succ] at *
    omega

theorem acc_map (l : List (Nat × UInt8)) : acc l = (l.map (·.2)).foldl (fun s c => s * 256 + c.toNat) 0 := by simp [acc, List.foldl_map]

theorem ofLE_rev (bs : List UInt8) : bs.reverse.foldl (fun s c => s * 256 + c.toNat) 0 = ofLE bs := by
  induction bs with
  | nil => rfl
  | cons c r ih => simp only [List.reverse_cons, List.foldl_append, ih, List.foldl_cons, List.foldl_nil, ofLE]; omega

theorem acc_all (bs : List UInt8) : acc (upto (bk bs) bs.length) = ofLE bs := by rw [acc_map, bk_all, ofLE_rev]

/-- A number of so many bytes, and what is left behind it. -/
def gt (n : Int) (st : Option (List UInt8)) : Nat × Option (List UInt8) := if szB n then (ofLE (tk n st).1, (tk n st).2) else (0, none)

theorem Get_bad (b : Nat) (a : Option Addr) (st : Option (List UInt8)) (n : Int) (w : World) (h : IsR w b a st) (hn : szB n = false) :
    Calls Try.prog 74 #[.pointer (some ⟨b, 0, none⟩), .int .i64 n] w fun e w' => e = .returned (.int .u64 0) ∧ RPost w b a none w' := by
  go_enter Try.func74, Try.ntmps74
  go_wp2_with (first | (go_at_call 80; refine (isSize_any _ _).mono ?_; rintro e w' ⟨rfl, rfl⟩) | (go_at_call 76; refine (rfail_any b a st _ h).mono ?_; rintro e w1 ⟨rfl, h1⟩))
  go_ret
  exact ⟨rfl, h1⟩

theorem or_byte (A X : Nat) (hA : A < 72057594037927936) (hX : X < 2 ^ 8) : bits .or .u64 ((A : Int) * 256) (X : Int) = ((A * 256 + X : Nat) : Int) := by
  have h := u64_or_nat (A * 256) X (by omega) (by omega)
  have e : A * 256 = A <<< 8 := by rw [Nat.shiftLeft_eq]
  rw [show ((A : Int) * 256) = ((A * 256 : Nat) : Int) from by omega, h, e, ← Nat.shiftLeft_add_eq_or_of_lt hX]

set_option maxRecDepth 100000 in
set_option maxHeartbeats 2000000 in
theorem Get_ok (b : Nat) (a : Option Addr) (st : Option (List UInt8)) (n : Int) (w : World) (h : IsR w b a st) (hl : lft st ≤ 140737488355328) (hn : szB n = true) :
    Calls Try.prog 74 #[.pointer (some ⟨b, 0, none⟩), .int .i64 n] w fun e w' => e = .returned (.int .u64 (ofLE (tk n st).1)) ∧ RPost w b a (tk n st).2 w' := by
  have hn8 : (tk n st).1.length ≤ 8 := by
    have : n ≤ 8 := by
      simp only [szB, Bool.or_eq_true, beq_iff_eq] at hn
      omega
    unfold tk
    cases st with
    | none => simp
    | some bs =>
      dsimp only
      split
      · simp; omega
      · simp
  have hA : IsR (w.alloc (.cells #[.int .u64 0] 33)) b a st := h.fr ((Fr.refl F0 w).alloc _) (fun f => f) fun _ _ f => f
  have C1 := Lib.hid (take_any b a st n _ hA hl)
  generalize tk n st = q at *
  obtain ⟨r, st'⟩ := q
  dsimp only at *
  refine callsIn_wide (n := 6) |>.1 ?_
  refine callsIn_of_wp_marks Try.func74 rfl trivial ?_ rfl
  simp only [Try.ntmps74, List.size_toArray, List.length_cons, List.length_nil, Nat.reduceAdd, Nat.reduceSub, Array.replicate_succ, Array.replicate_zero, List.push_toArray, List.append_toArray, List.nil_append, List.cons_append]
  gi_wp2_with (first | (refine ⟨trivial, ?_⟩; gi_at_call 80; refine (callsIn_wide.2 (isSize_any _ _)).mono ?_; rintro e w' ⟨rfl, rfl⟩) | (refine ⟨trivial, ?_⟩; gi_at_call 88; refine (callsIn_wide.2 C1.out).mono ?_; rintro e w1 ⟨a2, c2, rfl, hb, hp, ha2⟩; have HP := Lib.hid hp; have HA := Lib.hid ha2; clear hp ha2) | (refine ⟨trivial, ?_⟩; gi_at_call 87; refine (Backward_in _ _ trivial rfl _ _ _ _).mono ?_; rintro e w2 ⟨rfl, rfl⟩))
  obtain ⟨a', hr, hf, ha⟩ := HP.out
  have hsz : w.heap.size < w1.heap.size := hf.lt (by simp)
  have hne : w.heap.size ≠ b := by have := h.lt; omega
  have cx : w1.heap[w.heap.size]? = some (.cells #[.int .u64 0] 33 (0, 0)) := hf.keeps hne (heap_alloc_new w (.cells #[.int .u64 0] 33))
  have cx' : (w1.alloc (.cells #[.slice a2 r.length c2] 22)).heap[w.heap.size]? = some (.cells #[.int .u64 0] 33 (0, 0)) := (Below.heap_alloc w1 _ _ hsz).trans cx
  have hbL : (w1.alloc (.cells #[.slice a2 r.length c2] 22)).cell? ⟨w1.heap.size, 0, none⟩ = some (.slice a2 r.length c2) := cell_of_one (heap_alloc_new w1 _)
  have hb' : Bs (w1.alloc (.cells #[.slice a2 r.length c2] 22)) a2 c2 r := Sl.fr hb ((Fr.refl F0 _).alloc _) fun _ _ f => f
  refine wpIn_rangeFunc_ownG rfl (by omega) (gf := 90) (lb := #[.pointer (some ⟨w1.heap.size, 0, none⟩)]) rfl trivial (enters_of Try.func90 (by kernel_rfl) rfl)
    (Backward_stops Fence.wide 5 trivial rfl (by omega) w1.heap.size w.heap.size a2 c2 r (by omega) _ (by omega) hbL hb' (fun k _ hk => by have := h.blk k (HA.out k hk); omega))
    (fun h k => Kc.trans h k) (fun W l o o' _ h hc _ => Kc.putObj W l o o' h hc) (Below.refl _ _) (fun _ => rfl)
    (fun pre W => (W.cell? ⟨w.heap.size, 0, none⟩ = some (.int .u64 (acc pre)) ∧ W.frozen? ⟨w.heap.size, 0, none⟩ = false) ∧ Below w.heap.size (w1.alloc (.cells #[.slice a2 r.length c2] 22)) W)
    (fun _ _ _ => False)
    (OwnFrom.and (Own.from (fun s A B row hs hg hr => ⟨cell_kept hs.1 hg hr, (frozen_kept hs.1 hg hr).trans hs.2⟩) _) (ownFrom_below (by simp; omega) (by simp; omega)))
    (fun _ _ _ _ _ hs _ _ => hs)
    ⟨⟨cell_of_one cx', free_of_one cx'⟩, Below.refl _ _⟩
    (fun x => { tmps := #[.pointer (some ⟨b, 0, none⟩), .int .i64 n, undef, undef, .int .u64 0, .pointer (some ⟨w.heap.size, 0, none⟩), undef, .int .u8 (x.2.toNat : Int), .int .i64 n, .bool true,
      .bool false, undef, undef, .pointer (some ⟨b, 0, none⟩), .int .i64 n, .slice a2 r.length c2, .func (.func 90) #[] #[.pointer (some ⟨w1.heap.size, 0, none⟩)], .int .i64 (x.1 : Int), .int .u8 (x.2.toNat : Int), undef, undef, undef, undef, undef, undef], defers := [] }) ?assign ?body ?done ?stop
  case assign =>
    intro l x W K hK
    gi_wp2
    exact hK
  case body =>
    rintro l pre x W ⟨⟨hc, hfz⟩, hB⟩ hlen
    have hacc := acc_lt pre
    have hpow : 256 ^ pre.length ≤ 256 ^ 7 := Nat.pow_le_pow_right (by omega) (by omega)
    have hlt : acc pre < 72057594037927936 := by omega
    have hx8 := x.2.toNat_lt
    have hsn := Lib.hid (acc_snoc pre x)
    clear hacc hpow
    generalize hA' : acc pre = A at *
    generalize hx' : x.2.toNat = X at *
    have hor := or_byte A X hlt hx8
    gi_wp2
    exact ⟨(KeepsOthers.setCell _ _ _).from _, Kc.setCell _ _ _, ⟨by rw [hsn.out]; exact World.cell?_setCell_same' _ _ _ (by rw [hc]; rfl), by rw [World.frozen?_setCell]; exact hfz⟩, hB.setCell (p := ⟨w.heap.size, 0, none⟩) (Nat.le_refl _) _⟩
  case done =>
    rintro D ys W hD rfl ⟨⟨hc, _⟩, hB⟩ hK
    gi_wp2
    refine ⟨by simp, .inl ⟨_, _, rfl, run_takeDeferred hK, ?_⟩⟩
    have hBD : Below w.heap.size (w1.alloc (.cells #[.slice a2 r.length c2] 22)) (W.putObj D (.deferred none)) := hB.trans (belowK_b (w := w1.alloc (.cells #[.slice a2 r.length c2] 22)) (by simp; omega) W D _ _ (by simp at hD; simp; omega) hK rfl rfl)
    have hlb := h.lt
    have hak := h.blk
    have hR : IsR (w1.alloc (.cells #[.slice a2 r.length c2] 22)) b a' st' := hr.fr ((Fr.refl F0 w1).alloc _) (fun f => f) fun _ _ f => f
    exact ⟨_, results_tmp rfl _ _ _, by rw [← acc_all]; rfl, a', hR.below hBD hlb fun k hk => hak k (ha k hk),
      ((((Fr.refl F0 w).alloc _).of0.trans' hf).alloc _).trans (Fr.of_below' hBD) (fun i hi hk => by omega), ha⟩
  case stop =>
    rintro D c pre W _ _ h _
    exact h.elim
end Go.Proofs.Ythoaalnjmklclaa

/- Stage 1, octet: the reader's Count and Counted, and a reader that isn't there. -/
namespace Go.Proofs.Ythoaalnjmklclaa
set_option linter.unusedVariables false
set_option linter.unusedSimpArgs false
open Go.RowKit Go.Shelf

attribute [local go_sem] Oper.semAt_some

theorem ofLE_lt (bs : List UInt8) : ofLE bs < 256 ^ bs.length := by
  induction bs with
  | nil => simp [ofLE]
  | cons c r ih =>
    have := c.toNat_lt
    simp only [ofLE, List.length_cons, Nat.pow_succ]
    omega

theorem szB_le {n : Int} (h : szB n = true) : 1 ≤ n ∧ n ≤ 8 := by
  simp only [szB, Bool.or_eq_true, beq_iff_eq] at h
  omega

theorem tk_le (n : Int) (st : Option (List UInt8)) (h : 0 ≤ n) : ((tk n st).1.length : Int) ≤ n := by
  unfold tk
  cases st with
  | none => simpa using h
  | some bs =>
    dsimp only
    split
    · simp; omega
    · simpa using h

theorem gt_lt (n : Int) (st : Option (List UInt8)) : (gt n st).1 < 18446744073709551616 := by
  unfold gt
  split
  · rename_i h
    have h8 := szB_le h
    have h1 := tk_le n st (by omega)
    have h2 := ofLE_lt (tk n st).1
    have h3 : 256 ^ (tk n st).1.length ≤ 256 ^ 8 := Nat.pow_le_pow_right (by omega) (by omega)
    omega
  · omega

theorem gt_lft (n : Int) (st : Option (List UInt8)) : lft (gt n st).2 ≤ lft st := by
  unfold gt
  split
  · exact (tk_len n st).2
  · simp [lft]

theorem Get_any (b : Nat) (a : Option Addr) (st : Option (List UInt8)) (n : Int) (w : World) (h : IsR w b a st) (hl : lft st ≤ 140737488355328) :
    Calls Try.prog 74 #[.pointer (some ⟨b, 0, none⟩), .int .i64 n] w fun e w' => e = .returned (.int .u64 (gt n st).1) ∧ RPost w b a (gt n st).2 w' := by
  cases hn : szB n with
  | true => simp only [gt, hn, if_true]; exact Get_ok b a st n w h hl hn
  | false => simp only [gt, hn]; exact Get_bad b a st n w h hn

theorem CountSize_n (x s : Nat) (w : World) (h : csz x = s) : Calls Try.prog 75 #[.int .u64 x] w fun e w' => e = .returned (.int .i64 s) ∧ w = w' := by
  subst h
  exact CountSize_any x w

/-- A count's size, the count, and what is left behind it: as the program reads them. -/
def rcp (st : Option (List UInt8)) : Nat × Nat × Option (List UInt8) :=
  if (gt 1 st).1 = 253 then (3, gt 2 (gt 1 st).2) else if (gt 1 st).1 = 254 then (5, gt 4 (gt 1 st).2) else if (gt 1 st).1 = 255 then (9, gt 8 (gt 1 st).2) else (1, gt 1 st)

/-- A count, and what is left behind it: as the program reads it. -/
def rc (most : Nat) (st : Option (List UInt8)) : Nat × Option (List UInt8) :=
  if csz (rcp st).2.1 = (rcp st).1 ∧ (rcp st).2.1 ≤ most then (rcp st).2 else (0, none)

set_option maxRecDepth 100000 in
set_option maxHeartbeats 4000000 in
theorem RCount_any (b : Nat) (a : Option Addr) (st : Option (List UInt8)) (most : Nat) (w : World) (h : IsR w b a st) (hl : lft st ≤ 140737488355328) (hm : most < 18446744073709551616) :
    Calls Try.prog 51 #[.pointer (some ⟨b, 0, none⟩), .int .u64 most] w fun e w' => e = .returned (.int .u64 (rc most st).1) ∧ RPost w b a (rc most st).2 w' := by
  have C1 := Get_any b a st 1 w h hl
  have L1 := gt_lft 1 st
  have X1 := gt_lt 1 st
  -- the second number, wherever it comes from
  have second : ∀ k : Int, ∀ w1, RPost w b a (gt 1 st).2 w1 → Calls Try.prog 74 #[.pointer (some ⟨b, 0, none⟩), .int .i64 k] w1 fun e w' => e = .returned (.int .u64 (gt k (gt 1 st).2).1) ∧ RPost w b a (gt k (gt 1 st).2).2 w' := by
    rintro k w1 ⟨a1, h1, hf1, ha1⟩
    refine (Get_any b a1 _ k w1 h1 (by omega)).mono ?_
    rintro e w2 ⟨rfl, h2⟩
    exact ⟨rfl, RPost.trans hf1 ha1 h2⟩
  have fail : ∀ st2 w1, RPost w b a st2 w1 → Calls Try.prog 76 #[.pointer (some ⟨b, 0, none⟩)] w1 fun e w' => e = .returned (.tuple #[]) ∧ RPost w b a none w' := by
    rintro st2 w1 ⟨a1, h1, hf1, ha1⟩
    refine (rfail_any b a1 _ w1 h1).mono ?_
    rintro e w2 ⟨rfl, h2⟩
    exact ⟨rfl, RPost.trans hf1 ha1 h2⟩
  have Y : ∀ k, (gt k (gt 1 st).2).1 < 18446744073709551616 := fun k => gt_lt k _
  unfold rc rcp
  generalize hg : gt 1 st = g at *
  obtain ⟨x, s1⟩ := g
  dsimp only at *
  clear hg L1 hl h
  have FA := Lib.hid fail
  have CC1 := Lib.hid C1
  have SE := Lib.hid second
  have YY := Lib.hid Y
  clear fail C1 second Y
  by_cases hx : x = 253 ∨ x = 254 ∨ x = 255
  · obtain ⟨k, size, hk⟩ : ∃ (k : Int) (size : Nat), (x = 253 ∧ k = 2 ∧ size = 3) ∨ (x = 254 ∧ k = 4 ∧ size = 5) ∨ (x = 255 ∧ k = 8 ∧ size = 9) := by
      rcases hx with h | h | h
      · exact ⟨2, 3, .inl ⟨h, rfl, rfl⟩⟩
      · exact ⟨4, 5, .inr (.inl ⟨h, rfl, rfl⟩)⟩
      · exact ⟨8, 9, .inr (.inr ⟨h, rfl, rfl⟩)⟩
    have hif : (if x = 253 then (3, gt 2 s1) else if x = 254 then (5, gt 4 s1) else if x = 255 then (9, gt 8 s1) else (1, x, s1)) = (size, gt k s1) := by
      rcases hk with ⟨rfl, rfl, rfl⟩ | ⟨rfl, rfl, rfl⟩ | ⟨rfl, rfl, rfl⟩ <;> rfl
    rw [hif]
    clear hif hx
    have hy := YY.out k
    have S2 := Lib.hid (SE.out k)
    clear SE YY
    generalize gt k s1 = q at *
    obtain ⟨y, s2⟩ := q
    dsimp only at *
    have key : ∀ c : Nat, csz y = c → (c < size ∨ size < c ∨ c = size ∧ (most < y ∨ y ≤ most)) →
        Calls Try.prog 51 #[.pointer (some ⟨b, 0, none⟩), .int .u64 most] w fun e w' => e = .returned (.int .u64 (if csz y = size ∧ y ≤ most then (y, s2) else (0, none)).1) ∧ RPost w b a (if csz y = size ∧ y ≤ most then (y, s2) else (0, none)).2 w' := by
      intro c hc hcase
      have HC := Lib.hid hc
      clear hc
      rcases hcase with h1 | h1 | ⟨rfl, h1 | h1⟩
      · rw [if_neg (by rw [HC.out]; omega)]
        dsimp only
        rcases hk with ⟨rfl, rfl, rfl⟩ | ⟨rfl, rfl, rfl⟩ | ⟨rfl, rfl, rfl⟩
        all_goals
          go_enter Try.func51, Try.ntmps51
          go_wp2_with fail
          refine CC1.out.mono ?_
          rintro e w1 ⟨rfl, p1⟩
          go_wp2_with fail
          refine (S2.out _ p1).mono ?_
          rintro e w2 ⟨rfl, p2⟩
          go_wp2_with (first | (go_at_call 75; refine (CountSize_n _ _ _ HC.out).mono ?_; rintro e w3 ⟨rfl, rfl⟩) | (go_at_call 76; refine (FA.out _ _ p2).mono ?_; rintro e w3 ⟨rfl, p3⟩))
          go_ret
          exact ⟨rfl, p3⟩
      · rw [if_neg (by rw [HC.out]; omega)]
        dsimp only
        rcases hk with ⟨rfl, rfl, rfl⟩ | ⟨rfl, rfl, rfl⟩ | ⟨rfl, rfl, rfl⟩
        all_goals
          go_enter Try.func51, Try.ntmps51
          go_wp2_with fail
          refine CC1.out.mono ?_
          rintro e w1 ⟨rfl, p1⟩
          go_wp2_with fail
          refine (S2.out _ p1).mono ?_
          rintro e w2 ⟨rfl, p2⟩
          go_wp2_with (first | (go_at_call 75; refine (CountSize_n _ _ _ HC.out).mono ?_; rintro e w3 ⟨rfl, rfl⟩) | (go_at_call 76; refine (FA.out _ _ p2).mono ?_; rintro e w3 ⟨rfl, p3⟩))
          go_ret
          exact ⟨rfl, p3⟩
      · rw [if_neg (by rw [HC.out]; omega)]
        dsimp only
        rcases hk with ⟨rfl, rfl, rfl⟩ | ⟨rfl, rfl, rfl⟩ | ⟨rfl, rfl, rfl⟩
        all_goals
          go_enter Try.func51, Try.ntmps51
          go_wp2_with fail
          refine CC1.out.mono ?_
          rintro e w1 ⟨rfl, p1⟩
          go_wp2_with fail
          refine (S2.out _ p1).mono ?_
          rintro e w2 ⟨rfl, p2⟩
          go_wp2_with (first | (go_at_call 75; refine (CountSize_n _ _ _ HC.out).mono ?_; rintro e w3 ⟨rfl, rfl⟩) | (go_at_call 76; refine (FA.out _ _ p2).mono ?_; rintro e w3 ⟨rfl, p3⟩))
          go_ret
          exact ⟨rfl, p3⟩
      · rw [if_pos ⟨HC.out, h1⟩]
        dsimp only
        rcases hk with ⟨rfl, rfl, rfl⟩ | ⟨rfl, rfl, rfl⟩ | ⟨rfl, rfl, rfl⟩
        all_goals
          go_enter Try.func51, Try.ntmps51
          go_wp2_with fail
          refine CC1.out.mono ?_
          rintro e w1 ⟨rfl, p1⟩
          go_wp2_with fail
          refine (S2.out _ p1).mono ?_
          rintro e w2 ⟨rfl, p2⟩
          go_wp2_with ((go_at_call 75; refine (CountSize_n _ _ _ HC.out).mono ?_; rintro e w3 ⟨rfl, rfl⟩))
          go_ret
          exact ⟨rfl, p2⟩
    refine key _ rfl ?_
    omega
  · have hif : (if x = 253 then (3, gt 2 s1) else if x = 254 then (5, gt 4 s1) else if x = 255 then (9, gt 8 s1) else (1, x, s1)) = (1, x, s1) := by
      rw [if_neg (by omega), if_neg (by omega), if_neg (by omega)]
    rw [hif]
    clear hif SE YY
    dsimp only
    have b1 : ((x : Int) == 253) = false := by simp; omega
    have b2 : ((x : Int) == 254) = false := by simp; omega
    have b3 : ((x : Int) == 255) = false := by simp; omega
    clear hx
    have key : ∀ c : Nat, csz x = c → (c < 1 ∨ 1 < c ∨ c = 1 ∧ (most < x ∨ x ≤ most)) →
        Calls Try.prog 51 #[.pointer (some ⟨b, 0, none⟩), .int .u64 most] w fun e w' => e = .returned (.int .u64 (if csz x = 1 ∧ x ≤ most then (x, s1) else (0, none)).1) ∧ RPost w b a (if csz x = 1 ∧ x ≤ most then (x, s1) else (0, none)).2 w' := by
      intro c hc hcase
      have HC := Lib.hid hc
      clear hc
      rcases hcase with h1 | h1 | ⟨rfl, h1 | h1⟩
      · have := csz_le x
        rw [HC.out] at this
        omega
      · rw [if_neg (by rw [HC.out]; omega)]
        dsimp only
        go_enter Try.func51, Try.ntmps51
        go_wp2_with fail
        refine CC1.out.mono ?_
        rintro e w1 ⟨rfl, p1⟩
        go_wp2_with (first | (go_at_call 75; refine (CountSize_n _ _ _ HC.out).mono ?_; rintro e w3 ⟨rfl, rfl⟩) | (go_at_call 76; refine (FA.out _ _ p1).mono ?_; rintro e w3 ⟨rfl, p3⟩))
        go_ret
        exact ⟨rfl, p3⟩
      · rw [if_neg (by rw [HC.out]; omega)]
        dsimp only
        go_enter Try.func51, Try.ntmps51
        go_wp2_with fail
        refine CC1.out.mono ?_
        rintro e w1 ⟨rfl, p1⟩
        go_wp2_with (first | (go_at_call 75; refine (CountSize_n _ _ _ HC.out).mono ?_; rintro e w3 ⟨rfl, rfl⟩) | (go_at_call 76; refine (FA.out _ _ p1).mono ?_; rintro e w3 ⟨rfl, p3⟩))
        go_ret
        exact ⟨rfl, p3⟩
      · rw [if_pos ⟨HC.out, h1⟩]
        dsimp only
        go_enter Try.func51, Try.ntmps51
        go_wp2_with fail
        refine CC1.out.mono ?_
        rintro e w1 ⟨rfl, p1⟩
        go_wp2_with ((go_at_call 75; refine (CountSize_n _ _ _ HC.out).mono ?_; rintro e w3 ⟨rfl, rfl⟩))
        go_ret
        exact ⟨rfl, p1⟩
    refine key _ rfl ?_
    have := csz_le x
    omega

theorem rc_le (most : Nat) (st : Option (List UInt8)) : (rc most st).1 ≤ most := by
  unfold rc
  split
  · rename_i h
    exact h.2
  · exact Nat.zero_le _

theorem rc_lft (most : Nat) (st : Option (List UInt8)) : lft (rc most st).2 ≤ lft st := by
  have h1 := gt_lft 1 st
  have h2 := fun k => gt_lft k (gt 1 st).2
  have h3 := h2 2
  have h4 := h2 4
  have h5 := h2 8
  have hp : lft (rcp st).2.2 ≤ lft st := by
    unfold rcp
    split
    · dsimp only; omega
    · split
      · dsimp only; omega
      · split
        · dsimp only; omega
        · dsimp only; omega
  unfold rc
  split
  · exact hp
  · simp [lft]

/-- Counted bytes, and what is left behind them. -/
def rctd (most : Int) (st : Option (List UInt8)) : List UInt8 × Option (List UInt8) :=
  if most < 0 then ([], none) else tk (rc most.toNat st).1 (rc most.toNat st).2

set_option maxHeartbeats 1000000 in
theorem RCounted_any (b : Nat) (a : Option Addr) (st : Option (List UInt8)) (most : Int) (w : World) (h : IsR w b a st) (hl : lft st ≤ 140737488355328) (hm : most < 9223372036854775808) :
    Calls Try.prog 78 #[.pointer (some ⟨b, 0, none⟩), .int .i64 most] w (RBytes w b a (rctd most st).1 (rctd most st).2) := by
  by_cases hneg : most < 0
  · simp only [rctd, if_pos hneg]
    go_enter Try.func78, Try.ntmps78
    go_wp2_with (go_at_call 76; refine (rfail_any b a st _ h).mono ?_; rintro e w1 ⟨rfl, p1⟩)
    go_ret
    exact ⟨none, 0, rfl, Bs.nothing _, p1, fun k e => by cases e⟩
  · simp only [rctd, if_neg hneg]
    obtain ⟨m, rfl⟩ := Int.eq_ofNat_of_zero_le (show 0 ≤ most by omega)
    rw [Int.toNat_natCast]
    have C1 := Lib.hid (RCount_any b a st m w h hl (by omega))
    have hc := rc_le m st
    have hl2 := rc_lft m st
    generalize rc m st = g at *
    obtain ⟨x, s1⟩ := g
    dsimp only at *
    go_enter Try.func78, Try.ntmps78
    go_wp2_with (go_at_call 51; refine C1.out.mono ?_; rintro e w1 ⟨rfl, p1⟩)
    obtain ⟨a1, h1, hf1, ha1⟩ := p1
    refine (RRaw_any b a1 s1 _ w1 h1 (by omega)).mono ?_
    rintro e w2 ⟨a2, c2, rfl, hb, hp, hk⟩
    have p3 := RPost.trans hf1 ha1 hp
    have hsz := hf1.size
    clear hp hf1 ha1 h1
    have HK := Lib.hid hk
    clear hk
    go_wp2
    go_ret
    exact ⟨a2, c2, rfl, hb, p3, fun k e => Nat.le_trans hsz (HK.out k e)⟩

/-! ### no reader -/

set_option maxRecDepth 100000 in
set_option maxHeartbeats 2000000 in
theorem Get_none (n : Int) (w : World) (hn : szB n = true) :
    Calls Try.prog 74 #[.pointer none, .int .i64 n] w fun e w' => e = .returned (.int .u64 0) ∧ Fr F0 w w' := by
  refine callsIn_wide (n := 6) |>.1 ?_
  refine callsIn_of_wp_marks Try.func74 rfl trivial ?_ rfl
  simp only [Try.ntmps74, List.size_toArray, List.length_cons, List.length_nil, Nat.reduceAdd, Nat.reduceSub, Array.replicate_succ, Array.replicate_zero, List.push_toArray, List.append_toArray, List.nil_append, List.cons_append]
  gi_wp2_with (first | (refine ⟨trivial, ?_⟩; gi_at_call 80; refine (callsIn_wide.2 (isSize_any _ _)).mono ?_; rintro e w' ⟨rfl, rfl⟩) | (refine ⟨trivial, ?_⟩; gi_at_call 88; refine (callsIn_wide.2 (take_none _ _)).mono ?_; rintro e w1 ⟨rfl, rfl⟩) | (refine ⟨trivial, ?_⟩; gi_at_call 87; refine (Backward_in _ _ trivial rfl _ _ _ _).mono ?_; rintro e w2 ⟨rfl, rfl⟩))
  have cx : (w.alloc (.cells #[.int .u64 0] 33)).heap[w.heap.size]? = some (.cells #[.int .u64 0] 33 (0, 0)) := heap_alloc_new w (.cells #[.int .u64 0] 33)
  have cx' : ((w.alloc (.cells #[.int .u64 0] 33)).alloc (.cells #[.slice none 0 0] 22)).heap[w.heap.size]? = some (.cells #[.int .u64 0] 33 (0, 0)) := (Below.heap_alloc _ _ _ (by simp)).trans cx
  have hbL : ((w.alloc (.cells #[.int .u64 0] 33)).alloc (.cells #[.slice none 0 0] 22)).cell? ⟨(w.alloc (.cells #[.int .u64 0] 33)).heap.size, 0, none⟩ = some (.slice none 0 0) := cell_of_one (heap_alloc_new _ _)
  rw [World.size_alloc] at hbL
  refine wpIn_rangeFunc_ownG rfl (by omega) (gf := 90) (lb := #[.pointer (some ⟨w.heap.size + 1, 0, none⟩)]) rfl trivial (enters_of Try.func90 (by kernel_rfl) rfl)
    (Backward_stops Fence.wide 5 trivial rfl (by omega) (w.heap.size + 1) w.heap.size none 0 [] (by simp) _ (by omega) hbL (Bs.nothing _) (fun k h _ => absurd rfl h))
    (fun h k => Kc.trans h k) (fun W l o o' _ h hc _ => Kc.putObj W l o o' h hc) (Below.refl _ _) (fun _ => rfl)
    (fun pre W => (W.cell? ⟨w.heap.size, 0, none⟩ = some (.int .u64 (acc pre)) ∧ W.frozen? ⟨w.heap.size, 0, none⟩ = false) ∧ Below w.heap.size ((w.alloc (.cells #[.int .u64 0] 33)).alloc (.cells #[.slice none 0 0] 22)) W)
    (fun _ _ _ => False)
    (OwnFrom.and (Own.from (fun s A B row hs hg hr => ⟨cell_kept hs.1 hg hr, (frozen_kept hs.1 hg hr).trans hs.2⟩) _) (ownFrom_below (by simp; omega) (by simp; omega)))
    (fun _ _ _ _ _ hs _ _ => hs)
    ⟨⟨cell_of_one cx', free_of_one cx'⟩, Below.refl _ _⟩
    (fun x => { tmps := #[.pointer none, .int .i64 n, undef, undef, .int .u64 0, .pointer (some ⟨w.heap.size, 0, none⟩), undef, .int .u8 (x.2.toNat : Int), .int .i64 n, .bool true,
      .bool false, undef, undef, .pointer none, .int .i64 n, .slice none 0 0, .func (.func 90) #[] #[.pointer (some ⟨w.heap.size + 1, 0, none⟩)], .int .i64 (x.1 : Int), .int .u8 (x.2.toNat : Int), undef, undef, undef, undef, undef, undef], defers := [] }) ?assign ?body ?done ?stop
  case assign =>
    intro l x W K hK
    gi_wp2
    exact hK
  case body =>
    rintro l pre x W _ hlen
    simp at hlen
  case done =>
    rintro D ys W hD rfl ⟨⟨hc, _⟩, hB⟩ hK
    gi_wp2
    refine ⟨by simp, .inl ⟨_, _, rfl, run_takeDeferred hK, ?_⟩⟩
    have hBD := hB.trans (belowK_b (w := (w.alloc (.cells #[.int .u64 0] 33)).alloc (.cells #[.slice none 0 0] 22)) (by simp; omega) W D _ (.deferred none) (by simp at hD; simp; omega) hK rfl rfl)
    exact ⟨_, results_tmp rfl _ _ _, rfl, (((Fr.refl F0 w).alloc _).alloc _).trans (Fr.of_below' hBD) (fun i hi hk => by omega)⟩
  case stop =>
    rintro D c pre W _ _ h _
    exact h.elim

set_option maxRecDepth 100000 in
theorem RCount_none (most : Nat) (w : World) (hm : most < 18446744073709551616) :
    Calls Try.prog 51 #[.pointer none, .int .u64 most] w fun e w' => e = .returned (.int .u64 0) ∧ Fr F0 w w' := by
  go_enter Try.func51, Try.ntmps51
  go_wp2_with (first | (go_at_call 74; refine (Get_none _ _ rfl).mono ?_; rintro e w1 ⟨rfl, p1⟩; have HP := Lib.hid p1; clear p1) | (go_at_call 75; refine (CountSize_at 0 1 _ (by omega) rfl).mono ?_; rintro e w3 ⟨rfl, rfl⟩))
  go_ret
  exact ⟨rfl, HP.out⟩

theorem RCounted_none (most : Nat) (w : World) (hm : most < 9223372036854775808) :
    Calls Try.prog 78 #[.pointer none, .int .i64 most] w (NewBytes [] w) := by
  go_enter Try.func78, Try.ntmps78
  go_wp2_with (go_at_call 51; refine (RCount_none most _ (by omega)).mono ?_; rintro e w1 ⟨rfl, p1⟩; have HP := Lib.hid p1; clear p1)
  refine (RRaw_none _ _).mono ?_
  rintro e w2 ⟨a2, c2, rfl, hb, hp, hk⟩
  have HQ := Lib.hid hp
  have HK := Lib.hid hk
  clear hp hk
  go_wp2
  go_ret
  exact ⟨a2, c2, rfl, hb, HP.out.trans' HQ.out, fun k e => ⟨Nat.le_trans HP.out.size (HK.out k e).1, (HK.out k e).2⟩⟩
end Go.Proofs.Ythoaalnjmklclaa

/- A reader of octet's that a function makes and reads off: what is left, step by step. -/
namespace Go.Proofs.Ythoaalnjmklclaa
set_option linter.unusedVariables false
set_option linter.unusedSimpArgs false
open Go.RowKit

/-- A reader that was made when memory had B blocks, with what is left (none: it is wrong). -/
def RI (B b : Nat) (st : Option (List UInt8)) (w : World) : Prop := ∃ a, IsR w b a st ∧ b < B ∧ ∀ k, ablk a = some k → k < B
theorem RI.of {bs : List UInt8} {w : World} {e : Ending} {w' : World} (h : NewReader bs w e w') : ∃ b, e = .returned (.pointer (some ⟨b, 0, none⟩)) ∧ RI w'.heap.size b (some bs) w' ∧ Fr F0 w w' ∧ w.heap.size ≤ b := by
  obtain ⟨b, a, rfl, hr, f, h1, h2, h3⟩ := h
  exact ⟨b, rfl, ⟨a, hr, h2, fun k hk => (h3 k hk).2⟩, f, h1⟩
theorem RI.fr {B b : Nat} {st : Option (List UInt8)} {S : Nat → Prop} {w w' : World} (h : RI B b st w) (f : Fr S w w') (hs : ∀ k, S k → B ≤ k) : RI B b st w' := by
  obtain ⟨a, hr, hb, ha⟩ := h
  exact ⟨a, hr.fr f (fun e => by have := hs b e; omega) fun k hk e => by have h1 := ha k hk; have h2 := hs k e; omega, hb, ha⟩
theorem RI.fr0 {B b : Nat} {st : Option (List UInt8)} {w w' : World} (h : RI B b st w) (f : Fr F0 w w') : RI B b st w' := h.fr f fun _ e => e.elim
theorem RI.step {B b : Nat} {a : Option Addr} {st : Option (List UInt8)} {w w' : World} (hb : b < B) (ha : ∀ k, ablk a = some k → k < B) (p : RPost w b a st w') : RI B b st w' ∧ Fr (fun k => k = b) w w' := by
  obtain ⟨a', hr, f, h⟩ := p
  exact ⟨⟨a', hr, hb, fun k hk => ha k (h k hk)⟩, f⟩
theorem RI.get {B b : Nat} {st : Option (List UInt8)} {w : World} (h : RI B b st w) (n : Int) (hn : szB n = true) (hl : lft st ≤ 1000000) :
    Calls Try.prog 74 #[.pointer (some ⟨b, 0, none⟩), .int .i64 n] w fun e w' => e = .returned (.int .u64 (ofLE (tk n st).1)) ∧ RI B b (tk n st).2 w' ∧ Fr (fun k => k = b) w w' := by
  obtain ⟨a, hr, hb, ha⟩ := h
  exact (Get_ok b a st n w hr (by omega) hn).mono fun e w' ⟨he, p⟩ => ⟨he, RI.step hb ha p⟩
theorem RI.raw {B b : Nat} {st : Option (List UInt8)} {w : World} (h : RI B b st w) (n : Int) (hl : lft st ≤ 1000000) :
    Calls Try.prog 77 #[.pointer (some ⟨b, 0, none⟩), .int .i64 n] w fun e w' => ∃ a2 c2, e = .returned (.slice a2 (tk n st).1.length c2) ∧ Bs w' a2 c2 (tk n st).1 ∧ RI B b (tk n st).2 w' ∧ Fr (fun k => k = b) w w' ∧ ∀ k, ablk a2 = some k → w.heap.size ≤ k := by
  obtain ⟨a, hr, hb, ha⟩ := h
  exact (RRaw_any b a st n w hr (by omega)).mono fun e w' ⟨a2, c2, he, hb2, p, hk⟩ => ⟨a2, c2, he, hb2, (RI.step hb ha p).1, (RI.step hb ha p).2, hk⟩
theorem RI.count {B b : Nat} {st : Option (List UInt8)} {w : World} (h : RI B b st w) (most : Nat) (hm : most < 18446744073709551616) (hl : lft st ≤ 1000000) :
    Calls Try.prog 51 #[.pointer (some ⟨b, 0, none⟩), .int .u64 (most : Int)] w fun e w' => e = .returned (.int .u64 (rc most st).1) ∧ RI B b (rc most st).2 w' ∧ Fr (fun k => k = b) w w' := by
  obtain ⟨a, hr, hb, ha⟩ := h
  exact (RCount_any b a st most w hr (by omega) hm).mono fun e w' ⟨he, p⟩ => ⟨he, RI.step hb ha p⟩
theorem RI.counted {B b : Nat} {st : Option (List UInt8)} {w : World} (h : RI B b st w) (most : Int) (hm : most < 9223372036854775808) (hl : lft st ≤ 1000000) :
    Calls Try.prog 78 #[.pointer (some ⟨b, 0, none⟩), .int .i64 most] w fun e w' => ∃ a2 c2, e = .returned (.slice a2 (rctd most st).1.length c2) ∧ Bs w' a2 c2 (rctd most st).1 ∧ RI B b (rctd most st).2 w' ∧ Fr (fun k => k = b) w w' ∧ ∀ k, ablk a2 = some k → w.heap.size ≤ k := by
  obtain ⟨a, hr, hb, ha⟩ := h
  exact (RCounted_any b a st most w hr (by omega) hm).mono fun e w' ⟨a2, c2, he, hb2, p, hk⟩ => ⟨a2, c2, he, hb2, (RI.step hb ha p).1, (RI.step hb ha p).2, hk⟩
theorem RI.ended {B b : Nat} {st : Option (List UInt8)} {w : World} (h : RI B b st w) (hl : lft st ≤ 1000000) :
    Calls Try.prog 25 #[.pointer (some ⟨b, 0, none⟩)] w fun e w' => e = .returned (.bool (decide (st = some []))) ∧ w = w' := by
  obtain ⟨a, hr, hb, ha⟩ := h
  refine (REnd_any b a st w hr (by omega)).mono fun e w' ⟨he, hw⟩ => ⟨?_, hw⟩
  rw [he]
  cases st with
  | none => rfl
  | some l => cases l <;> simp [endB]
theorem RI.left {B b : Nat} {st : Option (List UInt8)} {w : World} (h : RI B b st w) (hl : lft st ≤ 1000000) :
    Calls Try.prog 55 #[.pointer (some ⟨b, 0, none⟩)] w fun e w' => e = .returned (.int .i64 (lft st)) ∧ w = w' := by
  obtain ⟨a, hr, hb, ha⟩ := h
  exact RLeft_any b a st w hr (by omega)
theorem RI.wrong {B b : Nat} {st : Option (List UInt8)} {w : World} (h : RI B b st w) :
    Calls Try.prog 54 #[.pointer (some ⟨b, 0, none⟩)] w fun e w' => e = .returned (.bool st.isNone) ∧ w = w' := by
  obtain ⟨a, hr, hb, ha⟩ := h
  exact RWrong_any b a st w hr
theorem tk_ok {n : Nat} {bs : List UInt8} (h : n ≤ bs.length) : tk (n : Int) (some bs) = (bs.take n, some (bs.drop n)) := by
  unfold tk
  dsimp only
  rw [if_pos (by omega)]
  simp
end Go.Proofs.Ythoaalnjmklclaa

/- The document's answer for layer 1 (package pontageref01). -/
namespace Go.Proofs.Ythoaalnjmklclaa
set_option linter.unusedVariables false
set_option linter.unusedSimpArgs false
open Go.RowKit

theorem made_own (w : World) (cur : Array Value) (bs : List UInt8) (h : cur.toList = bs.map B8) (hl : bs.length ≤ maxLen) :
    OwnB (w.alloc (.cells cur 5)) (.slice (some ⟨w.heap.size, 0, none⟩) bs.length bs.length) bs := by
  have hc : cur.size = bs.length := by
    have := congrArg List.length h
    simpa using this
  refine ⟨by simp, .inr ⟨w.heap.size, bs.length, cur, rfl, Nat.zero_le _, heap_alloc_new w _, Nat.le_refl _, hl, by omega, ?_⟩⟩
  rw [h]
  exact List.take_of_length_le (by simp)

theorem NewBytes.mk' {w w' : World} {a : Option Addr} {n c : Nat} {bs : List UInt8} (h : OwnB w' (.slice a n c) bs) (hf : Fr F0 w w') (hb : ∀ k, ablk a = some k → w.heap.size ≤ k) : NewBytes bs w (.returned (.slice a n c)) w' := by
  obtain ⟨rfl, hs⟩ := h.bs
  exact ⟨a, c, rfl, hs, hf, fun k hk => ⟨hb k hk, h.lt k (by rw [ablk_own]; exact hk)⟩⟩

/-- A row of bytes of one's own, of new memory. -/
def NewOwn (bs : List UInt8) (w : World) (e : Ending) (w' : World) : Prop :=
  ∃ a c, e = .returned (.slice a bs.length c) ∧ OwnB w' (.slice a bs.length c) bs ∧ Fr F0 w w' ∧ ∀ k, ablk a = some k → w.heap.size ≤ k

theorem NewOwn.mk' {w w' : World} {a : Option Addr} {n c : Nat} {bs : List UInt8} (h : OwnB w' (.slice a n c) bs) (hf : Fr F0 w w') (hb : ∀ k, ablk a = some k → w.heap.size ≤ k) : NewOwn bs w (.returned (.slice a n c)) w' := by
  obtain ⟨rfl, hs⟩ := h.bs
  exact ⟨a, c, rfl, h, hf, hb⟩
theorem NewOwn.new {bs : List UInt8} {w : World} {e : Ending} {w' : World} (h : NewOwn bs w e w') : NewBytes bs w e w' := by
  obtain ⟨a, c, rfl, ho, hf, hb⟩ := h
  exact NewBytes.mk' ho hf hb

set_option maxHeartbeats 1000000 in
theorem refPut_own (x n : Nat) (w : World) (hx : x < 18446744073709551616) (hn : n ≤ 8) :
    Calls Try.prog 28 #[.int .u64 x, .int .i64 n] w (NewOwn (le n x) w) := by
  go_enter Try.func28, Try.ntmps28
  go_wp2
  go_loopw [0, 5, 6] (fun xv ov iv wr => ∃ (k X : Nat) (a : Option Addr) (m c : Nat), k ≤ n ∧ iv = .int .i64 k ∧ xv = .int .u64 X ∧ X < 2 ^ 64 ∧ Hid (X = x / 256 ^ k) ∧ ov = .slice a m c ∧ OwnB wr (.slice a m c) (le k x) ∧ Fr F0 w wr ∧ Hid (∀ i, ablk a = some i → w.heap.size ≤ i)) (fun _ _ iv _ => n - (intOf iv).toNat)
  case atStart => exact ⟨0, x, _, 0, 0, Nat.zero_le _, rfl, rfl, hx, by simp [Hid], rfl, made_own w #[] [] rfl (by simp), (Fr.refl _ _).alloc _, fun i e => by cases e; exact Nat.le_refl _⟩
  case round =>
    obtain ⟨k, X, a, m, c, hk, rfl, rfl, hX, HX, rfl, ho, hf, HA⟩ := hrel
    by_cases hkn : k < n
    · have A1 : Fr F0 wr (wr.alloc (.cells #[.int .u8 ((X : Int) % 256)] 5)) := (Fr.refl _ _).alloc _
      have O1 := ho.fr A1 fun _ _ => id
      have hll := le_length k x
      have E1 := Lib.hid hll
      clear hll
      go_wp2_with (at_builtin; refine wpList_appB rfl _ _ rfl (.slice a m c) _ rfl O1 _ _ _ _ rfl (one_byte wr X) rfl (by have := E1.out; simp; omega) ?_; intro a' c' w1 ho1 hg hb; have HB := Lib.hid hb; clear hb)
      have hf1 : Fr F0 w w1 := by
        refine (hf.trans' A1).grown hg fun i hi hl => ?_
        rw [ablk_own] at hi
        have := HA.out i hi
        omega
      have hs1 := hf.size
      simp only [List.length_append, List.length_cons, List.length_nil, Nat.zero_add] at ho1
      go_roundw
      case rel =>
        refine ⟨k + 1, X / 256, a', (le k x).length + 1, c', by omega, by go_num, by go_num, by omega, ?_, rfl, ?_, hf1, fun i hi => ?_⟩
        · rw [HX.out]; simp [Hid, Nat.div_div_eq_div_mul, Nat.pow_succ]
        · rw [le_snoc, ← HX.out]
          exact ho1
        · rcases HB.out i hi with h | h
          · rw [ablk_own] at h
            exact HA.out i h
          · simp at h
            omega
      case measure => simp [intOf]; omega
    · go_wp2
      go_ret
      have : k = n := by omega
      subst this
      exact NewOwn.mk' ho hf HA.out

theorem refPut_any (x n : Nat) (w : World) (hx : x < 18446744073709551616) (hn : n ≤ 8) :
    Calls Try.prog 28 #[.int .u64 x, .int .i64 n] w (NewBytes (le n x) w) := (refPut_own x n w hx hn).mono fun _ _ h => h.new

theorem refPut_at (x n : Int) (w : World) (h0 : 0 ≤ x) (hx : x < 18446744073709551616) (h1 : 0 ≤ n) (hn : n ≤ 8) :
    Calls Try.prog 28 #[.int .u64 x, .int .i64 n] w (NewBytes (le n.toNat x.toNat) w) := by
  obtain ⟨x, rfl⟩ := Int.eq_ofNat_of_zero_le h0
  obtain ⟨n, rfl⟩ := Int.eq_ofNat_of_zero_le h1
  exact refPut_any x n w (by omega) (by omega)

theorem ofLE_drop (bs : List UInt8) (k : Nat) (hk : k < bs.length) : ofLE (bs.drop k) = ofLE (bs.drop (k + 1)) * 256 + bs[k].toNat := by
  rw [List.drop_eq_getElem_cons hk, ofLE]
  omega

set_option maxHeartbeats 1000000 in
theorem refGet_any (a : Option Addr) (n c : Nat) (bs : List UInt8) (w : World) (h : Bs w a c bs) (hn : n = bs.length) (hl : bs.length ≤ 8) :
    Calls Try.prog 30 #[.slice a n c] w fun e w' => e = .returned (.int .u64 (ofLE bs)) ∧ w = w' := by
  subst hn
  go_enter Try.func30, Try.ntmps30
  go_wp2
  go_loop [3, 4] (fun xv iv => ∃ (k X : Nat), k ≤ bs.length ∧ iv = .int .i64 ((k : Int) - 1) ∧ xv = .int .u64 X ∧ X < 256 ^ (bs.length - k) ∧ Hid (X = ofLE (bs.drop k))) (fun _ iv => (intOf iv + 1).toNat)
  case atStart => exact ⟨bs.length, 0, Nat.le_refl _, rfl, rfl, by simp, by simp [Hid, ofLE]⟩
  case round =>
    obtain ⟨k, X, hk, rfl, rfl, hX, HX⟩ := hrel
    by_cases hk0 : 0 < k
    · obtain ⟨b, off, rfl, hc⟩ := h.at (k - 1) (by omega)
      have hlt : X < 72057594037927936 := by
        have : 256 ^ (bs.length - k) ≤ 256 ^ 7 := Nat.pow_le_pow_right (by omega) (by omega)
        omega
      have hx8 := (bs[k - 1]'(by omega)).toNat_lt
      have HS := Lib.hid (ofLE_drop bs (k - 1) (by omega))
      have HP : Hid (256 ^ (bs.length - (k - 1)) = 256 ^ (bs.length - k) * 256) := by
        rw [show bs.length - (k - 1) = (bs.length - k) + 1 from by omega, Nat.pow_succ]
        rfl
      have HX' := Lib.hid hX
      generalize hbv : (bs[k - 1]'(by omega)).toNat = v at *
      clear hX
      have hv : ((k : Int) - 1).toNat = k - 1 := by omega
      go_wp2
      have hX := HX'.out
      have hp := HP.out
      go_round
      case rel =>
        refine ⟨k - 1, X * 256 + v, by omega, by go_num, by go_num, by rw [hp]; omega, ?_⟩
        rw [Hid, HS.out, show k - 1 + 1 = k from by omega, HX.out]
      case measure => simp [intOf]; omega
    · go_wp2
      go_ret
      obtain rfl : k = 0 := by omega
      refine ⟨?_, rfl⟩
      rw [HX.out]
      rfl

/-- A literal of one byte. -/
theorem lit_own (w : World) (v : Int) (b : UInt8) (h : B8 b = .int .u8 v) : OwnB (w.alloc (.cells #[.int .u8 v] 5)) (.slice (some ⟨w.heap.size, 0, none⟩) 1 1) [b] :=
  made_own w #[.int .u8 v] [b] (by simp [h]) (by simp [maxLen])

set_option maxRecDepth 100000 in
set_option maxHeartbeats 1000000 in
theorem refCount_any (x : Nat) (w : World) (hx : x < 18446744073709551616) :
    Calls Try.prog 29 #[.int .u64 x] w (NewBytes (cnt x) w) := by
  by_cases c1 : x < 253
  · have e : cnt x = [UInt8.ofNat (x % 256)] := by simp [cnt, c1, le]
    rw [e]
    have O := lit_own w ((x : Int) % 256) (UInt8.ofNat (x % 256)) (byte_val x)
    have h1 : (x : Int) % 256 = x := by omega
    rw [h1] at O
    clear e h1
    go_enter Try.func29, Try.ntmps29
    go_wp2
    go_ret
    exact NewBytes.mk' (bs := [UInt8.ofNat (x % 256)]) O ((Fr.refl _ _).alloc _) fun i e => by cases e; exact Nat.le_refl _
  -- a first byte, and a number behind it
  have big : ∀ (f : Int) (b : UInt8) (k : Nat), B8 b = .int .u8 f → k ≤ 8 → cnt x = b :: le k x → Calls Try.prog 28 #[.int .u64 x, .int .i64 k] (w.alloc (.cells #[.int .u8 f] 5))
      (fun e w1 => ∃ a c, e = .returned (.slice a (le k x).length c) ∧ Bs w1 a c (le k x) ∧ Fr F0 w w1 ∧ OwnB w1 (.slice (some ⟨w.heap.size, 0, none⟩) 1 1) [b] ∧ w.heap.size < w1.heap.size) := by
    intro f b k hb hk _
    refine (refPut_any x k _ hx hk).mono ?_
    rintro e w1 ⟨a, c, rfl, h1, hf, _⟩
    exact ⟨a, c, rfl, h1, ((Fr.refl F0 w).alloc _).trans' hf, (lit_own w f b hb).fr hf fun _ _ f => f, hf.lt (by simp)⟩
  have fin : ∀ (w1 w2 : World) (b : UInt8) (k : Nat) (a' : Option Addr) (n c' : Nat), cnt x = b :: le k x → Fr F0 w w1 → w.heap.size < w1.heap.size → OwnB w2 (.slice a' n c') ([b] ++ le k x) → w1.grownBy w2 (some w.heap.size) →
      (∀ i, ablk a' = some i → some w.heap.size = some i ∨ w1.heap.size ≤ i) → NewBytes (cnt x) w (.returned (.slice a' n c')) w2 := by
    intro w1 w2 b k a' n c' e hf hs ho hg hb
    rw [e]
    refine NewBytes.mk' ho (hf.grown hg fun i hi hl => ?_) fun i hi => ?_
    · cases hi; omega
    · rcases hb i hi with h | h
      · cases h; exact Nat.le_refl _
      · omega
  by_cases c2 : x < 65536
  · have e : cnt x = 253 :: le 2 x := by simp [cnt, c1, c2, le]
    have B := Lib.hid (big 253 253 2 rfl (by omega) e)
    have FI := Lib.hid (fun w1 w2 => fin w1 w2 253 2)
    have E := Lib.hid e
    have d1 : ¬ (x : Int) < 253 := by omega
    have d2 : (x : Int) < 65536 := by omega
    clear c1 c2
    clear big fin e
    go_enter Try.func29, Try.ntmps29
    go_wp2_with (first | (go_at_call 28; refine B.out.mono ?_; rintro e w1 ⟨a, c, rfl, h1, hf, ho, hs⟩) | (at_builtin; refine wpList_appB rfl _ _ rfl (.slice (some ⟨w.heap.size, 0, none⟩) 1 1) _ rfl ho _ _ _ _ rfl h1 rfl (by simp [le_length]) ?_; intro a' c' w2 ho2 hg hb; have HF := Lib.hid (FI.out w1 w2 _ _ c' E.out hf hs ho2 hg hb); clear hb hg ho2))
    go_ret
    exact HF.out
  by_cases c3 : x < 4294967296
  · have e : cnt x = 254 :: le 4 x := by simp [cnt, c1, c2, c3, le]
    have B := Lib.hid (big 254 254 4 rfl (by omega) e)
    have FI := Lib.hid (fun w1 w2 => fin w1 w2 254 4)
    have E := Lib.hid e
    have d1 : ¬ (x : Int) < 253 := by omega
    have d2 : ¬ (x : Int) < 65536 := by omega
    have d3 : (x : Int) < 4294967296 := by omega
    clear c1 c2 c3
    clear big fin e
    go_enter Try.func29, Try.ntmps29
    go_wp2_with (first | (go_at_call 28; refine B.out.mono ?_; rintro e w1 ⟨a, c, rfl, h1, hf, ho, hs⟩) | (at_builtin; refine wpList_appB rfl _ _ rfl (.slice (some ⟨w.heap.size, 0, none⟩) 1 1) _ rfl ho _ _ _ _ rfl h1 rfl (by simp [le_length]) ?_; intro a' c' w2 ho2 hg hb; have HF := Lib.hid (FI.out w1 w2 _ _ c' E.out hf hs ho2 hg hb); clear hb hg ho2))
    go_ret
    exact HF.out
  · have e : cnt x = 255 :: le 8 x := by simp [cnt, c1, c2, c3, le]
    have B := Lib.hid (big 255 255 8 rfl (by omega) e)
    have FI := Lib.hid (fun w1 w2 => fin w1 w2 255 8)
    have E := Lib.hid e
    have d1 : ¬ (x : Int) < 253 := by omega
    have d2 : ¬ (x : Int) < 65536 := by omega
    have d3 : ¬ (x : Int) < 4294967296 := by omega
    clear c1 c2 c3
    clear big fin e
    go_enter Try.func29, Try.ntmps29
    go_wp2_with (first | (go_at_call 28; refine B.out.mono ?_; rintro e w1 ⟨a, c, rfl, h1, hf, ho, hs⟩) | (at_builtin; refine wpList_appB rfl _ _ rfl (.slice (some ⟨w.heap.size, 0, none⟩) 1 1) _ rfl ho _ _ _ _ rfl h1 rfl (by simp [le_length]) ?_; intro a' c' w2 ho2 hg hb; have HF := Lib.hid (FI.out w1 w2 _ _ c' E.out hf hs ho2 hg hb); clear hb hg ho2))
    go_ret
    exact HF.out

theorem refCount_at (x : Int) (w : World) (h0 : 0 ≤ x) (hx : x < 18446744073709551616) :
    Calls Try.prog 29 #[.int .u64 x] w (NewBytes (cnt x.toNat) w) := by
  obtain ⟨x, rfl⟩ := Int.eq_ofNat_of_zero_le h0
  exact refCount_any x w (by omega)

end Go.Proofs.Ythoaalnjmklclaa

/- The document's answer for layer 1: reading a count. -/
namespace Go.Proofs.Ythoaalnjmklclaa
set_option linter.unusedVariables false
set_option linter.unusedSimpArgs false
open Go.RowKit

/-- The count with which bytes begin, and in how many; or none. -/
def rrc (bs : List UInt8) : Nat × Nat × Bool :=
  match bs with
  | [] => (0, 0, false)
  | c :: r =>
    if c.toNat < 253 then (c.toNat, 1, csz c.toNat == 1)
    else
      let size := 1 + 2 * 2 ^ (c.toNat - 253)
      if bs.length < size then (0, 0, false)
      else (ofLE (r.take (size - 1)), size, csz (ofLE (r.take (size - 1))) == size)

set_option maxRecDepth 100000 in
set_option maxHeartbeats 2000000 in
theorem refReadCount_any (a : Option Addr) (n c : Nat) (bs : List UInt8) (w : World) (h : Bs w a c bs) (hn : n = bs.length) :
    Calls Try.prog 58 #[.slice a n c] w fun e w' => e = .returned (.tuple #[.int .u64 (rrc bs).1, .int .i64 (rrc bs).2.1, .bool (rrc bs).2.2]) ∧ Fr F0 w w' := by
  subst hn
  cases bs with
  | nil =>
    go_enter Try.func58, Try.ntmps58
    go_wp2
    go_ret3
    exact ⟨rfl, Fr.refl _ _⟩
  | cons x r =>
    obtain ⟨b, off, rfl, hc⟩ := h.at 0 (by simp)
    simp only [List.getElem_cons_zero, Nat.add_zero] at hc
    have hx8 := x.toNat_lt
    have hb1 : ((r.length : Int) + 1 == 0) = false := by simp; omega
    have hmx := h.most
    have hrm := h.room
    unfold maxLen at hmx
    simp only [List.length_cons] at hrm
    by_cases h1 : x.toNat < 253
    · have e : rrc (x :: r) = (x.toNat, 1, csz x.toNat == 1) := by simp [rrc, h1]
      rw [e]
      dsimp only
      have C := Lib.hid (refCount_any x.toNat w (by omega))
      have L := Lib.hid (cnt_length x.toNat)
      generalize x.toNat = X at *
      clear e h
      go_enter Try.func58, Try.ntmps58
      go_wp2_with (go_at_call 29; refine C.out.mono ?_; rintro e w1 ⟨a', c', rfl, _, hf, _⟩)
      go_ret3
      refine ⟨?_, hf⟩
      rw [L.out]
      have : ((csz X : Int) == 1) = (csz X == 1) := by
        rw [Bool.eq_iff_iff]
        simp
        omega
      rw [this]
      rfl
    · have hlenr : (x :: r).length = r.length + 1 := rfl
      obtain ⟨s, m, hs⟩ : ∃ s m : Nat, (x.toNat = 253 ∧ s = 3 ∧ m = 2) ∨ (x.toNat = 254 ∧ s = 5 ∧ m = 4) ∨ (x.toNat = 255 ∧ s = 9 ∧ m = 8) := by
        rcases (show x.toNat = 253 ∨ x.toNat = 254 ∨ x.toNat = 255 from by omega) with h | h | h
        · exact ⟨3, 2, .inl ⟨h, rfl, rfl⟩⟩
        · exact ⟨5, 4, .inr (.inl ⟨h, rfl, rfl⟩)⟩
        · exact ⟨9, 8, .inr (.inr ⟨h, rfl, rfl⟩)⟩
      have hm : s - 1 = m := by omega
      have e : rrc (x :: r) = if r.length + 1 < s then (0, 0, false) else (ofLE (r.take (s - 1)), s, csz (ofLE (r.take (s - 1))) == s) := by
        rcases hs with ⟨h, rfl, _⟩ | ⟨h, rfl, _⟩ | ⟨h, rfl, _⟩ <;> simp [rrc, h]
      have hB : Bs w (cutA (some ⟨b, off, none⟩) c 1 1) (c - 1) (r.take (s - 1)) := (h.drop 1 (by simp)).take (s - 1)
      rw [hm] at e hB
      have hb2 : ((r.length : Int) + 1 == 0) = false := by simp; omega
      generalize x.toNat = X at *
      clear h h1 hlenr hm
      by_cases hlt : r.length + 1 < s
      · rw [e, if_pos hlt]
        clear e hB
        rcases hs with ⟨rfl, rfl, rfl⟩ | ⟨rfl, rfl, rfl⟩ | ⟨rfl, rfl, rfl⟩
        all_goals
          go_enter Try.func58, Try.ntmps58
          go_wp2
          go_ret3
          exact ⟨rfl, Fr.refl _ _⟩
      · rw [e, if_neg hlt]
        dsimp only
        have hcut : cutA (some ⟨b, off, none⟩) c 1 1 = some ⟨b, off + 1, none⟩ := by
          unfold cutA
          rw [if_neg (by omega)]
          simp [Addr.add_lit]
        rw [hcut] at hB
        clear hcut
        have hl1 : (r.take m).length = m := by simp; omega
        have G := Lib.hid (refGet_any _ m _ _ w hB hl1.symm (by omega))
        have hY : ofLE (r.take m) < 18446744073709551616 := by
          have h2 := ofLE_lt (r.take m)
          have h3 : 256 ^ (r.take m).length ≤ 256 ^ 8 := Nat.pow_le_pow_right (by omega) (by omega)
          omega
        clear hB hl1 e
        generalize ofLE (r.take m) = Y at *
        have C := Lib.hid (refCount_any Y w hY)
        have L := Lib.hid (cnt_length Y)
        have D : ∀ s : Nat, ((csz Y : Int) == (s : Int)) = (csz Y == s) := by
          intro s
          rw [Bool.eq_iff_iff]
          simp
          exact Int.natCast_inj
        have HD := Lib.hid D
        clear D
        rcases hs with ⟨rfl, rfl, rfl⟩ | ⟨rfl, rfl, rfl⟩ | ⟨rfl, rfl, rfl⟩
        all_goals
          go_enter Try.func58, Try.ntmps58
          go_wp2_with (first | (go_at_call 30; refine G.out.mono ?_; rintro e w' ⟨rfl, rfl⟩) | (go_at_call 29; refine C.out.mono ?_; rintro e w1 ⟨a', c', rfl, _, hf, _⟩))
          go_ret3
          refine ⟨?_, hf⟩
          rw [L.out, ← HD.out]
          rfl

/-- A count, and what is left behind it: as the document reads it. -/
def mcnt (most : Nat) (st : Option (List UInt8)) : Nat × Option (List UInt8) :=
  match st with
  | none => (0, none)
  | some bs => if (rrc bs).2.2 = true ∧ (rrc bs).1 ≤ most then ((rrc bs).1, some (bs.drop (rrc bs).2.1)) else (0, none)

theorem tk_some (k : Nat) (bs : List UInt8) (h : k ≤ bs.length) : tk k (some bs) = (bs.take k, some (bs.drop k)) := by
  simp [tk, h]

theorem tk_short (k : Nat) (bs : List UInt8) (h : bs.length < k) : tk k (some bs) = ([], none) := by
  simp only [tk]
  rw [if_neg (by omega)]

theorem gt_some (k : Nat) (bs : List UInt8) (hk : szB k = true) : gt k (some bs) = if k ≤ bs.length then (ofLE (bs.take k), some (bs.drop k)) else (0, none) := by
  split
  · rename_i h; simp [gt, hk, tk_some k bs h]
  · rename_i h; simp [gt, hk, tk_short k bs (by omega), ofLE]

theorem csz_0 : csz 0 = 1 := rfl

/-- The program reads a count as the document does. -/
theorem rc_mcnt (most : Nat) (st : Option (List UInt8)) : rc most st = mcnt most st := by
  cases st with
  | none => simp [rc, rcp, gt, tk, mcnt, szB, ofLE, csz]
  | some bs =>
    cases bs with
    | nil => simp [rc, rcp, gt, tk, mcnt, szB, ofLE, csz, rrc]
    | cons x r =>
      have hx8 := x.toNat_lt
      have g1 : gt 1 (some (x :: r)) = (x.toNat, some r) := by
        have := gt_some 1 (x :: r) rfl
        rw [if_pos (by simp)] at this
        simpa [ofLE] using this
      have g2 := gt_some 2 r rfl
      have g4 := gt_some 4 r rfl
      have g8 := gt_some 8 r rfl
      by_cases h1 : x.toNat < 253
      · have e1 : rcp (some (x :: r)) = (1, x.toNat, some r) := by
          unfold rcp
          rw [g1]
          dsimp only
          rw [if_neg (by omega), if_neg (by omega), if_neg (by omega)]
        have e2 : rrc (x :: r) = (x.toNat, 1, csz x.toNat == 1) := by simp [rrc, h1]
        simp only [rc, e1, mcnt, e2, beq_iff_eq, List.drop_succ_cons, List.drop_zero]
      · obtain ⟨s, m, hm, hs⟩ : ∃ s m : Nat, s = m + 1 ∧ ((x.toNat = 253 ∧ s = 3 ∧ m = 2) ∨ (x.toNat = 254 ∧ s = 5 ∧ m = 4) ∨ (x.toNat = 255 ∧ s = 9 ∧ m = 8)) := by
          rcases (show x.toNat = 253 ∨ x.toNat = 254 ∨ x.toNat = 255 from by omega) with h | h | h
          · exact ⟨3, 2, rfl, .inl ⟨h, rfl, rfl⟩⟩
          · exact ⟨5, 4, rfl, .inr (.inl ⟨h, rfl, rfl⟩)⟩
          · exact ⟨9, 8, rfl, .inr (.inr ⟨h, rfl, rfl⟩)⟩
        have e1 : rcp (some (x :: r)) = (s, if m ≤ r.length then (ofLE (r.take m), some (r.drop m)) else (0, none)) := by
          unfold rcp
          rw [g1]
          dsimp only
          rcases hs with ⟨h, rfl, rfl⟩ | ⟨h, rfl, rfl⟩ | ⟨h, rfl, rfl⟩
          · rw [if_pos h, ← g2]; rfl
          · rw [if_neg (by omega), if_pos h, ← g4]; rfl
          · rw [if_neg (by omega), if_neg (by omega), if_pos h, ← g8]; rfl
        have e2 : rrc (x :: r) = if r.length + 1 < s then (0, 0, false) else (ofLE (r.take m), s, csz (ofLE (r.take m)) == s) := by
          rcases hs with ⟨h, rfl, rfl⟩ | ⟨h, rfl, rfl⟩ | ⟨h, rfl, rfl⟩ <;> simp [rrc, h]
        subst hm
        by_cases hl : m ≤ r.length
        · rw [if_pos hl] at e1
          rw [if_neg (by omega)] at e2
          simp only [rc, e1, mcnt, e2, beq_iff_eq, List.drop_succ_cons]
        · rw [if_neg hl] at e1
          rw [if_pos (by omega)] at e2
          simp only [rc, e1, mcnt, e2, csz_0]
          rw [if_neg (by omega)]
          simp
end Go.Proofs.Ythoaalnjmklclaa
