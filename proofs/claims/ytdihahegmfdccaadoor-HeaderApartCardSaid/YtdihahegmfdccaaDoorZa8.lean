import Derived.Test.YtdihahegmfdccaaDoorZa2
import Derived.RangeFuncNested
import Derived.RangeFuncBound
import Derived.RangeFuncCalls
import Derived.RangeFuncLeaves
import Derived.Shelf.Abstract
import Derived.Shelf.RegionOpen
import Derived.OwnWalkIn
import Derived.TacticsInMore
import Derived.LoopNIn
import Derived.LoopIn
import Derived.RangeFuncBox
import Derived.Laws.BitsAllLaws
/- Stage 1, octet: the reader, but for Get. -/
namespace Go.Proofs.YtdihahegmfdccaaDoor
set_option linter.unusedVariables false
set_option linter.unusedSimpArgs false
open Go.RowKit

/-- The address of what is left of a slice behind its first l elements. -/
def cutA (a : Option Addr) (cap l s : Nat) : Option Addr := if cap = l then a else a.map (·.add (l * s))

@[go_sem high] theorem run_slice_from_g {P : Program} (w : World) (t : TypeId) (ht : P.underlying t = some (.slice (P.elem t))) (a : Option Addr) (len cap : Nat) (kl : IntKind) (l : Int) (h0 : 0 ≤ l) (h1 : l ≤ len) :
    (Instr.slice t (.slice a len cap) (some (.int kl l)) none none).run P w = ((sizeOf (P.elem t)).run P w).andThen fun s w => .ok (.slice (cutA a cap l.toNat s) (len - l.toNat) (cap - l.toNat)) w := by
  rw [run_slice_l w t a len cap ht kl l h0 h1]
  rfl

@[go_sem high] theorem run_slice_to_g {P : Program} (w : World) (t : TypeId) (ht : P.underlying t = some (.slice (P.elem t))) (a : Option Addr) (len cap : Nat) (kh : IntKind) (h : Int) (h0 : 0 ≤ h) (h2 : h ≤ cap) :
    (Instr.slice t (.slice a len cap) none (some (.int kh h)) none).run P w = ((sizeOf (P.elem t)).run P w).andThen fun _ w => .ok (.slice a h.toNat cap) w := by
  rw [run_slice_h w t a len cap ht kh h h0 h2]
  congr 1
  funext s w
  simp only [sliced, Nat.zero_mul, Nat.sub_zero]
  congr 2
  split
  · rfl
  · cases a <;> simp [Addr.add]

@[go_sem high] theorem run_slice_fromto_g {P : Program} (w : World) (t : TypeId) (ht : P.underlying t = some (.slice (P.elem t))) (a : Option Addr) (len cap : Nat) (kl kh : IntKind) (l h : Int) (h0 : 0 ≤ l) (h1 : l ≤ h) (h2 : h ≤ cap) :
    (Instr.slice t (.slice a len cap) (some (.int kl l)) (some (.int kh h)) none).run P w = ((sizeOf (P.elem t)).run P w).andThen fun s w => .ok (.slice (cutA a cap l.toNat s) (h.toNat - l.toNat) (cap - l.toNat)) w := by
  rw [run_slice_lh w t a len cap ht kl kh l h h0 h1 h2]
  rfl

theorem Bs.take {w : World} {a : Option Addr} {c : Nat} {bs : List UInt8} (h : Bs w a c bs) (n : Nat) : Bs w a c (bs.take n) := by
  refine ⟨by simp, by have := h.room; simp; omega, h.most, h.nil, fun j u hj => ?_⟩
  rw [List.map_take, List.getElem?_take] at hj
  split at hj
  · exact h.cell j u hj
  · cases hj

theorem Bs.drop {w : World} {a : Option Addr} {c : Nat} {bs : List UInt8} (h : Bs w a c bs) (n : Nat) (_hn : n ≤ bs.length) : Bs w (cutA a c n 1) (c - n) (bs.drop n) := by
  have hr := h.room
  have hm := h.most
  refine ⟨by simp, by simp; omega, by omega, fun e => ?_, fun j u hj => ?_⟩
  · have : a = none := by
      unfold cutA at e
      split at e
      · exact e
      · simpa using e
    have := h.nil this
    omega
  · rw [List.map_drop, List.getElem?_drop] at hj
    obtain ⟨b, off, rfl, hc⟩ := h.cell (n + j) u hj
    have hlt : n + j < bs.length := by
      have := (List.getElem?_eq_some_iff.1 hj).1
      simpa using this
    refine ⟨b, off + n, ?_, by rw [Nat.add_assoc]; exact hc⟩
    unfold cutA
    rw [if_neg (by omega)]
    simp [Addr.add_lit]

theorem cutA_blk (a : Option Addr) (c l s : Nat) : ablk (cutA a c l s) = ablk a := by
  unfold cutA
  split
  · rfl
  · cases a with
    | none => rfl
    | some a => simp [ablk, Addr.add]; split <;> rfl

/-- A reader at block b: what is left, or none: it is wrong. -/
structure IsR (w : World) (b : Nat) (a : Option Addr) (st : Option (List UInt8)) : Prop where
  at_ : ∃ c, w.heap[b]? = some (.cells #[.slice a (st.getD []).length c, .bool st.isNone] 89 (0, 0)) ∧ Bs w a c (st.getD [])
  blk : ∀ k, ablk a = some k → k < w.heap.size

theorem IsR.lt {w : World} {b : Nat} {a : Option Addr} {st : Option (List UInt8)} (h : IsR w b a st) : b < w.heap.size := by
  obtain ⟨c, h, _⟩ := h.at_
  exact (Array.getElem?_eq_some_iff.1 h).1

theorem IsR.fr {S : Nat → Prop} {w w' : World} {b : Nat} {a : Option Addr} {st : Option (List UInt8)} (h : IsR w b a st) (hf : Fr S w w') (hb : ¬ S b) (ha : ∀ k, ablk a = some k → ¬ S k) : IsR w' b a st := by
  obtain ⟨c, h1, h2⟩ := h.at_
  exact ⟨⟨c, hf.keeps hb h1, Sl.fr h2 hf ha⟩, fun k hk => hf.lt (h.blk k hk)⟩

theorem IsR.below {w w' : World} {b n : Nat} {a : Option Addr} {st : Option (List UInt8)} (h : IsR w b a st) (hf : Below n w w') (hb : b < n) (ha : ∀ k, ablk a = some k → k < n) : IsR w' b a st := by
  obtain ⟨c, h1, h2⟩ := h.at_
  exact ⟨⟨c, (hf.block b hb).trans h1, h2.kept fun k hk _ => hf.block k (ha k hk)⟩, fun k hk => Nat.lt_of_lt_of_le (h.blk k hk) hf.size⟩

/-- The cells of a pair. -/
theorem pair_cell {w : World} {b : Nat} {u v : Value} {t : TypeId} (h : w.heap[b]? = some (.cells #[u, v] t (0, 0))) : w.cell? ⟨b, 0, none⟩ = some u ∧ w.cell? ⟨b, 1, none⟩ = some v ∧ (∀ o, w.frozen? ⟨b, o, none⟩ = false) := by
  simp [World.cell?, World.frozen?, h]

theorem pair_set0 {w : World} {b : Nat} {u v x : Value} {t : TypeId} (h : w.heap[b]? = some (.cells #[u, v] t (0, 0))) : (w.setCell ⟨b, 0, none⟩ x).heap[b]? = some (.cells #[x, v] t (0, 0)) := by
  simp only [World.setCell, Array.getElem?_modify, if_true, h, Option.map_some]
  rfl

theorem pair_set1 {w : World} {b : Nat} {u v x : Value} {t : TypeId} (h : w.heap[b]? = some (.cells #[u, v] t (0, 0))) : (w.setCell ⟨b, 1, none⟩ x).heap[b]? = some (.cells #[u, x] t (0, 0)) := by
  simp only [World.setCell, Array.getElem?_modify, if_true, h, Option.map_some]
  rfl

/-- What lies in no pair of a slice and a bool is not changed by a store there. -/
theorem Bs.pair {w w' : World} {b : Nat} {u v : Value} {t : TypeId} (hu : ∀ n, u ≠ .int .u8 n) (hv : ∀ n, v ≠ .int .u8 n) (h : w.heap[b]? = some (.cells #[u, v] t (0, 0))) (hf : Fr (fun k => k = b) w w') {a : Option Addr} {c : Nat} {bs : List UInt8} (hb : Bs w a c bs) : Bs w' a c bs := by
  refine ⟨hb.len, hb.room, hb.most, hb.nil, fun j x hj => ?_⟩
  obtain ⟨b', off, rfl, hc⟩ := hb.cell j x hj
  have hx : ∃ n, x = .int .u8 n := by
    simp only [List.getElem?_map, Option.map_eq_some_iff] at hj
    obtain ⟨y, _, rfl⟩ := hj
    exact ⟨_, rfl⟩
  obtain ⟨n, rfl⟩ := hx
  by_cases e : b' = b
  · subst e
    simp only [World.cell?, h, Option.isSome_none, Bool.false_eq_true, if_false] at hc
    match h' : off + j, hc with
    | 0, hc => simp at hc; exact absurd hc (hu n)
    | 1, hc => simp at hc; exact absurd hc (hv n)
    | k + 2, hc => simp at hc
  · exact ⟨b', off, rfl, hf.cell (p := ⟨b', off + j, none⟩) e hc⟩

/-- Behind a call of a reader's. -/
def RPost (w : World) (b : Nat) (a : Option Addr) (st : Option (List UInt8)) (w' : World) : Prop :=
  ∃ a', IsR w' b a' st ∧ Fr (fun k => k = b) w w' ∧ ∀ k, ablk a' = some k → ablk a = some k

theorem RPost.refl {w : World} {b : Nat} {a : Option Addr} {st : Option (List UInt8)} (h : IsR w b a st) : RPost w b a st w := ⟨a, h, Fr.refl _ _, fun _ => id⟩

theorem RPost.trans {w w1 w2 : World} {b : Nat} {a a1 : Option Addr} {st2 : Option (List UInt8)} (hf : Fr (fun k => k = b) w w1) (ha : ∀ k, ablk a1 = some k → ablk a = some k)
    (h2 : RPost w1 b a1 st2 w2) : RPost w b a st2 w2 := by
  obtain ⟨a2, h, hf2, ha2⟩ := h2
  exact ⟨a2, h, hf.trans' hf2, fun k hk => ha k (ha2 k hk)⟩

set_option maxHeartbeats 400000 in
theorem rfail_any (b : Nat) (a : Option Addr) (st : Option (List UInt8)) (w : World) (h : IsR w b a st) :
    Calls Tryd.prog 65 #[.pointer (some ⟨b, 0, none⟩)] w fun e w' => e = .returned (.tuple #[]) ∧ RPost w b a none w' := by
  obtain ⟨c, h1, h2⟩ := h.at_
  obtain ⟨c0, c1, z⟩ := pair_cell h1
  have z0 := z 0
  have z1 := z 1
  have p0 := pair_set0 (x := .slice none 0 0) h1
  have P := Lib.hid (pair_set1 (x := .bool true) p0)
  clear h1 z p0 h2 h
  go_enter Tryd.func65, Tryd.ntmps65
  go_wp2
  go_end0
  exact ⟨rfl, none, ⟨⟨0, P.out, Bs.nothing _⟩, fun k e => by cases e⟩, (Fr.setCell (S := fun k => k = b) (Fr.refl _ _) (p := ⟨b, 0, none⟩) (fun _ => rfl) _).setCell (p := ⟨b, 1, none⟩) (fun _ => rfl) _, fun k e => by cases e⟩

theorem rfail_none (w : World) : Calls Tryd.prog 65 #[.pointer none] w fun e w' => e = .returned (.tuple #[]) ∧ w = w' := by
  go_enter Tryd.func65, Tryd.ntmps65
  go_wp2
  exact bodyPost_ret (results_none rfl _ _ _) rfl ⟨rfl, rfl⟩

/-- How much is left, as a number. -/
def lft (st : Option (List UInt8)) : Nat := (st.getD []).length

theorem RLeft_any (b : Nat) (a : Option Addr) (st : Option (List UInt8)) (w : World) (h : IsR w b a st) (_hl : lft st ≤ 140737488355328) :
    Calls Tryd.prog 81 #[.pointer (some ⟨b, 0, none⟩)] w fun e w' => e = .returned (.int .i64 (lft st)) ∧ w = w' := by
  obtain ⟨c, h1, h2⟩ := h.at_
  obtain ⟨c0, c1, z⟩ := pair_cell h1
  change w.cell? _ = some (.slice a (lft st) c) at c0
  clear h1 z h2 h c1
  go_enter Tryd.func81, Tryd.ntmps81
  go_wp2
  go_ret
  exact ⟨rfl, rfl⟩

theorem RLeft_none (w : World) : Calls Tryd.prog 81 #[.pointer none] w fun e w' => e = .returned (.int .i64 0) ∧ w = w' := by
  go_enter Tryd.func81, Tryd.ntmps81
  go_wp2
  go_ret
  exact ⟨rfl, rfl⟩

theorem RWrong_any (b : Nat) (a : Option Addr) (st : Option (List UInt8)) (w : World) (h : IsR w b a st) :
    Calls Tryd.prog 82 #[.pointer (some ⟨b, 0, none⟩)] w fun e w' => e = .returned (.bool st.isNone) ∧ w = w' := by
  obtain ⟨c, h1, h2⟩ := h.at_
  obtain ⟨c0, c1, z⟩ := pair_cell h1
  generalize hs : st.isNone = q at c1 ⊢
  clear h1 z h2 h hs c0
  go_enter Tryd.func82, Tryd.ntmps82
  go_wp2
  go_ret
  exact ⟨rfl, rfl⟩

theorem RWrong_none (w : World) : Calls Tryd.prog 82 #[.pointer none] w fun e w' => e = .returned (.bool true) ∧ w = w' := by
  go_enter Tryd.func82, Tryd.ntmps82
  go_wp2
  go_ret
  exact ⟨rfl, rfl⟩

/-- Is all read, and all right? -/
def endB (st : Option (List UInt8)) : Bool := match st with | some bs => bs.isEmpty | none => false



/-- The next so many bytes, and what is left behind them. -/
def tk (n : Int) (st : Option (List UInt8)) : List UInt8 × Option (List UInt8) :=
  match st with
  | none => ([], none)
  | some bs => if 0 ≤ n ∧ n ≤ bs.length then (bs.take n.toNat, some (bs.drop n.toNat)) else ([], none)

/-- Behind take: a piece of the reader's own bytes. -/
def TPost (w : World) (b : Nat) (a : Option Addr) (r : List UInt8) (st : Option (List UInt8)) (e : Ending) (w' : World) : Prop :=
  ∃ a2 c2, e = .returned (.slice a2 r.length c2) ∧ Bs w' a2 c2 r ∧ RPost w b a st w' ∧ ∀ k, ablk a2 = some k → ablk a = some k

set_option maxHeartbeats 400000 in
theorem take_bad (b : Nat) (a : Option Addr) (st : Option (List UInt8)) (n : Int) (w : World) (h : IsR w b a st) (hl : lft st ≤ 140737488355328) (hn : n < 0 ∨ (lft st : Int) < n) :
    Calls Tryd.prog 66 #[.pointer (some ⟨b, 0, none⟩), .int .i64 n] w (TPost w b a [] none) := by
  have C1 := Lib.hid (RLeft_any b a st w h hl)
  have C2 := Lib.hid (rfail_any b a st w h)
  rcases hn with hn | hn
  all_goals
    by_cases hneg : n < 0
    all_goals
      first
      | omega
      | (go_enter Tryd.func66, Tryd.ntmps66
         go_wp2_with (first | (go_at_call 81; refine C1.out.mono ?_; rintro e w' ⟨rfl, rfl⟩) | (go_at_call 65; refine C2.out.mono ?_; rintro e w1 ⟨rfl, h1⟩))
         go_ret
         exact ⟨none, 0, rfl, Bs.nothing _, h1, fun k e => by cases e⟩)

set_option maxHeartbeats 400000 in
theorem take_wrong (b : Nat) (a : Option Addr) (w : World) (h : IsR w b a none) :
    Calls Tryd.prog 66 #[.pointer (some ⟨b, 0, none⟩), .int .i64 0] w (TPost w b a [] none) := by
  have C1 := Lib.hid (RLeft_any b a none w h (by simp [lft]))
  have C2 := Lib.hid (RWrong_any b a none w h)
  have C3 := Lib.hid (RPost.refl h)
  go_enter Tryd.func66, Tryd.ntmps66
  go_wp2_with (first | (go_at_call 81; refine C1.out.mono ?_; rintro e w' ⟨rfl, rfl⟩) | (go_at_call 82; refine C2.out.mono ?_; rintro e w1 ⟨rfl, rfl⟩))
  go_ret
  exact ⟨none, 0, rfl, Bs.nothing _, C3.out, fun k e => by cases e⟩

set_option maxHeartbeats 400000 in
theorem take_ok (b : Nat) (a : Option Addr) (bs : List UInt8) (n : Nat) (w : World) (h : IsR w b a (some bs)) (hl : bs.length ≤ 140737488355328) (hn : n ≤ bs.length) :
    Calls Tryd.prog 66 #[.pointer (some ⟨b, 0, none⟩), .int .i64 n] w (TPost w b a (bs.take n) (some (bs.drop n))) := by
  have C1 := Lib.hid (RLeft_any b a (some bs) w h hl)
  have C2 := Lib.hid (RWrong_any b a (some bs) w h)
  have C3 := Lib.hid (RPost.refl h)
  obtain ⟨c, h1, h2⟩ := h.at_
  obtain ⟨c0, c1, z⟩ := pair_cell h1
  simp only [Option.getD_some] at c0 h2
  have hc := h2.room
  have z0 := z 0
  have H1 := Lib.hid h1
  have hlf : ¬ (lft (some bs) : Int) < n := by simp [lft]; omega
  have HB := Lib.hid h.blk
  clear h1 z h c1
  go_enter Tryd.func66, Tryd.ntmps66
  go_wp2_with (first | (go_at_call 81; refine C1.out.mono ?_; rintro e w' ⟨rfl, rfl⟩) | (go_at_call 82; refine C2.out.mono ?_; rintro e w1 ⟨rfl, rfl⟩))
  go_ret
  have P := pair_set0 (x := .slice (cutA a c n 1) (bs.length - n) (c - n)) H1.out
  have F := Fr.setCell (S := fun k => k = b) (Fr.refl _ w) (p := ⟨b, 0, none⟩) (fun _ => rfl) (.slice (cutA a c n 1) (bs.length - n) (c - n))
  have T := Bs.pair (fun n e => by cases e) (fun n e => by cases e) H1.out F (h2.take n)
  have D := Bs.pair (fun n e => by cases e) (fun n e => by cases e) H1.out F (h2.drop n hn)
  refine ⟨a, c, by rw [List.length_take, Nat.min_eq_left hn]; rfl, T, ⟨cutA a c n 1, ⟨⟨c - n, ?_, D⟩, fun k hk => F.lt (HB.out k (by rwa [cutA_blk] at hk))⟩, F, fun k hk => by rwa [cutA_blk] at hk⟩, fun k => id⟩
  simp only [Option.getD_some, List.length_drop]
  exact P

theorem take_any (b : Nat) (a : Option Addr) (st : Option (List UInt8)) (n : Int) (w : World) (h : IsR w b a st) (hl : lft st ≤ 140737488355328) :
    Calls Tryd.prog 66 #[.pointer (some ⟨b, 0, none⟩), .int .i64 n] w (TPost w b a (tk n st).1 (tk n st).2) := by
  cases st with
  | none =>
    by_cases h0 : n = 0
    · subst h0
      exact take_wrong b a w h
    · exact take_bad b a none n w h hl (by simp [lft]; omega)
  | some bs =>
    by_cases h0 : 0 ≤ n ∧ n ≤ bs.length
    · obtain ⟨n, rfl⟩ := Int.eq_ofNat_of_zero_le h0.1
      simp only [tk, if_pos h0, Int.toNat_natCast]
      exact take_ok b a bs n w h hl (by omega)
    · simp only [tk, if_neg h0]
      exact take_bad b a (some bs) n w h hl (by simp [lft]; omega)

theorem take_none (n : Int) (w : World) :
    Calls Tryd.prog 66 #[.pointer none, .int .i64 n] w fun e w' => e = .returned (.slice none 0 0) ∧ w = w' := by
  by_cases hneg : n < 0
  · go_enter Tryd.func66, Tryd.ntmps66
    go_wp2_with (first | (go_at_call 81; refine (RLeft_none _).mono ?_; rintro e w' ⟨rfl, rfl⟩) | (go_at_call 65; refine (rfail_none _).mono ?_; rintro e w1 ⟨rfl, rfl⟩))
    go_ret
    exact ⟨rfl, rfl⟩
  by_cases hpos : 0 < n
  · go_enter Tryd.func66, Tryd.ntmps66
    go_wp2_with (first | (go_at_call 81; refine (RLeft_none _).mono ?_; rintro e w' ⟨rfl, rfl⟩) | (go_at_call 65; refine (rfail_none _).mono ?_; rintro e w1 ⟨rfl, rfl⟩))
    go_ret
    exact ⟨rfl, rfl⟩
  · obtain rfl : n = 0 := by omega
    go_enter Tryd.func66, Tryd.ntmps66
    go_wp2_with (first | (go_at_call 81; refine (RLeft_none _).mono ?_; rintro e w' ⟨rfl, rfl⟩) | (go_at_call 82; refine (RWrong_none _).mono ?_; rintro e w1 ⟨rfl, rfl⟩))
    go_ret
    exact ⟨rfl, rfl⟩

/-- Bytes in new memory, behind a reader's call. -/
def RBytes (w : World) (b : Nat) (a : Option Addr) (r : List UInt8) (st : Option (List UInt8)) (e : Ending) (w' : World) : Prop :=
  ∃ a2 c2, e = .returned (.slice a2 r.length c2) ∧ Bs w' a2 c2 r ∧ RPost w b a st w' ∧ ∀ k, ablk a2 = some k → w.heap.size ≤ k

theorem tk_len (n : Int) (st : Option (List UInt8)) : (tk n st).1.length ≤ lft st ∧ lft (tk n st).2 ≤ lft st := by
  unfold tk lft
  cases st with
  | none => simp
  | some bs =>
    dsimp only
    split
    · simp; omega
    · simp

set_option maxHeartbeats 400000 in
theorem RRaw_any (b : Nat) (a : Option Addr) (st : Option (List UInt8)) (n : Int) (w : World) (h : IsR w b a st) (hl : lft st ≤ 140737488355328) :
    Calls Tryd.prog 47 #[.pointer (some ⟨b, 0, none⟩), .int .i64 n] w (RBytes w b a (tk n st).1 (tk n st).2) := by
  have C1 := Lib.hid (take_any b a st n w h hl)
  have ht := (tk_len n st).1
  generalize tk n st = q at *
  obtain ⟨r, st'⟩ := q
  dsimp only at *
  go_enter Tryd.func47, Tryd.ntmps47
  go_wp2_with (first | (go_at_call 66; refine C1.out.mono ?_; rintro e w1 ⟨a2, c2, rfl, hb, hp, _⟩; have HP := Lib.hid hp) | (go_at_call 44; refine (Clone_any _ _ _ _ _ hb rfl (by omega)).mono ?_; rintro e w2 ⟨a3, c3, rfl, hb3, hf3, hk3⟩))
  go_ret
  obtain ⟨a', hr, hf, ha⟩ := hp
  exact ⟨a3, c3, rfl, hb3, ⟨a', hr.fr hf3 (fun f => f) (fun _ _ f => f), hf.trans' hf3.of0, ha⟩, fun k hk => Nat.le_trans hf.size (hk3 k hk).1⟩

theorem RRaw_none (n : Int) (w : World) :
    Calls Tryd.prog 47 #[.pointer none, .int .i64 n] w (NewBytes [] w) := by
  go_enter Tryd.func47, Tryd.ntmps47
  go_wp2_with (first | (go_at_call 66; refine (take_none _ _).mono ?_; rintro e w' ⟨rfl, rfl⟩) | (go_at_call 44; refine (Clone_any _ _ _ [] _ (Bs.nothing _) rfl (by simp)).mono ?_; rintro e w2 ⟨a3, c3, rfl, hb3, hf3, hk3⟩))
  go_ret
  exact ⟨a3, c3, rfl, hb3, hf3, hk3⟩

/-- A new reader. -/
def NewReader (bs : List UInt8) (w : World) (e : Ending) (w' : World) : Prop :=
  ∃ b a, e = .returned (.pointer (some ⟨b, 0, none⟩)) ∧ IsR w' b a (some bs) ∧ Fr F0 w w' ∧ w.heap.size ≤ b ∧ b < w'.heap.size ∧ ∀ k, ablk a = some k → w.heap.size ≤ k ∧ k < w'.heap.size

set_option maxHeartbeats 400000 in
theorem Read_any (a : Option Addr) (n c : Nat) (bs : List UInt8) (w : World) (h : Bs w a c bs) (hn : n = bs.length) (hl : bs.length ≤ 140737488355328) :
    Calls Tryd.prog 26 #[.slice a n c] w (NewReader bs w) := by
  have HN := Lib.hid hn
  clear hn
  go_enter Tryd.func26, Tryd.ntmps26
  go_wp2_with (go_at_call 44; refine (Clone_any _ _ _ _ _ h HN.out hl).mono ?_; rintro e w1 ⟨a', c', rfl, h1, h2, h3⟩; have H3 := Lib.hid h3; clear h3)
  go_ret
  have hn : (w1.alloc (Obj.cells #[.slice a' bs.length c', .bool false] 89)).heap[w1.heap.size]? = some (.cells #[.slice a' bs.length c', .bool false] 89 (0, 0)) := heap_alloc_new _ _
  refine ⟨w1.heap.size, a', rfl, ⟨⟨c', hn, Sl.fr h1 ((Fr.refl F0 _).alloc _) fun _ _ => id⟩, fun k hk => by have := H3.out k hk; simp; omega⟩, h2.alloc _, h2.size, by simp, fun k hk => ?_⟩
  have := H3.out k hk
  simp
  omega
end Go.Proofs.YtdihahegmfdccaaDoor

/- Stage 1, octet: slices.Backward at bytes; the reader's Get. -/
namespace Go.Proofs.YtdihahegmfdccaaDoor
set_option linter.unusedVariables false
set_option linter.unusedSimpArgs false
open Go.RowKit Go.Shelf

attribute [local go_sem] Oper.semAt_some

/-! ### Get -/

/-- The number of bytes, the lowest first. -/
def ofLE : List UInt8 → Nat
  | [] => 0
  | c :: r => c.toNat + 256 * ofLE r

/-- What has been gathered. -/
def acc (l : List (Nat × UInt8)) : Nat := l.foldl (fun s p => s * 256 + p.2.toNat) 0

theorem acc_snoc (l : List (Nat × UInt8)) (x : Nat × UInt8) : acc (l ++ [x]) = acc l * 256 + x.2.toNat := by simp [acc]

theorem acc_lt (l : List (Nat × UInt8)) : acc l < 256 ^ l.length := by
  obtain ⟨r, rfl⟩ : ∃ r, l = List.reverse r := ⟨l.reverse, by simp⟩
  induction r with
  | nil => simp [acc]
  | cons x r ih =>
    rw [List.reverse_cons, acc_snoc]
    have := x.2.toNat_lt
    simp only [List.length_append, List.length_cons, List.length_nil, Nat.pow_succ] at *
    omega

theorem acc_map (l : List (Nat × UInt8)) : acc l = (l.map (·.2)).foldl (fun s c => s * 256 + c.toNat) 0 := by simp [acc, List.foldl_map]

theorem ofLE_rev (bs : List UInt8) : bs.reverse.foldl (fun s c => s * 256 + c.toNat) 0 = ofLE bs := by
  induction bs with
  | nil => rfl
  | cons c r ih => simp only [List.reverse_cons, List.foldl_append, ih, List.foldl_cons, List.foldl_nil, ofLE]; omega

theorem acc_all (bs : List UInt8) : acc (upto (bk bs) bs.length) = ofLE bs := by rw [acc_map, bk_all, ofLE_rev]

/-- A number of so many bytes, and what is left behind it. -/
def gt (n : Int) (st : Option (List UInt8)) : Nat × Option (List UInt8) := if szB n then (ofLE (tk n st).1, (tk n st).2) else (0, none)

theorem Get_bad (b : Nat) (a : Option Addr) (st : Option (List UInt8)) (n : Int) (w : World) (h : IsR w b a st) (hn : szB n = false) :
    Calls Tryd.prog 46 #[.pointer (some ⟨b, 0, none⟩), .int .i64 n] w fun e w' => e = .returned (.int .u64 0) ∧ RPost w b a none w' := by
  go_enter Tryd.func46, Tryd.ntmps46
  go_wp2_with (first | (go_at_call 43; refine (isSize_any _ _).mono ?_; rintro e w' ⟨rfl, rfl⟩) | (go_at_call 65; refine (rfail_any b a st _ h).mono ?_; rintro e w1 ⟨rfl, h1⟩))
  go_ret
  exact ⟨rfl, h1⟩

theorem or_byte (A X : Nat) (hA : A < 72057594037927936) (hX : X < 2 ^ 8) : bits .or .u64 ((A : Int) * 256) (X : Int) = ((A * 256 + X : Nat) : Int) := by
  have h := u64_or_nat (A * 256) X (by omega) (by omega)
  have e : A * 256 = A <<< 8 := by rw [Nat.shiftLeft_eq]
  rw [show ((A : Int) * 256) = ((A * 256 : Nat) : Int) from by omega, h, e, ← Nat.shiftLeft_add_eq_or_of_lt hX]

set_option maxRecDepth 100000 in
set_option maxHeartbeats 2000000 in
theorem Get_ok (b : Nat) (a : Option Addr) (st : Option (List UInt8)) (n : Int) (w : World) (h : IsR w b a st) (hl : lft st ≤ 140737488355328) (hn : szB n = true) :
    Calls Tryd.prog 46 #[.pointer (some ⟨b, 0, none⟩), .int .i64 n] w fun e w' => e = .returned (.int .u64 (ofLE (tk n st).1)) ∧ RPost w b a (tk n st).2 w' := by
  have hn8 : (tk n st).1.length ≤ 8 := by
    have : n ≤ 8 := by
      simp only [szB, Bool.or_eq_true, beq_iff_eq] at hn
      omega
    unfold tk
    cases st with
    | none => simp
    | some bs =>
      dsimp only
      split
      · simp; omega
      · simp
  have hA : IsR (w.alloc (.cells #[.int .u64 0] 38)) b a st := h.fr ((Fr.refl F0 w).alloc _) (fun f => f) fun _ _ f => f
  have C1 := Lib.hid (take_any b a st n _ hA hl)
  generalize tk n st = q at *
  obtain ⟨r, st'⟩ := q
  dsimp only at *
  refine callsIn_wide (n := 6) |>.1 ?_
  refine callsIn_of_wp_marks Tryd.func46 rfl trivial ?_ rfl
  simp only [Tryd.ntmps46, List.size_toArray, List.length_cons, List.length_nil, Nat.reduceAdd, Nat.reduceSub, Array.replicate_succ, Array.replicate_zero, List.push_toArray, List.append_toArray, List.nil_append, List.cons_append]
  gi_wp2_with (first | (refine ⟨trivial, ?_⟩; gi_at_call 43; refine (callsIn_wide.2 (isSize_any _ _)).mono ?_; rintro e w' ⟨rfl, rfl⟩) | (refine ⟨trivial, ?_⟩; gi_at_call 66; refine (callsIn_wide.2 C1.out).mono ?_; rintro e w1 ⟨a2, c2, rfl, hb, hp, ha2⟩; have HP := Lib.hid hp; have HA := Lib.hid ha2; clear hp ha2) | (refine ⟨trivial, ?_⟩; gi_at_call 42; refine (Backward_in _ _ trivial rfl _ _ _ _).mono ?_; rintro e w2 ⟨rfl, rfl⟩))
  obtain ⟨a', hr, hf, ha⟩ := HP.out
  have hsz : w.heap.size < w1.heap.size := hf.lt (by simp)
  have hne : w.heap.size ≠ b := by have := h.lt; omega
  have cx : w1.heap[w.heap.size]? = some (.cells #[.int .u64 0] 38 (0, 0)) := hf.keeps hne (heap_alloc_new w (.cells #[.int .u64 0] 38))
  have cx' : (w1.alloc (.cells #[.slice a2 r.length c2] 28)).heap[w.heap.size]? = some (.cells #[.int .u64 0] 38 (0, 0)) := (Below.heap_alloc w1 _ _ hsz).trans cx
  have hbL : (w1.alloc (.cells #[.slice a2 r.length c2] 28)).cell? ⟨w1.heap.size, 0, none⟩ = some (.slice a2 r.length c2) := cell_of_one (heap_alloc_new w1 _)
  have hb' : Bs (w1.alloc (.cells #[.slice a2 r.length c2] 28)) a2 c2 r := Sl.fr hb ((Fr.refl F0 _).alloc _) fun _ _ f => f
  refine wpIn_rangeFunc_ownG rfl (by omega) (gf := 64) (lb := #[.pointer (some ⟨w1.heap.size, 0, none⟩)]) rfl trivial (enters_of Tryd.func64 (by kernel_rfl) rfl)
    (Backward_stops Fence.wide 5 trivial rfl (by omega) w1.heap.size w.heap.size a2 c2 r (by omega) _ (by omega) hbL hb' (fun k _ hk => by have := h.blk k (HA.out k hk); omega))
    (fun h k => Kc.trans h k) (fun W l o o' _ h hc _ => Kc.putObj W l o o' h hc) (Below.refl _ _) (fun _ => rfl)
    (fun pre W => (W.cell? ⟨w.heap.size, 0, none⟩ = some (.int .u64 (acc pre)) ∧ W.frozen? ⟨w.heap.size, 0, none⟩ = false) ∧ Below w.heap.size (w1.alloc (.cells #[.slice a2 r.length c2] 28)) W)
    (fun _ _ _ => False)
    (OwnFrom.and (Own.from (fun s A B row hs hg hr => ⟨cell_kept hs.1 hg hr, (frozen_kept hs.1 hg hr).trans hs.2⟩) _) (ownFrom_below (by simp; omega) (by simp; omega)))
    (fun _ _ _ _ _ hs _ _ => hs)
    ⟨⟨cell_of_one cx', free_of_one cx'⟩, Below.refl _ _⟩
    (fun x => { tmps := #[.pointer (some ⟨b, 0, none⟩), .int .i64 n, undef, undef, .int .u64 0, .pointer (some ⟨w.heap.size, 0, none⟩), undef, .int .u8 (x.2.toNat : Int), .int .i64 n, .bool true,
      .bool false, undef, undef, .pointer (some ⟨b, 0, none⟩), .int .i64 n, .slice a2 r.length c2, .func (.func 64) #[] #[.pointer (some ⟨w1.heap.size, 0, none⟩)], .int .i64 (x.1 : Int), .int .u8 (x.2.toNat : Int), undef, undef, undef, undef, undef, undef], defers := [] }) ?assign ?body ?done ?stop
  case assign =>
    intro l x W K hK
    gi_wp2
    exact hK
  case body =>
    rintro l pre x W ⟨⟨hc, hfz⟩, hB⟩ hlen
    have hacc := acc_lt pre
    have hpow : 256 ^ pre.length ≤ 256 ^ 7 := Nat.pow_le_pow_right (by omega) (by omega)
    have hlt : acc pre < 72057594037927936 := by omega
    have hx8 := x.2.toNat_lt
    have hsn := Lib.hid (acc_snoc pre x)
    clear hacc hpow
    generalize hA' : acc pre = A at *
    generalize hx' : x.2.toNat = X at *
    have hor := or_byte A X hlt hx8
    gi_wp2
    exact ⟨(KeepsOthers.setCell _ _ _).from _, Kc.setCell _ _ _, ⟨by rw [hsn.out]; exact World.cell?_setCell_same' _ _ _ (by rw [hc]; rfl), by rw [World.frozen?_setCell]; exact hfz⟩, hB.setCell (p := ⟨w.heap.size, 0, none⟩) (Nat.le_refl _) _⟩
  case done =>
    rintro D ys W hD rfl ⟨⟨hc, _⟩, hB⟩ hK
    gi_wp2
    refine ⟨by simp, .inl ⟨_, _, rfl, run_takeDeferred hK, ?_⟩⟩
    have hBD : Below w.heap.size (w1.alloc (.cells #[.slice a2 r.length c2] 28)) (W.putObj D (.deferred none)) := hB.trans (belowK_b (w := w1.alloc (.cells #[.slice a2 r.length c2] 28)) (by simp; omega) W D _ _ (by simp at hD; simp; omega) hK rfl rfl)
    have hlb := h.lt
    have hak := h.blk
    have hR : IsR (w1.alloc (.cells #[.slice a2 r.length c2] 28)) b a' st' := hr.fr ((Fr.refl F0 w1).alloc _) (fun f => f) fun _ _ f => f
    exact ⟨_, results_tmp rfl _ _ _, by rw [← acc_all]; rfl, a', hR.below hBD hlb fun k hk => hak k (ha k hk),
      ((((Fr.refl F0 w).alloc _).of0.trans' hf).alloc _).trans (Fr.of_below' hBD) (fun i hi hk => by omega), ha⟩
  case stop =>
    rintro D c pre W _ _ h _
    exact h.elim
end Go.Proofs.YtdihahegmfdccaaDoor

/- Stage 1, octet: the reader's Count and Counted, and a reader that isn't there. -/
namespace Go.Proofs.YtdihahegmfdccaaDoor
set_option linter.unusedVariables false
set_option linter.unusedSimpArgs false
open Go.RowKit Go.Shelf

attribute [local go_sem] Oper.semAt_some

theorem ofLE_lt (bs : List UInt8) : ofLE bs < 256 ^ bs.length := by
  induction bs with
  | nil => simp [ofLE]
  | cons c r ih =>
    have := c.toNat_lt
    simp only [ofLE, List.length_cons, Nat.pow_succ]
    omega

theorem szB_le {n : Int} (h : szB n = true) : 1 ≤ n ∧ n ≤ 8 := by
  simp only [szB, Bool.or_eq_true, beq_iff_eq] at h
  omega

theorem tk_le (n : Int) (st : Option (List UInt8)) (h : 0 ≤ n) : ((tk n st).1.length : Int) ≤ n := by
  unfold tk
  cases st with
  | none => simpa using h
  | some bs =>
    dsimp only
    split
    · simp; omega
    · simpa using h

theorem gt_lt (n : Int) (st : Option (List UInt8)) : (gt n st).1 < 18446744073709551616 := by
  unfold gt
  split
  · rename_i h
    have h8 := szB_le h
    have h1 := tk_le n st (by omega)
    have h2 := ofLE_lt (tk n st).1
    have h3 : 256 ^ (tk n st).1.length ≤ 256 ^ 8 := Nat.pow_le_pow_right (by omega) (by omega)
    omega
  · omega

theorem gt_lft (n : Int) (st : Option (List UInt8)) : lft (gt n st).2 ≤ lft st := by
  unfold gt
  split
  · exact (tk_len n st).2
  · simp [lft]

theorem Get_any (b : Nat) (a : Option Addr) (st : Option (List UInt8)) (n : Int) (w : World) (h : IsR w b a st) (hl : lft st ≤ 140737488355328) :
    Calls Tryd.prog 46 #[.pointer (some ⟨b, 0, none⟩), .int .i64 n] w fun e w' => e = .returned (.int .u64 (gt n st).1) ∧ RPost w b a (gt n st).2 w' := by
  cases hn : szB n with
  | true => simp only [gt, hn, if_true]; exact Get_ok b a st n w h hl hn
  | false => simp only [gt, hn]; exact Get_bad b a st n w h hn


/-- A count's size, the count, and what is left behind it: as the program reads them. -/
def rcp (st : Option (List UInt8)) : Nat × Nat × Option (List UInt8) :=
  if (gt 1 st).1 = 253 then (3, gt 2 (gt 1 st).2) else if (gt 1 st).1 = 254 then (5, gt 4 (gt 1 st).2) else if (gt 1 st).1 = 255 then (9, gt 8 (gt 1 st).2) else (1, gt 1 st)

/-- A count, and what is left behind it: as the program reads it. -/
def rc (most : Nat) (st : Option (List UInt8)) : Nat × Option (List UInt8) :=
  if csz (rcp st).2.1 = (rcp st).1 ∧ (rcp st).2.1 ≤ most then (rcp st).2 else (0, none)


theorem rc_le (most : Nat) (st : Option (List UInt8)) : (rc most st).1 ≤ most := by
  unfold rc
  split
  · rename_i h
    exact h.2
  · exact Nat.zero_le _

theorem rc_lft (most : Nat) (st : Option (List UInt8)) : lft (rc most st).2 ≤ lft st := by
  have h1 := gt_lft 1 st
  have h2 := fun k => gt_lft k (gt 1 st).2
  have h3 := h2 2
  have h4 := h2 4
  have h5 := h2 8
  have hp : lft (rcp st).2.2 ≤ lft st := by
    unfold rcp
    split
    · dsimp only; omega
    · split
      · dsimp only; omega
      · split
        · dsimp only; omega
        · dsimp only; omega
  unfold rc
  split
  · exact hp
  · simp [lft]

/-- Counted bytes, and what is left behind them. -/
def rctd (most : Int) (st : Option (List UInt8)) : List UInt8 × Option (List UInt8) :=
  if most < 0 then ([], none) else tk (rc most.toNat st).1 (rc most.toNat st).2


/-! ### no reader -/

set_option maxRecDepth 100000 in
set_option maxHeartbeats 2000000 in
theorem Get_none (n : Int) (w : World) (hn : szB n = true) :
    Calls Tryd.prog 46 #[.pointer none, .int .i64 n] w fun e w' => e = .returned (.int .u64 0) ∧ Fr F0 w w' := by
  refine callsIn_wide (n := 6) |>.1 ?_
  refine callsIn_of_wp_marks Tryd.func46 rfl trivial ?_ rfl
  simp only [Tryd.ntmps46, List.size_toArray, List.length_cons, List.length_nil, Nat.reduceAdd, Nat.reduceSub, Array.replicate_succ, Array.replicate_zero, List.push_toArray, List.append_toArray, List.nil_append, List.cons_append]
  gi_wp2_with (first | (refine ⟨trivial, ?_⟩; gi_at_call 43; refine (callsIn_wide.2 (isSize_any _ _)).mono ?_; rintro e w' ⟨rfl, rfl⟩) | (refine ⟨trivial, ?_⟩; gi_at_call 66; refine (callsIn_wide.2 (take_none _ _)).mono ?_; rintro e w1 ⟨rfl, rfl⟩) | (refine ⟨trivial, ?_⟩; gi_at_call 42; refine (Backward_in _ _ trivial rfl _ _ _ _).mono ?_; rintro e w2 ⟨rfl, rfl⟩))
  have cx : (w.alloc (.cells #[.int .u64 0] 38)).heap[w.heap.size]? = some (.cells #[.int .u64 0] 38 (0, 0)) := heap_alloc_new w (.cells #[.int .u64 0] 38)
  have cx' : ((w.alloc (.cells #[.int .u64 0] 38)).alloc (.cells #[.slice none 0 0] 28)).heap[w.heap.size]? = some (.cells #[.int .u64 0] 38 (0, 0)) := (Below.heap_alloc _ _ _ (by simp)).trans cx
  have hbL : ((w.alloc (.cells #[.int .u64 0] 38)).alloc (.cells #[.slice none 0 0] 28)).cell? ⟨(w.alloc (.cells #[.int .u64 0] 38)).heap.size, 0, none⟩ = some (.slice none 0 0) := cell_of_one (heap_alloc_new _ _)
  rw [World.size_alloc] at hbL
  refine wpIn_rangeFunc_ownG rfl (by omega) (gf := 64) (lb := #[.pointer (some ⟨w.heap.size + 1, 0, none⟩)]) rfl trivial (enters_of Tryd.func64 (by kernel_rfl) rfl)
    (Backward_stops Fence.wide 5 trivial rfl (by omega) (w.heap.size + 1) w.heap.size none 0 [] (by simp) _ (by omega) hbL (Bs.nothing _) (fun k h _ => absurd rfl h))
    (fun h k => Kc.trans h k) (fun W l o o' _ h hc _ => Kc.putObj W l o o' h hc) (Below.refl _ _) (fun _ => rfl)
    (fun pre W => (W.cell? ⟨w.heap.size, 0, none⟩ = some (.int .u64 (acc pre)) ∧ W.frozen? ⟨w.heap.size, 0, none⟩ = false) ∧ Below w.heap.size ((w.alloc (.cells #[.int .u64 0] 38)).alloc (.cells #[.slice none 0 0] 28)) W)
    (fun _ _ _ => False)
    (OwnFrom.and (Own.from (fun s A B row hs hg hr => ⟨cell_kept hs.1 hg hr, (frozen_kept hs.1 hg hr).trans hs.2⟩) _) (ownFrom_below (by simp; omega) (by simp; omega)))
    (fun _ _ _ _ _ hs _ _ => hs)
    ⟨⟨cell_of_one cx', free_of_one cx'⟩, Below.refl _ _⟩
    (fun x => { tmps := #[.pointer none, .int .i64 n, undef, undef, .int .u64 0, .pointer (some ⟨w.heap.size, 0, none⟩), undef, .int .u8 (x.2.toNat : Int), .int .i64 n, .bool true,
      .bool false, undef, undef, .pointer none, .int .i64 n, .slice none 0 0, .func (.func 64) #[] #[.pointer (some ⟨w.heap.size + 1, 0, none⟩)], .int .i64 (x.1 : Int), .int .u8 (x.2.toNat : Int), undef, undef, undef, undef, undef, undef], defers := [] }) ?assign ?body ?done ?stop
  case assign =>
    intro l x W K hK
    gi_wp2
    exact hK
  case body =>
    rintro l pre x W _ hlen
    simp at hlen
  case done =>
    rintro D ys W hD rfl ⟨⟨hc, _⟩, hB⟩ hK
    gi_wp2
    refine ⟨by simp, .inl ⟨_, _, rfl, run_takeDeferred hK, ?_⟩⟩
    have hBD := hB.trans (belowK_b (w := (w.alloc (.cells #[.int .u64 0] 38)).alloc (.cells #[.slice none 0 0] 28)) (by simp; omega) W D _ (.deferred none) (by simp at hD; simp; omega) hK rfl rfl)
    exact ⟨_, results_tmp rfl _ _ _, rfl, (((Fr.refl F0 w).alloc _).alloc _).trans (Fr.of_below' hBD) (fun i hi hk => by omega)⟩
  case stop =>
    rintro D c pre W _ _ h _
    exact h.elim



end Go.Proofs.YtdihahegmfdccaaDoor

/- The document's answer for layer 1 (package pontageref01). -/
namespace Go.Proofs.YtdihahegmfdccaaDoor
set_option linter.unusedVariables false
set_option linter.unusedSimpArgs false
open Go.RowKit

theorem made_own (w : World) (cur : Array Value) (bs : List UInt8) (h : cur.toList = bs.map B8) (hl : bs.length ≤ maxLen) :
    OwnB (w.alloc (.cells cur 5)) (.slice (some ⟨w.heap.size, 0, none⟩) bs.length bs.length) bs := by
  have hc : cur.size = bs.length := by
    have := congrArg List.length h
    simpa using this
  refine ⟨by simp, .inr ⟨w.heap.size, bs.length, cur, rfl, Nat.zero_le _, heap_alloc_new w _, Nat.le_refl _, hl, by omega, ?_⟩⟩
  rw [h]
  exact List.take_of_length_le (by simp)

theorem NewBytes.mk' {w w' : World} {a : Option Addr} {n c : Nat} {bs : List UInt8} (h : OwnB w' (.slice a n c) bs) (hf : Fr F0 w w') (hb : ∀ k, ablk a = some k → w.heap.size ≤ k) : NewBytes bs w (.returned (.slice a n c)) w' := by
  obtain ⟨rfl, hs⟩ := h.bs
  exact ⟨a, c, rfl, hs, hf, fun k hk => ⟨hb k hk, h.lt k (by rw [ablk_own]; exact hk)⟩⟩

/-- A row of bytes of one's own, of new memory. -/
def NewOwn (bs : List UInt8) (w : World) (e : Ending) (w' : World) : Prop :=
  ∃ a c, e = .returned (.slice a bs.length c) ∧ OwnB w' (.slice a bs.length c) bs ∧ Fr F0 w w' ∧ ∀ k, ablk a = some k → w.heap.size ≤ k

theorem NewOwn.mk' {w w' : World} {a : Option Addr} {n c : Nat} {bs : List UInt8} (h : OwnB w' (.slice a n c) bs) (hf : Fr F0 w w') (hb : ∀ k, ablk a = some k → w.heap.size ≤ k) : NewOwn bs w (.returned (.slice a n c)) w' := by
  obtain ⟨rfl, hs⟩ := h.bs
  exact ⟨a, c, rfl, h, hf, hb⟩
theorem NewOwn.new {bs : List UInt8} {w : World} {e : Ending} {w' : World} (h : NewOwn bs w e w') : NewBytes bs w e w' := by
  obtain ⟨a, c, rfl, ho, hf, hb⟩ := h
  exact NewBytes.mk' ho hf hb

set_option maxHeartbeats 1000000 in
theorem refPut_own (x n : Nat) (w : World) (hx : x < 18446744073709551616) (hn : n ≤ 8) :
    Calls Tryd.prog 45 #[.int .u64 x, .int .i64 n] w (NewOwn (le n x) w) := by
  go_enter Tryd.func45, Tryd.ntmps45
  go_wp2
  go_loopw [0, 5, 6] (fun xv ov iv wr => ∃ (k X : Nat) (a : Option Addr) (m c : Nat), k ≤ n ∧ iv = .int .i64 k ∧ xv = .int .u64 X ∧ X < 2 ^ 64 ∧ Hid (X = x / 256 ^ k) ∧ ov = .slice a m c ∧ OwnB wr (.slice a m c) (le k x) ∧ Fr F0 w wr ∧ Hid (∀ i, ablk a = some i → w.heap.size ≤ i)) (fun _ _ iv _ => n - (intOf iv).toNat)
  case atStart => exact ⟨0, x, _, 0, 0, Nat.zero_le _, rfl, rfl, hx, by simp [Hid], rfl, made_own w #[] [] rfl (by simp), (Fr.refl _ _).alloc _, fun i e => by cases e; exact Nat.le_refl _⟩
  case round =>
    obtain ⟨k, X, a, m, c, hk, rfl, rfl, hX, HX, rfl, ho, hf, HA⟩ := hrel
    by_cases hkn : k < n
    · have A1 : Fr F0 wr (wr.alloc (.cells #[.int .u8 ((X : Int) % 256)] 5)) := (Fr.refl _ _).alloc _
      have O1 := ho.fr A1 fun _ _ => id
      have hll := le_length k x
      have E1 := Lib.hid hll
      clear hll
      go_wp2_with (at_builtin; refine wpList_appB rfl _ _ rfl (.slice a m c) _ rfl O1 _ _ _ _ rfl (one_byte wr X) rfl (by have := E1.out; simp; omega) ?_; intro a' c' w1 ho1 hg hb; have HB := Lib.hid hb; clear hb)
      have hf1 : Fr F0 w w1 := by
        refine (hf.trans' A1).grown hg fun i hi hl => ?_
        rw [ablk_own] at hi
        have := HA.out i hi
        omega
      have hs1 := hf.size
      simp only [List.length_append, List.length_cons, List.length_nil, Nat.zero_add] at ho1
      go_roundw
      case rel =>
        refine ⟨k + 1, X / 256, a', (le k x).length + 1, c', by omega, by go_num, by go_num, by omega, ?_, rfl, ?_, hf1, fun i hi => ?_⟩
        · rw [HX.out]; simp [Hid, Nat.div_div_eq_div_mul, Nat.pow_succ]
        · rw [le_snoc, ← HX.out]
          exact ho1
        · rcases HB.out i hi with h | h
          · rw [ablk_own] at h
            exact HA.out i h
          · simp at h
            omega
      case measure => simp [intOf]; omega
    · go_wp2
      go_ret
      have : k = n := by omega
      subst this
      exact NewOwn.mk' ho hf HA.out

theorem refPut_any (x n : Nat) (w : World) (hx : x < 18446744073709551616) (hn : n ≤ 8) :
    Calls Tryd.prog 45 #[.int .u64 x, .int .i64 n] w (NewBytes (le n x) w) := (refPut_own x n w hx hn).mono fun _ _ h => h.new

theorem refPut_at (x n : Int) (w : World) (h0 : 0 ≤ x) (hx : x < 18446744073709551616) (h1 : 0 ≤ n) (hn : n ≤ 8) :
    Calls Tryd.prog 45 #[.int .u64 x, .int .i64 n] w (NewBytes (le n.toNat x.toNat) w) := by
  obtain ⟨x, rfl⟩ := Int.eq_ofNat_of_zero_le h0
  obtain ⟨n, rfl⟩ := Int.eq_ofNat_of_zero_le h1
  exact refPut_any x n w (by omega) (by omega)

theorem ofLE_drop (bs : List UInt8) (k : Nat) (hk : k < bs.length) : ofLE (bs.drop k) = ofLE (bs.drop (k + 1)) * 256 + bs[k].toNat := by
  rw [List.drop_eq_getElem_cons hk, ofLE]
  omega

set_option maxHeartbeats 1000000 in
theorem refGet_any (a : Option Addr) (n c : Nat) (bs : List UInt8) (w : World) (h : Bs w a c bs) (hn : n = bs.length) (hl : bs.length ≤ 8) :
    Calls Tryd.prog 36 #[.slice a n c] w fun e w' => e = .returned (.int .u64 (ofLE bs)) ∧ w = w' := by
  subst hn
  go_enter Tryd.func36, Tryd.ntmps36
  go_wp2
  go_loop [3, 4] (fun xv iv => ∃ (k X : Nat), k ≤ bs.length ∧ iv = .int .i64 ((k : Int) - 1) ∧ xv = .int .u64 X ∧ X < 256 ^ (bs.length - k) ∧ Hid (X = ofLE (bs.drop k))) (fun _ iv => (intOf iv + 1).toNat)
  case atStart => exact ⟨bs.length, 0, Nat.le_refl _, rfl, rfl, by simp, by simp [Hid, ofLE]⟩
  case round =>
    obtain ⟨k, X, hk, rfl, rfl, hX, HX⟩ := hrel
    by_cases hk0 : 0 < k
    · obtain ⟨b, off, rfl, hc⟩ := h.at (k - 1) (by omega)
      have hlt : X < 72057594037927936 := by
        have : 256 ^ (bs.length - k) ≤ 256 ^ 7 := Nat.pow_le_pow_right (by omega) (by omega)
        omega
      have hx8 := (bs[k - 1]'(by omega)).toNat_lt
      have HS := Lib.hid (ofLE_drop bs (k - 1) (by omega))
      have HP : Hid (256 ^ (bs.length - (k - 1)) = 256 ^ (bs.length - k) * 256) := by
        rw [show bs.length - (k - 1) = (bs.length - k) + 1 from by omega, Nat.pow_succ]
        rfl
      have HX' := Lib.hid hX
      generalize hbv : (bs[k - 1]'(by omega)).toNat = v at *
      clear hX
      have hv : ((k : Int) - 1).toNat = k - 1 := by omega
      go_wp2
      have hX := HX'.out
      have hp := HP.out
      go_round
      case rel =>
        refine ⟨k - 1, X * 256 + v, by omega, by go_num, by go_num, by rw [hp]; omega, ?_⟩
        rw [Hid, HS.out, show k - 1 + 1 = k from by omega, HX.out]
      case measure => simp [intOf]; omega
    · go_wp2
      go_ret
      obtain rfl : k = 0 := by omega
      refine ⟨?_, rfl⟩
      rw [HX.out]
      rfl

/-- A literal of one byte. -/
theorem lit_own (w : World) (v : Int) (b : UInt8) (h : B8 b = .int .u8 v) : OwnB (w.alloc (.cells #[.int .u8 v] 5)) (.slice (some ⟨w.heap.size, 0, none⟩) 1 1) [b] :=
  made_own w #[.int .u8 v] [b] (by simp [h]) (by simp [maxLen])



end Go.Proofs.YtdihahegmfdccaaDoor

/- The document's answer for layer 1: reading a count. -/
namespace Go.Proofs.YtdihahegmfdccaaDoor
set_option linter.unusedVariables false
set_option linter.unusedSimpArgs false
open Go.RowKit

/-- The count with which bytes begin, and in how many; or none. -/
def rrc (bs : List UInt8) : Nat × Nat × Bool :=
  match bs with
  | [] => (0, 0, false)
  | c :: r =>
    if c.toNat < 253 then (c.toNat, 1, csz c.toNat == 1)
    else
      let size := 1 + 2 * 2 ^ (c.toNat - 253)
      if bs.length < size then (0, 0, false)
      else (ofLE (r.take (size - 1)), size, csz (ofLE (r.take (size - 1))) == size)


/-- A count, and what is left behind it: as the document reads it. -/
def mcnt (most : Nat) (st : Option (List UInt8)) : Nat × Option (List UInt8) :=
  match st with
  | none => (0, none)
  | some bs => if (rrc bs).2.2 = true ∧ (rrc bs).1 ≤ most then ((rrc bs).1, some (bs.drop (rrc bs).2.1)) else (0, none)

theorem tk_some (k : Nat) (bs : List UInt8) (h : k ≤ bs.length) : tk k (some bs) = (bs.take k, some (bs.drop k)) := by
  simp [tk, h]

theorem tk_short (k : Nat) (bs : List UInt8) (h : bs.length < k) : tk k (some bs) = ([], none) := by
  simp only [tk]
  rw [if_neg (by omega)]

theorem gt_some (k : Nat) (bs : List UInt8) (hk : szB k = true) : gt k (some bs) = if k ≤ bs.length then (ofLE (bs.take k), some (bs.drop k)) else (0, none) := by
  split
  · rename_i h; simp [gt, hk, tk_some k bs h]
  · rename_i h; simp [gt, hk, tk_short k bs (by omega), ofLE]

theorem csz_0 : csz 0 = 1 := rfl

/-- The program reads a count as the document does. -/
theorem rc_mcnt (most : Nat) (st : Option (List UInt8)) : rc most st = mcnt most st := by
  cases st with
  | none => simp [rc, rcp, gt, tk, mcnt, szB, ofLE, csz]
  | some bs =>
    cases bs with
    | nil => simp [rc, rcp, gt, tk, mcnt, szB, ofLE, csz, rrc]
    | cons x r =>
      have hx8 := x.toNat_lt
      have g1 : gt 1 (some (x :: r)) = (x.toNat, some r) := by
        have := gt_some 1 (x :: r) rfl
        rw [if_pos (by simp)] at this
        simpa [ofLE] using this
      have g2 := gt_some 2 r rfl
      have g4 := gt_some 4 r rfl
      have g8 := gt_some 8 r rfl
      by_cases h1 : x.toNat < 253
      · have e1 : rcp (some (x :: r)) = (1, x.toNat, some r) := by
          unfold rcp
          rw [g1]
          dsimp only
          rw [if_neg (by omega), if_neg (by omega), if_neg (by omega)]
        have e2 : rrc (x :: r) = (x.toNat, 1, csz x.toNat == 1) := by simp [rrc, h1]
        simp only [rc, e1, mcnt, e2, beq_iff_eq, List.drop_succ_cons, List.drop_zero]
      · obtain ⟨s, m, hm, hs⟩ : ∃ s m : Nat, s = m + 1 ∧ ((x.toNat = 253 ∧ s = 3 ∧ m = 2) ∨ (x.toNat = 254 ∧ s = 5 ∧ m = 4) ∨ (x.toNat = 255 ∧ s = 9 ∧ m = 8)) := by
          rcases (show x.toNat = 253 ∨ x.toNat = 254 ∨ x.toNat = 255 from by omega) with h | h | h
          · exact ⟨3, 2, rfl, .inl ⟨h, rfl, rfl⟩⟩
          · exact ⟨5, 4, rfl, .inr (.inl ⟨h, rfl, rfl⟩)⟩
          · exact ⟨9, 8, rfl, .inr (.inr ⟨h, rfl, rfl⟩)⟩
        have e1 : rcp (some (x :: r)) = (s, if m ≤ r.length then (ofLE (r.take m), some (r.drop m)) else (0, none)) := by
          unfold rcp
          rw [g1]
          dsimp only
          rcases hs with ⟨h, rfl, rfl⟩ | ⟨h, rfl, rfl⟩ | ⟨h, rfl, rfl⟩
          · rw [if_pos h, ← g2]; rfl
          · rw [if_neg (by omega), if_pos h, ← g4]; rfl
          · rw [if_neg (by omega), if_neg (by omega), if_pos h, ← g8]; rfl
        have e2 : rrc (x :: r) = if r.length + 1 < s then (0, 0, false) else (ofLE (r.take m), s, csz (ofLE (r.take m)) == s) := by
          rcases hs with ⟨h, rfl, rfl⟩ | ⟨h, rfl, rfl⟩ | ⟨h, rfl, rfl⟩ <;> simp [rrc, h]
        subst hm
        by_cases hl : m ≤ r.length
        · rw [if_pos hl] at e1
          rw [if_neg (by omega)] at e2
          simp only [rc, e1, mcnt, e2, beq_iff_eq, List.drop_succ_cons]
        · rw [if_neg hl] at e1
          rw [if_pos (by omega)] at e2
          simp only [rc, e1, mcnt, e2, csz_0]
          rw [if_neg (by omega)]
          simp
end Go.Proofs.YtdihahegmfdccaaDoor
