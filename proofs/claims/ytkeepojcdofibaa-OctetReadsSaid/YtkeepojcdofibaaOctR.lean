/- Stage 1, octet: the reader, but for Get. -/
import Derived.Test.YtkeepojcdofibaaOctB
namespace Go.Proofs.Ytkeepojcdofibaa
set_option linter.unusedVariables false
set_option linter.unusedSimpArgs false
open Go.RowKit

/-- The address of what is left of a slice behind its first l elements. -/
def cutA (a : Option Addr) (cap l s : Nat) : Option Addr := if cap = l then a else a.map (·.add (l * s))

@[go_sem high] theorem run_slice_from_g {P : Program} (w : World) (t : TypeId) (ht : P.underlying t = some (.slice (P.elem t))) (a : Option Addr) (len cap : Nat) (kl : IntKind) (l : Int) (h0 : 0 ≤ l) (h1 : l ≤ len) :
    (Instr.slice t (.slice a len cap) (some (.int kl l)) none none).run P w = ((sizeOf (P.elem t)).run P w).andThen fun s w => .ok (.slice (cutA a cap l.toNat s) (len - l.toNat) (cap - l.toNat)) w := by
  rw [run_slice_l w t a len cap ht kl l h0 h1]
  rfl

@[go_sem high] theorem run_slice_to_g {P : Program} (w : World) (t : TypeId) (ht : P.underlying t = some (.slice (P.elem t))) (a : Option Addr) (len cap : Nat) (kh : IntKind) (h : Int) (h0 : 0 ≤ h) (h2 : h ≤ cap) :
    (Instr.slice t (.slice a len cap) none (some (.int kh h)) none).run P w = ((sizeOf (P.elem t)).run P w).andThen fun _ w => .ok (.slice a h.toNat cap) w := by
  rw [run_slice_h w t a len cap ht kh h h0 h2]
  congr 1
  funext s w
  simp only [sliced, Nat.zero_mul, Nat.sub_zero]
  congr 2
  split
  · rfl
  · cases a <;> simp [Addr.add]

@[go_sem high] theorem run_slice_fromto_g {P : Program} (w : World) (t : TypeId) (ht : P.underlying t = some (.slice (P.elem t))) (a : Option Addr) (len cap : Nat) (kl kh : IntKind) (l h : Int) (h0 : 0 ≤ l) (h1 : l ≤ h) (h2 : h ≤ cap) :
    (Instr.slice t (.slice a len cap) (some (.int kl l)) (some (.int kh h)) none).run P w = ((sizeOf (P.elem t)).run P w).andThen fun s w => .ok (.slice (cutA a cap l.toNat s) (h.toNat - l.toNat) (cap - l.toNat)) w := by
  rw [run_slice_lh w t a len cap ht kl kh l h h0 h1 h2]
  rfl

theorem Bs.take {w : World} {a : Option Addr} {c : Nat} {bs : List UInt8} (h : Bs w a c bs) (n : Nat) : Bs w a c (bs.take n) := by
  refine ⟨by simp, by have := h.room; simp; omega, h.most, h.nil, fun j u hj => ?_⟩
  rw [List.map_take, List.getElem?_take] at hj
  split at hj
  · exact h.cell j u hj
  · cases hj

theorem Bs.drop {w : World} {a : Option Addr} {c : Nat} {bs : List UInt8} (h : Bs w a c bs) (n : Nat) (_hn : n ≤ bs.length) : Bs w (cutA a c n 1) (c - n) (bs.drop n) := by
  have hr := h.room
  have hm := h.most
  refine ⟨by simp, by simp; omega, by omega, fun e => ?_, fun j u hj => ?_⟩
  · have : a = none := by
      unfold cutA at e
      split at e
      · exact e
      · simpa using e
    have := h.nil this
    omega
  · rw [List.map_drop, List.getElem?_drop] at hj
    obtain ⟨b, off, rfl, hc⟩ := h.cell (n + j) u hj
    have hlt : n + j < bs.length := by
      have := (List.getElem?_eq_some_iff.1 hj).1
      simpa using this
    refine ⟨b, off + n, ?_, by rw [Nat.add_assoc]; exact hc⟩
    unfold cutA
    rw [if_neg (by omega)]
    simp [Addr.add_lit]

theorem cutA_blk (a : Option Addr) (c l s : Nat) : ablk (cutA a c l s) = ablk a := by
  unfold cutA
  split
  · rfl
  · cases a with
    | none => rfl
    | some a => simp [ablk, Addr.add]; split <;> rfl

/-- A reader at block b: what is left, or none: it is wrong. -/
structure IsR (w : World) (b : Nat) (a : Option Addr) (st : Option (List UInt8)) : Prop where
  at_ : ∃ c, w.heap[b]? = some (.cells #[.slice a (st.getD []).length c, .bool st.isNone] 55 (0, 0)) ∧ Bs w a c (st.getD [])
  blk : ∀ k, ablk a = some k → k < w.heap.size

theorem IsR.lt {w : World} {b : Nat} {a : Option Addr} {st : Option (List UInt8)} (h : IsR w b a st) : b < w.heap.size := by
  obtain ⟨c, h, _⟩ := h.at_
  exact (Array.getElem?_eq_some_iff.1 h).1

theorem IsR.fr {S : Nat → Prop} {w w' : World} {b : Nat} {a : Option Addr} {st : Option (List UInt8)} (h : IsR w b a st) (hf : Fr S w w') (hb : ¬ S b) (ha : ∀ k, ablk a = some k → ¬ S k) : IsR w' b a st := by
  obtain ⟨c, h1, h2⟩ := h.at_
  exact ⟨⟨c, hf.keeps hb h1, Sl.fr h2 hf ha⟩, fun k hk => hf.lt (h.blk k hk)⟩

theorem IsR.below {w w' : World} {b n : Nat} {a : Option Addr} {st : Option (List UInt8)} (h : IsR w b a st) (hf : Below n w w') (hb : b < n) (ha : ∀ k, ablk a = some k → k < n) : IsR w' b a st := by
  obtain ⟨c, h1, h2⟩ := h.at_
  exact ⟨⟨c, (hf.block b hb).trans h1, h2.kept fun k hk _ => hf.block k (ha k hk)⟩, fun k hk => Nat.lt_of_lt_of_le (h.blk k hk) hf.size⟩

/-- The cells of a pair. -/
theorem pair_cell {w : World} {b : Nat} {u v : Value} {t : TypeId} (h : w.heap[b]? = some (.cells #[u, v] t (0, 0))) : w.cell? ⟨b, 0, none⟩ = some u ∧ w.cell? ⟨b, 1, none⟩ = some v ∧ (∀ o, w.frozen? ⟨b, o, none⟩ = false) := by
  simp [World.cell?, World.frozen?, h]

theorem pair_set0 {w : World} {b : Nat} {u v x : Value} {t : TypeId} (h : w.heap[b]? = some (.cells #[u, v] t (0, 0))) : (w.setCell ⟨b, 0, none⟩ x).heap[b]? = some (.cells #[x, v] t (0, 0)) := by
  simp only [World.setCell, Array.getElem?_modify, if_true, h, Option.map_some]
  rfl

theorem pair_set1 {w : World} {b : Nat} {u v x : Value} {t : TypeId} (h : w.heap[b]? = some (.cells #[u, v] t (0, 0))) : (w.setCell ⟨b, 1, none⟩ x).heap[b]? = some (.cells #[u, x] t (0, 0)) := by
  simp only [World.setCell, Array.getElem?_modify, if_true, h, Option.map_some]
  rfl

/-- What lies in no pair of a slice and a bool is not changed by a store there. -/
theorem Bs.pair {w w' : World} {b : Nat} {u v : Value} {t : TypeId} (hu : ∀ n, u ≠ .int .u8 n) (hv : ∀ n, v ≠ .int .u8 n) (h : w.heap[b]? = some (.cells #[u, v] t (0, 0))) (hf : Fr (fun k => k = b) w w') {a : Option Addr} {c : Nat} {bs : List UInt8} (hb : Bs w a c bs) : Bs w' a c bs := by
  refine ⟨hb.len, hb.room, hb.most, hb.nil, fun j x hj => ?_⟩
  obtain ⟨b', off, rfl, hc⟩ := hb.cell j x hj
  have hx : ∃ n, x = .int .u8 n := by
    simp only [List.getElem?_map, Option.map_eq_some_iff] at hj
    obtain ⟨y, _, rfl⟩ := hj
    exact ⟨_, rfl⟩
  obtain ⟨n, rfl⟩ := hx
  by_cases e : b' = b
  · subst e
    simp only [World.cell?, h, Option.isSome_none, Bool.false_eq_true, if_false] at hc
    match h' : off + j, hc with
    | 0, hc => simp at hc; exact absurd hc (hu n)
    | 1, hc => simp at hc; exact absurd hc (hv n)
    | k + 2, hc => simp at hc
  · exact ⟨b', off, rfl, hf.cell (p := ⟨b', off + j, none⟩) e hc⟩

/-- Behind a call of a reader's. -/
def RPost (w : World) (b : Nat) (a : Option Addr) (st : Option (List UInt8)) (w' : World) : Prop :=
  ∃ a', IsR w' b a' st ∧ Fr (fun k => k = b) w w' ∧ ∀ k, ablk a' = some k → ablk a = some k

theorem RPost.refl {w : World} {b : Nat} {a : Option Addr} {st : Option (List UInt8)} (h : IsR w b a st) : RPost w b a st w := ⟨a, h, Fr.refl _ _, fun _ => id⟩

theorem RPost.trans {w w1 w2 : World} {b : Nat} {a a1 : Option Addr} {st2 : Option (List UInt8)} (hf : Fr (fun k => k = b) w w1) (ha : ∀ k, ablk a1 = some k → ablk a = some k)
    (h2 : RPost w1 b a1 st2 w2) : RPost w b a st2 w2 := by
  obtain ⟨a2, h, hf2, ha2⟩ := h2
  exact ⟨a2, h, hf.trans' hf2, fun k hk => ha k (ha2 k hk)⟩

set_option maxHeartbeats 400000 in
theorem rfail_any (b : Nat) (a : Option Addr) (st : Option (List UInt8)) (w : World) (h : IsR w b a st) :
    Calls Try.prog 30 #[.pointer (some ⟨b, 0, none⟩)] w fun e w' => e = .returned (.tuple #[]) ∧ RPost w b a none w' := by
  obtain ⟨c, h1, h2⟩ := h.at_
  obtain ⟨c0, c1, z⟩ := pair_cell h1
  have z0 := z 0
  have z1 := z 1
  have p0 := pair_set0 (x := .slice none 0 0) h1
  have P := Lib.hid (pair_set1 (x := .bool true) p0)
  clear h1 z p0 h2 h
  go_enter Try.func30, Try.ntmps30
  go_wp2
  go_end0
  exact ⟨rfl, none, ⟨⟨0, P.out, Bs.nothing _⟩, fun k e => by cases e⟩, (Fr.setCell (S := fun k => k = b) (Fr.refl _ _) (p := ⟨b, 0, none⟩) (fun _ => rfl) _).setCell (p := ⟨b, 1, none⟩) (fun _ => rfl) _, fun k e => by cases e⟩

theorem rfail_none (w : World) : Calls Try.prog 30 #[.pointer none] w fun e w' => e = .returned (.tuple #[]) ∧ w = w' := by
  go_enter Try.func30, Try.ntmps30
  go_wp2
  exact bodyPost_ret (results_none rfl _ _ _) rfl ⟨rfl, rfl⟩

/-- How much is left, as a number. -/
def lft (st : Option (List UInt8)) : Nat := (st.getD []).length

theorem RLeft_any (b : Nat) (a : Option Addr) (st : Option (List UInt8)) (w : World) (h : IsR w b a st) (_hl : lft st ≤ 140737488355328) :
    Calls Try.prog 24 #[.pointer (some ⟨b, 0, none⟩)] w fun e w' => e = .returned (.int .i64 (lft st)) ∧ w = w' := by
  obtain ⟨c, h1, h2⟩ := h.at_
  obtain ⟨c0, c1, z⟩ := pair_cell h1
  change w.cell? _ = some (.slice a (lft st) c) at c0
  clear h1 z h2 h c1
  go_enter Try.func24, Try.ntmps24
  go_wp2
  go_ret
  exact ⟨rfl, rfl⟩

theorem RLeft_none (w : World) : Calls Try.prog 24 #[.pointer none] w fun e w' => e = .returned (.int .i64 0) ∧ w = w' := by
  go_enter Try.func24, Try.ntmps24
  go_wp2
  go_ret
  exact ⟨rfl, rfl⟩

theorem RWrong_any (b : Nat) (a : Option Addr) (st : Option (List UInt8)) (w : World) (h : IsR w b a st) :
    Calls Try.prog 23 #[.pointer (some ⟨b, 0, none⟩)] w fun e w' => e = .returned (.bool st.isNone) ∧ w = w' := by
  obtain ⟨c, h1, h2⟩ := h.at_
  obtain ⟨c0, c1, z⟩ := pair_cell h1
  generalize hs : st.isNone = q at c1 ⊢
  clear h1 z h2 h hs c0
  go_enter Try.func23, Try.ntmps23
  go_wp2
  go_ret
  exact ⟨rfl, rfl⟩

theorem RWrong_none (w : World) : Calls Try.prog 23 #[.pointer none] w fun e w' => e = .returned (.bool true) ∧ w = w' := by
  go_enter Try.func23, Try.ntmps23
  go_wp2
  go_ret
  exact ⟨rfl, rfl⟩

/-- Is all read, and all right? -/
def endB (st : Option (List UInt8)) : Bool := match st with | some bs => bs.isEmpty | none => false

theorem REnd_any (b : Nat) (a : Option Addr) (st : Option (List UInt8)) (w : World) (h : IsR w b a st) (hl : lft st ≤ 140737488355328) :
    Calls Try.prog 22 #[.pointer (some ⟨b, 0, none⟩)] w fun e w' => e = .returned (.bool (endB st)) ∧ w = w' := by
  cases st with
  | none =>
    have C1 := Lib.hid (RWrong_any b a none w h)
    go_enter Try.func22, Try.ntmps22
    go_wp2_with (go_at_call 23; refine C1.out.mono ?_; rintro e w' ⟨rfl, rfl⟩)
    go_ret
    exact ⟨rfl, rfl⟩
  | some bs =>
    have C1 := Lib.hid (RWrong_any b a (some bs) w h)
    have C2 := Lib.hid (RLeft_any b a (some bs) w h hl)
    have hlf : lft (some bs) = bs.length := rfl
    by_cases h0 : bs = []
    · subst h0
      go_enter Try.func22, Try.ntmps22
      go_wp2_with (first | (go_at_call 23; refine C1.out.mono ?_; rintro e w' ⟨rfl, rfl⟩) | (go_at_call 24; refine C2.out.mono ?_; rintro e w' ⟨rfl, rfl⟩))
      go_ret
      exact ⟨rfl, rfl⟩
    · have hp : 0 < bs.length := List.length_pos_iff.2 h0
      have he : endB (some bs) = false := by simp [endB, h0]
      rw [he]
      clear he hlf
      have hq : ((lft (some bs) : Int) == 0) = false := by simp [lft, h0]
      clear h0
      go_enter Try.func22, Try.ntmps22
      go_wp2_with (first | (go_at_call 23; refine C1.out.mono ?_; rintro e w' ⟨rfl, rfl⟩) | (go_at_call 24; refine C2.out.mono ?_; rintro e w' ⟨rfl, rfl⟩))
      go_ret
      exact ⟨rfl, rfl⟩

theorem REnd_none (w : World) : Calls Try.prog 22 #[.pointer none] w fun e w' => e = .returned (.bool false) ∧ w = w' := by
  go_enter Try.func22, Try.ntmps22
  go_wp2_with (go_at_call 23; refine (RWrong_none _).mono ?_; rintro e w' ⟨rfl, rfl⟩)
  go_ret
  exact ⟨rfl, rfl⟩

/-- The next so many bytes, and what is left behind them. -/
def tk (n : Int) (st : Option (List UInt8)) : List UInt8 × Option (List UInt8) :=
  match st with
  | none => ([], none)
  | some bs => if 0 ≤ n ∧ n ≤ bs.length then (bs.take n.toNat, some (bs.drop n.toNat)) else ([], none)

/-- Behind take: a piece of the reader's own bytes. -/
def TPost (w : World) (b : Nat) (a : Option Addr) (r : List UInt8) (st : Option (List UInt8)) (e : Ending) (w' : World) : Prop :=
  ∃ a2 c2, e = .returned (.slice a2 r.length c2) ∧ Bs w' a2 c2 r ∧ RPost w b a st w' ∧ ∀ k, ablk a2 = some k → ablk a = some k

set_option maxHeartbeats 400000 in
theorem take_bad (b : Nat) (a : Option Addr) (st : Option (List UInt8)) (n : Int) (w : World) (h : IsR w b a st) (hl : lft st ≤ 140737488355328) (hn : n < 0 ∨ (lft st : Int) < n) :
    Calls Try.prog 32 #[.pointer (some ⟨b, 0, none⟩), .int .i64 n] w (TPost w b a [] none) := by
  have C1 := Lib.hid (RLeft_any b a st w h hl)
  have C2 := Lib.hid (rfail_any b a st w h)
  rcases hn with hn | hn
  all_goals
    by_cases hneg : n < 0
    all_goals
      first
      | omega
      | (go_enter Try.func32, Try.ntmps32
         go_wp2_with (first | (go_at_call 24; refine C1.out.mono ?_; rintro e w' ⟨rfl, rfl⟩) | (go_at_call 30; refine C2.out.mono ?_; rintro e w1 ⟨rfl, h1⟩))
         go_ret
         exact ⟨none, 0, rfl, Bs.nothing _, h1, fun k e => by cases e⟩)

set_option maxHeartbeats 400000 in
theorem take_wrong (b : Nat) (a : Option Addr) (w : World) (h : IsR w b a none) :
    Calls Try.prog 32 #[.pointer (some ⟨b, 0, none⟩), .int .i64 0] w (TPost w b a [] none) := by
  have C1 := Lib.hid (RLeft_any b a none w h (by simp [lft]))
  have C2 := Lib.hid (RWrong_any b a none w h)
  have C3 := Lib.hid (RPost.refl h)
  go_enter Try.func32, Try.ntmps32
  go_wp2_with (first | (go_at_call 24; refine C1.out.mono ?_; rintro e w' ⟨rfl, rfl⟩) | (go_at_call 23; refine C2.out.mono ?_; rintro e w1 ⟨rfl, rfl⟩))
  go_ret
  exact ⟨none, 0, rfl, Bs.nothing _, C3.out, fun k e => by cases e⟩

set_option maxHeartbeats 400000 in
theorem take_ok (b : Nat) (a : Option Addr) (bs : List UInt8) (n : Nat) (w : World) (h : IsR w b a (some bs)) (hl : bs.length ≤ 140737488355328) (hn : n ≤ bs.length) :
    Calls Try.prog 32 #[.pointer (some ⟨b, 0, none⟩), .int .i64 n] w (TPost w b a (bs.take n) (some (bs.drop n))) := by
  have C1 := Lib.hid (RLeft_any b a (some bs) w h hl)
  have C2 := Lib.hid (RWrong_any b a (some bs) w h)
  have C3 := Lib.hid (RPost.refl h)
  obtain ⟨c, h1, h2⟩ := h.at_
  obtain ⟨c0, c1, z⟩ := pair_cell h1
  simp only [Option.getD_some] at c0 h2
  have hc := h2.room
  have z0 := z 0
  have H1 := Lib.hid h1
  have hlf : ¬ (lft (some bs) : Int) < n := by simp [lft]; omega
  have HB := Lib.hid h.blk
  clear h1 z h c1
  go_enter Try.func32, Try.ntmps32
  go_wp2_with (first | (go_at_call 24; refine C1.out.mono ?_; rintro e w' ⟨rfl, rfl⟩) | (go_at_call 23; refine C2.out.mono ?_; rintro e w1 ⟨rfl, rfl⟩))
  go_ret
  have P := pair_set0 (x := .slice (cutA a c n 1) (bs.length - n) (c - n)) H1.out
  have F := Fr.setCell (S := fun k => k = b) (Fr.refl _ w) (p := ⟨b, 0, none⟩) (fun _ => rfl) (.slice (cutA a c n 1) (bs.length - n) (c - n))
  have T := Bs.pair (fun n e => by cases e) (fun n e => by cases e) H1.out F (h2.take n)
  have D := Bs.pair (fun n e => by cases e) (fun n e => by cases e) H1.out F (h2.drop n hn)
  refine ⟨a, c, by rw [List.length_take, Nat.min_eq_left hn]; rfl, T, ⟨cutA a c n 1, ⟨⟨c - n, ?_, D⟩, fun k hk => F.lt (HB.out k (by rwa [cutA_blk] at hk))⟩, F, fun k hk => by rwa [cutA_blk] at hk⟩, fun k => id⟩
  simp only [Option.getD_some, List.length_drop]
  exact P

theorem take_any (b : Nat) (a : Option Addr) (st : Option (List UInt8)) (n : Int) (w : World) (h : IsR w b a st) (hl : lft st ≤ 140737488355328) :
    Calls Try.prog 32 #[.pointer (some ⟨b, 0, none⟩), .int .i64 n] w (TPost w b a (tk n st).1 (tk n st).2) := by
  cases st with
  | none =>
    by_cases h0 : n = 0
    · subst h0
      exact take_wrong b a w h
    · exact take_bad b a none n w h hl (by simp [lft]; omega)
  | some bs =>
    by_cases h0 : 0 ≤ n ∧ n ≤ bs.length
    · obtain ⟨n, rfl⟩ := Int.eq_ofNat_of_zero_le h0.1
      simp only [tk, if_pos h0, Int.toNat_natCast]
      exact take_ok b a bs n w h hl (by omega)
    · simp only [tk, if_neg h0]
      exact take_bad b a (some bs) n w h hl (by simp [lft]; omega)

theorem take_none (n : Int) (w : World) :
    Calls Try.prog 32 #[.pointer none, .int .i64 n] w fun e w' => e = .returned (.slice none 0 0) ∧ w = w' := by
  by_cases hneg : n < 0
  · go_enter Try.func32, Try.ntmps32
    go_wp2_with (first | (go_at_call 24; refine (RLeft_none _).mono ?_; rintro e w' ⟨rfl, rfl⟩) | (go_at_call 30; refine (rfail_none _).mono ?_; rintro e w1 ⟨rfl, rfl⟩))
    go_ret
    exact ⟨rfl, rfl⟩
  by_cases hpos : 0 < n
  · go_enter Try.func32, Try.ntmps32
    go_wp2_with (first | (go_at_call 24; refine (RLeft_none _).mono ?_; rintro e w' ⟨rfl, rfl⟩) | (go_at_call 30; refine (rfail_none _).mono ?_; rintro e w1 ⟨rfl, rfl⟩))
    go_ret
    exact ⟨rfl, rfl⟩
  · obtain rfl : n = 0 := by omega
    go_enter Try.func32, Try.ntmps32
    go_wp2_with (first | (go_at_call 24; refine (RLeft_none _).mono ?_; rintro e w' ⟨rfl, rfl⟩) | (go_at_call 23; refine (RWrong_none _).mono ?_; rintro e w1 ⟨rfl, rfl⟩))
    go_ret
    exact ⟨rfl, rfl⟩

/-- Bytes in new memory, behind a reader's call. -/
def RBytes (w : World) (b : Nat) (a : Option Addr) (r : List UInt8) (st : Option (List UInt8)) (e : Ending) (w' : World) : Prop :=
  ∃ a2 c2, e = .returned (.slice a2 r.length c2) ∧ Bs w' a2 c2 r ∧ RPost w b a st w' ∧ ∀ k, ablk a2 = some k → w.heap.size ≤ k

theorem tk_len (n : Int) (st : Option (List UInt8)) : (tk n st).1.length ≤ lft st ∧ lft (tk n st).2 ≤ lft st := by
  unfold tk lft
  cases st with
  | none => simp
  | some bs =>
    dsimp only
    split
    · simp; omega
    · simp

set_option maxHeartbeats 400000 in
theorem RRaw_any (b : Nat) (a : Option Addr) (st : Option (List UInt8)) (n : Int) (w : World) (h : IsR w b a st) (hl : lft st ≤ 140737488355328) :
    Calls Try.prog 20 #[.pointer (some ⟨b, 0, none⟩), .int .i64 n] w (RBytes w b a (tk n st).1 (tk n st).2) := by
  have C1 := Lib.hid (take_any b a st n w h hl)
  have ht := (tk_len n st).1
  generalize tk n st = q at *
  obtain ⟨r, st'⟩ := q
  dsimp only at *
  go_enter Try.func20, Try.ntmps20
  go_wp2_with (first | (go_at_call 32; refine C1.out.mono ?_; rintro e w1 ⟨a2, c2, rfl, hb, hp, _⟩; have HP := Lib.hid hp) | (go_at_call 29; refine (Clone_any _ _ _ _ _ hb rfl (by omega)).mono ?_; rintro e w2 ⟨a3, c3, rfl, hb3, hf3, hk3⟩))
  go_ret
  obtain ⟨a', hr, hf, ha⟩ := hp
  exact ⟨a3, c3, rfl, hb3, ⟨a', hr.fr hf3 (fun f => f) (fun _ _ f => f), hf.trans' hf3.of0, ha⟩, fun k hk => Nat.le_trans hf.size (hk3 k hk).1⟩

theorem RRaw_none (n : Int) (w : World) :
    Calls Try.prog 20 #[.pointer none, .int .i64 n] w (NewBytes [] w) := by
  go_enter Try.func20, Try.ntmps20
  go_wp2_with (first | (go_at_call 32; refine (take_none _ _).mono ?_; rintro e w' ⟨rfl, rfl⟩) | (go_at_call 29; refine (Clone_any _ _ _ [] _ (Bs.nothing _) rfl (by simp)).mono ?_; rintro e w2 ⟨a3, c3, rfl, hb3, hf3, hk3⟩))
  go_ret
  exact ⟨a3, c3, rfl, hb3, hf3, hk3⟩

/-- A new reader. -/
def NewReader (bs : List UInt8) (w : World) (e : Ending) (w' : World) : Prop :=
  ∃ b a, e = .returned (.pointer (some ⟨b, 0, none⟩)) ∧ IsR w' b a (some bs) ∧ Fr F0 w w' ∧ w.heap.size ≤ b ∧ b < w'.heap.size ∧ ∀ k, ablk a = some k → w.heap.size ≤ k ∧ k < w'.heap.size

set_option maxHeartbeats 400000 in
theorem Read_any (a : Option Addr) (n c : Nat) (bs : List UInt8) (w : World) (h : Bs w a c bs) (hn : n = bs.length) (hl : bs.length ≤ 140737488355328) :
    Calls Try.prog 16 #[.slice a n c] w (NewReader bs w) := by
  have HN := Lib.hid hn
  clear hn
  go_enter Try.func16, Try.ntmps16
  go_wp2_with (go_at_call 29; refine (Clone_any _ _ _ _ _ h HN.out hl).mono ?_; rintro e w1 ⟨a', c', rfl, h1, h2, h3⟩; have H3 := Lib.hid h3; clear h3)
  go_ret
  have hn : (w1.alloc (Obj.cells #[.slice a' bs.length c', .bool false] 55)).heap[w1.heap.size]? = some (.cells #[.slice a' bs.length c', .bool false] 55 (0, 0)) := heap_alloc_new _ _
  refine ⟨w1.heap.size, a', rfl, ⟨⟨c', hn, Sl.fr h1 ((Fr.refl F0 _).alloc _) fun _ _ => id⟩, fun k hk => by have := H3.out k hk; simp; omega⟩, h2.alloc _, h2.size, by simp, fun k hk => ?_⟩
  have := H3.out k hk
  simp
  omega
end Go.Proofs.Ytkeepojcdofibaa
