/- Stage 1, octet: the reader's Count and Counted, and a reader that isn't there. -/
import Derived.Test.YtkeepojcdofibaaOctW
import Derived.Test.YtkeepojcdofibaaOctG
namespace Go.Proofs.Ytkeepojcdofibaa
set_option linter.unusedVariables false
set_option linter.unusedSimpArgs false
open Go.RowKit Go.Shelf

attribute [local go_sem] Oper.semAt_some

theorem ofLE_lt (bs : List UInt8) : ofLE bs < 256 ^ bs.length := by
  induction bs with
  | nil => simp [ofLE]
  | cons c r ih =>
    have := c.toNat_lt
    simp only [ofLE, List.length_cons, Nat.pow_succ]
    omega

theorem szB_le {n : Int} (h : szB n = true) : 1 ≤ n ∧ n ≤ 8 := by
  simp only [szB, Bool.or_eq_true, beq_iff_eq] at h
  omega

theorem tk_le (n : Int) (st : Option (List UInt8)) (h : 0 ≤ n) : ((tk n st).1.length : Int) ≤ n := by
  unfold tk
  cases st with
  | none => simpa using h
  | some bs =>
    dsimp only
    split
    · simp; omega
    · simpa using h

theorem gt_lt (n : Int) (st : Option (List UInt8)) : (gt n st).1 < 18446744073709551616 := by
  unfold gt
  split
  · rename_i h
    have h8 := szB_le h
    have h1 := tk_le n st (by omega)
    have h2 := ofLE_lt (tk n st).1
    have h3 : 256 ^ (tk n st).1.length ≤ 256 ^ 8 := Nat.pow_le_pow_right (by omega) (by omega)
    omega
  · omega

theorem gt_lft (n : Int) (st : Option (List UInt8)) : lft (gt n st).2 ≤ lft st := by
  unfold gt
  split
  · exact (tk_len n st).2
  · simp [lft]

theorem Get_any (b : Nat) (a : Option Addr) (st : Option (List UInt8)) (n : Int) (w : World) (h : IsR w b a st) (hl : lft st ≤ 140737488355328) :
    Calls Try.prog 17 #[.pointer (some ⟨b, 0, none⟩), .int .i64 n] w fun e w' => e = .returned (.int .u64 (gt n st).1) ∧ RPost w b a (gt n st).2 w' := by
  cases hn : szB n with
  | true => simp only [gt, hn, if_true]; exact Get_ok b a st n w h hl hn
  | false => simp only [gt, hn]; exact Get_bad b a st n w h hn

theorem CountSize_n (x s : Nat) (w : World) (h : csz x = s) : Calls Try.prog 12 #[.int .u64 x] w fun e w' => e = .returned (.int .i64 s) ∧ w = w' := by
  subst h
  exact CountSize_any x w

/-- A count's size, the count, and what is left behind it: as the program reads them. -/
def rcp (st : Option (List UInt8)) : Nat × Nat × Option (List UInt8) :=
  if (gt 1 st).1 = 253 then (3, gt 2 (gt 1 st).2) else if (gt 1 st).1 = 254 then (5, gt 4 (gt 1 st).2) else if (gt 1 st).1 = 255 then (9, gt 8 (gt 1 st).2) else (1, gt 1 st)

/-- A count, and what is left behind it: as the program reads it. -/
def rc (most : Nat) (st : Option (List UInt8)) : Nat × Option (List UInt8) :=
  if csz (rcp st).2.1 = (rcp st).1 ∧ (rcp st).2.1 ≤ most then (rcp st).2 else (0, none)

set_option maxRecDepth 100000 in
set_option maxHeartbeats 4000000 in
theorem RCount_any (b : Nat) (a : Option Addr) (st : Option (List UInt8)) (most : Nat) (w : World) (h : IsR w b a st) (hl : lft st ≤ 140737488355328) (hm : most < 18446744073709551616) :
    Calls Try.prog 19 #[.pointer (some ⟨b, 0, none⟩), .int .u64 most] w fun e w' => e = .returned (.int .u64 (rc most st).1) ∧ RPost w b a (rc most st).2 w' := by
  have C1 := Get_any b a st 1 w h hl
  have L1 := gt_lft 1 st
  have X1 := gt_lt 1 st
  -- the second number, wherever it comes from
  have second : ∀ k : Int, ∀ w1, RPost w b a (gt 1 st).2 w1 → Calls Try.prog 17 #[.pointer (some ⟨b, 0, none⟩), .int .i64 k] w1 fun e w' => e = .returned (.int .u64 (gt k (gt 1 st).2).1) ∧ RPost w b a (gt k (gt 1 st).2).2 w' := by
    rintro k w1 ⟨a1, h1, hf1, ha1⟩
    refine (Get_any b a1 _ k w1 h1 (by omega)).mono ?_
    rintro e w2 ⟨rfl, h2⟩
    exact ⟨rfl, RPost.trans hf1 ha1 h2⟩
  have fail : ∀ st2 w1, RPost w b a st2 w1 → Calls Try.prog 30 #[.pointer (some ⟨b, 0, none⟩)] w1 fun e w' => e = .returned (.tuple #[]) ∧ RPost w b a none w' := by
    rintro st2 w1 ⟨a1, h1, hf1, ha1⟩
    refine (rfail_any b a1 _ w1 h1).mono ?_
    rintro e w2 ⟨rfl, h2⟩
    exact ⟨rfl, RPost.trans hf1 ha1 h2⟩
  have Y : ∀ k, (gt k (gt 1 st).2).1 < 18446744073709551616 := fun k => gt_lt k _
  unfold rc rcp
  generalize hg : gt 1 st = g at *
  obtain ⟨x, s1⟩ := g
  dsimp only at *
  clear hg L1 hl h
  have FA := Lib.hid fail
  have CC1 := Lib.hid C1
  have SE := Lib.hid second
  have YY := Lib.hid Y
  clear fail C1 second Y
  by_cases hx : x = 253 ∨ x = 254 ∨ x = 255
  · obtain ⟨k, size, hk⟩ : ∃ (k : Int) (size : Nat), (x = 253 ∧ k = 2 ∧ size = 3) ∨ (x = 254 ∧ k = 4 ∧ size = 5) ∨ (x = 255 ∧ k = 8 ∧ size = 9) := by
      rcases hx with h | h | h
      · exact ⟨2, 3, .inl ⟨h, rfl, rfl⟩⟩
      · exact ⟨4, 5, .inr (.inl ⟨h, rfl, rfl⟩)⟩
      · exact ⟨8, 9, .inr (.inr ⟨h, rfl, rfl⟩)⟩
    have hif : (if x = 253 then (3, gt 2 s1) else if x = 254 then (5, gt 4 s1) else if x = 255 then (9, gt 8 s1) else (1, x, s1)) = (size, gt k s1) := by
      rcases hk with ⟨rfl, rfl, rfl⟩ | ⟨rfl, rfl, rfl⟩ | ⟨rfl, rfl, rfl⟩ <;> rfl
    rw [hif]
    clear hif hx
    have hy := YY.out k
    have S2 := Lib.hid (SE.out k)
    clear SE YY
    generalize gt k s1 = q at *
    obtain ⟨y, s2⟩ := q
    dsimp only at *
    have key : ∀ c : Nat, csz y = c → (c < size ∨ size < c ∨ c = size ∧ (most < y ∨ y ≤ most)) →
        Calls Try.prog 19 #[.pointer (some ⟨b, 0, none⟩), .int .u64 most] w fun e w' => e = .returned (.int .u64 (if csz y = size ∧ y ≤ most then (y, s2) else (0, none)).1) ∧ RPost w b a (if csz y = size ∧ y ≤ most then (y, s2) else (0, none)).2 w' := by
      intro c hc hcase
      have HC := Lib.hid hc
      clear hc
      rcases hcase with h1 | h1 | ⟨rfl, h1 | h1⟩
      · rw [if_neg (by rw [HC.out]; omega)]
        dsimp only
        rcases hk with ⟨rfl, rfl, rfl⟩ | ⟨rfl, rfl, rfl⟩ | ⟨rfl, rfl, rfl⟩
        all_goals
          go_enter Try.func19, Try.ntmps19
          go_wp2_with fail
          refine CC1.out.mono ?_
          rintro e w1 ⟨rfl, p1⟩
          go_wp2_with fail
          refine (S2.out _ p1).mono ?_
          rintro e w2 ⟨rfl, p2⟩
          go_wp2_with (first | (go_at_call 12; refine (CountSize_n _ _ _ HC.out).mono ?_; rintro e w3 ⟨rfl, rfl⟩) | (go_at_call 30; refine (FA.out _ _ p2).mono ?_; rintro e w3 ⟨rfl, p3⟩))
          go_ret
          exact ⟨rfl, p3⟩
      · rw [if_neg (by rw [HC.out]; omega)]
        dsimp only
        rcases hk with ⟨rfl, rfl, rfl⟩ | ⟨rfl, rfl, rfl⟩ | ⟨rfl, rfl, rfl⟩
        all_goals
          go_enter Try.func19, Try.ntmps19
          go_wp2_with fail
          refine CC1.out.mono ?_
          rintro e w1 ⟨rfl, p1⟩
          go_wp2_with fail
          refine (S2.out _ p1).mono ?_
          rintro e w2 ⟨rfl, p2⟩
          go_wp2_with (first | (go_at_call 12; refine (CountSize_n _ _ _ HC.out).mono ?_; rintro e w3 ⟨rfl, rfl⟩) | (go_at_call 30; refine (FA.out _ _ p2).mono ?_; rintro e w3 ⟨rfl, p3⟩))
          go_ret
          exact ⟨rfl, p3⟩
      · rw [if_neg (by rw [HC.out]; omega)]
        dsimp only
        rcases hk with ⟨rfl, rfl, rfl⟩ | ⟨rfl, rfl, rfl⟩ | ⟨rfl, rfl, rfl⟩
        all_goals
          go_enter Try.func19, Try.ntmps19
          go_wp2_with fail
          refine CC1.out.mono ?_
          rintro e w1 ⟨rfl, p1⟩
          go_wp2_with fail
          refine (S2.out _ p1).mono ?_
          rintro e w2 ⟨rfl, p2⟩
          go_wp2_with (first | (go_at_call 12; refine (CountSize_n _ _ _ HC.out).mono ?_; rintro e w3 ⟨rfl, rfl⟩) | (go_at_call 30; refine (FA.out _ _ p2).mono ?_; rintro e w3 ⟨rfl, p3⟩))
          go_ret
          exact ⟨rfl, p3⟩
      · rw [if_pos ⟨HC.out, h1⟩]
        dsimp only
        rcases hk with ⟨rfl, rfl, rfl⟩ | ⟨rfl, rfl, rfl⟩ | ⟨rfl, rfl, rfl⟩
        all_goals
          go_enter Try.func19, Try.ntmps19
          go_wp2_with fail
          refine CC1.out.mono ?_
          rintro e w1 ⟨rfl, p1⟩
          go_wp2_with fail
          refine (S2.out _ p1).mono ?_
          rintro e w2 ⟨rfl, p2⟩
          go_wp2_with ((go_at_call 12; refine (CountSize_n _ _ _ HC.out).mono ?_; rintro e w3 ⟨rfl, rfl⟩))
          go_ret
          exact ⟨rfl, p2⟩
    refine key _ rfl ?_
    omega
  · have hif : (if x = 253 then (3, gt 2 s1) else if x = 254 then (5, gt 4 s1) else if x = 255 then (9, gt 8 s1) else (1, x, s1)) = (1, x, s1) := by
      rw [if_neg (by omega), if_neg (by omega), if_neg (by omega)]
    rw [hif]
    clear hif SE YY
    dsimp only
    have b1 : ((x : Int) == 253) = false := by simp; omega
    have b2 : ((x : Int) == 254) = false := by simp; omega
    have b3 : ((x : Int) == 255) = false := by simp; omega
    clear hx
    have key : ∀ c : Nat, csz x = c → (c < 1 ∨ 1 < c ∨ c = 1 ∧ (most < x ∨ x ≤ most)) →
        Calls Try.prog 19 #[.pointer (some ⟨b, 0, none⟩), .int .u64 most] w fun e w' => e = .returned (.int .u64 (if csz x = 1 ∧ x ≤ most then (x, s1) else (0, none)).1) ∧ RPost w b a (if csz x = 1 ∧ x ≤ most then (x, s1) else (0, none)).2 w' := by
      intro c hc hcase
      have HC := Lib.hid hc
      clear hc
      rcases hcase with h1 | h1 | ⟨rfl, h1 | h1⟩
      · have := csz_le x
        rw [HC.out] at this
        omega
      · rw [if_neg (by rw [HC.out]; omega)]
        dsimp only
        go_enter Try.func19, Try.ntmps19
        go_wp2_with fail
        refine CC1.out.mono ?_
        rintro e w1 ⟨rfl, p1⟩
        go_wp2_with (first | (go_at_call 12; refine (CountSize_n _ _ _ HC.out).mono ?_; rintro e w3 ⟨rfl, rfl⟩) | (go_at_call 30; refine (FA.out _ _ p1).mono ?_; rintro e w3 ⟨rfl, p3⟩))
        go_ret
        exact ⟨rfl, p3⟩
      · rw [if_neg (by rw [HC.out]; omega)]
        dsimp only
        go_enter Try.func19, Try.ntmps19
        go_wp2_with fail
        refine CC1.out.mono ?_
        rintro e w1 ⟨rfl, p1⟩
        go_wp2_with (first | (go_at_call 12; refine (CountSize_n _ _ _ HC.out).mono ?_; rintro e w3 ⟨rfl, rfl⟩) | (go_at_call 30; refine (FA.out _ _ p1).mono ?_; rintro e w3 ⟨rfl, p3⟩))
        go_ret
        exact ⟨rfl, p3⟩
      · rw [if_pos ⟨HC.out, h1⟩]
        dsimp only
        go_enter Try.func19, Try.ntmps19
        go_wp2_with fail
        refine CC1.out.mono ?_
        rintro e w1 ⟨rfl, p1⟩
        go_wp2_with ((go_at_call 12; refine (CountSize_n _ _ _ HC.out).mono ?_; rintro e w3 ⟨rfl, rfl⟩))
        go_ret
        exact ⟨rfl, p1⟩
    refine key _ rfl ?_
    have := csz_le x
    omega

theorem rc_le (most : Nat) (st : Option (List UInt8)) : (rc most st).1 ≤ most := by
  unfold rc
  split
  · rename_i h
    exact h.2
  · exact Nat.zero_le _

theorem rc_lft (most : Nat) (st : Option (List UInt8)) : lft (rc most st).2 ≤ lft st := by
  have h1 := gt_lft 1 st
  have h2 := fun k => gt_lft k (gt 1 st).2
  have h3 := h2 2
  have h4 := h2 4
  have h5 := h2 8
  have hp : lft (rcp st).2.2 ≤ lft st := by
    unfold rcp
    split
    · dsimp only; omega
    · split
      · dsimp only; omega
      · split
        · dsimp only; omega
        · dsimp only; omega
  unfold rc
  split
  · exact hp
  · simp [lft]

/-- Counted bytes, and what is left behind them. -/
def rctd (most : Int) (st : Option (List UInt8)) : List UInt8 × Option (List UInt8) :=
  if most < 0 then ([], none) else tk (rc most.toNat st).1 (rc most.toNat st).2

set_option maxHeartbeats 1000000 in
theorem RCounted_any (b : Nat) (a : Option Addr) (st : Option (List UInt8)) (most : Int) (w : World) (h : IsR w b a st) (hl : lft st ≤ 140737488355328) (hm : most < 9223372036854775808) :
    Calls Try.prog 21 #[.pointer (some ⟨b, 0, none⟩), .int .i64 most] w (RBytes w b a (rctd most st).1 (rctd most st).2) := by
  by_cases hneg : most < 0
  · simp only [rctd, if_pos hneg]
    go_enter Try.func21, Try.ntmps21
    go_wp2_with (go_at_call 30; refine (rfail_any b a st _ h).mono ?_; rintro e w1 ⟨rfl, p1⟩)
    go_ret
    exact ⟨none, 0, rfl, Bs.nothing _, p1, fun k e => by cases e⟩
  · simp only [rctd, if_neg hneg]
    obtain ⟨m, rfl⟩ := Int.eq_ofNat_of_zero_le (show 0 ≤ most by omega)
    rw [Int.toNat_natCast]
    have C1 := Lib.hid (RCount_any b a st m w h hl (by omega))
    have hc := rc_le m st
    have hl2 := rc_lft m st
    generalize rc m st = g at *
    obtain ⟨x, s1⟩ := g
    dsimp only at *
    go_enter Try.func21, Try.ntmps21
    go_wp2_with (go_at_call 19; refine C1.out.mono ?_; rintro e w1 ⟨rfl, p1⟩)
    obtain ⟨a1, h1, hf1, ha1⟩ := p1
    refine (RRaw_any b a1 s1 _ w1 h1 (by omega)).mono ?_
    rintro e w2 ⟨a2, c2, rfl, hb, hp, hk⟩
    have p3 := RPost.trans hf1 ha1 hp
    have hsz := hf1.size
    clear hp hf1 ha1 h1
    have HK := Lib.hid hk
    clear hk
    go_wp2
    go_ret
    exact ⟨a2, c2, rfl, hb, p3, fun k e => Nat.le_trans hsz (HK.out k e)⟩

/-! ### no reader -/

set_option maxRecDepth 100000 in
set_option maxHeartbeats 2000000 in
theorem Get_none (n : Int) (w : World) (hn : szB n = true) :
    Calls Try.prog 17 #[.pointer none, .int .i64 n] w fun e w' => e = .returned (.int .u64 0) ∧ Fr F0 w w' := by
  refine callsIn_wide (n := 6) |>.1 ?_
  refine callsIn_of_wp_marks Try.func17 rfl trivial ?_ rfl
  simp only [Try.ntmps17, List.size_toArray, List.length_cons, List.length_nil, Nat.reduceAdd, Nat.reduceSub, Array.replicate_succ, Array.replicate_zero, List.push_toArray, List.append_toArray, List.nil_append, List.cons_append]
  gi_wp2_with (first | (refine ⟨trivial, ?_⟩; gi_at_call 28; refine (callsIn_wide.2 (isSize_any _ _)).mono ?_; rintro e w' ⟨rfl, rfl⟩) | (refine ⟨trivial, ?_⟩; gi_at_call 32; refine (callsIn_wide.2 (take_none _ _)).mono ?_; rintro e w1 ⟨rfl, rfl⟩) | (refine ⟨trivial, ?_⟩; gi_at_call 31; refine (Backward_in _ _ trivial rfl _ _ _ _).mono ?_; rintro e w2 ⟨rfl, rfl⟩))
  have cx : (w.alloc (.cells #[.int .u64 0] 29)).heap[w.heap.size]? = some (.cells #[.int .u64 0] 29 (0, 0)) := heap_alloc_new w (.cells #[.int .u64 0] 29)
  have cx' : ((w.alloc (.cells #[.int .u64 0] 29)).alloc (.cells #[.slice none 0 0] 26)).heap[w.heap.size]? = some (.cells #[.int .u64 0] 29 (0, 0)) := (Below.heap_alloc _ _ _ (by simp)).trans cx
  have hbL : ((w.alloc (.cells #[.int .u64 0] 29)).alloc (.cells #[.slice none 0 0] 26)).cell? ⟨(w.alloc (.cells #[.int .u64 0] 29)).heap.size, 0, none⟩ = some (.slice none 0 0) := cell_of_one (heap_alloc_new _ _)
  rw [World.size_alloc] at hbL
  refine wpIn_rangeFunc_ownG rfl (by omega) (gf := 34) (lb := #[.pointer (some ⟨w.heap.size + 1, 0, none⟩)]) rfl trivial (enters_of Try.func34 (by kernel_rfl) rfl)
    (Backward_stops Fence.wide 5 trivial rfl (by omega) (w.heap.size + 1) w.heap.size none 0 [] (by simp) _ (by omega) hbL (Bs.nothing _) (fun k h _ => absurd rfl h))
    (fun h k => Kc.trans h k) (fun W l o o' _ h hc _ => Kc.putObj W l o o' h hc) (Below.refl _ _) (fun _ => rfl)
    (fun pre W => (W.cell? ⟨w.heap.size, 0, none⟩ = some (.int .u64 (acc pre)) ∧ W.frozen? ⟨w.heap.size, 0, none⟩ = false) ∧ Below w.heap.size ((w.alloc (.cells #[.int .u64 0] 29)).alloc (.cells #[.slice none 0 0] 26)) W)
    (fun _ _ _ => False)
    (OwnFrom.and (Own.from (fun s A B row hs hg hr => ⟨cell_kept hs.1 hg hr, (frozen_kept hs.1 hg hr).trans hs.2⟩) _) (ownFrom_below (by simp; omega) (by simp; omega)))
    (fun _ _ _ _ _ hs _ _ => hs)
    ⟨⟨cell_of_one cx', free_of_one cx'⟩, Below.refl _ _⟩
    (fun x => { tmps := #[.pointer none, .int .i64 n, undef, undef, .int .u64 0, .pointer (some ⟨w.heap.size, 0, none⟩), undef, .int .u8 (x.2.toNat : Int), .int .i64 n, .bool true,
      .bool false, undef, undef, .pointer none, .int .i64 n, .slice none 0 0, .func (.func 34) #[] #[.pointer (some ⟨w.heap.size + 1, 0, none⟩)], .int .i64 (x.1 : Int), .int .u8 (x.2.toNat : Int), undef, undef, undef, undef, undef, undef], defers := [] }) ?assign ?body ?done ?stop
  case assign =>
    intro l x W K hK
    gi_wp2
    exact hK
  case body =>
    rintro l pre x W _ hlen
    simp at hlen
  case done =>
    rintro D ys W hD rfl ⟨⟨hc, _⟩, hB⟩ hK
    gi_wp2
    refine ⟨by simp, .inl ⟨_, _, rfl, run_takeDeferred hK, ?_⟩⟩
    have hBD := hB.trans (belowK_b (w := (w.alloc (.cells #[.int .u64 0] 29)).alloc (.cells #[.slice none 0 0] 26)) (by simp; omega) W D _ (.deferred none) (by simp at hD; simp; omega) hK rfl rfl)
    exact ⟨_, results_tmp rfl _ _ _, rfl, (((Fr.refl F0 w).alloc _).alloc _).trans (Fr.of_below' hBD) (fun i hi hk => by omega)⟩
  case stop =>
    rintro D c pre W _ _ h _
    exact h.elim

set_option maxRecDepth 100000 in
theorem RCount_none (most : Nat) (w : World) (hm : most < 18446744073709551616) :
    Calls Try.prog 19 #[.pointer none, .int .u64 most] w fun e w' => e = .returned (.int .u64 0) ∧ Fr F0 w w' := by
  go_enter Try.func19, Try.ntmps19
  go_wp2_with (first | (go_at_call 17; refine (Get_none _ _ rfl).mono ?_; rintro e w1 ⟨rfl, p1⟩; have HP := Lib.hid p1; clear p1) | (go_at_call 12; refine (CountSize_at 0 1 _ (by omega) rfl).mono ?_; rintro e w3 ⟨rfl, rfl⟩))
  go_ret
  exact ⟨rfl, HP.out⟩

theorem RCounted_none (most : Nat) (w : World) (hm : most < 9223372036854775808) :
    Calls Try.prog 21 #[.pointer none, .int .i64 most] w (NewBytes [] w) := by
  go_enter Try.func21, Try.ntmps21
  go_wp2_with (go_at_call 19; refine (RCount_none most _ (by omega)).mono ?_; rintro e w1 ⟨rfl, p1⟩; have HP := Lib.hid p1; clear p1)
  refine (RRaw_none _ _).mono ?_
  rintro e w2 ⟨a2, c2, rfl, hb, hp, hk⟩
  have HQ := Lib.hid hp
  have HK := Lib.hid hk
  clear hp hk
  go_wp2
  go_ret
  exact ⟨a2, c2, rfl, hb, HP.out.trans' HQ.out, fun k e => ⟨Nat.le_trans HP.out.size (HK.out k e).1, (HK.out k e).2⟩⟩
end Go.Proofs.Ytkeepojcdofibaa
