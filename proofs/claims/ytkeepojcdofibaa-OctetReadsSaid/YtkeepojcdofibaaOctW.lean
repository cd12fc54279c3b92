/- Stage 1, octet: the writer. -/
import Derived.Test.YtkeepojcdofibaaOctB
namespace Go.Proofs.Ytkeepojcdofibaa
set_option linter.unusedVariables false
set_option linter.unusedSimpArgs false
open Go.RowKit

/-- A number's lowest bytes, the lowest first. -/
def le : Nat → Nat → List UInt8
  | 0, _ => []
  | n + 1, x => UInt8.ofNat (x % 256) :: le n (x / 256)

theorem le_length (n x : Nat) : (le n x).length = n := by induction n generalizing x with | zero => rfl | succ n ih => simp [le, ih]

theorem le_snoc (n x : Nat) : le (n + 1) x = le n x ++ [UInt8.ofNat (x / 256 ^ n % 256)] := by
  induction n generalizing x with
  | zero => simp [le]
  | succ n ih => rw [le, ih (x / 256), le]; simp [Nat.div_div_eq_div_mul, Nat.pow_succ, Nat.mul_comm]

/-- A writer at block b, whose bytes are bs. -/
structure IsW (w : World) (b : Nat) (v : Value) (bs : List UInt8) : Prop where
  at_ : w.heap[b]? = some (.cells #[v] 28 (0, 0))
  own : OwnB w v bs

theorem IsW.lt {w : World} {b : Nat} {v : Value} {bs : List UInt8} (h : IsW w b v bs) : b < w.heap.size := (Array.getElem?_eq_some_iff.1 h.at_).1

/-- What a writer may change. -/
def WS (b : Nat) (v : Value) : Nat → Prop := fun k => k = b ∨ v.ownBlock = some k

theorem IsW.ne {w : World} {b : Nat} {v : Value} {bs : List UInt8} (h : IsW w b v bs) : v.ownBlock ≠ some b := by
  intro e
  rcases h.own.2 with ⟨rfl, _⟩ | ⟨g, cap, cur, rfl, _, hg, _⟩
  · cases e
  · have : g = b := by cases e; rfl
    subst this
    rw [h.at_] at hg
    simp at hg

theorem IsW.fr {S : Nat → Prop} {w w' : World} {b : Nat} {v : Value} {bs : List UInt8} (h : IsW w b v bs) (hf : Fr S w w') (hs : ∀ k, WS b v k → ¬ S k) : IsW w' b v bs :=
  ⟨hf.keeps (hs b (.inl rfl)) h.at_, h.own.fr hf fun k hk => hs k (.inr hk)⟩

/-- Behind a call of a writer's: its bytes; nothing else has changed; what it owns is what it owned, or new. -/
def WPost (w : World) (b : Nat) (v : Value) (bs : List UInt8) (w' : World) : Prop :=
  ∃ v', IsW w' b v' bs ∧ Fr (WS b v) w w' ∧ ∀ k, v'.ownBlock = some k → v.ownBlock = some k ∨ w.heap.size ≤ k

theorem WPost.refl {w : World} {b : Nat} {v : Value} {bs : List UInt8} (h : IsW w b v bs) : WPost w b v bs w := ⟨v, h, Fr.refl _ _, fun _ => .inl⟩

theorem WPost.trans {w w1 w2 : World} {b : Nat} {v v1 : Value} {bs1 bs2 : List UInt8} (_h1 : IsW w1 b v1 bs1) (hf : Fr (WS b v) w w1) (ho : ∀ k, v1.ownBlock = some k → v.ownBlock = some k ∨ w.heap.size ≤ k)
    (h2 : WPost w1 b v1 bs2 w2) : WPost w b v bs2 w2 := by
  obtain ⟨v2, h, hf2, ho2⟩ := h2
  refine ⟨v2, h, hf.trans hf2 fun i hi hs => ?_, fun k hk => ?_⟩
  · rcases hs with rfl | hs
    · exact .inl rfl
    · rcases ho i hs with h | h
      · exact .inr h
      · omega
  · rcases ho2 k hk with h | h
    · exact ho k h
    · exact .inr (Nat.le_trans hf.size h)

/-- An append, and the store of what it answers. -/
theorem WPost.put {w w1 : World} {b : Nat} {v : Value} {bs bs1 : List UInt8} {a : Option Addr} {n c : Nat} (h : IsW w b v bs) {wa : World} (ha : Fr F0 w wa) (hg : wa.grownBy w1 v.ownBlock)
    (ho : OwnB w1 (.slice a n c) bs1) (hb : ∀ k, ablk a = some k → v.ownBlock = some k ∨ wa.heap.size ≤ k) : WPost w b v bs1 (w1.setCell ⟨b, 0, none⟩ (.slice a n c)) := by
  have hf : Fr (WS b v) w w1 := (ha.of0).grown hg fun k hk _ => .inr hk
  have hat : w1.heap[b]? = some (.cells #[v] 28 (0, 0)) := by
    rw [hg.block b (ha.lt h.lt) (fun e => h.ne e.symm)]
    exact ha.keeps (fun f => f) h.at_
  have hb' : ∀ k, (Value.slice a n c).ownBlock = some k → v.ownBlock = some k ∨ w.heap.size ≤ k := by
    intro k hk
    rw [ablk_own] at hk
    rcases hb k hk with h | h
    · exact .inl h
    · exact .inr (Nat.le_trans ha.size h)
  refine ⟨.slice a n c, ⟨one_setCell hat, ?_⟩, hf.setCell (fun _ => .inl rfl) _, hb'⟩
  refine ho.fr (S := fun k => k = b) (Fr.setCell (S := fun k => k = b) (Fr.refl _ _) (p := ⟨b, 0, none⟩) (fun _ => rfl) _) fun k hk e => ?_
  subst e
  rcases hb' k hk with h' | h'
  · exact h.ne h'
  · have := h.lt
    omega

theorem byte_val (X : Nat) : B8 (UInt8.ofNat (X % 256)) = .int .u8 ((X : Int) % 256) := by
  simp [B8]

/-- The byte that a call has just laid. -/
theorem one_byte (w : World) (X : Nat) : Bs (w.alloc (.cells #[.int .u8 ((X : Int) % 256)] 5)) (some ⟨w.heap.size, 0, none⟩) 1 [UInt8.ofNat (X % 256)] := by
  refine ⟨rfl, Nat.le_refl _, by simp [maxLen], fun h => by simp at h, fun j u hj => ⟨_, _, rfl, ?_⟩⟩
  match j, hj with
  | 0, hj =>
    simp only [List.map_cons, List.map_nil, List.getElem?_cons_zero, Option.some.injEq, byte_val] at hj
    subst hj
    simp

set_option maxHeartbeats 400000 in
theorem Put_any (b : Nat) (v : Value) (bs : List UInt8) (x n : Nat) (w : World) (h : IsW w b v bs) (hx : x < 2 ^ 64) (hn : szB n = true) (hl : bs.length + 8 ≤ 140737488355328) :
    Calls Try.prog 7 #[.pointer (some ⟨b, 0, none⟩), .int .u64 x, .int .i64 n] w fun e w' => e = .returned (.tuple #[]) ∧ WPost w b v (bs ++ le n x) w' := by
  have hn8 : n ≤ 8 := by
    simp only [szB, Bool.or_eq_true, beq_iff_eq] at hn
    omega
  go_enter Try.func7, Try.ntmps7
  go_wp2_with (go_at_call 28; refine (isSize_any _ _).mono ?_; rintro e w' ⟨rfl, rfl⟩)
  go_loopw [1, 14] (fun xv iv wr => ∃ k X : Nat, k ≤ n ∧ iv = .int .i64 k ∧ xv = .int .u64 X ∧ X < 2 ^ 64 ∧ Hid (X = x / 256 ^ k) ∧ WPost w b v (bs ++ le k x) wr) (fun _ iv _ => n - (intOf iv).toNat)
  case atStart => exact ⟨0, x, Nat.zero_le _, rfl, rfl, hx, by simp [Hid], by simpa [le] using WPost.refl h⟩
  case round =>
    obtain ⟨k, X, hk, rfl, rfl, hX, HX, v1, h1, hf1, ho1⟩ := hrel
    by_cases hkn : k < n
    · have c1 := cell_of_one h1.at_
      have A1 : Fr F0 wr (wr.alloc (.cells #[.int .u8 ((X : Int) % 256)] 5)) := (Fr.refl _ _).alloc _
      have O1 := h1.own.fr A1 fun _ _ => id
      have hll := le_length k x
      have E1 := Lib.hid hll
      clear hll
      go_wp2_with (at_builtin; refine wpList_appB rfl _ _ rfl _ _ rfl O1 _ _ _ _ rfl (one_byte wr X) rfl (by have := E1.out; simp; omega) ?_; intro a' c' w1 ho hg hb; have p1 := WPost.put h1 A1 hg ho hb; have c2 : w1.cell? ⟨b, 0, none⟩ = some v1 := hg.cell (A1.cell (fun f => f) c1) (fun e => h1.ne e.symm); have z2 : w1.frozen? ⟨b, 0, none⟩ = false := free_of_one (v := v1) (t := 28) ((hg.block b (A1.lt h1.lt) (fun e => h1.ne e.symm)).trans (A1.keeps (fun f => f) h1.at_)))
      have p2 := WPost.trans h1 hf1 ho1 p1
      simp only [List.length_append, List.length_cons, List.length_nil, Nat.zero_add] at p2
      go_roundw
      case rel =>
        refine ⟨k + 1, X / 256, by omega, by go_num, by go_num, by omega, ?_, ?_⟩
        · rw [HX.out]; simp [Hid, Nat.div_div_eq_div_mul, Nat.pow_succ]
        · rw [le_snoc, ← HX.out, ← List.append_assoc]
          exact p2
      case measure => simp [intOf]; omega
    · go_wp2
      go_end0
      have : k = n := by omega
      subst this
      exact ⟨rfl, v1, h1, hf1, ho1⟩

/-- The same, the numbers as they stand in a walk. -/
theorem Put_at (b : Nat) (v : Value) (bs : List UInt8) (x n : Int) (w : World) (h : IsW w b v bs) (h0 : 0 ≤ x) (hx : x < 18446744073709551616) (hn : szB n = true) (hl : bs.length + 8 ≤ 140737488355328) :
    Calls Try.prog 7 #[.pointer (some ⟨b, 0, none⟩), .int .u64 x, .int .i64 n] w fun e w' => e = .returned (.tuple #[]) ∧ WPost w b v (bs ++ le n.toNat x.toNat) w' := by
  obtain ⟨x, rfl⟩ := Int.eq_ofNat_of_zero_le h0
  obtain ⟨n, rfl⟩ := Int.eq_ofNat_of_zero_le (show 0 ≤ n by simp only [szB, Bool.or_eq_true, beq_iff_eq] at hn; omega)
  exact Put_any b v bs x n w h (by omega) hn hl

/-- Another size puts nothing. -/
theorem Put_bad (p : Option Addr) (x n : Int) (w : World) (hn : szB n = false) :
    Calls Try.prog 7 #[.pointer p, .int .u64 x, .int .i64 n] w fun e w' => e = .returned (.tuple #[]) ∧ w = w' := by
  cases p with
  | none =>
    go_enter Try.func7, Try.ntmps7
    go_wp2
    exact bodyPost_ret (results_none rfl _ _ _) rfl ⟨rfl, rfl⟩
  | some a =>
    go_enter Try.func7, Try.ntmps7
    go_wp2_with (go_at_call 28; refine (isSize_any _ _).mono ?_; rintro e w' ⟨rfl, rfl⟩)
    exact bodyPost_ret (results_none rfl _ _ _) rfl ⟨rfl, rfl⟩

/-- No writer. -/
theorem Put_none (x n : Int) (w : World) :
    Calls Try.prog 7 #[.pointer none, .int .u64 x, .int .i64 n] w fun e w' => e = .returned (.tuple #[]) ∧ w = w' := by
  go_enter Try.func7, Try.ntmps7
  go_wp2
  exact bodyPost_ret (results_none rfl _ _ _) rfl ⟨rfl, rfl⟩

/-- In how many bytes a count is written. -/
def csz (x : Nat) : Nat := if x < 253 then 1 else if x < 65536 then 3 else if x < 4294967296 then 5 else 9

/-- A count's bytes. -/
def cnt (x : Nat) : List UInt8 :=
  if x < 253 then le 1 x else if x < 65536 then le 1 253 ++ le 2 x else if x < 4294967296 then le 1 254 ++ le 4 x else le 1 255 ++ le 8 x

theorem ret_int {k : IntKind} {a b : Int} (h : a = b) : Ending.returned (.int k a) = .returned (.int k b) := by rw [h]

set_option maxRecDepth 100000 in
theorem CountSize_any (x : Nat) (w : World) : Calls Try.prog 12 #[.int .u64 x] w fun e w' => e = .returned (.int .i64 (csz x)) ∧ w = w' := by
  have go : ∀ s : Nat, csz x = s → ((x : Int) < 253 ∧ s = 1 ∨ ¬ (x : Int) < 253 ∧ (x : Int) < 65536 ∧ s = 3 ∨ ¬ (x : Int) < 253 ∧ ¬ (x : Int) < 65536 ∧ (x : Int) < 4294967296 ∧ s = 5 ∨
      ¬ (x : Int) < 253 ∧ ¬ (x : Int) < 65536 ∧ ¬ (x : Int) < 4294967296 ∧ s = 9) → Calls Try.prog 12 #[.int .u64 x] w fun e w' => e = .returned (.int .i64 s) ∧ w = w' := by
    intro s _ h
    rcases h with ⟨h1, rfl⟩ | ⟨h1, h2, rfl⟩ | ⟨h1, h2, h3, rfl⟩ | ⟨h1, h2, h3, rfl⟩
    all_goals
      go_enter Try.func12, Try.ntmps12
      go_wp2
      go_ret
      exact ⟨rfl, rfl⟩
  refine go _ rfl ?_
  by_cases h1 : x < 253
  · exact .inl ⟨by omega, by simp [csz, h1]⟩
  by_cases h2 : x < 65536
  · exact .inr (.inl ⟨by omega, by omega, by simp [csz, h1, h2]⟩)
  by_cases h3 : x < 4294967296
  · exact .inr (.inr (.inl ⟨by omega, by omega, by omega, by simp [csz, h1, h2, h3]⟩))
  · exact .inr (.inr (.inr ⟨by omega, by omega, by omega, by simp [csz, h1, h2, h3]⟩))

theorem CountSize_at (x : Int) (s : Nat) (w : World) (h0 : 0 ≤ x) (h : csz x.toNat = s) : Calls Try.prog 12 #[.int .u64 x] w fun e w' => e = .returned (.int .i64 s) ∧ w = w' := by
  obtain ⟨x, rfl⟩ := Int.eq_ofNat_of_zero_le h0
  subst h
  exact CountSize_any x w

theorem cnt_length (x : Nat) : (cnt x).length = csz x := by
  unfold cnt csz
  repeat' split
  all_goals simp [le_length]

theorem csz_le (x : Nat) : 1 ≤ csz x ∧ csz x ≤ 9 := by
  unfold csz
  repeat' split
  all_goals omega

set_option maxRecDepth 100000 in
set_option maxHeartbeats 1000000 in
theorem WCount_any (b : Nat) (v : Value) (bs : List UInt8) (x : Int) (w : World) (h : IsW w b v bs) (h0 : 0 ≤ x) (hx : x < 18446744073709551616) (hl : bs.length + 16 ≤ 140737488355328) :
    Calls Try.prog 10 #[.pointer (some ⟨b, 0, none⟩), .int .u64 x] w fun e w' => e = .returned (.tuple #[]) ∧ WPost w b v (bs ++ cnt x.toNat) w' := by
  by_cases c1 : x.toNat < 253
  · have e1 : csz x.toNat = 1 := by simp [csz, c1]
    have e2 : cnt x.toNat = le 1 x.toNat := by simp [cnt, c1]
    rw [e2]
    clear e2 c1
    have E1 := Lib.hid e1
    clear e1
    go_enter Try.func10, Try.ntmps10
    go_wp2_with (first | (go_at_call 12; refine (CountSize_at _ _ _ h0 E1.out).mono ?_; rintro e w' ⟨rfl, rfl⟩) | (go_at_call 7; refine (Put_at b v bs _ _ _ h h0 hx rfl (by omega)).mono ?_; rintro e w' ⟨rfl, h'⟩))
    go_end0
    exact ⟨rfl, h'⟩
  have big : ∀ (f k : Int), cnt x.toNat = le 1 f.toNat ++ le k.toNat x.toNat → szB k = true →
      ∀ w1, WPost w b v (bs ++ le 1 f.toNat) w1 → Calls Try.prog 7 #[.pointer (some ⟨b, 0, none⟩), .int .u64 x, .int .i64 k] w1 fun e w' => e = .returned (.tuple #[]) ∧ WPost w b v (bs ++ cnt x.toNat) w' := by
    intro f k e2 hk w1 ⟨v1, h1, hf1, ho1⟩
    refine (Put_at b v1 _ x k w1 h1 h0 hx hk (by simp [le_length]; omega)).mono ?_
    rintro e w' ⟨rfl, h2⟩
    refine ⟨rfl, ?_⟩
    rw [e2, ← List.append_assoc]
    exact WPost.trans h1 hf1 ho1 h2
  by_cases c2 : x.toNat < 65536
  · have e1 : csz x.toNat = 3 := by simp [csz, c1, c2]
    have B := Lib.hid (big 253 2 (by simp [cnt, c1, c2]) rfl)
    clear big c1 c2
    have E1 := Lib.hid e1
    clear e1
    go_enter Try.func10, Try.ntmps10
    go_wp2_with (go_at_call 12; refine (CountSize_at _ _ _ h0 E1.out).mono ?_; rintro e w' ⟨rfl, rfl⟩)
    refine (Put_at b v bs _ _ _ h (by omega) (by omega) rfl (by omega)).mono ?_
    rintro e w1 ⟨rfl, h1⟩
    go_wp2_with (go_at_call 7; refine (B.out _ h1).mono ?_; rintro e w2 ⟨rfl, h2⟩)
    go_end0
    exact ⟨rfl, h2⟩
  by_cases c3 : x.toNat < 4294967296
  · have e1 : csz x.toNat = 5 := by simp [csz, c1, c2, c3]
    have B := Lib.hid (big 254 4 (by simp [cnt, c1, c2, c3]) rfl)
    clear big c1 c2 c3
    have E1 := Lib.hid e1
    clear e1
    go_enter Try.func10, Try.ntmps10
    go_wp2_with (go_at_call 12; refine (CountSize_at _ _ _ h0 E1.out).mono ?_; rintro e w' ⟨rfl, rfl⟩)
    refine (Put_at b v bs _ _ _ h (by omega) (by omega) rfl (by omega)).mono ?_
    rintro e w1 ⟨rfl, h1⟩
    go_wp2_with (go_at_call 7; refine (B.out _ h1).mono ?_; rintro e w2 ⟨rfl, h2⟩)
    go_end0
    exact ⟨rfl, h2⟩
  · have e1 : csz x.toNat = 9 := by simp [csz, c1, c2, c3]
    have B := Lib.hid (big 255 8 (by simp [cnt, c1, c2, c3]) rfl)
    clear big c1 c2 c3
    have E1 := Lib.hid e1
    clear e1
    go_enter Try.func10, Try.ntmps10
    go_wp2_with (go_at_call 12; refine (CountSize_at _ _ _ h0 E1.out).mono ?_; rintro e w' ⟨rfl, rfl⟩)
    refine (Put_at b v bs _ _ _ h (by omega) (by omega) rfl (by omega)).mono ?_
    rintro e w1 ⟨rfl, h1⟩
    go_wp2_with (go_at_call 7; refine (B.out _ h1).mono ?_; rintro e w2 ⟨rfl, h2⟩)
    go_end0
    exact ⟨rfl, h2⟩

set_option maxHeartbeats 400000 in
theorem WRaw_any (b : Nat) (v : Value) (bs : List UInt8) (a : Option Addr) (n c : Nat) (xs : List UInt8) (w : World) (h : IsW w b v bs) (hx : Bs w a c xs) (hn : n = xs.length) (hl : bs.length + xs.length ≤ 140737488355328) :
    Calls Try.prog 13 #[.pointer (some ⟨b, 0, none⟩), .slice a n c] w fun e w' => e = .returned (.tuple #[]) ∧ WPost w b v (bs ++ xs) w' := by
  have c1 := cell_of_one h.at_
  have HN := Lib.hid hn
  clear hn
  go_enter Try.func13, Try.ntmps13
  go_wp2_with (at_builtin; refine wpList_appB rfl _ _ rfl _ _ rfl h.own _ _ _ _ rfl hx HN.out hl ?_; intro a' c' w1 ho hg hb; have p1 := WPost.put h (Fr.refl _ _) hg ho hb; have c2 : w1.cell? ⟨b, 0, none⟩ = some v := hg.cell c1 (fun e => h.ne e.symm); have z2 : w1.frozen? ⟨b, 0, none⟩ = false := free_of_one (v := v) (t := 28) ((hg.block b h.lt (fun e => h.ne e.symm)).trans h.at_))
  go_end0
  exact ⟨rfl, p1⟩

theorem WRaw_none (a : Option Addr) (n c : Nat) (w : World) :
    Calls Try.prog 13 #[.pointer none, .slice a n c] w fun e w' => e = .returned (.tuple #[]) ∧ w = w' := by
  go_enter Try.func13, Try.ntmps13
  go_wp2
  exact bodyPost_ret (results_none rfl _ _ _) rfl ⟨rfl, rfl⟩

/-- Counted bytes. -/
def ctd (xs : List UInt8) : List UInt8 := cnt xs.length ++ xs

set_option maxHeartbeats 400000 in
theorem WCounted_any (b : Nat) (v : Value) (bs : List UInt8) (a : Option Addr) (n c : Nat) (xs : List UInt8) (w : World) (h : IsW w b v bs) (hx : Bs w a c xs) (hn : n = xs.length) (hl : bs.length + xs.length + 16 ≤ 140737488355328)
    (ha : xs ≠ [] → ∀ k, ablk a = some k → ¬ WS b v k) :
    Calls Try.prog 14 #[.pointer (some ⟨b, 0, none⟩), .slice a n c] w fun e w' => e = .returned (.tuple #[]) ∧ WPost w b v (bs ++ ctd xs) w' := by
  have hm : (n : Int) < 18446744073709551616 := by omega
  have hm2 : (n : Int) ≤ 140737488355328 := by omega
  have HN := Lib.hid hn
  clear hn
  go_enter Try.func14, Try.ntmps14
  go_wp2_with (go_at_call 10; refine (WCount_any b v bs _ _ h (by omega) (by omega) (by omega)).mono ?_; rintro e w1 ⟨rfl, p1⟩)
  obtain ⟨v1, h1, hf1, ho1⟩ := p1
  have hn := HN.out
  have hcs := csz_le xs.length
  have e1 : (n : Int).toNat = xs.length := by omega
  rw [e1] at h1
  refine (WRaw_any b v1 _ a n c xs w1 h1 (Sl.frn hx hf1 fun hne => ha fun e => hne (by rw [e]; rfl)) hn (by rw [List.length_append, cnt_length]; omega)).mono ?_
  rintro e w2 ⟨rfl, p2⟩
  have p3 := WPost.trans h1 hf1 ho1 p2
  clear h1 hf1 ho1 p2 hn e1
  go_wp2
  go_end0
  exact ⟨rfl, by rw [ctd, ← List.append_assoc]; exact p3⟩

set_option maxHeartbeats 400000 in
theorem WBytes_any (b : Nat) (v : Value) (bs : List UInt8) (w : World) (h : IsW w b v bs) (hl : bs.length ≤ 140737488355328) :
    Calls Try.prog 15 #[.pointer (some ⟨b, 0, none⟩)] w (NewBytes bs w) := by
  obtain ⟨a, c, rfl⟩ := h.own.slice
  have c1 := cell_of_one h.at_
  have hb := h.own.bs.2
  go_enter Try.func15, Try.ntmps15
  go_wp2_with (go_at_call 29; refine (Clone_any _ _ _ _ _ hb rfl hl).mono ?_; rintro e w1 ⟨a', c', rfl, h1, h2, h3⟩)
  go_ret
  exact ⟨a', c', rfl, h1, h2, h3⟩

theorem WBytes_none (w : World) : Calls Try.prog 15 #[.pointer none] w fun e w' => e = .returned (.slice none 0 0) ∧ w = w' := by
  go_enter Try.func15, Try.ntmps15
  go_wp2
  go_ret
  exact ⟨rfl, rfl⟩
end Go.Proofs.Ytkeepojcdofibaa
