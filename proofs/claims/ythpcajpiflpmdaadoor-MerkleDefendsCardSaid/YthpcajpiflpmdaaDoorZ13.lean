import Derived.Test.YthpcajpiflpmdaaDoorZ12
import Derived.Test.YthpcajpiflpmdaaDoorZ1
import Derived.Test.YthpcajpiflpmdaaDoorZ4
import Derived.Sort.CutIn
import Derived.RangeFuncFrom
import Derived.Scope
import Derived.Test.YthpcajpiflpmdaaDoorZ11
import Derived.Lib.SmallJoins
/- Layer 10 (merkle), the program's own: numbers, places, rows. -/
namespace Go.Proofs.YthpcajpiflpmdaaDoor
set_option linter.unusedVariables false
set_option linter.unusedSimpArgs false
open Go.RowKit

theorem bitLen_rows (n : Nat) (h : 1 ≤ n) (h2 : n ≤ 65536) : Lib.bitLen (n - 1) = rows n := by
  induction n using Nat.strongRecOn with
  | _ n ih =>
    by_cases h1 : n = 1
    · subst h1; rw [rows_le (Nat.le_refl 1)]; rfl
    · rw [Lib.bitLen_half (n - 1) (by omega) (by have : (2 : Nat) ^ 64 = 18446744073709551616 := rfl; omega), rows_gt (by omega), show (n - 1) / 2 = (n + 1) / 2 - 1 by omega, ih ((n + 1) / 2) (by omega) (by omega) (by omega)]
      omega
theorem rows_pow : ∀ (k n : Nat), n ≤ 2 ^ k → rows n ≤ k
  | 0, n, h => by rw [rows_le (by simpa using h)]; omega
  | k + 1, n, h => by
    by_cases h1 : n ≤ 1
    · rw [rows_le h1]; omega
    · rw [rows_gt (by omega)]
      have := rows_pow k ((n + 1) / 2) (by have : 2 ^ (k + 1) = 2 * 2 ^ k := by rw [Nat.pow_succ, Nat.mul_comm]
                                           omega)
      omega
theorem rows_small (n : Nat) (h : n ≤ 65536) : rows n ≤ 16 := rows_pow 16 n h

/-- What is wrong with so many hashes. -/
def chkN (n : Int) : Int := if n ≤ 0 then 16 else if 65536 < n then 3 else 0
theorem mCheckN_any (n : Int) (w : World) : Calls Tryd.prog 23 #[.int .i64 n] w fun e w' => e = .returned (.int .i64 (chkN n)) ∧ w' = w := by
  unfold chkN
  by_cases h1 : n ≤ 0
  · rw [if_pos h1]
    go_enter Tryd.func23, Tryd.ntmps23
    go_wp2
    go_ret
    exact ⟨rfl, rfl⟩
  · rw [if_neg h1]
    by_cases h2 : 65536 < n
    · rw [if_pos h2]
      have l1 : decide (n ≤ 0) = false := decide_eq_false h1
      clear h1
      go_enter Tryd.func23, Tryd.ntmps23
      go_wp2
      go_ret
      exact ⟨rfl, rfl⟩
    · rw [if_neg h2]
      have l1 : decide (n ≤ 0) = false := decide_eq_false h1
      have l2 : decide (65536 < n) = false := decide_eq_false h2
      clear h1 h2
      go_enter Tryd.func23, Tryd.ntmps23
      go_wp2
      go_ret
      exact ⟨rfl, rfl⟩

theorem mIsPlace_any (i n : Int) (w : World) : Calls Tryd.prog 25 #[.int .i64 i, .int .i64 n] w fun e w' => e = .returned (.bool (decide (0 ≤ i ∧ i < n))) ∧ w' = w := by
  by_cases h1 : 0 ≤ i
  · have l1 : decide (0 ≤ i) = true := decide_eq_true h1
    by_cases h2 : i < n
    · have l2 : decide (i < n) = true := decide_eq_true h2
      rw [decide_eq_true ⟨h1, h2⟩]
      clear h1 h2
      go_enter Tryd.func25, Tryd.ntmps25
      go_wp2
      go_ret
      exact ⟨rfl, rfl⟩
    · have l2 : decide (i < n) = false := decide_eq_false h2
      rw [decide_eq_false (fun h => h2 h.2)]
      clear h1 h2
      go_enter Tryd.func25, Tryd.ntmps25
      go_wp2
      go_ret
      exact ⟨rfl, rfl⟩
  · have l1 : decide (0 ≤ i) = false := decide_eq_false h1
    rw [decide_eq_false (fun h => h1 h.1)]
    clear h1
    go_enter Tryd.func25, Tryd.ntmps25
    go_wp2
    go_ret
    exact ⟨rfl, rfl⟩

theorem mHalf_any (n m : Nat) (h : n ≤ 1000000) (hm : m = (n + 1) / 2) (w : World) : Calls Tryd.prog 33 #[.int .i64 (n : Int)] w fun e w' => e = .returned (.int .i64 (m : Int)) ∧ w' = w := by
  have ew : IntKind.i64.wrap ((n : Int) + 1) = (n : Int) + 1 := by rw [IntKind.wrap_i64]; omega
  have en : ((n : Int) + 1).tdiv 2 = (m : Int) := by rw [Int.tdiv_eq_ediv_of_nonneg (by omega)]; omega
  have ewm : IntKind.i64.wrap (m : Int) = (m : Int) := by rw [IntKind.wrap_i64]; omega
  clear hm
  go_enter Tryd.func33, Tryd.ntmps33
  go_wp2
  go_ret
  exact ⟨rfl, rfl⟩

set_option maxHeartbeats 2000000 in
theorem bLen_any (x : Nat) (h : x < 18446744073709551616) (w : World) : Calls Tryd.prog 28 #[.int .u64 (x : Int)] w fun e w' => e = .returned (.int .i64 (Lib.bitLen x : Nat)) ∧ w' = w := by
  have H := Lib.hid (fun w => Len64_any x h w)
  clear h
  go_enter Tryd.func28, Tryd.ntmps28
  go_wp2_with fail
  (with_reducible refine (H.out _).mono ?_); rintro e w1 ⟨rfl, hw⟩; subst hw
  go_wp2
  go_ret
  exact ⟨rfl, rfl⟩
set_option maxHeartbeats 2000000 in
theorem mRows_any (n : Nat) (h : 1 ≤ n) (h2 : n ≤ 65536) (w : World) : Calls Tryd.prog 14 #[.int .i64 (n : Int)] w fun e w' => e = .returned (.int .i64 (rows n : Nat)) ∧ w' = w := by
  have hb := bitLen_rows n h h2
  have H := Lib.hid (fun w => bLen_any (n - 1) (by omega) w)
  rw [hb] at H
  have HC := Lib.hid (fun w => mCheckN_any (n : Int) w)
  rw [show chkN (n : Int) = 0 by rw [chkN, if_neg (by omega), if_neg (by omega)]] at HC
  have ew : IntKind.i64.wrap ((n : Int) - 1) = ((n - 1 : Nat) : Int) := by rw [IntKind.wrap_i64]; omega
  have eu : IntKind.u64.wrap ((n - 1 : Nat) : Int) = ((n - 1 : Nat) : Int) := by rw [IntKind.wrap_u64]; omega
  generalize n - 1 = k at *
  generalize rows n = R at *
  clear hb h h2
  go_enter Tryd.func14, Tryd.ntmps14
  go_wp2_with fail
  (with_reducible refine (HC.out _).mono ?_); rintro e w1 ⟨rfl, hw⟩; replace hw := hw.symm; subst hw
  go_wp2_with fail
  (with_reducible refine (H.out _).mono ?_); rintro e w1 ⟨rfl, hw⟩; subst hw
  go_wp2
  go_ret
  exact ⟨rfl, rfl⟩
set_option maxHeartbeats 2000000 in
theorem mRows_0 (w : World) : Calls Tryd.prog 14 #[.int .i64 0] w fun e w' => e = .returned (.int .i64 0) ∧ w' = w := by
  have HC := Lib.hid (fun w => mCheckN_any 0 w)
  rw [show chkN 0 = 16 from rfl] at HC
  go_enter Tryd.func14, Tryd.ntmps14
  go_wp2_with fail
  (with_reducible refine (HC.out _).mono ?_); rintro e w1 ⟨rfl, hw⟩; subst hw
  go_wp2
  go_ret
  exact ⟨rfl, rfl⟩

/-! ### places -/
theorem Tryd.szPlace : (Tryd.prog.info? 58).map (·.size) = some 3 := by kernel_rfl
@[go_sem ↓ high] theorem load_place (p : Value) : Instr.loadAt 58 p = loadRowAt 58 p := rfl
@[go_sem ↓ high] theorem store_place (p v : Value) : Instr.storeAt 58 p v = storeRowAt 58 p v := rfl
@[go_sem] theorem run_load_place (w : World) (g : Nat) : (loadRowAt 58 (.pointer (some ⟨g, 0, none⟩))).run Tryd.prog w = rowOut Tryd.prog 58 (.pointer (some ⟨g, 0, none⟩)) w 3 w.heap[g]? :=
  run_loadRowAt w _ g 3 _ Tryd.underlying58 rfl Tryd.szPlace
@[go_sem] theorem run_store_place (w : World) (g : Nat) (cells : Array Value) : (storeRowAt 58 (.pointer (some ⟨g, 0, none⟩)) (.agg cells)).run Tryd.prog w = rowIn Tryd.prog 58 (.pointer (some ⟨g, 0, none⟩)) cells g w 3 w.heap[g]? :=
  run_storeRowAt w _ g 3 cells Tryd.szPlace
/-- A place as a value's cells. -/
def plC (r i n : Nat) : Array Value := #[.int .i64 (r : Int), .int .i64 (i : Int), .int .i64 (n : Int)]
set_option maxHeartbeats 2000000 in
theorem mAlone_any (r i n : Nat) (hn : 1 ≤ n) (hb : n ≤ 1000000) (w : World) : Calls Tryd.prog 29 #[.agg (plC r i n)] w fun e w' => e = .returned (.bool (alone i n)) ∧ Fr F0 w w' := by
  unfold plC
  obtain ⟨b, hb⟩ : ∃ b, b = alone i n := ⟨_, rfl⟩
  rw [← hb]
  by_cases h1 : n % 2 = 1
  · have l1 : ((n : Int) % 2 == 1) = true := by rw [beq_iff_eq]; omega
    have hw : IntKind.i64.wrap ((n : Int) - 1) = (n : Int) - 1 := by rw [IntKind.wrap_i64]; omega
    by_cases h2 : i + 1 = n
    · have l2 : ((i : Int) == (n : Int) - 1) = true := by rw [beq_iff_eq]; omega
      have e : alone i n = true := by rw [alone, decide_eq_true_iff]; exact ⟨h1, h2⟩
      rw [e] at hb
      subst hb
      clear h1 h2 e
      go_enter Tryd.func29, Tryd.ntmps29
      go_wp2
      go_ret
      exact ⟨rfl, (Fr.refl F0 w).alloc _⟩
    · have l2 : ((i : Int) == (n : Int) - 1) = false := by rw [beq_eq_false_iff_ne]; omega
      have e : alone i n = false := by rw [alone, decide_eq_false_iff_not]; exact fun h => h2 h.2
      rw [e] at hb
      subst hb
      clear h1 h2 e
      go_enter Tryd.func29, Tryd.ntmps29
      go_wp2
      go_ret
      exact ⟨rfl, (Fr.refl F0 w).alloc _⟩
  · have l1 : ((n : Int) % 2 == 1) = false := by rw [beq_eq_false_iff_ne]; omega
    have e : alone i n = false := by rw [alone, decide_eq_false_iff_not]; exact fun h => h1 h.1
    rw [e] at hb
    subst hb
    clear h1 e
    go_enter Tryd.func29, Tryd.ntmps29
    go_wp2
    go_ret
    exact ⟨rfl, (Fr.refl F0 w).alloc _⟩
theorem xor_one (i : Nat) : i ^^^ 1 = if i % 2 = 1 then i - 1 else i + 1 := by
  have h1 : (i ^^^ 1) / 2 = i / 2 := by rw [Nat.xor_div_two]; simp
  have h2 : (i ^^^ 1) % 2 = 1 ↔ ¬ (i % 2 = 1 ↔ 1 % 2 = 1) := Nat.xor_mod_two_eq_one
  by_cases h : i % 2 = 1
  · rw [if_pos h]
    have : ¬ (i ^^^ 1) % 2 = 1 := by rw [h2]; simp [h]
    omega
  · rw [if_neg h]
    have : (i ^^^ 1) % 2 = 1 := by rw [h2]; simp [h]
    omega
theorem bits_xor_i64 (a b : Nat) (ha : a < 4611686018427387904) (hb : b < 4611686018427387904) : bits .xor .i64 (a : Int) (b : Int) = ((a ^^^ b : Nat) : Int) := by
  have hx : a ^^^ b < 2 ^ 62 := Nat.xor_lt_two_pow (by omega) (by omega)
  have h1 : (BitVec.ofInt 64 (a : Int)).toNat = a := by
    rw [BitVec.ofInt_natCast, BitVec.toNat_ofNat]; exact Nat.mod_eq_of_lt (by omega)
  have h2 : (BitVec.ofInt 64 (b : Int)).toNat = b := by
    rw [BitVec.ofInt_natCast, BitVec.toNat_ofNat]; exact Nat.mod_eq_of_lt (by omega)
  show IntKind.i64.wrap ((BitVec.ofInt 64 (a : Int) ^^^ BitVec.ofInt 64 (b : Int)).toNat : Int) = _
  rw [BitVec.toNat_xor, h1, h2, IntKind.wrap_i64]
  omega
set_option maxHeartbeats 2000000 in
theorem mOther_any (r i n : Nat) (hi : i < n) (hn : 1 ≤ n) (hb : n ≤ 1000000) (w : World) : Calls Tryd.prog 27 #[.agg (plC r i n)] w fun e w' => e = .returned (.int .i64 (oth i n : Nat)) ∧ Fr F0 w w' := by
  have HA := Lib.hid (fun w => mAlone_any r i n hn hb w)
  obtain ⟨b, hb⟩ : ∃ b, b = alone i n := ⟨_, rfl⟩
  rw [← hb] at HA
  have ho : oth i n = if b = true then i else if i % 2 = 1 then i - 1 else i + 1 := by rw [oth, hb]
  obtain ⟨o, hoo⟩ : ∃ o, o = oth i n := ⟨_, rfl⟩
  rw [← hoo] at ho ⊢
  clear hoo hb
  unfold plC at *
  go_enter Tryd.func27, Tryd.ntmps27
  go_wp2_with fail
  refine calls_new fun W1 N1 => ?_
  have r1 := N1.new
  replace F := N1.fr
  clear N1
  generalize w.heap.size = g1 at *
  (with_reducible refine (HA.out _).mono ?_); rintro e w2 ⟨rfl, f⟩
  replace r1 := keep_fr f r1
  replace F := F.trans' f
  clear f HA
  cases b with
  | true =>
    rw [if_pos rfl] at ho
    subst ho
    go_wp2
    go_ret
    exact ⟨rfl, F⟩
  | false =>
    rw [if_neg (by decide), ← xor_one] at ho
    have hx : bits .xor .i64 (i : Int) 1 = (o : Int) := by rw [ho]; exact bits_xor_i64 i 1 (by omega) (by omega)
    clear ho
    go_wp2
    go_ret
    exact ⟨rfl, F⟩

theorem mPlaces_any (i n : Nat) (w : World) : Calls Tryd.prog 26 #[.int .i64 (i : Int), .int .i64 (n : Int)] w fun e w' => ∃ g1 g2, e = .returned (.func (.func 35) #[] #[.pointer (some ⟨g1, 0, none⟩), .pointer (some ⟨g2, 0, none⟩)]) ∧
    w'.heap[g1]? = some (.cells #[.int .i64 (i : Int)] 3 (0, 0)) ∧ w'.heap[g2]? = some (.cells #[.int .i64 (n : Int)] 3 (0, 0)) ∧ Fr F0 w w' ∧ w.heap.size ≤ g1 ∧ w.heap.size ≤ g2 := by
  have hmf : ∀ (fn : Fn) (first cap : Array Value) (w : World), (Instr.makeFunc fn first cap).run Tryd.prog w = .ok (.func fn first cap) w := fun _ _ _ _ => rfl
  go_enter Tryd.func26, Tryd.ntmps26
  go_wp2
  go_ret
  refine ⟨w.heap.size, w.heap.size + 1, rfl, ?_, ?_, ((Fr.refl F0 w).alloc _).alloc _, Nat.le_refl _, Nat.le_succ _⟩
  · exact keep_alloc (heap_alloc_new w _)
  · have := heap_alloc_new (w.alloc (.cells #[.int .i64 (i : Int)] 3)) (.cells #[.int .i64 (n : Int)] 3)
    rw [World.size_alloc] at this
    exact this
end Go.Proofs.YthpcajpiflpmdaaDoor

/- Layer 10 (merkle), the program's own: the places that a hash goes through, one by one. -/
namespace Go.Proofs.YthpcajpiflpmdaaDoor
set_option linter.unusedVariables false
set_option linter.unusedSimpArgs false
open Go.RowKit Go.Shelf

/-- Block b is kept. -/
def Kb (b : Nat) (W W' : World) : Prop := ∀ o, W.heap[b]? = some o → W'.heap[b]? = some o
theorem Kb.trans {b : Nat} {X Y Z : World} (h : Kb b X Y) (k : Kb b Y Z) : Kb b X Z := fun o ho => k o (h o ho)
theorem Kb.put {b g : Nat} {W : World} {o : Obj} (h : g ≠ b) : Kb b W (W.putObj g o) := fun o' ho => (World.putObj_heap_other (by omega)).trans ho
theorem Kb.fr {b : Nat} {S : Nat → Prop} {W W' : World} (f : Fr S W W') (hs : ¬ S b) : Kb b W W' := fun o ho => f.keeps hs ho


/-- The iterator's contract, where it keeps a block of its own (the first that it lays): what the rounds hold abides what it writes there. -/
def SeqP {α : Type} (P : Program) (gf : Nat) (lb : Array Value) (encs : α → Array Value) (Kq : Nat → World → World → Prop) (C : List α → World → Prop) (Nx : List α → α → World → World → Prop) (S : List α → Prop) : Prop :=
  ∀ (l : Nat) (J Jx : List α → World → Prop) (W : World), OwnFrom W.heap.size J → OwnFrom W.heap.size Jx → (∀ pre W', J pre W' → C pre W') →
    (∀ pre A cs, J pre A → W.heap.size < A.heap.size → J pre (A.setRow W.heap.size cs)) →
    (∀ pre x W0 W1, J pre W0 → Fr F0 W0 W1 → W.heap.size < W1.heap.size → Nx pre x W0 W1 → YieldW P l (encs x) W1 fun e W' => (e = .returned (.bool true) ∧ J (pre ++ [x]) W' ∧ Kq W.heap.size W1 W') ∨ (e = .returned (.bool false) ∧ Jx (pre ++ [x]) W' ∧ Kq W.heap.size W1 W')) →
    J [] W →
    Calls P gf (#[.func (.yield l) #[] #[]] ++ lb) W fun e W' => (∃ v, e = .returned v) ∧ ((∃ xs, S xs ∧ J xs W') ∨ (∃ pre, Jx pre W'))

section
variable {n : Nat} {P : Program}
theorem range_lawP {α : Type} {g : Operand} {ps : Array Tmp} {assign body : Code} {Q : Exit → Act → World → Prop} {a : Act} {w : World}
    {gf : Nat} {lb : Array Value} (hg : a.eval g = .func (.func gf) #[] lb) (eg : ∀ args w, (callFunc gf args).run P w = .ok (.enter gf args) w)
    {encs : α → Array Value} {Kq : Nat → World → World → Prop} {C : List α → World → Prop} {Nx : List α → α → World → World → Prop} {S : List α → Prop} (hseq : SeqP P gf lb encs Kq C Nx S) (hps : ∀ x, (encs x).size = ps.size)
    (hKt : ∀ {X Y Z : World}, Kq (w.heap.size + 2) X Y → Kq (w.heap.size + 2) Y Z → Kq (w.heap.size + 2) X Z) (hKp : ∀ (W : World) (o : Obj), Kq (w.heap.size + 2) W (W.putObj (w.heap.size + 1) o))
    (I : List α → World → Prop) (Ix : Code → List α → World → Prop) (hI : OwnFrom w.heap.size I) (hIx : ∀ c, OwnFrom w.heap.size (Ix c)) (hIC : ∀ pre W, I pre W → C pre W) (hI4 : ∀ pre A cs, I pre A → w.heap.size + 2 < A.heap.size → I pre (A.setRow (w.heap.size + 2) cs)) (h0 : I [] w)
    (Ax : List α → α → Act → World → Prop) (hAx : ∀ pre x a', OwnFrom w.heap.size (fun (_ : Unit) W => Ax pre x a' W))
    (hassign : ∀ (l : Nat) (pre : List α) (x : α) (W0 W : World) (K : Act → World → Prop), I pre W0 → Fr F0 W0 W → w.heap.size + 2 < W.heap.size → Nx pre x W0 W → (∀ a' W', KeepsFrom w.heap.size W W' → Kq (w.heap.size + 2) W W' → I pre W' → Ax pre x a' W' → K a' W') →
      assign.wpIn (Fence.wide.inRound l) (n - 1 - 1) P (Exit.then K (fun _ _ _ => False)) { tmps := (ps.zip (encs x)).foldl (fun t (p, v) => t.setIfInBounds p v) a.tmps, defers := [] } W)
    (hbody : ∀ (l : Nat) (pre : List α) (x : α) (a' : Act) (W : World), I pre W → Ax pre x a' W → body.wpIn (Fence.wide.inRound l) (n - 1 - 1) P (ownPostG w.heap.size (Kq (w.heap.size + 2)) I (fun c p W' => Ix c p W' ∧ Kq (w.heap.size + 2) W W') (pre ++ [x]) W) a' W)
    (hdone : ∀ (D : Nat) (xs : List α) (W : World), w.heap.size ≤ D → S xs → I xs W → W.heap[D]? = some (.deferred (some [])) → Q .normal { a with defers := { target := .collected D, args := #[] } :: a.defers } W)
    (hstop : ∀ (D : Nat) (c : Code) (pre : List α) (W : World), w.heap.size ≤ D → Ix c pre W → W.heap[D]? = some (.deferred (some [])) → c.wpIn Fence.wide n P Q { a with defers := { target := .collected D, args := #[] } :: a.defers } W) :
    (Code.rangeFunc g ps assign body).wpIn Fence.wide n P Q a w := by
  refine wpIn_rangeFunc fun fn hfn => ?_
  rw [show Fence.wide.round = none from rfl]
  generalize hB : w.heap.size = B at *
  obtain ⟨R, hR⟩ : ∃ R : LoopState → Option Code → Obj, R = fun st pe => .loop { state := st, pending := pe, fn, tmps := a.tmps, params := ps, assign, body, defers := B } := ⟨_, rfl⟩
  obtain ⟨V, hV⟩ : ∃ V, V = (w.alloc (.deferred (some []))).alloc (R .ready none) := ⟨_, rfl⟩
  have hVl : V.heap[B + 1]? = some (R .ready none) := by
    rw [hV, ← hB]; have := World.alloc_heap_new (w.alloc (.deferred (some []))) (R .ready none); rwa [World.size_alloc] at this
  have hVd : V.heap[B]? = some (.deferred (some [])) := by
    rw [hV, ← hB]; exact (Below.heap_alloc _ _ _ (by simp)).trans (World.alloc_heap_new w _)
  have hVs : V.heap.size = B + 1 + 1 := by rw [hV, ← hB]; simp
  refine ⟨B + 1, [{ target := .collected B, args := #[] }], V, { target := .fn (.func gf) lb, args := #[.func (.yield (B + 1)) #[] #[]] }, V, gf, #[.func (.yield (B + 1)) #[] #[]] ++ lb, V, ?_, ?_, ?_, ?_, (fun h => by cases h), ?_⟩
  · rw [hV, hR, ← hB]; exact run_enterLoop_outer _ _ _ _ _
  · simp only [resolve, hg]
    simp [go_sem]
  · intro f' hf'
    trivial
  · simp [invoke, go_sem, eg]
  · have H := hseq (B + 1) (fun pre W => (I pre W ∧ W.heap[B + 1]? = some (R .ready none)) ∧ W.heap[B]? = some (.deferred (some [])))
      (fun pre W => ∃ c, (Ix c pre W ∧ W.heap[B + 1]? = some (R .done (some c))) ∧ W.heap[B]? = some (.deferred (some []))) V
      (own_rec _ _ _ (by omega) _ (own_rec _ _ _ (by omega) _ (own_le hI (by omega))))
      (fun s A D row hs hgr hr => by
        obtain ⟨c, hc⟩ := hs
        exact ⟨c, own_rec _ _ _ (by omega) _ (own_rec _ _ _ (by omega) _ (own_le (hIx c) (by omega))) s A D row hc hgr hr⟩)
      (fun pre W' h => hIC pre W' h.1.1) (fun pre A cs h hA => by rw [hVs] at hA ⊢; exact ⟨⟨hI4 pre A cs h.1.1 hA, (heap_setRow_ne _ _ _ _ (by omega)).trans h.1.2⟩, (heap_setRow_ne _ _ _ _ (by omega)).trans h.2⟩) ?_ ⟨⟨by rw [hV]; exact hI.alloc _ (hI.alloc _ h0), hVl⟩, hVd⟩
    · refine (callsIn_wide.2 H).mono ?_
      rintro e U ⟨⟨v, rfl⟩, (⟨xs, hS, ⟨hi, hl⟩, hk⟩ | ⟨pre, c, ⟨hi, hl⟩, hk⟩)⟩
      · rw [hR] at hl
        exact ⟨none, _, run_endLoop (P := P) hl (by simp), hdone _ xs _ (Nat.le_refl _) hS (hI.putObj _ hi (by omega) hl rfl) ((World.putObj_heap_other (by omega)).trans hk)⟩
      · rw [hR] at hl
        exact ⟨some c, _, run_endLoop (P := P) hl (by simp), hstop _ c pre _ (Nat.le_refl _) ((hIx c).putObj _ hi (by omega) hl rfl) ((World.putObj_heap_other (by omega)).trans hk)⟩
    · rintro pre x W0 W hj0 f0 hsz hnx
      rw [hVs] at hsz
      have hj1 := own_frI (own_rec _ _ _ (by omega) _ (own_rec _ _ _ (by omega) _ (own_le hI (by omega : B ≤ B + 1 + 1)))) hj0 f0
      obtain ⟨⟨hi, hl⟩, hk⟩ := hj1
      rw [hR] at hl
      have hy := run_yield (P := P) (args := encs x) hl (hps x)
      refine YieldW.of (m := n - 1 - 1) ⟨fn, _, assign, body, hy, roundIn_of_wpIn hfn (hassign _ pre x W0 W _ hj0.1.1 f0 hsz hnx ?_)⟩
      clear hy
      intro a' Wa hka hqa hia hax
      replace hl := hka.same _ _ (by omega) hl rfl
      replace hk := hka.same _ _ (Nat.le_refl _) hk rfl
      have hlt : B + 1 < Wa.heap.size := (Array.getElem?_eq_some_iff.1 hl).1
      refine ⟨_, run_beginRound hl rfl, ?_⟩
      obtain ⟨bz, hbz⟩ : ∃ bz : Loop, bz = { state := .busy, pending := none, fn, tmps := a.tmps, params := ps, assign, body, defers := B } := ⟨_, rfl⟩
      have hl2 : (Wa.putObj (B + 1) (.loop bz)).heap[B + 1]? = some (.loop bz) := World.putObj_heap_same hlt
      have hk2 : (Wa.putObj (B + 1) (.loop bz)).heap[B]? = some (.deferred (some [])) := (World.putObj_heap_other (by omega)).trans hk
      rw [← hbz]
      refine wpIn_mono (hbody _ pre x a' _ (hI.putObj _ hia (by omega) hl rfl) ((hAx pre x a').putObj (s := ()) _ hax (by omega) hl rfl)) ?_
      have fin : ∀ (j : Option Code) (U : World), KeepsFrom B (Wa.putObj (B + 1) (.loop bz)) U → U.heap[B + 1]? = some (.loop bz) ∧
          (Instr.endRound (B + 1) j).run P U = .ok (.bool j.isNone) (U.putObj (B + 1) (R (if j.isNone then .ready else .done) j)) ∧
          (U.putObj (B + 1) (R (if j.isNone then .ready else .done) j)).heap[B + 1]? = some (R (if j.isNone then .ready else .done) j) ∧
          (U.putObj (B + 1) (R (if j.isNone then .ready else .done) j)).heap[B]? = some (.deferred (some [])) := fun j U hk3 => by
        have hl3 := hk3.same _ _ (by omega) hl2 rfl
        refine ⟨hl3, ?_, World.putObj_heap_same (Array.getElem?_eq_some_iff.1 hl3).1, (World.putObj_heap_other (by omega)).trans (hk3.same _ _ (Nat.le_refl _) hk2 rfl)⟩
        have := run_endRound (P := P) j hl3
        rw [hbz] at this
        rw [hR]
        exact this
      rintro e a3 U hp
      cases e with
      | normal =>
        obtain ⟨hl3, hr, hl4, hk4⟩ := fin none U hp.1
        exact ⟨_, _, hr, .inl ⟨rfl, ⟨⟨hI.putObj _ hp.2.2 (by omega) hl3 rfl, hl4⟩, hk4⟩, by rw [hVs]; exact hKt hqa (hKt (hKt (hKp _ _) hp.2.1) (hKp _ _))⟩⟩
      | ret =>
        obtain ⟨hl3, hr, hl4, hk4⟩ := fin (some .ret) U hp.1
        exact ⟨_, _, hr, .inr ⟨rfl, ⟨.ret, ⟨(hIx _).putObj _ hp.2.1 (by omega) hl3 rfl, hl4⟩, hk4⟩, by rw [hVs]; exact hKt hqa (hKt (hKt (hKp _ _) hp.2.2) (hKp _ _))⟩⟩
      | exit id =>
        obtain ⟨hl3, hr, hl4, hk4⟩ := fin (some (.exit id)) U hp.1
        exact ⟨_, _, hr, .inr ⟨rfl, ⟨.exit id, ⟨(hIx _).putObj _ hp.2.1 (by omega) hl3 rfl, hl4⟩, hk4⟩, by rw [hVs]; exact hKt hqa (hKt (hKt (hKp _ _) hp.2.2) (hKp _ _))⟩⟩
      | goto t =>
        obtain ⟨hl3, hr, hl4, hk4⟩ := fin (some (.goto t)) U hp.1
        exact ⟨_, _, hr, .inr ⟨rfl, ⟨.goto t, ⟨(hIx _).putObj _ hp.2.1 (by omega) hl3 rfl, hl4⟩, hk4⟩, by rw [hVs]; exact hKt hqa (hKt (hKt (hKp _ _) hp.2.2) (hKp _ _))⟩⟩
      | panic ch => exact hp.elim
      | outgrown => exact hp.elim
end
/-- Where a hash stands k rows above. -/
def plk (i n : Nat) : Nat → Nat × Nat × Nat
  | 0 => (0, i, n)
  | k + 1 => ((plk i n k).1 + 1, (plk i n k).2.1 / 2, ((plk i n k).2.2 + 1) / 2)
theorem plk_1 (i n : Nat) : ∀ k, (plk i n k).1 = k
  | 0 => rfl
  | k + 1 => by rw [plk, plk_1 i n k]
theorem plk_rows (i n : Nat) : ∀ k, k ≤ rows n → rows (plk i n k).2.2 + k = rows n
  | 0, _ => rfl
  | k + 1, h => by
    have IH := plk_rows i n k (by omega)
    have h1 : 1 < (plk i n k).2.2 := Classical.byContradiction fun hn => by rw [rows_le (by omega)] at IH; omega
    rw [rows_gt h1] at IH
    show rows (((plk i n k).2.2 + 1) / 2) + (k + 1) = rows n
    omega
theorem plk_lt (i n : Nat) (h : i < n) : ∀ k, (plk i n k).2.1 < (plk i n k).2.2
  | 0 => h
  | k + 1 => by
    have := plk_lt i n h k
    show (plk i n k).2.1 / 2 < ((plk i n k).2.2 + 1) / 2
    omega
theorem plk_le (i n : Nat) : ∀ k, (plk i n k).2.2 ≤ n + 1
  | 0 => Nat.le_succ _
  | k + 1 => by
    have := plk_le i n k
    show ((plk i n k).2.2 + 1) / 2 ≤ n + 1
    omega
theorem plk_pos (i n : Nat) (h : 1 ≤ n) : ∀ k, 1 ≤ (plk i n k).2.2
  | 0 => h
  | k + 1 => by
    have := plk_pos i n h k
    show 1 ≤ ((plk i n k).2.2 + 1) / 2
    omega
def pls (i n k : Nat) : List (Nat × Nat × Nat) := (List.range k).map (plk i n)
theorem pls_succ (i n k : Nat) : pls i n (k + 1) = pls i n k ++ [plk i n k] := by simp [pls, List.range_succ]
theorem pls_length (i n k : Nat) : (pls i n k).length = k := by simp [pls]
abbrev encP (x : Nat × Nat × Nat) : Array Value := #[.agg (plC x.1 x.2.1 x.2.2)]
theorem row3_one (a b c : Int) : rowOne #[.int .i64 a, .int .i64 b, .int .i64 c] := by
  unfold rowOne
  rw [Array.all_eq_true_iff_forall_mem]
  intro v hv
  simp only [List.mem_toArray, List.mem_cons, List.not_mem_nil, or_false] at hv
  rcases hv with rfl | rfl | rfl <;> rfl
theorem wpIn_putJ {F : Fence} {n : Nat} {P : Program} {c : Code} {Q : Exit → Act → World → Prop} {a : Act} {w : World} {z cs : Array Value} {t : TypeId} (k : ∀ W, NewRow w W w.heap.size cs t → Code.wpIn F n P c Q a W) : Code.wpIn F n P c Q a ((w.alloc (.cells z t)).setRow w.heap.size cs) := k _ (put_new w z cs t)
theorem wpIn_newJ {F : Fence} {n : Nat} {P : Program} {c : Code} {Q : Exit → Act → World → Prop} {a : Act} {w : World} {z : Array Value} {t : TypeId} (k : ∀ W, NewRow w W w.heap.size z t → Code.wpIn F n P c Q a W) : Code.wpIn F n P c Q a (w.alloc (.cells z t)) := k _ ⟨heap_alloc_new _ _, fun h => keep_alloc h, (Fr.refl F0 w).alloc _, fun h => by have := (Array.getElem?_eq_some_iff.1 h).1; omega⟩
/-- What comes next. -/
def NextP (i n : Nat) (pre : List (Nat × Nat × Nat)) (x : Nat × Nat × Nat) (_ _ : World) : Prop := ∃ k, k < rows n ∧ pre = pls i n k ∧ x = plk i n k

set_option maxRecDepth 100000 in
set_option maxHeartbeats 8000000 in
theorem places_seq (g1 g2 i n : Nat) (hi : i < n) (hn : 1 ≤ n) (hb : n ≤ 65536) :
    SeqP Tryd.prog 35 #[.pointer (some ⟨g1, 0, none⟩), .pointer (some ⟨g2, 0, none⟩)] encP Kb (fun pre W => pre = [] → W.heap[g1]? = some (.cells #[.int .i64 (i : Int)] 3 (0, 0)) ∧ W.heap[g2]? = some (.cells #[.int .i64 (n : Int)] 3 (0, 0)))
      (NextP i n) (fun xs => xs = pls i n (rows n)) := by
  intro lp J Jx W oJ oX hC hJ4 hY h0
  refine (callsIn_wide (n := 6)).1 ?_
  refine callsIn_of_wp Tryd.func35 rfl trivial ?_ rfl
  simp only [Tryd.ntmps35, List.size_toArray, List.length_cons, List.length_nil, Nat.reduceAdd, Nat.reduceSub, Array.replicate_succ, Array.replicate_zero, List.push_toArray, List.append_toArray, List.nil_append, List.cons_append]
  obtain ⟨r1, r2⟩ := hC _ _ h0 rfl
  have HR := Lib.hid (fun w => mRows_any n hn hb w)
  have hR16 := rows_small n hb
  have HH := Lib.hid (And.intro hJ4 (And.intro oJ hY))
  obtain ⟨R, hR⟩ : ∃ R, R = rows n := ⟨_, rfl⟩
  rw [← hR] at HR hR16 ⊢
  replace hR := Lib.hid hR
  have hbl : ∀ (w : World), (Instr.build 58 #[(1, .int .i64 (i : Int)), (2, .int .i64 (n : Int))]).run Tryd.prog w = .ok (.agg #[.int .i64 0, .int .i64 (i : Int), .int .i64 (n : Int)]) w := fun w => run_build w _ _ _ (by kernel_rfl)
  clear oX hC hY hJ4
  have o3 := row3_one 0 (i : Int) (n : Int)
  gi_upto_region 1 with fail
  refine wpIn_putJ fun W1 N1 => ?_
  have r4 := N1.new
  replace r2 := N1.old r2
  have hJ1 := own_frI oJ h0 N1.fr
  clear N1 r1 h0 oJ
  obtain ⟨g4, hg4⟩ : ∃ g, g = W.heap.size := ⟨_, rfl⟩
  rw [← hg4] at r4 HH ⊢
  clear hg4
  gi_wp2
  refine ⟨trivial, ?_⟩
  (with_reducible refine (callsIn_wide.2 (HR.out _)).mono ?_); rintro e w2 ⟨rfl, hw⟩; replace hw := hw.symm; subst hw
  replace r2 : True := trivial
  gi_wp2
  gi_loopw [10] (fun iv wr => ∃ (k : Nat), k ≤ R ∧ iv = .int .i64 (k : Int) ∧ J (pls i n k) wr ∧ wr.heap[g4]? = some (.cells (plC (plk i n k).1 (plk i n k).2.1 (plk i n k).2.2) 58 (0, 0))) (fun iv _ => R - (intOf iv).toNat)
  case atStart => exact ⟨0, Nat.zero_le _, rfl, hJ1, r4⟩
  case round =>
    clear r4 hJ1 o3
    obtain ⟨k, hk, rfl, hJ, q4⟩ := hrel
    by_cases hlt : k < R
    · have l1 : (k : Int) < (R : Int) := by omega
      obtain ⟨fn, tmps, assign, body, hy, hY⟩ := (HH.out.2.2 (pls i n k) (plk i n k) wr wr hJ (Fr.refl F0 wr) (Array.getElem?_eq_some_iff.1 q4).1 ⟨k, by have := hR.out; omega, rfl, rfl⟩).plain (m := 5)
      have hK := Lib.hid (pls_succ i n k)
      rw [← hK.out] at hY
      have hP := Lib.hid (show plk i n (k + 1) = ((plk i n k).1 + 1, (plk i n k).2.1 / 2, ((plk i n k).2.2 + 1) / 2) from rfl)
      have p1 := plk_1 i n k
      have p2 := plk_lt i n hi k
      have p3 := plk_le i n k
      have p4 := plk_pos i n hn k
      obtain ⟨at_, hat⟩ : ∃ x, x = (plk i n k).2.1 := ⟨_, rfl⟩
      obtain ⟨wd, hwd⟩ : ∃ x, x = (plk i n k).2.2 := ⟨_, rfl⟩
      simp only [encP] at hy
      rw [p1, ← hat, ← hwd] at hy q4 hP
      rw [← hwd] at p3 p4 p2
      rw [← hat] at p2
      replace hY := Lib.hid hY
      clear p1 hat hwd
      unfold plC at q4 hy
      obtain ⟨a2, ha2⟩ : ∃ x, x = at_ / 2 := ⟨_, rfl⟩
      obtain ⟨m2, hm2⟩ : ∃ x, x = (wd + 1) / 2 := ⟨_, rfl⟩
      rw [← ha2, ← hm2] at hP
      have HF := Lib.hid (fun w => mHalf_any wd m2 (by omega) hm2 w)
      have hq : (at_ : Int).tdiv 2 = (a2 : Int) := by rw [Int.tdiv_eq_ediv_of_nonneg (by omega)]; omega
      have hbl2 : ∀ (w : World), (Instr.build 58 #[(0, .int .i64 ((k : Int) + 1)), (1, .int .i64 (a2 : Int)), (2, .int .i64 (m2 : Int))]).run Tryd.prog w = .ok (.agg #[.int .i64 ((k : Int) + 1), .int .i64 (a2 : Int), .int .i64 (m2 : Int)]) w := fun w => run_build w _ _ _ (by kernel_rfl)
      have o3 := row3_one ((k : Int) + 1) (a2 : Int) (m2 : Int)
      have hw1 : IntKind.i64.wrap ((k : Int) + 1) = (k : Int) + 1 := by rw [IntKind.wrap_i64]; omega
      have hwa : IntKind.i64.wrap (a2 : Int) = (a2 : Int) := by rw [IntKind.wrap_i64]; omega
      clear ha2 hm2 hbl p2
      gi_wp2
      refine hY.out.mono ?_
      rintro e W5 (⟨rfl, hJ5, hK5⟩ | ⟨rfl, hJx, _⟩)
      · have q5 := hK5 _ q4
        have q5l := Lib.hid (Array.getElem?_eq_some_iff.1 q5).1
        have hJ6 := HH.out.1 _ _ #[.int .i64 ((k : Int) + 1), .int .i64 (a2 : Int), .int .i64 (m2 : Int)] (own_frI HH.out.2.1 hJ5 (Fr.refl F0 W5).drew) q5l.out
        have q6 := Lib.hid (setRow_heap W5.drew g4 _ #[Value.int .i64 ((k : Int) + 1), .int .i64 (a2 : Int), .int .i64 (m2 : Int)] _ _ q5)
        obtain ⟨W6, hW6⟩ : ∃ V, V = W5.drew.setRow g4 #[Value.int .i64 ((k : Int) + 1), .int .i64 (a2 : Int), .int .i64 (m2 : Int)] := ⟨_, rfl⟩
        rw [← hW6] at q6 hJ6
        have HRl := Lib.hid (show ∃ (k' : Nat), k' ≤ R ∧ (Value.int .i64 ((k : Int) + 1)) = .int .i64 (k' : Int) ∧ J (pls i n k') W6 ∧ W6.heap[g4]? = some (.cells (plC (plk i n k').1 (plk i n k').2.1 (plk i n k').2.2) 58 (0, 0)) from
          ⟨k + 1, by omega, by go_num, hJ6, by rw [hP.out]; exact q6.out⟩)
        replace hW6 := hW6.symm
        clear hY hK5 q4 hJ hy
        gi_upto_region 4 with fail
        refine wpIn_wide.2 ?_
        refine wp_region_noPanic ?_
        refine wp_region_held_drew (S := (fun _ => True)) (by kernel_rfl) ?_ (fun hHeld => ?_)
        · ((try dsimp only) <;> (exact trivial))
        refine rtake 0 ?_
        refine rtake 3 ?_
        refine rtake 6 ?_
        refine wpAnyH_ready (rs := [1, 4, 7]) (by kernel_rfl) (by simp) ?_
        refine AllReadyH.cons (o := ⟨_, _, _, _, _, _⟩) rfl (fun K hK => ?_) (AllReadyH.cons (o := ⟨_, _, _, _, _, _⟩) rfl (fun K hK => ?_) (AllReadyH.cons (o := ⟨_, _, _, _, _, _⟩) rfl (fun K hK => ?_) AllReadyH.nil))
        go_simp
        refine hK.out _ _ ?_ (fun hHeld => ?_)
        · ((try dsimp only) <;> (exact trivial))
        clear hK K
        try (simp only [Act.put, List.setIfInBounds_toArray]; dsimp only [List.set_cons_zero, List.set_cons_succ])
        refine rtake 2 ?_
        refine wpAnyH_ready (rs := [4, 7]) (by kernel_rfl) (by simp) ?_
        refine AllReadyH.cons (o := ⟨_, _, _, _, _, _⟩) rfl (fun K hK => ?_) (AllReadyH.cons (o := ⟨_, _, _, _, _, _⟩) rfl (fun K hK => ?_) AllReadyH.nil)
        go_simp
        refine hK.out _ _ ?_ (fun hHeld => ?_)
        · ((try dsimp only) <;> (exact trivial))
        clear hK K
        try (simp only [Act.put, List.setIfInBounds_toArray]; dsimp only [List.set_cons_zero, List.set_cons_succ])
        refine rtake 5 ?_
        refine wpAnyH_ready (rs := [7]) (by kernel_rfl) (by simp) ?_
        refine AllReadyH.cons (o := ⟨_, _, _, _, _, _⟩) rfl (fun K hK => ?_) AllReadyH.nil
        go_simp
        refine hK.out _ _ ?_ (fun hHeld => ?_)
        · ((try dsimp only) <;> (exact trivial))
        clear hK K
        try (simp only [Act.put, List.setIfInBounds_toArray]; dsimp only [List.set_cons_zero, List.set_cons_succ])
        refine wpAnyH_ready (rs := [8]) (by kernel_rfl) (by simp) ?_
        refine AllReadyH.cons (o := ⟨_, _, _, _, _, _⟩) rfl (fun K hK => ?_) AllReadyH.nil
        go_simp
        ((with_reducible refine (HF.out _).mono ?_); rintro e w6 ⟨rfl, rfl⟩)
        refine hK.out _ _ ?_ (fun hHeld => ?_)
        · ((try dsimp only) <;> (exact trivial))
        clear hK K
        try (simp only [Act.put, List.setIfInBounds_toArray]; dsimp only [List.set_cons_zero, List.set_cons_succ])
        refine rtake 9 ?_
        refine wpAnyH_ready (rs := [10]) (by kernel_rfl) (by simp) ?_
        refine AllReadyH.cons (o := ⟨_, _, _, _, _, _⟩) rfl (fun K hK => ?_) AllReadyH.nil
        go_simp
        refine hK.out _ _ ?_ (fun hHeld => ?_)
        · ((try dsimp only) <;> (exact trivial))
        clear hK K
        try (simp only [Act.put, List.setIfInBounds_toArray]; dsimp only [List.set_cons_zero, List.set_cons_succ])
        refine wpAnyH_done (by kernel_rfl) ?_ _
        refine NoPanic.normal ?_
        rotate_left
        go_simp
        refine hK.out _ _ ?_ (fun hHeld => ?_)
        · ((try dsimp only) <;> (exact trivial))
        clear hK K
        try (simp only [Act.put, List.setIfInBounds_toArray]; dsimp only [List.set_cons_zero, List.set_cons_succ])
        refine wpAnyH_ready (rs := [4, 8]) (by kernel_rfl) (by simp) ?_
        refine AllReadyH.cons (o := ⟨_, _, _, _, _, _⟩) rfl (fun K hK => ?_) (AllReadyH.cons (o := ⟨_, _, _, _, _, _⟩) rfl (fun K hK => ?_) AllReadyH.nil)
        go_simp
        refine hK.out _ _ ?_ (fun hHeld => ?_)
        · ((try dsimp only) <;> (exact trivial))
        clear hK K
        try (simp only [Act.put, List.setIfInBounds_toArray]; dsimp only [List.set_cons_zero, List.set_cons_succ])
        refine rtake 5 ?_
        refine wpAnyH_ready (rs := [8]) (by kernel_rfl) (by simp) ?_
        refine AllReadyH.cons (o := ⟨_, _, _, _, _, _⟩) rfl (fun K hK => ?_) AllReadyH.nil
        go_simp
        ((with_reducible refine (HF.out _).mono ?_); rintro e w6 ⟨rfl, rfl⟩)
        refine hK.out _ _ ?_ (fun hHeld => ?_)
        · ((try dsimp only) <;> (exact trivial))
        clear hK K
        try (simp only [Act.put, List.setIfInBounds_toArray]; dsimp only [List.set_cons_zero, List.set_cons_succ])
        refine rtake 9 ?_
        refine wpAnyH_ready (rs := [10]) (by kernel_rfl) (by simp) ?_
        refine AllReadyH.cons (o := ⟨_, _, _, _, _, _⟩) rfl (fun K hK => ?_) AllReadyH.nil
        go_simp
        refine hK.out _ _ ?_ (fun hHeld => ?_)
        · ((try dsimp only) <;> (exact trivial))
        clear hK K
        try (simp only [Act.put, List.setIfInBounds_toArray]; dsimp only [List.set_cons_zero, List.set_cons_succ])
        refine wpAnyH_done (by kernel_rfl) ?_ _
        refine NoPanic.normal ?_
        rotate_left
        go_simp
        ((with_reducible refine (HF.out _).mono ?_); rintro e w6 ⟨rfl, rfl⟩)
        refine hK.out _ _ ?_ (fun hHeld => ?_)
        · ((try dsimp only) <;> (exact trivial))
        clear hK K
        try (simp only [Act.put, List.setIfInBounds_toArray]; dsimp only [List.set_cons_zero, List.set_cons_succ])
        refine wpAnyH_ready (rs := [4]) (by kernel_rfl) (by simp) ?_
        refine AllReadyH.cons (o := ⟨_, _, _, _, _, _⟩) rfl (fun K hK => ?_) AllReadyH.nil
        go_simp
        refine hK.out _ _ ?_ (fun hHeld => ?_)
        · ((try dsimp only) <;> (exact trivial))
        clear hK K
        try (simp only [Act.put, List.setIfInBounds_toArray]; dsimp only [List.set_cons_zero, List.set_cons_succ])
        refine rtake 5 ?_
        refine rtake 9 ?_
        refine wpAnyH_ready (rs := [10]) (by kernel_rfl) (by simp) ?_
        refine AllReadyH.cons (o := ⟨_, _, _, _, _, _⟩) rfl (fun K hK => ?_) AllReadyH.nil
        go_simp
        refine hK.out _ _ ?_ (fun hHeld => ?_)
        · ((try dsimp only) <;> (exact trivial))
        clear hK K
        try (simp only [Act.put, List.setIfInBounds_toArray]; dsimp only [List.set_cons_zero, List.set_cons_succ])
        refine wpAnyH_done (by kernel_rfl) ?_ _
        refine NoPanic.normal ?_
        rotate_left
        go_simp
        refine hK.out _ _ ?_ (fun hHeld => ?_)
        · ((try dsimp only) <;> (exact trivial))
        clear hK K
        try (simp only [Act.put, List.setIfInBounds_toArray]; dsimp only [List.set_cons_zero, List.set_cons_succ])
        refine rtake 5 ?_
        refine wpAnyH_ready (rs := [1, 7]) (by kernel_rfl) (by simp) ?_
        refine AllReadyH.cons (o := ⟨_, _, _, _, _, _⟩) rfl (fun K hK => ?_) (AllReadyH.cons (o := ⟨_, _, _, _, _, _⟩) rfl (fun K hK => ?_) AllReadyH.nil)
        go_simp
        refine hK.out _ _ ?_ (fun hHeld => ?_)
        · ((try dsimp only) <;> (exact trivial))
        clear hK K
        try (simp only [Act.put, List.setIfInBounds_toArray]; dsimp only [List.set_cons_zero, List.set_cons_succ])
        refine rtake 2 ?_
        refine wpAnyH_ready (rs := [7]) (by kernel_rfl) (by simp) ?_
        refine AllReadyH.cons (o := ⟨_, _, _, _, _, _⟩) rfl (fun K hK => ?_) AllReadyH.nil
        go_simp
        refine hK.out _ _ ?_ (fun hHeld => ?_)
        · ((try dsimp only) <;> (exact trivial))
        clear hK K
        try (simp only [Act.put, List.setIfInBounds_toArray]; dsimp only [List.set_cons_zero, List.set_cons_succ])
        refine wpAnyH_ready (rs := [8]) (by kernel_rfl) (by simp) ?_
        refine AllReadyH.cons (o := ⟨_, _, _, _, _, _⟩) rfl (fun K hK => ?_) AllReadyH.nil
        go_simp
        ((with_reducible refine (HF.out _).mono ?_); rintro e w6 ⟨rfl, rfl⟩)
        refine hK.out _ _ ?_ (fun hHeld => ?_)
        · ((try dsimp only) <;> (exact trivial))
        clear hK K
        try (simp only [Act.put, List.setIfInBounds_toArray]; dsimp only [List.set_cons_zero, List.set_cons_succ])
        refine rtake 9 ?_
        refine wpAnyH_ready (rs := [10]) (by kernel_rfl) (by simp) ?_
        refine AllReadyH.cons (o := ⟨_, _, _, _, _, _⟩) rfl (fun K hK => ?_) AllReadyH.nil
        go_simp
        refine hK.out _ _ ?_ (fun hHeld => ?_)
        · ((try dsimp only) <;> (exact trivial))
        clear hK K
        try (simp only [Act.put, List.setIfInBounds_toArray]; dsimp only [List.set_cons_zero, List.set_cons_succ])
        refine wpAnyH_done (by kernel_rfl) ?_ _
        refine NoPanic.normal ?_
        rotate_left
        go_simp
        refine hK.out _ _ ?_ (fun hHeld => ?_)
        · ((try dsimp only) <;> (exact trivial))
        clear hK K
        try (simp only [Act.put, List.setIfInBounds_toArray]; dsimp only [List.set_cons_zero, List.set_cons_succ])
        refine wpAnyH_ready (rs := [1, 8]) (by kernel_rfl) (by simp) ?_
        refine AllReadyH.cons (o := ⟨_, _, _, _, _, _⟩) rfl (fun K hK => ?_) (AllReadyH.cons (o := ⟨_, _, _, _, _, _⟩) rfl (fun K hK => ?_) AllReadyH.nil)
        go_simp
        refine hK.out _ _ ?_ (fun hHeld => ?_)
        · ((try dsimp only) <;> (exact trivial))
        clear hK K
        try (simp only [Act.put, List.setIfInBounds_toArray]; dsimp only [List.set_cons_zero, List.set_cons_succ])
        refine rtake 2 ?_
        refine wpAnyH_ready (rs := [8]) (by kernel_rfl) (by simp) ?_
        refine AllReadyH.cons (o := ⟨_, _, _, _, _, _⟩) rfl (fun K hK => ?_) AllReadyH.nil
        go_simp
        ((with_reducible refine (HF.out _).mono ?_); rintro e w6 ⟨rfl, rfl⟩)
        refine hK.out _ _ ?_ (fun hHeld => ?_)
        · ((try dsimp only) <;> (exact trivial))
        clear hK K
        try (simp only [Act.put, List.setIfInBounds_toArray]; dsimp only [List.set_cons_zero, List.set_cons_succ])
        refine rtake 9 ?_
        refine wpAnyH_ready (rs := [10]) (by kernel_rfl) (by simp) ?_
        refine AllReadyH.cons (o := ⟨_, _, _, _, _, _⟩) rfl (fun K hK => ?_) AllReadyH.nil
        go_simp
        refine hK.out _ _ ?_ (fun hHeld => ?_)
        · ((try dsimp only) <;> (exact trivial))
        clear hK K
        try (simp only [Act.put, List.setIfInBounds_toArray]; dsimp only [List.set_cons_zero, List.set_cons_succ])
        refine wpAnyH_done (by kernel_rfl) ?_ _
        refine NoPanic.normal ?_
        rotate_left
        go_simp
        ((with_reducible refine (HF.out _).mono ?_); rintro e w6 ⟨rfl, rfl⟩)
        refine hK.out _ _ ?_ (fun hHeld => ?_)
        · ((try dsimp only) <;> (exact trivial))
        clear hK K
        try (simp only [Act.put, List.setIfInBounds_toArray]; dsimp only [List.set_cons_zero, List.set_cons_succ])
        refine wpAnyH_ready (rs := [1]) (by kernel_rfl) (by simp) ?_
        refine AllReadyH.cons (o := ⟨_, _, _, _, _, _⟩) rfl (fun K hK => ?_) AllReadyH.nil
        go_simp
        refine hK.out _ _ ?_ (fun hHeld => ?_)
        · ((try dsimp only) <;> (exact trivial))
        clear hK K
        try (simp only [Act.put, List.setIfInBounds_toArray]; dsimp only [List.set_cons_zero, List.set_cons_succ])
        refine rtake 2 ?_
        refine rtake 9 ?_
        refine wpAnyH_ready (rs := [10]) (by kernel_rfl) (by simp) ?_
        refine AllReadyH.cons (o := ⟨_, _, _, _, _, _⟩) rfl (fun K hK => ?_) AllReadyH.nil
        go_simp
        refine hK.out _ _ ?_ (fun hHeld => ?_)
        · ((try dsimp only) <;> (exact trivial))
        clear hK K
        try (simp only [Act.put, List.setIfInBounds_toArray]; dsimp only [List.set_cons_zero, List.set_cons_succ])
        refine wpAnyH_done (by kernel_rfl) ?_ _
        refine NoPanic.normal ?_
        rotate_left
        go_simp
        refine hK.out _ _ ?_ (fun hHeld => ?_)
        · ((try dsimp only) <;> (exact trivial))
        clear hK K
        try (simp only [Act.put, List.setIfInBounds_toArray]; dsimp only [List.set_cons_zero, List.set_cons_succ])
        refine wpAnyH_ready (rs := [1, 4, 8]) (by kernel_rfl) (by simp) ?_
        refine AllReadyH.cons (o := ⟨_, _, _, _, _, _⟩) rfl (fun K hK => ?_) (AllReadyH.cons (o := ⟨_, _, _, _, _, _⟩) rfl (fun K hK => ?_) (AllReadyH.cons (o := ⟨_, _, _, _, _, _⟩) rfl (fun K hK => ?_) AllReadyH.nil))
        go_simp
        refine hK.out _ _ ?_ (fun hHeld => ?_)
        · ((try dsimp only) <;> (exact trivial))
        clear hK K
        try (simp only [Act.put, List.setIfInBounds_toArray]; dsimp only [List.set_cons_zero, List.set_cons_succ])
        refine rtake 2 ?_
        refine wpAnyH_ready (rs := [4, 8]) (by kernel_rfl) (by simp) ?_
        refine AllReadyH.cons (o := ⟨_, _, _, _, _, _⟩) rfl (fun K hK => ?_) (AllReadyH.cons (o := ⟨_, _, _, _, _, _⟩) rfl (fun K hK => ?_) AllReadyH.nil)
        go_simp
        refine hK.out _ _ ?_ (fun hHeld => ?_)
        · ((try dsimp only) <;> (exact trivial))
        clear hK K
        try (simp only [Act.put, List.setIfInBounds_toArray]; dsimp only [List.set_cons_zero, List.set_cons_succ])
        refine rtake 5 ?_
        refine wpAnyH_ready (rs := [8]) (by kernel_rfl) (by simp) ?_
        refine AllReadyH.cons (o := ⟨_, _, _, _, _, _⟩) rfl (fun K hK => ?_) AllReadyH.nil
        go_simp
        ((with_reducible refine (HF.out _).mono ?_); rintro e w6 ⟨rfl, rfl⟩)
        refine hK.out _ _ ?_ (fun hHeld => ?_)
        · ((try dsimp only) <;> (exact trivial))
        clear hK K
        try (simp only [Act.put, List.setIfInBounds_toArray]; dsimp only [List.set_cons_zero, List.set_cons_succ])
        refine rtake 9 ?_
        refine wpAnyH_ready (rs := [10]) (by kernel_rfl) (by simp) ?_
        refine AllReadyH.cons (o := ⟨_, _, _, _, _, _⟩) rfl (fun K hK => ?_) AllReadyH.nil
        go_simp
        refine hK.out _ _ ?_ (fun hHeld => ?_)
        · ((try dsimp only) <;> (exact trivial))
        clear hK K
        try (simp only [Act.put, List.setIfInBounds_toArray]; dsimp only [List.set_cons_zero, List.set_cons_succ])
        refine wpAnyH_done (by kernel_rfl) ?_ _
        refine NoPanic.normal ?_
        rotate_left
        go_simp
        ((with_reducible refine (HF.out _).mono ?_); rintro e w6 ⟨rfl, rfl⟩)
        refine hK.out _ _ ?_ (fun hHeld => ?_)
        · ((try dsimp only) <;> (exact trivial))
        clear hK K
        try (simp only [Act.put, List.setIfInBounds_toArray]; dsimp only [List.set_cons_zero, List.set_cons_succ])
        refine wpAnyH_ready (rs := [4]) (by kernel_rfl) (by simp) ?_
        refine AllReadyH.cons (o := ⟨_, _, _, _, _, _⟩) rfl (fun K hK => ?_) AllReadyH.nil
        go_simp
        refine hK.out _ _ ?_ (fun hHeld => ?_)
        · ((try dsimp only) <;> (exact trivial))
        clear hK K
        try (simp only [Act.put, List.setIfInBounds_toArray]; dsimp only [List.set_cons_zero, List.set_cons_succ])
        refine rtake 5 ?_
        refine rtake 9 ?_
        refine wpAnyH_ready (rs := [10]) (by kernel_rfl) (by simp) ?_
        refine AllReadyH.cons (o := ⟨_, _, _, _, _, _⟩) rfl (fun K hK => ?_) AllReadyH.nil
        go_simp
        refine hK.out _ _ ?_ (fun hHeld => ?_)
        · ((try dsimp only) <;> (exact trivial))
        clear hK K
        try (simp only [Act.put, List.setIfInBounds_toArray]; dsimp only [List.set_cons_zero, List.set_cons_succ])
        refine wpAnyH_done (by kernel_rfl) ?_ _
        refine NoPanic.normal ?_
        rotate_left
        go_simp
        refine hK.out _ _ ?_ (fun hHeld => ?_)
        · ((try dsimp only) <;> (exact trivial))
        clear hK K
        try (simp only [Act.put, List.setIfInBounds_toArray]; dsimp only [List.set_cons_zero, List.set_cons_succ])
        refine rtake 5 ?_
        refine wpAnyH_ready (rs := [1, 8]) (by kernel_rfl) (by simp) ?_
        refine AllReadyH.cons (o := ⟨_, _, _, _, _, _⟩) rfl (fun K hK => ?_) (AllReadyH.cons (o := ⟨_, _, _, _, _, _⟩) rfl (fun K hK => ?_) AllReadyH.nil)
        go_simp
        refine hK.out _ _ ?_ (fun hHeld => ?_)
        · ((try dsimp only) <;> (exact trivial))
        clear hK K
        try (simp only [Act.put, List.setIfInBounds_toArray]; dsimp only [List.set_cons_zero, List.set_cons_succ])
        refine rtake 2 ?_
        refine wpAnyH_ready (rs := [8]) (by kernel_rfl) (by simp) ?_
        refine AllReadyH.cons (o := ⟨_, _, _, _, _, _⟩) rfl (fun K hK => ?_) AllReadyH.nil
        go_simp
        ((with_reducible refine (HF.out _).mono ?_); rintro e w6 ⟨rfl, rfl⟩)
        refine hK.out _ _ ?_ (fun hHeld => ?_)
        · ((try dsimp only) <;> (exact trivial))
        clear hK K
        try (simp only [Act.put, List.setIfInBounds_toArray]; dsimp only [List.set_cons_zero, List.set_cons_succ])
        refine rtake 9 ?_
        refine wpAnyH_ready (rs := [10]) (by kernel_rfl) (by simp) ?_
        refine AllReadyH.cons (o := ⟨_, _, _, _, _, _⟩) rfl (fun K hK => ?_) AllReadyH.nil
        go_simp
        refine hK.out _ _ ?_ (fun hHeld => ?_)
        · ((try dsimp only) <;> (exact trivial))
        clear hK K
        try (simp only [Act.put, List.setIfInBounds_toArray]; dsimp only [List.set_cons_zero, List.set_cons_succ])
        refine wpAnyH_done (by kernel_rfl) ?_ _
        refine NoPanic.normal ?_
        rotate_left
        go_simp
        ((with_reducible refine (HF.out _).mono ?_); rintro e w6 ⟨rfl, rfl⟩)
        refine hK.out _ _ ?_ (fun hHeld => ?_)
        · ((try dsimp only) <;> (exact trivial))
        clear hK K
        try (simp only [Act.put, List.setIfInBounds_toArray]; dsimp only [List.set_cons_zero, List.set_cons_succ])
        refine wpAnyH_ready (rs := [1]) (by kernel_rfl) (by simp) ?_
        refine AllReadyH.cons (o := ⟨_, _, _, _, _, _⟩) rfl (fun K hK => ?_) AllReadyH.nil
        go_simp
        refine hK.out _ _ ?_ (fun hHeld => ?_)
        · ((try dsimp only) <;> (exact trivial))
        clear hK K
        try (simp only [Act.put, List.setIfInBounds_toArray]; dsimp only [List.set_cons_zero, List.set_cons_succ])
        refine rtake 2 ?_
        refine rtake 9 ?_
        refine wpAnyH_ready (rs := [10]) (by kernel_rfl) (by simp) ?_
        refine AllReadyH.cons (o := ⟨_, _, _, _, _, _⟩) rfl (fun K hK => ?_) AllReadyH.nil
        go_simp
        refine hK.out _ _ ?_ (fun hHeld => ?_)
        · ((try dsimp only) <;> (exact trivial))
        clear hK K
        try (simp only [Act.put, List.setIfInBounds_toArray]; dsimp only [List.set_cons_zero, List.set_cons_succ])
        refine wpAnyH_done (by kernel_rfl) ?_ _
        refine NoPanic.normal ?_
        rotate_left
        go_simp
        ((with_reducible refine (HF.out _).mono ?_); rintro e w6 ⟨rfl, rfl⟩)
        refine hK.out _ _ ?_ (fun hHeld => ?_)
        · ((try dsimp only) <;> (exact trivial))
        clear hK K
        try (simp only [Act.put, List.setIfInBounds_toArray]; dsimp only [List.set_cons_zero, List.set_cons_succ])
        refine wpAnyH_ready (rs := [1, 4]) (by kernel_rfl) (by simp) ?_
        refine AllReadyH.cons (o := ⟨_, _, _, _, _, _⟩) rfl (fun K hK => ?_) (AllReadyH.cons (o := ⟨_, _, _, _, _, _⟩) rfl (fun K hK => ?_) AllReadyH.nil)
        go_simp
        refine hK.out _ _ ?_ (fun hHeld => ?_)
        · ((try dsimp only) <;> (exact trivial))
        clear hK K
        try (simp only [Act.put, List.setIfInBounds_toArray]; dsimp only [List.set_cons_zero, List.set_cons_succ])
        refine rtake 2 ?_
        refine wpAnyH_ready (rs := [4]) (by kernel_rfl) (by simp) ?_
        refine AllReadyH.cons (o := ⟨_, _, _, _, _, _⟩) rfl (fun K hK => ?_) AllReadyH.nil
        go_simp
        refine hK.out _ _ ?_ (fun hHeld => ?_)
        · ((try dsimp only) <;> (exact trivial))
        clear hK K
        try (simp only [Act.put, List.setIfInBounds_toArray]; dsimp only [List.set_cons_zero, List.set_cons_succ])
        refine rtake 5 ?_
        refine rtake 9 ?_
        refine wpAnyH_ready (rs := [10]) (by kernel_rfl) (by simp) ?_
        refine AllReadyH.cons (o := ⟨_, _, _, _, _, _⟩) rfl (fun K hK => ?_) AllReadyH.nil
        go_simp
        refine hK.out _ _ ?_ (fun hHeld => ?_)
        · ((try dsimp only) <;> (exact trivial))
        clear hK K
        try (simp only [Act.put, List.setIfInBounds_toArray]; dsimp only [List.set_cons_zero, List.set_cons_succ])
        refine wpAnyH_done (by kernel_rfl) ?_ _
        refine NoPanic.normal ?_
        rotate_left
        go_simp
        refine hK.out _ _ ?_ (fun hHeld => ?_)
        · ((try dsimp only) <;> (exact trivial))
        clear hK K
        try (simp only [Act.put, List.setIfInBounds_toArray]; dsimp only [List.set_cons_zero, List.set_cons_succ])
        refine rtake 5 ?_
        refine wpAnyH_ready (rs := [1]) (by kernel_rfl) (by simp) ?_
        refine AllReadyH.cons (o := ⟨_, _, _, _, _, _⟩) rfl (fun K hK => ?_) AllReadyH.nil
        go_simp
        refine hK.out _ _ ?_ (fun hHeld => ?_)
        · ((try dsimp only) <;> (exact trivial))
        clear hK K
        try (simp only [Act.put, List.setIfInBounds_toArray]; dsimp only [List.set_cons_zero, List.set_cons_succ])
        refine rtake 2 ?_
        refine rtake 9 ?_
        refine wpAnyH_ready (rs := [10]) (by kernel_rfl) (by simp) ?_
        refine AllReadyH.cons (o := ⟨_, _, _, _, _, _⟩) rfl (fun K hK => ?_) AllReadyH.nil
        go_simp
        refine hK.out _ _ ?_ (fun hHeld => ?_)
        · ((try dsimp only) <;> (exact trivial))
        clear hK K
        try (simp only [Act.put, List.setIfInBounds_toArray]; dsimp only [List.set_cons_zero, List.set_cons_succ])
        refine wpAnyH_done (by kernel_rfl) ?_ _
        refine NoPanic.normal ?_
        rotate_left
        all_goals
          clear hW6
          gi_wp2
          go_roundw
          case rel => exact HRl.out
          case measure => simp [intOf]; omega
      · gi_wp2
        refine bodyPost_ret (results_none rfl _ _ _) rfl ?_
        exact ⟨⟨_, rfl⟩, .inr ⟨_, hJx⟩⟩
    · obtain rfl : k = R := by omega
      gi_wp2
      go_end0
      exact ⟨⟨_, rfl⟩, .inl ⟨_, by rw [hR.out], hJ⟩⟩
end Go.Proofs.YthpcajpiflpmdaaDoor

/- Layer 10 (merkle), the program's own: slices.Chunk of hashes, two by two. -/
namespace Go.Proofs.YthpcajpiflpmdaaDoor
set_option linter.unusedVariables false
set_option linter.unusedSimpArgs false
open Go.RowKit Go.Shelf

theorem min_isJ {P : Program} {ts : Array TypeId} {t : TypeId} {a b n : Int} (h : n = if a < b then a else b) (w : World) : (Builtin.min_ ts t #[.int .i64 a, .int .i64 b]).run P w = .ok (.int .i64 n) w := by
  rw [run_min_int2, show (if b < a then b else a) = n by rw [h]; split <;> split <;> omega]
/-- How many hashes the k-th piece has. -/
def cn (N k : Nat) : Nat := if 2 * k + 1 < N then 2 else 1
abbrev encK (N : Nat) (a : Option Addr) (k : Nat) : Array Value := #[.slice (a.map fun x => ⟨x.block, x.off + 2 * k * 32, none⟩) (cn N k) (cn N k)]
/-- What comes next. -/
def NextK (N : Nat) (pre : List Nat) (x : Nat) (_ _ : World) : Prop := x = pre.length ∧ pre = List.range x ∧ 2 * x < N

set_option maxRecDepth 100000 in
set_option maxHeartbeats 8000000 in
theorem chunkH_seq (bx by_ : Nat) (a : Option Addr) (N c : Nat) (hN : N ≤ 1000000) (hc : N ≤ c) (ha : 0 < N → ∃ b off, a = some ⟨b, off, none⟩) :
    SeqO Tryd.prog 45 #[.pointer (some ⟨bx, 0, none⟩), .pointer (some ⟨by_, 0, none⟩)] (encK N a) (fun _ _ _ => True) (fun _ W => W.heap[bx]? = some (.cells #[.slice a N c] 22 (0, 0)) ∧ W.heap[by_]? = some (.cells #[.int .i64 2] 3 (0, 0)))
      (NextK N) (fun xs => xs = List.range ((N + 1) / 2)) := by
  intro lp J Jx W oJ oX hC hY h0
  refine (callsIn_wide (n := 6)).1 ?_
  refine callsIn_of_wp Tryd.func45 rfl trivial ?_ rfl
  simp only [Tryd.ntmps45, List.size_toArray, List.length_cons, List.length_nil, Nat.reduceAdd, Nat.reduceSub, Array.replicate_succ, Array.replicate_zero, List.push_toArray, List.append_toArray, List.nil_append, List.cons_append]
  have HH := Lib.hid (And.intro oJ (And.intro hC hY))
  have HA := Lib.hid ha
  clear oJ oX hC hY ha
  gi_wp2
  gi_loopw [4] (fun iv wr => ∃ (k p : Nat), Hid (p = 2 * k) ∧ k ≤ (N + 1) / 2 ∧ iv = .int .i64 (p : Int) ∧ J (List.range k) wr) (fun iv _ => N + 1 - (intOf iv).toNat)
  case atStart => exact ⟨0, 0, rfl, Nat.zero_le _, rfl, h0⟩
  case round =>
    clear h0
    obtain ⟨k, p, hp, hk, rfl, hJ⟩ := hrel
    obtain ⟨r1, r2⟩ := HH.out.2.1 _ _ hJ
    by_cases hlt : p < N
    · have l1 : (p : Int) < (N : Int) := by omega
      obtain ⟨b, off, rfl⟩ := HA.out (by omega)
      have hJd := own_frI HH.out.1 hJ (Fr.refl F0 wr).drew
      obtain ⟨fn, tmps, assign, body, hy, hY⟩ := (HH.out.2.2 (List.range k) k wr.drew wr.drew hJd (Fr.refl F0 _) ⟨by simp, rfl, by have := hp.out; omega⟩).plain (m := 5)
      obtain ⟨m, hm⟩ : ∃ m, m = cn N k := ⟨_, rfl⟩
      obtain ⟨q, hq⟩ : ∃ q, q = p + m := ⟨_, rfl⟩
      simp only [encK, Option.map] at hy
      rw [← hm, ← hp.out] at hy
      rw [← List.range_succ] at hY
      have hmin := fun ts t w => min_isJ (P := Tryd.prog) (ts := ts) (t := t) (a := 2) (b := ((N - p : Nat) : Int)) (n := (m : Int)) (by rw [hm, cn, ← hp.out]; split <;> split <;> omega) w
      have hpm : p + m ≤ N := by rw [hm, cn, ← hp.out]; split <;> omega
      have hm0 : 0 < m := by rw [hm, cn]; split <;> omega
      replace hY := Lib.hid hY
      replace hm := Lib.hid hm
      gi_upto_region 3 with fail
      refine wpIn_wide.2 ?_
      have l2 : p ≤ N := by omega
      have l3 : ¬ c = p := by omega
      refine wp_region_noPanic ?_
      refine wp_region_held_drew (S := (fun w' => w'.heap[bx]? = some (.cells #[.slice (some ⟨b, off, none⟩) N c] 22 (0, 0)) ∧ w'.heap[by_]? = some (.cells #[.int .i64 2] 3 (0, 0)))) (by kernel_rfl) ?_ (fun hHeld => ?_)
      · ((try dsimp only) <;> (first | exact ⟨r1, r2⟩ | exact hHeld))
      refine rtake 0 ?_
      refine rtake 1 ?_
      refine rtake 2 ?_
      refine rtake 3 ?_
      refine rtake 4 ?_
      refine wpAnyH_ready (rs := [5]) (by kernel_rfl) (by simp) ?_
      refine AllReadyH.cons (o := ⟨_, _, _, _, _, _⟩) rfl (fun K hK => ?_) AllReadyH.nil
      go_simp
      refine hK.out _ _ ?_ (fun hHeld => ?_)
      · ((try dsimp only) <;> (first | exact ⟨r1, r2⟩ | exact hHeld))
      clear hK K
      try (simp only [Act.put, List.setIfInBounds_toArray]; dsimp only [List.set_cons_zero, List.set_cons_succ])
      refine rtake 6 ?_
      refine wpAnyH_done (by kernel_rfl) ?_ _
      refine NoPanic.normal ?_
      have r1' := hHeld.1
      have r2' := hHeld.2
      have hw1 : IntKind.i64.wrap ((p : Int) + (m : Int)) = (q : Int) := by rw [IntKind.wrap_i64]; omega
      have hqc : (q : Int) ≤ (c : Int) := by omega
      have hpq : (p : Int) ≤ (q : Int) := by omega
      have hqp : q - p = m := by omega
      have hqn : ¬ q = p := by omega
      clear r1 r2 hHeld hq hJ hJd
      generalize wr.drew = wd at *
      gi_wp2
      refine hY.out.mono ?_
      rintro e W5 (⟨rfl, hJ5, _⟩ | ⟨rfl, hJx, _⟩)
      · obtain ⟨s1, s2⟩ := HH.out.2.1 _ _ hJ5
        have hw2 : IntKind.i64.wrap ((p : Int) + 2) = (p : Int) + 2 := by rw [IntKind.wrap_i64]; omega
        have HR := Lib.hid (show ∃ (k' p' : Nat), Hid (p' = 2 * k') ∧ k' ≤ (N + 1) / 2 ∧ (Value.int .i64 ((p : Int) + 2)) = .int .i64 (p' : Int) ∧ J (List.range k') W5 from
          ⟨k + 1, p + 2, by rw [Hid, hp.out]; omega, by have := hp.out; omega, by go_num, hJ5⟩)
        clear hY r1' r2' hy hmin hw1 hqc hpq hqp hqn
        gi_wp2
        go_roundw
        case rel => exact HR.out
        case measure => simp [intOf]; omega
      · clear hY r1' r2' hy hmin hw1 hqc hpq hqp hqn
        gi_wp2
        refine bodyPost_ret (results_none rfl _ _ _) rfl ?_
        exact ⟨⟨_, rfl⟩, .inr ⟨_, hJx⟩⟩
    · have l1 : ¬ (p : Int) < (N : Int) := by omega
      have e1 : k = (N + 1) / 2 := by have := hp.out; omega
      rw [e1] at hJ
      clear e1
      gi_wp2
      go_end0
      first | exact ⟨⟨_, rfl⟩, .inl hJ⟩ | exact ⟨⟨_, rfl⟩, .inl ⟨_, rfl, hJ⟩⟩

set_option maxHeartbeats 1000000 in
theorem ChunkH_any (a : Option Addr) (N c : Nat) (w : World) :
    Calls Tryd.prog 34 #[.slice a N c, .int .i64 2] w fun e w' => ∃ bx by_, e = .returned (.func (.func 45) #[] #[.pointer (some ⟨bx, 0, none⟩), .pointer (some ⟨by_, 0, none⟩)]) ∧ w'.heap[bx]? = some (.cells #[.slice a N c] 22 (0, 0)) ∧ w'.heap[by_]? = some (.cells #[.int .i64 2] 3 (0, 0)) ∧ Fr F0 w w' ∧ w.heap.size ≤ bx ∧ w.heap.size ≤ by_ := by
  have hmf : ∀ (fn : Fn) (first cap : Array Value) (w : World), (Instr.makeFunc fn first cap).run Tryd.prog w = .ok (.func fn first cap) w := fun _ _ _ _ => rfl
  go_enter Tryd.func34, Tryd.ntmps34
  go_wp2
  go_ret
  refine ⟨w.heap.size, w.heap.size + 1, rfl, ?_, ?_, ((Fr.refl F0 w).alloc _).alloc _, Nat.le_refl _, Nat.le_succ _⟩
  · exact keep_alloc (heap_alloc_new w _)
  · have := heap_alloc_new (w.alloc (.cells #[.slice a N c] 22)) (.cells #[.int .i64 2] 3)
    rw [World.size_alloc] at this
    exact this
end Go.Proofs.YthpcajpiflpmdaaDoor

/- Layer 10 (merkle), the program's own: the row above. -/
namespace Go.Proofs.YthpcajpiflpmdaaDoor
set_option linter.unusedVariables false
set_option linter.unusedSimpArgs false
open Go.RowKit Go.Shelf

attribute [local go_sem] Oper.semAt_some

theorem grown_frJ {A D : World} {row : Option Nat} (hg : A.grownBy D row) : Fr (fun k => row = some k) A D := (Fr.refl _ A).grown hg fun k hk _ => hk
theorem row_notJ {A : World} {B : Nat} {row : Option Nat} {e0 size n : Nat} {v : Value} {xs : List Value} (hr : ∀ r, row = some r → B ≤ r ∧ ∃ o : Obj, A.heap[r]? = some o ∧ o.isCells = false) (h : A.ownsRow 0 e0 size v n xs) : ∀ k, v.ownBlock = some k → ¬ row = some k := fun k hk e => by
  obtain ⟨_, o, ho, hcl⟩ := hr k e
  rcases h.2 with ⟨rfl, _⟩ | ⟨g, cap, cur, rfl, _, hg, _⟩
  · cases hk
  · cases hk
    rw [hg] at ho
    cases ho
    cases hcl
theorem own_csJ {B : Nat} {A D : World} {row : Option Nat} {k : Nat} {cs : Array Value} {t : TypeId} {fr : Nat × Nat} (hs : A.heap[k]? = some (.cells cs t fr)) (hg : A.grownBy D row) (hr : ∀ r, row = some r → B ≤ r ∧ ∃ o : Obj, A.heap[r]? = some o ∧ o.isCells = false) : D.heap[k]? = some (.cells cs t fr) :=
  (grown_frJ hg).keeps (fun e => by
    obtain ⟨_, o, ho, hcl⟩ := hr k e
    rw [hs] at ho
    cases ho
    cases hcl) hs
theorem OwnL.grown {et B B' : Nat} {v : Value} {l : List (List UInt8)} {A D : World} {row : Option Nat} (h : OwnL et B A v l) (hg : A.grownBy D row) (hr : ∀ r, row = some r → B' ≤ r ∧ ∃ o : Obj, A.heap[r]? = some o ∧ o.isCells = false) : OwnL et B D v l := h.frS (grown_frJ hg) (row_notJ hr h.own)
/-- What the rounds hold: the row so far. -/
def UpI (B bx by_ g3 : Nat) (l : List (List UInt8)) (W : World) : Prop := ∃ v, W.heap[g3]? = some (.cells #[v] 22 (0, 0)) ∧ OwnL 28 B W v l ∧ ∀ k, v.ownBlock = some k → k ≠ bx ∧ k ≠ by_ ∧ k ≠ g3

set_option maxRecDepth 100000 in
set_option maxHeartbeats 16000000 in
theorem mAbove_any (l : List (List UInt8)) (a : Option Addr) (n c : Nat) (w : World) (h : Hs w a c l) (hn : n = l.length) (hl : l.length ≤ 1000) (hcub : Cub w) :
    Calls Tryd.prog 24 #[.slice a n c] w (NewHs (up l) w) := by
  have hmf : ∀ (fn : Fn) (first cap : Array Value) (w : World), (Instr.makeFunc fn first cap).run Tryd.prog w = .ok (.func fn first cap) w := fun _ _ _ _ => rfl
  have HS := Lib.hid h
  have HC := Lib.hid hcub
  have hro := h.room
  rw [← hn] at hro
  have hn1 : n ≤ 1000 := by omega
  obtain ⟨m, hm⟩ : ∃ m, m = (n + 1) / 2 := ⟨_, rfl⟩
  have HHf := Lib.hid (fun w => mHalf_any n m (by omega) hm w)
  obtain ⟨CC, hmk, hown⟩ := run_make_H w m (by omega)
  have HCh := Lib.hid (fun W => ChunkH_any a n c W)
  have HQ := Lib.hid (fun bx by_ => chunkH_seq bx by_ a n c (by omega) hro.1 (fun h0 => by
    obtain ⟨b, off, e, _⟩ := h.get 0 (by omega)
    exact ⟨b, off, e⟩))
  replace hn := Lib.hid hn
  replace hm := Lib.hid hm
  clear h hcub hl
  refine callsIn_wide (n := 6) |>.1 ?_
  refine callsIn_of_wp_marks Tryd.func24 rfl trivial ?_ rfl
  simp only [Tryd.ntmps24, List.size_toArray, List.length_cons, List.length_nil, Nat.reduceAdd, Nat.reduceSub, Array.replicate_succ, Array.replicate_zero, List.push_toArray, List.append_toArray, List.nil_append, List.cons_append]
  gi_wp2
  refine ⟨trivial, ?_⟩
  (with_reducible refine (callsIn_wide.2 (HHf.out _)).mono ?_); rintro e w1 ⟨rfl, hw⟩; replace hw := hw.symm; subst hw
  gi_upto_region 2 with fail
  refine wpIn_newJ fun W1 N1 => ?_
  have r3 := N1.new
  have O1 := hown.fr0 N1.fr
  have F1 := ((Fr.refl F0 w).alloc (.cells CC 28)).trans' N1.fr
  clear N1 hown hmk
  rw [World.size_alloc] at r3
  have s1 := Lib.hid (Array.getElem?_eq_some_iff.1 r3).1
  have hg3 : w.heap.size ≠ w.heap.size + 1 := by omega
  obtain ⟨g3, hg3e⟩ : ∃ g, g = w.heap.size + 1 := ⟨_, rfl⟩
  obtain ⟨g1, hg1e⟩ : ∃ g, g = w.heap.size := ⟨_, rfl⟩
  rw [← hg3e] at r3 hg3 ⊢
  rw [← hg1e] at O1 hg3 r3 ⊢
  replace hg3 := Lib.hid hg3
  have h31 := Lib.hid (show ¬ g3 < w.heap.size by omega)
  replace hg3e := Lib.hid hg3e
  replace hg1e := Lib.hid hg1e
  gi_wp2
  refine ⟨trivial, ?_⟩
  (with_reducible refine (callsIn_wide.2 (HCh.out _)).mono ?_); rintro e w2 ⟨bx, by_, rfl, r5, r6, f2, gx, gy⟩
  replace r3 := keep_fr f2 r3
  replace O1 := O1.fr0 f2
  have F := F1.trans' f2
  have hbx := Lib.hid (And.intro (show g1 ≠ bx by have := s1.out; have := hg1e.out; have := hg3e.out; omega) (And.intro (show g1 ≠ by_ by have := s1.out; have := hg1e.out; have := hg3e.out; omega) (And.intro (show bx ≠ g3 by have := s1.out; have := hg1e.out; have := hg3e.out; omega) (show by_ ≠ g3 by have := s1.out; have := hg1e.out; have := hg3e.out; omega))))
  have hbl := Lib.hid (And.intro (Array.getElem?_eq_some_iff.1 r5).1 (And.intro (Array.getElem?_eq_some_iff.1 r6).1 (Array.getElem?_eq_some_iff.1 r3).1))
  clear F1 f2 HCh gx gy s1
  have hwz := Lib.hid F.size
  have hbl9 := hbl
  gi_wp2
  have hOI : OwnFrom w2.heap.size (fun (pre : List Nat) W' => ((W'.heap[bx]? = some (.cells #[.slice a n c] 22 (0, 0)) ∧ W'.heap[by_]? = some (.cells #[.int .i64 2] 3 (0, 0))) ∧ UpI g1 bx by_ g3 ((up l).take pre.length) W') ∧ Below w.heap.size w2 W') :=
    OwnFrom.and (OwnFrom.and (OwnFrom.and (own_heap (β := List Nat) w2.heap.size bx (fun _ => #[.slice a n c]) 22 (0, 0)) (own_heap (β := List Nat) w2.heap.size by_ (fun _ => #[.int .i64 2]) 3 (0, 0))) (fun s A D row h hgr hr => by
      obtain ⟨v, h3, ho, hd⟩ := h
      exact ⟨v, own_csJ h3 hgr hr, ho.grown hgr hr, hd⟩)) (own_below (β := List Nat) w2.heap.size w.heap.size w2 (Nat.le_refl _) hwz.out)
  have hFr := Lib.hid (show ∀ W', Below w.heap.size w2 W' → Fr F0 w W' from fun W' b => F.trans (Fr.of_below' b) fun i hi hk => by omega)
  refine range_lawO (gf := 45) (lb := #[.pointer (some ⟨bx, 0, none⟩), .pointer (some ⟨by_, 0, none⟩)]) rfl (enters_of Tryd.func45 (by kernel_rfl) rfl) (HQ.out bx by_) (fun _ => rfl) (fun _ _ => trivial) (fun _ _ => trivial)
    (fun (pre : List Nat) W' => ((W'.heap[bx]? = some (.cells #[.slice a n c] 22 (0, 0)) ∧ W'.heap[by_]? = some (.cells #[.int .i64 2] 3 (0, 0))) ∧ UpI g1 bx by_ g3 ((up l).take pre.length) W') ∧ Below w.heap.size w2 W')
    (fun _ _ _ => False)
    hOI (fun cc => own_pure _ _)
    (fun pre W' h => ⟨h.1.1.1, h.1.1.2⟩)
    ⟨⟨⟨r5, r6⟩, ⟨_, r3, O1, fun k hk => by cases hk; exact ⟨hbx.out.1, hbx.out.2.1, hg3.out⟩⟩⟩, Below.refl _ _⟩
    (fun pre x a' W' => 2 * x < n ∧ x = pre.length ∧ ∃ v, a' = { tmps := #[.slice a n c, undef, .slice none 0 0, .pointer (some ⟨g3, 0, none⟩), .slice (a.map fun y => ⟨y.block, y.off + 2 * x * 32, none⟩) (cn n x) (cn n x), .slice a n c, .int .i64 (n : Int), .int .i64 (m : Int), .slice (some ⟨g1, 0, none⟩) 0 m, .slice a n c, .func (.func 45) #[] #[.pointer (some ⟨bx, 0, none⟩), .pointer (some ⟨by_, 0, none⟩)], .slice (a.map fun y => ⟨y.block, y.off + 2 * x * 32, none⟩) (cn n x) (cn n x), undef, undef, undef, undef, undef, undef, undef, undef, undef, undef, undef, undef, undef, undef], defers := [] } ∧ W'.heap[g3]? = some (.cells #[v] 22 (0, 0)) ∧ OwnL 28 g1 W' v ((up l).take pre.length) ∧ ∀ k, v.ownBlock = some k → k ≠ bx ∧ k ≠ by_ ∧ k ≠ g3)
    (fun pre x a' sx A D row h hgr hr => by
      obtain ⟨hx, hx2, v, e, h3, ho, hd⟩ := h
      exact ⟨hx, hx2, v, e, own_csJ h3 hgr hr, ho.grown hgr hr, hd⟩) ?assign ?body ?done ?stop
  case assign =>
    intro l2 pre x W0 W' K hi0 f0 hn2 hK
    gi_wp2
    have hi4 := own_frI hOI hi0 f0
    refine hK _ _ (KeepsFrom.refl _ _) trivial hi4 ?_
    obtain ⟨v, q3, ho, hd⟩ := hi4.1.2
    exact ⟨hn2.2.2, hn2.1, v, rfl, q3, ho, hd⟩
  case body =>
    rintro l2 pre x a' W' hi ⟨hx, hxp, v, rfl, q3, ho, hd⟩
    have hkl : 2 * x < l.length := by have := hn.out; omega
    have hT := up_take l x hkl
    have hAl := HS.out.ok.get hkl
    have hMl : (mate l x).length = 32 := by rw [mate]; split; exact HS.out.ok.get (by assumption); exact hAl
    obtain ⟨z, hz⟩ : ∃ z, z = cn n x - 1 := ⟨_, rfl⟩
    obtain ⟨bb, off, rfl, HL1, _⟩ := HS.out.load (2 * x) hkl
    have HL2 : ∀ W, Fr F0 w W → (loadRowAt 28 (.pointer (some ⟨bb, off + 2 * x * 32 + z * 32, none⟩))).run Tryd.prog W = .ok (.agg (hc (mate l x))) W := by
      by_cases h2 : 2 * x + 1 < l.length
      · obtain ⟨b', off', e, h3, _⟩ := HS.out.load (2 * x + 1) h2
        cases e
        have ez : z = 1 := by rw [hz, cn, if_pos (by have := hn.out; omega)]
        rw [mate, if_pos h2, ez, show off + 2 * x * 32 + 1 * 32 = off + (2 * x + 1) * 32 by omega]
        exact h3
      · have ez : z = 0 := by rw [hz, cn, if_neg (by have := hn.out; omega)]
        rw [mate, if_neg h2, ez, Nat.zero_mul, Nat.add_zero]
        exact HL1
    have hkn : 1 ≤ cn n x := by rw [cn]; split <;> omega
    simp only [Option.map_some]
    obtain ⟨kn, hkn2⟩ : ∃ k, k = cn n x := ⟨_, rfl⟩
    rw [← hkn2] at hz hkn ⊢
    obtain ⟨o, hoe⟩ : ∃ o, o = off + 2 * x * 32 := ⟨_, rfl⟩
    rw [← hoe] at HL1 HL2 ⊢
    obtain ⟨A0, hA0⟩ : ∃ A0, A0 = l.getD (2 * x) [] := ⟨_, rfl⟩
    obtain ⟨M, hMM⟩ : ∃ M, M = mate l x := ⟨_, rfl⟩
    rw [← hA0] at HL1 hT hAl
    rw [← hMM] at HL2 hT hMl
    have hk2 : kn ≤ 2 := by rw [hkn2, cn]; split <;> omega
    have hw1 : IntKind.i64.wrap ((kn : Int) - 1) = (z : Int) := by rw [IntKind.wrap_i64]; omega
    have l1 : 0 < kn := by omega
    have l3 : z < kn := by omega
    have l2 : (z : Int) < (kn : Int) := by omega
    clear hkn2 hoe hA0 hMM hz hkn
    have HJ := Lib.hid (fun W (f : Fr F0 w W) => mJoined_any A0 M hAl hMl W (HC.out.fr f fun e => e))
    have hRl := hh_length A0 M
    obtain ⟨R, hR⟩ : ∃ R, R = hh A0 M := ⟨_, rfl⟩
    rw [← hR] at hT hRl HJ
    have sR := hc_size hRl
    have oR := hc_one R
    have fW := Lib.hid (hFr.out _ hi.2)
    have hlen : ((up l).take pre.length).length ≤ 1000 := by rw [List.length_take, up_length]; have := hn.out; omega
    have HO := Lib.hid (fun W (f : Fr F0 W' W) => (ho.fr0 f).appH R hRl (by have := hi.2.size; have := f.size; have := hwz.out; have := hg1e.out; omega) (by omega) 22)
    obtain ⟨tl, htl⟩ : ∃ k, k = ((up l).take pre.length).length + 1 := ⟨_, rfl⟩
    rw [← htl] at HO
    have hbl := fun W => run_buildLh W (hc R) sR
    have HD := Lib.hid (And.intro hd (And.intro ho hi))
    have hnv := Lib.hid (show ∀ i, v.ownBlock = some i → ¬ i < w.heap.size from fun i e => by have := ho.blk i e; have := hg1e.out; omega)
    replace HL1 := Lib.hid HL1
    replace HL2 := Lib.hid HL2
    replace htl := Lib.hid htl
    replace hT := Lib.hid hT
    replace hR := Lib.hid hR
    clear hlen hi ho hd hAl hMl
    generalize hc A0 = X at *
    generalize hc M = Y at *
    gi_upto_region 4 with fail
    refine region_roundH (S := (fun w' => ((loadRowAt 28 (.pointer (some ⟨bb, o, none⟩))).run Tryd.prog w' = .ok (.agg X) w' ∧ (loadRowAt 28 (.pointer (some ⟨bb, o + z * 32, none⟩))).run Tryd.prog w' = .ok (.agg Y) w') ∧ Fr F0 w w')) (by kernel_rfl) (by kernel_rfl) (fun _ _ h => h) ?_ (fun hHeld => ?_)
    · ((try dsimp only) <;> (first | exact ⟨⟨HL1.out _ fW.out.drew, HL2.out _ fW.out.drew⟩, fW.out.drew⟩ | exact hHeld | exact ⟨⟨HL1.out _ (hHeld.2.trans' f5), HL2.out _ (hHeld.2.trans' f5)⟩, hHeld.2.trans' f5⟩ | exact ⟨⟨HL1.out _ (hHeld.2.alloc _), HL2.out _ (hHeld.2.alloc _)⟩, hHeld.2.alloc _⟩ | exact ⟨⟨HL1.out _ f7, HL2.out _ f7⟩, f7⟩ | exact ⟨⟨HL1.out _ f8.out, HL2.out _ f8.out⟩, f8.out⟩))
    refine rtake 1 ?_
    refine rtake 2 ?_
    refine rtake 3 ?_
    refine rtake 4 ?_
    refine rtake 5 ?_
    refine rtake 6 ?_
    refine rtake 7 ?_
    refine rtake 8 ?_
    refine rtake 9 ?_
    refine wpAnyH_ready (rs := [0, 10]) (by kernel_rfl) (by simp) ?_
    refine AllReadyH.cons (o := ⟨_, _, _, _, _, _⟩) rfl (fun K hK => ?_) (AllReadyH.cons (o := ⟨_, _, _, _, _, _⟩) rfl (fun K hK => ?_) AllReadyH.nil)
    go_simp
    refine hK.out _ _ ?_ (fun hHeld => ?_)
    · ((try dsimp only) <;> (first | exact ⟨⟨HL1.out _ fW.out.drew, HL2.out _ fW.out.drew⟩, fW.out.drew⟩ | exact hHeld | exact ⟨⟨HL1.out _ (hHeld.2.trans' f5), HL2.out _ (hHeld.2.trans' f5)⟩, hHeld.2.trans' f5⟩ | exact ⟨⟨HL1.out _ (hHeld.2.alloc _), HL2.out _ (hHeld.2.alloc _)⟩, hHeld.2.alloc _⟩ | exact ⟨⟨HL1.out _ f7, HL2.out _ f7⟩, f7⟩ | exact ⟨⟨HL1.out _ f8.out, HL2.out _ f8.out⟩, f8.out⟩))
    clear hK K
    try (simp only [Act.put, List.setIfInBounds_toArray]; dsimp only [List.set_cons_zero, List.set_cons_succ])
    refine wpAnyH_ready (rs := [10]) (by kernel_rfl) (by simp) ?_
    refine AllReadyH.cons (o := ⟨_, _, _, _, _, _⟩) rfl (fun K hK => ?_) AllReadyH.nil
    go_simp
    ((with_reducible refine (HJ.out _ hHeld.2).mono ?_); rintro e w3 ⟨rfl, f5⟩; obtain ⟨a5, c5, w5, happ, ho5, f6, hs5, hb5⟩ := HO.out w3 ((Fr.refl F0 W').drew.trans' f5); have q3a := keep_fr ((Fr.refl F0 W').drew.trans' f5) q3; have q3b := keep_alloc (o := .cells (hc R) 28) q3a; have q35 := f6.keeps (fun e => (HD.out.1 _ e).2.2 rfl) q3a; have f7 : Fr F0 w w5 := (hHeld.2.trans' f5).trans f6 (fun i hi e => hnv.out i e hi); have f8 := Lib.hid (f7.setCell (p := ⟨g3, 0, none⟩) (fun h => absurd h h31.out) (.slice a5 tl c5)); have f56 := Lib.hid (And.intro f5 (And.intro f6 (And.intro ho5 hb5))))
    refine hK.out _ _ ?_ (fun hHeld => ?_)
    · ((try dsimp only) <;> (first | exact ⟨⟨HL1.out _ fW.out.drew, HL2.out _ fW.out.drew⟩, fW.out.drew⟩ | exact hHeld | exact ⟨⟨HL1.out _ (hHeld.2.trans' f5), HL2.out _ (hHeld.2.trans' f5)⟩, hHeld.2.trans' f5⟩ | exact ⟨⟨HL1.out _ (hHeld.2.alloc _), HL2.out _ (hHeld.2.alloc _)⟩, hHeld.2.alloc _⟩ | exact ⟨⟨HL1.out _ f7, HL2.out _ f7⟩, f7⟩ | exact ⟨⟨HL1.out _ f8.out, HL2.out _ f8.out⟩, f8.out⟩))
    clear hK K
    try (simp only [Act.put, List.setIfInBounds_toArray]; dsimp only [List.set_cons_zero, List.set_cons_succ])
    refine wpAnyH_ready (rs := [11]) (by kernel_rfl) (by simp) ?_
    refine AllReadyH.cons (o := ⟨_, _, _, _, _, _⟩) rfl (fun K hK => ?_) AllReadyH.nil
    go_simp
    refine hK.out _ _ ?_ (fun hHeld => ?_)
    · ((try dsimp only) <;> (first | exact ⟨⟨HL1.out _ fW.out.drew, HL2.out _ fW.out.drew⟩, fW.out.drew⟩ | exact hHeld | exact ⟨⟨HL1.out _ (hHeld.2.trans' f5), HL2.out _ (hHeld.2.trans' f5)⟩, hHeld.2.trans' f5⟩ | exact ⟨⟨HL1.out _ (hHeld.2.alloc _), HL2.out _ (hHeld.2.alloc _)⟩, hHeld.2.alloc _⟩ | exact ⟨⟨HL1.out _ f7, HL2.out _ f7⟩, f7⟩ | exact ⟨⟨HL1.out _ f8.out, HL2.out _ f8.out⟩, f8.out⟩))
    clear hK K
    try (simp only [Act.put, List.setIfInBounds_toArray]; dsimp only [List.set_cons_zero, List.set_cons_succ])
    refine wpAnyH_ready (rs := [12]) (by kernel_rfl) (by simp) ?_
    refine AllReadyH.cons (o := ⟨_, _, _, _, _, _⟩) rfl (fun K hK => ?_) AllReadyH.nil
    go_simp
    refine hK.out _ _ ?_ (fun hHeld => ?_)
    · ((try dsimp only) <;> (first | exact ⟨⟨HL1.out _ fW.out.drew, HL2.out _ fW.out.drew⟩, fW.out.drew⟩ | exact hHeld | exact ⟨⟨HL1.out _ (hHeld.2.trans' f5), HL2.out _ (hHeld.2.trans' f5)⟩, hHeld.2.trans' f5⟩ | exact ⟨⟨HL1.out _ (hHeld.2.alloc _), HL2.out _ (hHeld.2.alloc _)⟩, hHeld.2.alloc _⟩ | exact ⟨⟨HL1.out _ f7, HL2.out _ f7⟩, f7⟩ | exact ⟨⟨HL1.out _ f8.out, HL2.out _ f8.out⟩, f8.out⟩))
    clear hK K
    try (simp only [Act.put, List.setIfInBounds_toArray]; dsimp only [List.set_cons_zero, List.set_cons_succ])
    refine wpAnyH_ready (rs := [13]) (by kernel_rfl) (by simp) ?_
    refine AllReadyH.cons (o := ⟨_, _, _, _, _, _⟩) rfl (fun K hK => ?_) AllReadyH.nil
    go_simp
    refine hK.out _ _ ?_ (fun hHeld => ?_)
    · ((try dsimp only) <;> (first | exact ⟨⟨HL1.out _ fW.out.drew, HL2.out _ fW.out.drew⟩, fW.out.drew⟩ | exact hHeld | exact ⟨⟨HL1.out _ (hHeld.2.trans' f5), HL2.out _ (hHeld.2.trans' f5)⟩, hHeld.2.trans' f5⟩ | exact ⟨⟨HL1.out _ (hHeld.2.alloc _), HL2.out _ (hHeld.2.alloc _)⟩, hHeld.2.alloc _⟩ | exact ⟨⟨HL1.out _ f7, HL2.out _ f7⟩, f7⟩ | exact ⟨⟨HL1.out _ f8.out, HL2.out _ f8.out⟩, f8.out⟩))
    clear hK K
    try (simp only [Act.put, List.setIfInBounds_toArray]; dsimp only [List.set_cons_zero, List.set_cons_succ])
    refine wpAnyH_done (by kernel_rfl) ?_ _
    refine NoPanic.normal ?_
    rotate_left
    go_simp
    ((with_reducible refine (HJ.out _ hHeld.2).mono ?_); rintro e w3 ⟨rfl, f5⟩; obtain ⟨a5, c5, w5, happ, ho5, f6, hs5, hb5⟩ := HO.out w3 ((Fr.refl F0 W').drew.trans' f5); have q3a := keep_fr ((Fr.refl F0 W').drew.trans' f5) q3; have q3b := keep_alloc (o := .cells (hc R) 28) q3a; have q35 := f6.keeps (fun e => (HD.out.1 _ e).2.2 rfl) q3a; have f7 : Fr F0 w w5 := (hHeld.2.trans' f5).trans f6 (fun i hi e => hnv.out i e hi); have f8 := Lib.hid (f7.setCell (p := ⟨g3, 0, none⟩) (fun h => absurd h h31.out) (.slice a5 tl c5)); have f56 := Lib.hid (And.intro f5 (And.intro f6 (And.intro ho5 hb5))))
    refine hK.out _ _ ?_ (fun hHeld => ?_)
    · ((try dsimp only) <;> (first | exact ⟨⟨HL1.out _ fW.out.drew, HL2.out _ fW.out.drew⟩, fW.out.drew⟩ | exact hHeld | exact ⟨⟨HL1.out _ (hHeld.2.trans' f5), HL2.out _ (hHeld.2.trans' f5)⟩, hHeld.2.trans' f5⟩ | exact ⟨⟨HL1.out _ (hHeld.2.alloc _), HL2.out _ (hHeld.2.alloc _)⟩, hHeld.2.alloc _⟩ | exact ⟨⟨HL1.out _ f7, HL2.out _ f7⟩, f7⟩ | exact ⟨⟨HL1.out _ f8.out, HL2.out _ f8.out⟩, f8.out⟩))
    clear hK K
    try (simp only [Act.put, List.setIfInBounds_toArray]; dsimp only [List.set_cons_zero, List.set_cons_succ])
    refine wpAnyH_ready (rs := [0, 11]) (by kernel_rfl) (by simp) ?_
    refine AllReadyH.cons (o := ⟨_, _, _, _, _, _⟩) rfl (fun K hK => ?_) (AllReadyH.cons (o := ⟨_, _, _, _, _, _⟩) rfl (fun K hK => ?_) AllReadyH.nil)
    go_simp
    refine hK.out _ _ ?_ (fun hHeld => ?_)
    · ((try dsimp only) <;> (first | exact ⟨⟨HL1.out _ fW.out.drew, HL2.out _ fW.out.drew⟩, fW.out.drew⟩ | exact hHeld | exact ⟨⟨HL1.out _ (hHeld.2.trans' f5), HL2.out _ (hHeld.2.trans' f5)⟩, hHeld.2.trans' f5⟩ | exact ⟨⟨HL1.out _ (hHeld.2.alloc _), HL2.out _ (hHeld.2.alloc _)⟩, hHeld.2.alloc _⟩ | exact ⟨⟨HL1.out _ f7, HL2.out _ f7⟩, f7⟩ | exact ⟨⟨HL1.out _ f8.out, HL2.out _ f8.out⟩, f8.out⟩))
    clear hK K
    try (simp only [Act.put, List.setIfInBounds_toArray]; dsimp only [List.set_cons_zero, List.set_cons_succ])
    refine wpAnyH_ready (rs := [11]) (by kernel_rfl) (by simp) ?_
    refine AllReadyH.cons (o := ⟨_, _, _, _, _, _⟩) rfl (fun K hK => ?_) AllReadyH.nil
    go_simp
    refine hK.out _ _ ?_ (fun hHeld => ?_)
    · ((try dsimp only) <;> (first | exact ⟨⟨HL1.out _ fW.out.drew, HL2.out _ fW.out.drew⟩, fW.out.drew⟩ | exact hHeld | exact ⟨⟨HL1.out _ (hHeld.2.trans' f5), HL2.out _ (hHeld.2.trans' f5)⟩, hHeld.2.trans' f5⟩ | exact ⟨⟨HL1.out _ (hHeld.2.alloc _), HL2.out _ (hHeld.2.alloc _)⟩, hHeld.2.alloc _⟩ | exact ⟨⟨HL1.out _ f7, HL2.out _ f7⟩, f7⟩ | exact ⟨⟨HL1.out _ f8.out, HL2.out _ f8.out⟩, f8.out⟩))
    clear hK K
    try (simp only [Act.put, List.setIfInBounds_toArray]; dsimp only [List.set_cons_zero, List.set_cons_succ])
    refine wpAnyH_ready (rs := [12]) (by kernel_rfl) (by simp) ?_
    refine AllReadyH.cons (o := ⟨_, _, _, _, _, _⟩) rfl (fun K hK => ?_) AllReadyH.nil
    go_simp
    refine hK.out _ _ ?_ (fun hHeld => ?_)
    · ((try dsimp only) <;> (first | exact ⟨⟨HL1.out _ fW.out.drew, HL2.out _ fW.out.drew⟩, fW.out.drew⟩ | exact hHeld | exact ⟨⟨HL1.out _ (hHeld.2.trans' f5), HL2.out _ (hHeld.2.trans' f5)⟩, hHeld.2.trans' f5⟩ | exact ⟨⟨HL1.out _ (hHeld.2.alloc _), HL2.out _ (hHeld.2.alloc _)⟩, hHeld.2.alloc _⟩ | exact ⟨⟨HL1.out _ f7, HL2.out _ f7⟩, f7⟩ | exact ⟨⟨HL1.out _ f8.out, HL2.out _ f8.out⟩, f8.out⟩))
    clear hK K
    try (simp only [Act.put, List.setIfInBounds_toArray]; dsimp only [List.set_cons_zero, List.set_cons_succ])
    refine wpAnyH_ready (rs := [13]) (by kernel_rfl) (by simp) ?_
    refine AllReadyH.cons (o := ⟨_, _, _, _, _, _⟩) rfl (fun K hK => ?_) AllReadyH.nil
    go_simp
    refine hK.out _ _ ?_ (fun hHeld => ?_)
    · ((try dsimp only) <;> (first | exact ⟨⟨HL1.out _ fW.out.drew, HL2.out _ fW.out.drew⟩, fW.out.drew⟩ | exact hHeld | exact ⟨⟨HL1.out _ (hHeld.2.trans' f5), HL2.out _ (hHeld.2.trans' f5)⟩, hHeld.2.trans' f5⟩ | exact ⟨⟨HL1.out _ (hHeld.2.alloc _), HL2.out _ (hHeld.2.alloc _)⟩, hHeld.2.alloc _⟩ | exact ⟨⟨HL1.out _ f7, HL2.out _ f7⟩, f7⟩ | exact ⟨⟨HL1.out _ f8.out, HL2.out _ f8.out⟩, f8.out⟩))
    clear hK K
    try (simp only [Act.put, List.setIfInBounds_toArray]; dsimp only [List.set_cons_zero, List.set_cons_succ])
    refine wpAnyH_done (by kernel_rfl) ?_ _
    refine NoPanic.normal ?_
    rotate_left
    go_simp
    refine hK.out _ _ ?_ (fun hHeld => ?_)
    · ((try dsimp only) <;> (first | exact ⟨⟨HL1.out _ fW.out.drew, HL2.out _ fW.out.drew⟩, fW.out.drew⟩ | exact hHeld | exact ⟨⟨HL1.out _ (hHeld.2.trans' f5), HL2.out _ (hHeld.2.trans' f5)⟩, hHeld.2.trans' f5⟩ | exact ⟨⟨HL1.out _ (hHeld.2.alloc _), HL2.out _ (hHeld.2.alloc _)⟩, hHeld.2.alloc _⟩ | exact ⟨⟨HL1.out _ f7, HL2.out _ f7⟩, f7⟩ | exact ⟨⟨HL1.out _ f8.out, HL2.out _ f8.out⟩, f8.out⟩))
    clear hK K
    try (simp only [Act.put, List.setIfInBounds_toArray]; dsimp only [List.set_cons_zero, List.set_cons_succ])
    refine wpAnyH_ready (rs := [0]) (by kernel_rfl) (by simp) ?_
    refine AllReadyH.cons (o := ⟨_, _, _, _, _, _⟩) rfl (fun K hK => ?_) AllReadyH.nil
    go_simp
    refine hK.out _ _ ?_ (fun hHeld => ?_)
    · ((try dsimp only) <;> (first | exact ⟨⟨HL1.out _ fW.out.drew, HL2.out _ fW.out.drew⟩, fW.out.drew⟩ | exact hHeld | exact ⟨⟨HL1.out _ (hHeld.2.trans' f5), HL2.out _ (hHeld.2.trans' f5)⟩, hHeld.2.trans' f5⟩ | exact ⟨⟨HL1.out _ (hHeld.2.alloc _), HL2.out _ (hHeld.2.alloc _)⟩, hHeld.2.alloc _⟩ | exact ⟨⟨HL1.out _ f7, HL2.out _ f7⟩, f7⟩ | exact ⟨⟨HL1.out _ f8.out, HL2.out _ f8.out⟩, f8.out⟩))
    clear hK K
    try (simp only [Act.put, List.setIfInBounds_toArray]; dsimp only [List.set_cons_zero, List.set_cons_succ])
    refine wpAnyH_ready (rs := [12]) (by kernel_rfl) (by simp) ?_
    refine AllReadyH.cons (o := ⟨_, _, _, _, _, _⟩) rfl (fun K hK => ?_) AllReadyH.nil
    go_simp
    refine hK.out _ _ ?_ (fun hHeld => ?_)
    · ((try dsimp only) <;> (first | exact ⟨⟨HL1.out _ fW.out.drew, HL2.out _ fW.out.drew⟩, fW.out.drew⟩ | exact hHeld | exact ⟨⟨HL1.out _ (hHeld.2.trans' f5), HL2.out _ (hHeld.2.trans' f5)⟩, hHeld.2.trans' f5⟩ | exact ⟨⟨HL1.out _ (hHeld.2.alloc _), HL2.out _ (hHeld.2.alloc _)⟩, hHeld.2.alloc _⟩ | exact ⟨⟨HL1.out _ f7, HL2.out _ f7⟩, f7⟩ | exact ⟨⟨HL1.out _ f8.out, HL2.out _ f8.out⟩, f8.out⟩))
    clear hK K
    try (simp only [Act.put, List.setIfInBounds_toArray]; dsimp only [List.set_cons_zero, List.set_cons_succ])
    refine wpAnyH_ready (rs := [13]) (by kernel_rfl) (by simp) ?_
    refine AllReadyH.cons (o := ⟨_, _, _, _, _, _⟩) rfl (fun K hK => ?_) AllReadyH.nil
    go_simp
    refine hK.out _ _ ?_ (fun hHeld => ?_)
    · ((try dsimp only) <;> (first | exact ⟨⟨HL1.out _ fW.out.drew, HL2.out _ fW.out.drew⟩, fW.out.drew⟩ | exact hHeld | exact ⟨⟨HL1.out _ (hHeld.2.trans' f5), HL2.out _ (hHeld.2.trans' f5)⟩, hHeld.2.trans' f5⟩ | exact ⟨⟨HL1.out _ (hHeld.2.alloc _), HL2.out _ (hHeld.2.alloc _)⟩, hHeld.2.alloc _⟩ | exact ⟨⟨HL1.out _ f7, HL2.out _ f7⟩, f7⟩ | exact ⟨⟨HL1.out _ f8.out, HL2.out _ f8.out⟩, f8.out⟩))
    clear hK K
    try (simp only [Act.put, List.setIfInBounds_toArray]; dsimp only [List.set_cons_zero, List.set_cons_succ])
    refine wpAnyH_done (by kernel_rfl) ?_ _
    refine NoPanic.normal ?_
    rotate_left
    all_goals
      have hB5 := f56.out
      have g13 : Fr F0 W' w3 := (Fr.refl F0 W').drew.trans' hB5.1
      have kp1 : KeepsFrom w2.heap.size W' w3 := ⟨g13.size, fun k o hk ho2 hc2 => g13.keeps (fun e => e) ho2⟩
      have ho3 := HD.out.2.1.fr0 g13
      have kp2 : KeepsFrom w2.heap.size w3 w5 := ⟨hB5.2.1.size, fun k o hk ho2 hc2 => hB5.2.1.keeps (fun e => row_notJ (A := w3) (row := some k) (B := 0) (fun r e9 => by cases e9; exact ⟨Nat.zero_le _, o, ho2, hc2⟩) ho3.own k e rfl) ho2⟩
      have f9 : Fr (fun k => k = g3) w5 (w5.setCell ⟨g3, 0, none⟩ (.slice a5 tl c5)) := (Fr.refl (fun k => k = g3) w5).setCell (p := ⟨g3, 0, none⟩) (fun _ => rfl) _
      have p5 := f9.keeps hbx.out.2.2.1 (hB5.2.1.keeps (fun e => (HD.out.1 _ e).1 rfl) (keep_fr g13 HD.out.2.2.1.1.1))
      have p6 := f9.keeps hbx.out.2.2.2 (hB5.2.1.keeps (fun e => (HD.out.1 _ e).2.1 rfl) (keep_fr g13 HD.out.2.2.1.1.2))
      have hd5 : ∀ k, (Value.slice a5 tl c5).ownBlock = some k → k ≠ bx ∧ k ≠ by_ ∧ k ≠ g3 := fun k hk => by
        rw [ablk_own] at hk
        rcases hB5.2.2.2 k hk with e | e
        · exact HD.out.1 k e
        · have h1 := g13.size
          have h2 := HD.out.2.2.2.size
          have h3 := hbl9.out
          omega
      have hbe : Below w.heap.size w2 (w5.setCell ⟨g3, 0, none⟩ (.slice a5 tl c5)) :=
        ((HD.out.2.2.2.trans (g13.below (Nat.le_trans hwz.out HD.out.2.2.2.size) fun k hk e => e)).trans (hB5.2.1.below (Nat.le_trans hwz.out (Nat.le_trans HD.out.2.2.2.size g13.size)) fun k hk e => hnv.out k e hk)).trans
          (f9.below (Nat.le_trans hwz.out (Nat.le_trans HD.out.2.2.2.size (Nat.le_trans g13.size hB5.2.1.size))) fun k hk e => h31.out (by rw [← e]; exact hk))
      have HPo := Lib.hid (show KeepsFrom w2.heap.size W' (w5.setCell ⟨g3, 0, none⟩ (.slice a5 tl c5)) ∧ True ∧ (((w5.setCell ⟨g3, 0, none⟩ (.slice a5 tl c5)).heap[bx]? = some (.cells #[.slice (some ⟨bb, off, none⟩) n c] 22 (0, 0)) ∧ (w5.setCell ⟨g3, 0, none⟩ (.slice a5 tl c5)).heap[by_]? = some (.cells #[.int .i64 2] 3 (0, 0))) ∧ UpI g1 bx by_ g3 ((up l).take (pre ++ [x]).length) (w5.setCell ⟨g3, 0, none⟩ (.slice a5 tl c5))) ∧ Below w.heap.size w2 (w5.setCell ⟨g3, 0, none⟩ (.slice a5 tl c5)) from
        ⟨(kp1.trans kp2).trans ((KeepsOthers.setCell w5 ⟨g3, 0, none⟩ _).from _), trivial, ⟨⟨p5, p6⟩, _, by rw [heap_setCell_at, q35]; rfl, by
          rw [List.length_append, List.length_singleton, ← hxp, hT.out, hxp]
          exact hB5.2.2.1.frS f9 fun k hk e => (hd5 k hk).2.2 e, hd5⟩, hbe⟩)
      clear hB5 g13 kp1 ho3 kp2 f9 p5 p6 hd5 hbe
      gi_wp2
      exact HPo.out
  case done =>
    rintro D ys W' hD hy hi hK
    have h9 := hOI.putObj (.deferred none) hi hD hK rfl
    obtain ⟨v, q3, ho, hd⟩ := hi.1.2
    obtain ⟨v', q3', ho', hd'⟩ := h9.1.2
    have es : v' = v := by
      have hDg : D ≠ g3 := fun e => by have := hbl.out.2.2; omega
      rw [World.putObj_heap_other (fun e => hDg e.symm), q3] at q3'
      simpa using q3'.symm
    subst es
    rw [show ys.length = (up l).length by rw [hy, List.length_range, up_length, hn.out], List.take_length, hg1e.out] at ho'
    have R := Lib.hid (ho'.new_ (hFr.out _ h9.2))
    clear ho' hd' q3' h9 hOI ho hd hi
    gi_wp2
    refine ⟨by simp, .inl ⟨_, _, rfl, run_takeDeferred hK, ?_⟩⟩
    refine ⟨_, results_tmp rfl _ _ _, ?_⟩
    exact R.out
  case stop =>
    rintro D cc pre W' hD h hK
    exact h.elim
end Go.Proofs.YthpcajpiflpmdaaDoor

/- Layer 10 (merkle), the program's own: Root. -/
namespace Go.Proofs.YthpcajpiflpmdaaDoor
set_option linter.unusedVariables false
set_option linter.unusedSimpArgs false
open Go.RowKit Go.Shelf

theorem rows_0 {n : Nat} (h : rows n = 0) : n ≤ 1 := Classical.byContradiction fun hn => by rw [rows_gt (by omega)] at h; omega

set_option maxRecDepth 100000 in
set_option maxHeartbeats 8000000 in
theorem mRoot_0 (a : Option Addr) (c : Nat) (w : World) :
    Calls Tryd.prog 10 #[.slice a 0 c] w fun e w' => e = .returned (.tuple #[.agg (hc z32), .int .i64 16]) ∧ Fr F0 w w' := by
  have HN := Lib.hid (fun w => mCheckN_any 0 w)
  rw [show chkN 0 = 16 from rfl] at HN
  have sz := hc_size z32_length
  have oz := hc_one z32
  go_enter Tryd.func10, Tryd.ntmps10
  go_upto_region 1 with fail
  refine wp_new32 fun W1 Z sZ N1 => ?_
  have r2 := N1.new
  have F := N1.fr
  clear N1
  have g2l : Hid (¬ w.heap.size < w.heap.size) := by rw [Hid]; omega
  obtain ⟨g2, hg2⟩ : ∃ g, g = w.heap.size := ⟨_, rfl⟩
  rw [← hg2] at r2 ⊢
  have g2l : Hid (¬ g2 < w.heap.size) := by rw [Hid]; omega
  clear hg2
  go_wp2_with fail
  (with_reducible refine (HN.out _).mono ?_); rintro e w2 ⟨rfl, hw⟩; replace hw := hw.symm; subst hw
  have q2 := Lib.hid (setRow_heap _ _ _ (hc z32) _ _ r2)
  have F9 := Lib.hid (F.setRow (fun h => absurd h g2l.out) (hc z32))
  replace g2l := Lib.hid g2l
  go_wp2
  refine bodyPost_ret (results_cell_row_tmp rfl _ _ g2 _ _ _ _ rfl q2.out Tryd.underlying28 rfl (by rw [Tryd.szHashJ, sz])) rfl ⟨rfl, F9.out⟩

set_option maxRecDepth 100000 in
set_option maxHeartbeats 8000000 in
theorem mRoot_any (l : List (List UInt8)) (a : Option Addr) (n c : Nat) (w : World) (h : Hs w a c l) (hn : n = l.length) (h0 : 0 < l.length) (hl : l.length ≤ 1000) (hcub : Cub w) :
    Calls Tryd.prog 10 #[.slice a n c] w fun e w' => e = .returned (.tuple #[.agg (hc (rootM l)), .int .i64 0]) ∧ Fr F0 w w' := by
  obtain ⟨T, hT⟩ : ∃ T, T = rootM l := ⟨_, rfl⟩
  have hTl : T.length = 32 := by rw [hT]; exact rootM_length l h.ok h0
  have hro := h.room
  rw [← hn] at hro
  rw [← hT]
  have sT := hc_size hTl
  have oT := hc_one T
  have HN := Lib.hid (fun w => mCheckN_any (n : Int) w)
  rw [show chkN (n : Int) = 0 by rw [chkN, if_neg (by omega), if_neg (by omega)]] at HN
  have HR := Lib.hid (fun w => mRows_any n (by omega) (by omega) w)
  obtain ⟨R, hR⟩ : ∃ R, R = rows n := ⟨_, rfl⟩
  rw [← hR] at HR
  replace hR := Lib.hid hR
  replace hT := Lib.hid hT
  have HC := Lib.hid hcub
  have HH := Lib.hid (And.intro h (And.intro hn (And.intro h0 hl)))
  have hR16 := rows_small n (by omega)
  rw [← hR.out] at hR16
  clear h hn h0 hl hcub
  go_enter Tryd.func10, Tryd.ntmps10
  go_upto_region 1 with fail
  refine wp_new32 fun W1 Z sZ N1 => ?_
  have r2 := Lib.hid N1.new
  have F1 := Lib.hid N1.fr
  clear N1
  obtain ⟨g2, hg2⟩ : ∃ g, g = w.heap.size := ⟨_, rfl⟩
  rw [← hg2] at r2 ⊢
  have g2l : Hid (¬ g2 < w.heap.size) := by rw [Hid]; omega
  clear hg2
  have hs0 := Lib.hid (HH.out.1.fr F1.out)
  go_wp2_with fail
  (with_reducible refine (HN.out _).mono ?_); rintro e w2 ⟨rfl, hw⟩; replace hw := hw.symm; subst hw
  go_wp2_with fail
  (with_reducible refine (HR.out _).mono ?_); rintro e w2 ⟨rfl, hw⟩; replace hw := hw.symm; subst hw
  go_wp2
  go_loopw [5, 17] (fun rv kv wr => ∃ (row : List (List UInt8)) (k m : Nat) (b : Option Addr) (d : Nat), rv = .slice b m d ∧ kv = .int .i64 (k : Int) ∧ k ≤ R ∧ Hid (m = row.length) ∧ Hid (Hs wr b d row) ∧ Hid (rootM row = T) ∧ Hid (rows m + k = R) ∧ 0 < m ∧ m ≤ 1000 ∧ m ≤ d ∧ Fr F0 W1 wr) (fun _ kv _ => R - (intOf kv).toNat)
  case atStart => exact ⟨l, 0, n, a, c, rfl, rfl, Nat.zero_le _, HH.out.2.1, hs0, hT.out.symm, by rw [Hid, hR.out, Nat.add_zero], by have := HH.out; omega, by have := HH.out; omega, hro.1, Fr.refl _ _⟩
  case round =>
    obtain ⟨row, k, m, b, d, rfl, rfl, hk, hm, hs, hrt, hrk, m0, m1, md, fo⟩ := hrel
    by_cases hkR : k < R
    · have l1 : (k : Int) < (R : Int) := by omega
      have h1 : 1 < m := Classical.byContradiction fun hn => by have := hrk.out; rw [rows_le (by omega)] at this; omega
      have HU := Lib.hid (mAbove_any row b m d wr hs.out hm.out (by have := hm.out; omega) (HC.out.fr (F1.out.trans' fo) fun e => e))
      have hrm := rows_gt h1
      go_wp2_with fail
      (with_reducible refine HU.out.mono ?_); rintro e w3 ⟨a3, c3, rfl, hs3, f3, _⟩
      have hm3 : (up row).length = (m + 1) / 2 := by rw [up_length, ← hm.out]
      have hd3 := hs3.room.1
      obtain ⟨m3, hm3'⟩ : ∃ k, k = (up row).length := ⟨_, rfl⟩
      rw [← hm3'] at hm3 hd3 ⊢
      replace hm3' := Lib.hid hm3'
      replace hs3 := Lib.hid hs3
      have hrt3 := Lib.hid (show rootM (up row) = T by rw [← rootM_up (by have := hm.out; omega)]; exact hrt.out)
      have hrk3 := Lib.hid (show rows m3 + (k + 1) = R by rw [hm3]; have := hrk.out; omega)
      replace hm3 := Lib.hid hm3
      clear hrm HU
      go_wp2
      go_roundw
      case rel => exact ⟨up row, k + 1, m3, a3, c3, rfl, by go_num, by omega, hm3', hs3, hrt3, hrk3, by have := hm3.out; omega, by have := hm3.out; omega, hd3, fo.trans' f3⟩
      case measure => simp [intOf]; omega
    · have l1 : ¬ (k : Int) < (R : Int) := by omega
      have h1 : m ≤ 1 := rows_0 (by have := hrk.out; omega)
      obtain rfl : m = 1 := by omega
      obtain ⟨bb, off, rfl, HL, _⟩ := hs.out.load 0 (by have := hm.out; omega)
      have HL0 := HL wr (Fr.refl _ _)
      rw [Nat.zero_mul, Nat.add_zero, show row.getD 0 [] = T from by rw [← hrt.out, rootM_one (by have := hm.out; omega)]] at HL0
      have q2 := keep_fr fo r2.out
      have F9 := Lib.hid ((F1.out.trans' fo).setRow (fun h => absurd h g2l.out) (hc T))
      have q6 := Lib.hid (setRow_heap _ _ _ (hc T) _ _ q2)
      clear HL hs hrt fo hs0
      go_wp2
      refine bodyPost_ret (results_cell_row_tmp rfl _ _ g2 _ _ _ _ rfl q6.out Tryd.underlying28 rfl (by rw [Tryd.szHashJ, sT])) rfl ⟨rfl, F9.out⟩
end Go.Proofs.YthpcajpiflpmdaaDoor

/- Layer 10 (merkle), the program's own: Way. -/
namespace Go.Proofs.YthpcajpiflpmdaaDoor
set_option linter.unusedVariables false
set_option linter.unusedSimpArgs false
open Go.RowKit Go.Shelf

attribute [local go_sem] Oper.semAt_some

set_option maxRecDepth 100000 in
set_option maxHeartbeats 8000000 in
theorem mWay_0 (a : Option Addr) (c : Nat) (i : Int) (w : World) :
    Calls Tryd.prog 11 #[.slice a 0 c, .int .i64 i] w fun e w' => e = .returned (.tuple #[.slice none 0 0, .int .i64 16]) ∧ Fr F0 w w' := by
  have HN := Lib.hid (fun w => mCheckN_any 0 w)
  rw [show chkN 0 = 16 from rfl] at HN
  go_enter Tryd.func11, Tryd.ntmps11
  go_wp2_with fail
  (with_reducible refine (HN.out _).mono ?_); rintro e w2 ⟨rfl, hw⟩; replace hw := hw.symm; subst hw
  go_wp2
  go_ret2
  exact ⟨rfl, Fr.refl _ _⟩
set_option maxRecDepth 100000 in
set_option maxHeartbeats 8000000 in
theorem mWay_no (a : Option Addr) (n c : Nat) (i : Int) (w : World) (h0 : 0 < n) (hl : n ≤ 1000) (hi : ¬ (0 ≤ i ∧ i < (n : Int))) :
    Calls Tryd.prog 11 #[.slice a n c, .int .i64 i] w fun e w' => e = .returned (.tuple #[.slice none 0 0, .int .i64 1]) ∧ Fr F0 w w' := by
  have HN := Lib.hid (fun w => mCheckN_any (n : Int) w)
  rw [show chkN (n : Int) = 0 by rw [chkN, if_neg (by omega), if_neg (by omega)]] at HN
  have HP := Lib.hid (fun w => mIsPlace_any i (n : Int) w)
  rw [decide_eq_false hi] at HP
  clear hi h0 hl
  go_enter Tryd.func11, Tryd.ntmps11
  go_wp2_with fail
  (with_reducible refine (HN.out _).mono ?_); rintro e w2 ⟨rfl, hw⟩; replace hw := hw.symm; subst hw
  go_wp2_with fail
  (with_reducible refine (HP.out _).mono ?_); rintro e w2 ⟨rfl, hw⟩; replace hw := hw.symm; subst hw
  go_wp2
  go_ret2
  exact ⟨rfl, Fr.refl _ _⟩

/-- What the rounds of Way hold: the way so far, the row, and that they lie apart from what else is written. -/
structure WayS (B g7 g8 gp i n : Nat) (T : List (List UInt8)) (k : Nat) (W : World) (v : Value) (out row : List (List UInt8)) (b : Option Addr) (d : Nat) : Prop where
  h7 : W.heap[g7]? = some (.cells #[v] 22 (0, 0))
  h8 : W.heap[g8]? = some (.cells #[.slice b row.length d] 22 (0, 0))
  own : OwnL 28 B W v out
  hs : Hs W b d row
  len : row.length = (plk i n k).2.2
  len1 : row.length ≤ 1000
  way : out ++ wayM row (plk i n k).2.1 = T
  d1 : ∀ k, v.ownBlock = some k → k ≠ g7 ∧ k ≠ g8 ∧ k ≠ gp
  d2 : ∀ k, ablk b = some k → k ≠ g7 ∧ k ≠ g8 ∧ k ≠ gp ∧ v.ownBlock ≠ some k
  pos : 0 < row.length
def WayI (B g7 g8 gp i n : Nat) (T : List (List UInt8)) (k : Nat) (W : World) : Prop := ∃ v out row b d, WayS B g7 g8 gp i n T k W v out row b d
theorem Hs.grownJ {a : Option Addr} {c : Nat} {l : List (List UInt8)} {B' : Nat} {A D : World} {row : Option Nat} (h : Hs A a c l) (h0 : 0 < l.length) (hg : A.grownBy D row) (hr : ∀ r, row = some r → B' ≤ r ∧ ∃ o : Obj, A.heap[r]? = some o ∧ o.isCells = false) : Hs D a c l :=
  h.frx (grown_frJ hg) fun k hk e => by
    obtain ⟨b, off, rfl, hcl⟩ := h.get 0 h0
    cases hk
    have hl := h.ok.get h0
    have h1 := hcl 0 _ (List.getElem?_eq_getElem (by rw [List.length_map, hl]; omega))
    rw [cell_at] at h1
    obtain ⟨_, o, ho, hn⟩ := hr _ e
    rw [ho] at h1
    cases o <;> first | (exfalso; simp [Obj.cellAt] at h1; done) | (exfalso; simp [Obj.isCells] at hn; done)
theorem WayS.grown {B B' g7 g8 gp i n k : Nat} {T : List (List UInt8)} {A D : World} {row : Option Nat} {v : Value} {out rw_ : List (List UInt8)} {b : Option Addr} {d : Nat} (h : WayS B g7 g8 gp i n T k A v out rw_ b d) (hg : A.grownBy D row) (hr : ∀ r, row = some r → B' ≤ r ∧ ∃ o : Obj, A.heap[r]? = some o ∧ o.isCells = false) : WayS B g7 g8 gp i n T k D v out rw_ b d :=
  ⟨own_csJ h.h7 hg hr, own_csJ h.h8 hg hr, h.own.grown hg hr, h.hs.grownJ h.pos hg hr, h.len, h.len1, h.way, h.d1, h.d2, h.pos⟩
theorem WayS.frS {B g7 g8 gp i n k : Nat} {T : List (List UInt8)} {A D : World} {v : Value} {out rw_ : List (List UInt8)} {b : Option Addr} {d : Nat} (h : WayS B g7 g8 gp i n T k A v out rw_ b d) (f : Fr (fun x => x = gp) A D) (n7 : g7 ≠ gp) (n8 : g8 ≠ gp) : WayS B g7 g8 gp i n T k D v out rw_ b d :=
  ⟨f.keeps n7 h.h7, f.keeps n8 h.h8, h.own.frS f fun k hk => (h.d1 k hk).2.2, h.hs.frx f fun k hk => (h.d2 k hk).2.2.1, h.len, h.len1, h.way, h.d1, h.d2, h.pos⟩
theorem WayS.fr0 {B g7 g8 gp i n k : Nat} {T : List (List UInt8)} {A D : World} {v : Value} {out rw_ : List (List UInt8)} {b : Option Addr} {d : Nat} (h : WayS B g7 g8 gp i n T k A v out rw_ b d) (f : Fr F0 A D) : WayS B g7 g8 gp i n T k D v out rw_ b d :=
  ⟨keep_fr f h.h7, keep_fr f h.h8, h.own.fr0 f, h.hs.fr f, h.len, h.len1, h.way, h.d1, h.d2, h.pos⟩
theorem any_putJ {P : World → Prop} {w : World} {z cs : Array Value} {t : TypeId} (k : ∀ W, NewRow w W w.heap.size cs t → P W) : P ((w.alloc (.cells z t)).setRow w.heap.size cs) := k _ (put_new w z cs t)
theorem callsIn_round {P : Program} {n l : Nat} {f : FuncId} {args : Array Value} {w : World} {R : Ending → World → Prop} (h : Calls P f args w R) : CallsIn (Fence.wide.inRound l) n P f args w R := (callsIn_wide (n := n)).2 h
theorem plC_one (r i n : Nat) : rowOne (plC r i n) := row3_one _ _ _

set_option maxRecDepth 100000 in
set_option maxHeartbeats 16000000 in
theorem mWay_any (l : List (List UInt8)) (a : Option Addr) (n c i : Nat) (w : World) (h : Hs w a c l) (hn : n = l.length) (hi : i < n) (hl : l.length ≤ 1000) (hcub : Cub w) :
    Calls Tryd.prog 11 #[.slice a n c, .int .i64 (i : Int)] w fun e w' => ∃ b d, e = .returned (.tuple #[.slice b (wayM l i).length d, .int .i64 0]) ∧ Hs w' b d (wayM l i) ∧ Fr F0 w w' ∧ ∀ k, ablk b = some k → w.heap.size ≤ k := by
  obtain ⟨T, hT⟩ : ∃ T, T = wayM l i := ⟨_, rfl⟩
  have hTl : T.length = rows n := by rw [hT, wayM_length, hn]
  rw [← hT]
  have HN := Lib.hid (fun w => mCheckN_any (n : Int) w)
  rw [show chkN (n : Int) = 0 by rw [chkN, if_neg (by omega), if_neg (by omega)]] at HN
  have HP := Lib.hid (fun w => mIsPlace_any (i : Int) (n : Int) w)
  rw [decide_eq_true (show 0 ≤ (i : Int) ∧ (i : Int) < (n : Int) by omega)] at HP
  have HR := Lib.hid (fun w => mRows_any n (by omega) (by omega) w)
  have hR16 := rows_small n (by omega)
  have HPl := Lib.hid (fun W => mPlaces_any i n W)
  have HQ := Lib.hid (fun g1 g2 => places_seq g1 g2 i n hi (by omega) (by omega))
  obtain ⟨R, hR⟩ : ∃ R, R = rows n := ⟨_, rfl⟩
  rw [← hR] at HR hTl hR16 HQ
  obtain ⟨CC, hmk, hown⟩ := run_make_H w R (by omega)
  have hlow := h.low (by omega)
  have HS := Lib.hid h
  have HC := Lib.hid hcub
  have hro := h.room
  rw [← hn] at hro
  have hn1 : n ≤ 1000 := by omega
  have hi2 := hi
  replace hn := Lib.hid hn
  replace hT := Lib.hid hT
  replace hR := Lib.hid hR
  replace hTl := Lib.hid hTl
  clear h hcub hl
  refine callsIn_wide (n := 6) |>.1 ?_
  refine callsIn_of_wp_marks Tryd.func11 rfl trivial ?_ rfl
  simp only [Tryd.ntmps11, List.size_toArray, List.length_cons, List.length_nil, Nat.reduceAdd, Nat.reduceSub, Array.replicate_succ, Array.replicate_zero, List.push_toArray, List.append_toArray, List.nil_append, List.cons_append]
  gi_wp2
  refine ⟨trivial, ?_⟩
  (with_reducible refine (callsIn_wide.2 (HN.out _)).mono ?_); rintro e w1 ⟨rfl, hw⟩; replace hw := hw.symm; subst hw
  gi_wp2
  refine ⟨trivial, ?_⟩
  (with_reducible refine (callsIn_wide.2 (HP.out _)).mono ?_); rintro e w1 ⟨rfl, hw⟩; replace hw := hw.symm; subst hw
  gi_wp2
  refine ⟨trivial, ?_⟩
  (with_reducible refine (callsIn_wide.2 (HR.out _)).mono ?_); rintro e w1 ⟨rfl, hw⟩; replace hw := hw.symm; subst hw
  gi_upto_region 7 with fail
  refine wpIn_newJ fun W1 N1 => ?_
  have r7 := N1.new
  have O1 := hown.fr0 N1.fr
  have F1 := ((Fr.refl F0 w).alloc (.cells CC 28)).trans' N1.fr
  clear N1 hown hmk
  rw [World.size_alloc] at r7
  have hg7 : w.heap.size ≠ w.heap.size + 1 := by omega
  obtain ⟨g7, hg7e⟩ : ∃ g, g = w.heap.size + 1 := ⟨_, rfl⟩
  obtain ⟨g1, hg1e⟩ : ∃ g, g = w.heap.size := ⟨_, rfl⟩
  rw [← hg7e] at r7 hg7 ⊢
  rw [← hg1e] at O1 hg7 r7 hlow ⊢
  replace hg7 := Lib.hid hg7
  have h71 := Lib.hid (show ¬ g7 < w.heap.size by omega)
  have s1 := Lib.hid (Array.getElem?_eq_some_iff.1 r7).1
  replace hg7e := Lib.hid hg7e
  replace hg1e := Lib.hid hg1e
  gi_upto_region 8 with fail
  refine wpIn_newJ fun W2 N2 => ?_
  have r8 := N2.new
  replace r7 := N2.old r7
  replace O1 := O1.fr0 N2.fr
  replace F1 := F1.trans' N2.fr
  clear N2
  obtain ⟨g8, hg8e⟩ : ∃ g, g = W1.heap.size := ⟨_, rfl⟩
  rw [← hg8e] at r8 ⊢
  have h81 := Lib.hid (show ¬ g8 < w.heap.size by have := hg7e.out; have := s1.out; omega)
  have g78 := Lib.hid (And.intro (show g7 ≠ g8 by have := s1.out; omega) (show g1 ≠ g8 by have := s1.out; have := hg1e.out; have := hg7e.out; omega))
  replace hg8e := Lib.hid hg8e
  gi_wp2
  refine ⟨trivial, ?_⟩
  (with_reducible refine (callsIn_wide.2 (HPl.out _)).mono ?_); rintro e w3 ⟨gi, gn, rfl, r5, r6, f3, _, _⟩
  replace r7 := keep_fr f3 r7
  replace r8 := keep_fr f3 r8
  replace O1 := O1.fr0 f3
  have F := F1.trans' f3
  clear F1 f3 HPl
  have hgs := Lib.hid (And.intro (Array.getElem?_eq_some_iff.1 r7).1 (And.intro (Array.getElem?_eq_some_iff.1 r8).1 (And.intro (Array.getElem?_eq_some_iff.1 r5).1 (Array.getElem?_eq_some_iff.1 r6).1)))
  have hwz := Lib.hid F.size
  obtain ⟨gp, hgp⟩ : ∃ g, g = w3.heap.size + 2 := ⟨_, rfl⟩
  have hS0 : WayS g1 g7 g8 gp i n T 0 w3 (.slice (some ⟨g1, 0, none⟩) 0 R) [] l a c := ⟨r7, by rw [← hn.out]; exact r8, O1, HS.out.fr F, hn.out.symm, by have := hn.out; omega, hT.out.symm, (fun k hk => by cases hk; exact ⟨hg7.out, g78.out.2, show g1 ≠ gp by have := hgs.out.1; have := hg7e.out; have := hg1e.out; omega⟩),
    (fun k hk => by have h1 := hlow k hk; have h2 := hg1e.out; have h3 := h71.out; have h4 := h81.out; have h5 := hwz.out; exact ⟨by omega, by omega, by omega, fun e => by have e2 := Option.some.inj (show some g1 = some k from e); omega⟩), by have := hn.out; omega⟩
  have hOI : OwnFrom w3.heap.size (fun (pre : List (Nat × Nat × Nat)) W' => ((pre = [] → W'.heap[gi]? = some (.cells #[.int .i64 (i : Int)] 3 (0, 0)) ∧ W'.heap[gn]? = some (.cells #[.int .i64 (n : Int)] 3 (0, 0))) ∧ WayI g1 g7 g8 gp i n T pre.length W') ∧ Below w.heap.size w3 W') :=
    OwnFrom.and (OwnFrom.and (fun s A D row h hgr hr e => ⟨own_csJ (h e).1 hgr hr, own_csJ (h e).2 hgr hr⟩) (fun s A D row h hgr hr => by
      obtain ⟨v, out, rw_, b, d, hh⟩ := h
      exact ⟨v, out, rw_, b, d, hh.grown hgr hr⟩)) (own_below (β := List (Nat × Nat × Nat)) w3.heap.size w.heap.size w3 (Nat.le_refl _) hwz.out)
  have hFr := Lib.hid (show ∀ W', Below w.heap.size w3 W' → Fr F0 w W' from fun W' b => F.trans (Fr.of_below' b) fun i hi hk => by omega)
  clear r7 r8 O1 F
  gi_wp2
  refine range_lawP (gf := 35) (lb := #[.pointer (some ⟨gi, 0, none⟩), .pointer (some ⟨gn, 0, none⟩)]) rfl (enters_of Tryd.func35 (by kernel_rfl) rfl) (HQ.out gi gn) (fun _ => rfl) (fun h k => Kb.trans h k) (fun W o => Kb.put (by omega))
    (fun (pre : List (Nat × Nat × Nat)) W' => ((pre = [] → W'.heap[gi]? = some (.cells #[.int .i64 (i : Int)] 3 (0, 0)) ∧ W'.heap[gn]? = some (.cells #[.int .i64 (n : Int)] 3 (0, 0))) ∧ WayI g1 g7 g8 gp i n T pre.length W') ∧ Below w.heap.size w3 W')
    (fun _ _ _ => False)
    hOI (fun cc => own_pure _ _)
    (fun pre W' h => h.1.1)
    (fun pre A cs h hA => by
      have f : Fr (fun k => k = gp) A (A.setRow (w3.heap.size + 2) cs) := by rw [← hgp]; exact (Fr.refl (fun k => k = gp) A).setRow (g := gp) (fun _ => rfl) cs
      obtain ⟨⟨h1, v, out, rw_, b, d, h2⟩, h3⟩ := h
      exact ⟨⟨fun e => ⟨f.keeps (by have := hgs.out.2.2.1; omega) (h1 e).1, f.keeps (by have := hgs.out.2.2.2; omega) (h1 e).2⟩, v, out, rw_, b, d, h2.frS f (by have := hgs.out.1; omega) (by have := hgs.out.2.1; omega)⟩,
        h3.trans (f.below (Nat.le_trans hwz.out h3.size) fun k hk e => by have := hwz.out; omega)⟩)
    ⟨⟨fun _ => ⟨r5, r6⟩, _, _, _, _, _, hS0⟩, Below.refl _ _⟩
    (fun pre x a' W' => ∃ g9 v out row b d, a' = { tmps := #[.slice a n c, .int .i64 (i : Int), undef, undef, .slice none 0 0, .int .i64 0, .int .i64 0, .pointer (some ⟨g7, 0, none⟩), .pointer (some ⟨g8, 0, none⟩), .pointer (some ⟨g9, 0, none⟩), .slice a n c, .int .i64 (n : Int), .int .i64 0, .int .i64 0, .bool false, undef, .int .i64 (i : Int), .slice a n c, .int .i64 (n : Int), .bool true, .bool false, .slice a n c, .int .i64 (n : Int), .int .i64 (R : Int), .slice (some ⟨g1, 0, none⟩) 0 R, .slice a n c, .int .i64 (i : Int), .slice a n c, .int .i64 (n : Int), .func (.func 35) #[] #[.pointer (some ⟨gi, 0, none⟩), .pointer (some ⟨gn, 0, none⟩)], .agg (plC x.1 x.2.1 x.2.2), undef, undef, undef, undef, undef, undef, undef, undef, undef, undef, undef], defers := [] } ∧
      W'.heap[g9]? = some (.cells (plC x.1 x.2.1 x.2.2) 58 (0, 0)) ∧ WayS g1 g7 g8 gp i n T pre.length W' v out row b d ∧ v.ownBlock ≠ some g9 ∧ ablk b ≠ some g9 ∧ g9 ≠ g7 ∧ g9 ≠ g8 ∧ gp < W'.heap.size ∧ x = plk i n pre.length ∧ pre.length < R)
    (fun pre x a' sx A D row h hgr hr => by
      obtain ⟨g9, v, out, rw_, b, d, e, h9, hs, r⟩ := h
      exact ⟨g9, v, out, rw_, b, d, e, own_csJ h9 hgr hr, hs.grown hgr hr, r.1, r.2.1, r.2.2.1, r.2.2.2.1, Nat.lt_of_lt_of_le r.2.2.2.2.1 hgr.size, r.2.2.2.2.2⟩) ?assign ?body ?done ?stop
  case assign =>
    intro l2 pre x W0 W' K hi0 f0 hsz hnx hK
    obtain ⟨k, hkR, hpre, hxk⟩ := hnx
    have hpl : pre.length = k := by rw [hpre, pls_length]
    have sP : (plC x.1 x.2.1 x.2.2).size = 3 := rfl
    have oP := plC_one x.1 x.2.1 x.2.2
    have hx2 := hxk
    clear hxk
    obtain ⟨P, hP⟩ : ∃ P, P = plC x.1 x.2.1 x.2.2 := ⟨_, rfl⟩
    rw [← hP] at sP oP
    simp only [encP]
    rw [← hP] at hK ⊢
    replace hP := Lib.hid hP
    have hi4 := own_frI hOI hi0 f0
    gi_wp2
    refine any_putJ (P := K _) fun W4 N4 => ?_
    obtain ⟨v, out, row, b, d, hs⟩ := hi4.1.2
    have hs4 := hs.fr0 N4.fr
    have hi5 := own_frI hOI hi0 (f0.trans' N4.fr)
    refine hK _ _ ⟨N4.fr.size, fun k o _ ho2 _ => N4.old ho2⟩ (Kb.fr N4.fr fun e => e) hi5 ?_
    have hg7' := (Array.getElem?_eq_some_iff.1 hs.h7).1
    have hg8' := (Array.getElem?_eq_some_iff.1 hs.h8).1
    exact ⟨_, v, out, row, b, d, rfl, N4.new, hs4, fun e => Nat.lt_irrefl _ (hs.own.lt _ e), fun e => Nat.lt_irrefl _ (hs.hs.low hs.pos _ e), by omega, by omega, by have := N4.fr.size; omega, by rw [hpl]; exact hx2, by rw [hpl, hR.out]; exact hkR⟩
  case body =>
    rintro l2 pre x a' W' hi ⟨g9, v, out, row, b, d, rfl, q9, S, n9, nb9, n97, n98, hgpl, hxk, hkR⟩
    obtain ⟨r_, at_, wd_⟩ := x
    simp only at q9 ⊢
    have e1 : at_ = (plk i n pre.length).2.1 := by rw [← hxk]
    have e2 : wd_ = (plk i n pre.length).2.2 := by rw [← hxk]
    have hlen : row.length = wd_ := by rw [S.len, e2]
    have hat : at_ < wd_ := by rw [e1, e2]; exact plk_lt i n hi2 _
    have hrk := plk_rows i n pre.length (by rw [← hR.out]; omega)
    rw [← e2, ← hR.out] at hrk
    have hwd : 1 < wd_ := Classical.byContradiction fun hn => by rw [rows_le (by omega)] at hrk; omega
    have hway := S.way
    rw [← e1, wayM_up (by omega), hlen] at hway
    have hwd1 : wd_ ≤ 1000 := by rw [← hlen]; exact S.len1
    have HOt := Lib.hid (fun W => mOther_any r_ at_ wd_ hat (by omega) (by omega) W)
    obtain ⟨q, hq⟩ : ∃ q, q = oth at_ wd_ := ⟨_, rfl⟩
    have hqm : q < wd_ := by rw [hq]; exact oth_lt hat
    rw [← hq] at HOt hway
    have hXl := S.hs.ok.get (show q < row.length by omega)
    obtain ⟨bb, off, rfl, HLq, _⟩ := S.hs.load q (by omega)
    have HLw := Lib.hid (fun W (h : Hs W (some ⟨bb, off, none⟩) d row) => by
      obtain ⟨b', off', e, h1, _⟩ := h.load q (by omega)
      cases e
      exact h1 W (Fr.refl _ _) : ∀ W, Hs W (some ⟨bb, off, none⟩) d row → (loadRowAt 28 (.pointer (some ⟨bb, off + q * 32, none⟩))).run Tryd.prog W = .ok (.agg (hc (row.getD q []))) W)
    obtain ⟨X, hX⟩ : ∃ X, X = row.getD q [] := ⟨_, rfl⟩
    rw [← hX] at HLq hXl hway HLw
    have sX := hc_size hXl
    have oX := hc_one X
    have hol : out.length ≤ 1000 := by have := congrArg List.length hway; rw [List.length_append] at this; have := hTl.out; omega
    have HO := Lib.hid (fun W (f : Fr F0 W' W) => (S.own.fr0 f).appH X hXl (by have := hi.2.size; have := f.size; have := hwz.out; have := hg1e.out; omega) (by omega) 22)
    obtain ⟨tl, htl⟩ : ∃ k, k = out.length + 1 := ⟨_, rfl⟩
    rw [← htl] at HO
    have hbl := fun W => run_buildLh W (hc X) sX
    have q7 := S.h7
    have q8 := S.h8
    rw [hlen] at q8
    have fW := Lib.hid (hFr.out _ hi.2)
    have hnv := Lib.hid (show ∀ i, v.ownBlock = some i → ¬ i < w.heap.size from fun i e => by have := S.own.blk i e; have := hg1e.out; omega)
    have l1 : q < wd_ := hqm
    have hPn := Lib.hid (show plk i n (pre.length + 1) = (r_ + 1, at_ / 2, (wd_ + 1) / 2) by rw [plk, ← hxk])
    replace HLq := Lib.hid HLq
    replace htl := Lib.hid htl
    replace S := Lib.hid S
    replace hway := Lib.hid hway
    replace hlen := Lib.hid hlen
    replace hol := Lib.hid hol
    clear hxk e1 e2 hrk hq hX hat hqm hXl
    have sP : (plC r_ at_ wd_).size = 3 := rfl
    generalize plC r_ at_ wd_ = P at *
    have HPo : Hid (∀ (w4 w5 w7 : World) (a5 : Option Addr) (c5 : Nat) (a7 : Option Addr) (c7 : Nat), Fr F0 W' w4 → OwnL 28 g1 w5 (.slice a5 tl c5) (out ++ [X]) → Fr (fun k => v.ownBlock = some k) w4 w5 → (∀ k, ablk a5 = some k → v.ownBlock = some k ∨ w4.heap.size ≤ k) →
        Fr F0 (w5.setCell ⟨g7, 0, none⟩ (.slice a5 tl c5)) w7 → Hs w7 a7 c7 (up row) → (∀ k, ablk a7 = some k → (w5.setCell ⟨g7, 0, none⟩ (.slice a5 tl c5)).heap.size ≤ k) →
        KeepsFrom w3.heap.size W' (w7.setCell ⟨g8, 0, none⟩ (.slice a7 (up row).length c7)) ∧ Kb (w3.heap.size + 2) W' (w7.setCell ⟨g8, 0, none⟩ (.slice a7 (up row).length c7)) ∧ (((pre ++ [(r_, at_, wd_)] = [] → (w7.setCell ⟨g8, 0, none⟩ (.slice a7 (up row).length c7)).heap[gi]? = some (.cells #[.int .i64 (i : Int)] 3 (0, 0)) ∧ (w7.setCell ⟨g8, 0, none⟩ (.slice a7 (up row).length c7)).heap[gn]? = some (.cells #[.int .i64 (n : Int)] 3 (0, 0))) ∧
          WayI g1 g7 g8 gp i n T (pre ++ [(r_, at_, wd_)]).length (w7.setCell ⟨g8, 0, none⟩ (.slice a7 (up row).length c7))) ∧ Below w.heap.size w3 (w7.setCell ⟨g8, 0, none⟩ (.slice a7 (up row).length c7)))) := by
      intro w4 w5 w7 a5 c5 a7 c7 f4 ho5 f5 hb5 f7 hs7 hb7
      have S' := S.out
      have z0 := hi.2.size
      have z1 := f4.size
      have z2 := f5.size
      have hg := hgs.out
      have f6 : Fr (fun k => k = g7) w5 (w5.setCell ⟨g7, 0, none⟩ (.slice a5 tl c5)) := (Fr.refl (fun k => k = g7) w5).setCell (p := ⟨g7, 0, none⟩) (fun _ => rfl) _
      have z3 := f6.size
      have z4 := f7.size
      have f8 : Fr (fun k => k = g8) w7 (w7.setCell ⟨g8, 0, none⟩ (.slice a7 (up row).length c7)) := (Fr.refl (fun k => k = g8) w7).setCell (p := ⟨g8, 0, none⟩) (fun _ => rfl) _
      have ho4 := S'.own.fr0 f4
      have hd5 : ∀ k, ablk a5 = some k → k ≠ g7 ∧ k ≠ g8 ∧ k ≠ gp := fun k hk => by
        rcases hb5 k hk with e | e
        · exact S'.d1 k e
        · omega
      have hd7 : ∀ k, ablk a7 = some k → k ≠ g7 ∧ k ≠ g8 ∧ k ≠ gp ∧ w5.heap.size ≤ k := fun k hk => by have := hb7 k hk; omega
      have q7 : w5.heap[g7]? = some (.cells #[v] 22 (0, 0)) := f5.keeps (fun e => (S'.d1 _ e).1 rfl) (keep_fr f4 S'.h7)
      have q8 : w7.heap[g8]? = some (.cells #[.slice (some ⟨bb, off, none⟩) row.length d] 22 (0, 0)) := keep_fr f7 (f6.keeps (fun e => g78.out.1 e.symm) (f5.keeps (fun e => (S'.d1 _ e).2.1 rfl) (keep_fr f4 S'.h8)))
      have q76 : (w5.setCell ⟨g7, 0, none⟩ (.slice a5 tl c5)).heap[g7]? = some (.cells #[.slice a5 tl c5] 22 (0, 0)) := by rw [heap_setCell_at, q7]; rfl
      have own5 : ∀ k, (Value.slice a5 tl c5).ownBlock = some k → k ≠ g7 ∧ k ≠ g8 ∧ k ≠ gp := fun k hk => hd5 k (by rw [ablk_own] at hk; exact hk)
      have hpl : (pre ++ [(r_, at_, wd_)]).length = pre.length + 1 := by simp
      refine ⟨⟨by have := f8.size; omega, fun k o hk ho2 hc2 => ?_⟩, ?_, ⟨fun e => absurd e (by simp), .slice a5 tl c5, out ++ [X], up row, a7, c7, ?_⟩, ?_⟩
      · have e4 : w4.heap[k]? = some o := keep_fr f4 ho2
        have e5 : w5.heap[k]? = some o := f5.keeps (fun e => row_notJ (A := w4) (row := some k) (B := 0) (fun r e9 => by cases e9; exact ⟨Nat.zero_le _, o, e4, hc2⟩) ho4.own k e rfl) e4
        exact f8.keeps (by omega) (keep_fr f7 (f6.keeps (by omega) e5))
      · have n1 : ¬ v.ownBlock = some (w3.heap.size + 2) := fun e => (S'.d1 _ e).2.2 hgp.symm
        intro o ho2
        exact f8.keeps (by omega) (keep_fr f7 (f6.keeps (by omega) (f5.keeps n1 (keep_fr f4 ho2))))
      · refine ⟨f8.keeps g78.out.1 (keep_fr f7 q76), by rw [heap_setCell_at, q8]; rfl, ((ho5.frS f6 fun k hk => (own5 k hk).1).fr0 f7).frS f8 fun k hk => (own5 k hk).2.1, hs7.frx f8 fun k hk => (hd7 k hk).2.1, ?_, ?_, ?_, own5, fun k hk => ⟨(hd7 k hk).1, (hd7 k hk).2.1, (hd7 k hk).2.2.1, fun e => by have h1 := ho5.lt k e; have h2 := (hd7 k hk).2.2.2; omega⟩, ?_⟩
        · rw [hpl, hPn.out, up_length, hlen.out]
        · rw [up_length]; have := S'.len1; omega
        · rw [hpl, hPn.out, List.append_assoc, List.singleton_append]; exact hway.out
        · rw [up_length]; have := S'.pos; omega
      · have b1 := hi.2.trans (f4.below (B := w.heap.size) (Nat.le_trans hwz.out z0) fun k hk e => e)
        have b2 := b1.trans (f5.below (B := w.heap.size) (by have := hwz.out; omega) fun k hk e => hnv.out k e hk)
        have b3 := b2.trans (f6.below (B := w.heap.size) (by have := hwz.out; omega) fun k hk e => h71.out (by rw [← e]; exact hk))
        have b4 := b3.trans (f7.below (B := w.heap.size) (by have := hwz.out; omega) fun k hk e => e)
        exact b4.trans (f8.below (B := w.heap.size) (by have := hwz.out; omega) fun k hk e => h81.out (by rw [← e]; exact hk))
    have HUp := Lib.hid (fun W (h : Hs W (some ⟨bb, off, none⟩) d row) (f : Fr F0 w W) => mAbove_any row (some ⟨bb, off, none⟩) wd_ d W h hlen.out.symm (by have := hlen.out; omega) (HC.out.fr f fun e => e))
    have h87 := g78.out.1
    gi_upto_region 10 with fail
    refine region_roundH (S := (fun w' => w'.heap[g8]? = some (.cells #[.slice (some ⟨bb, off, none⟩) wd_ d] 22 (0, 0)) ∧ w'.heap[g9]? = some (.cells P 58 (0, 0)) ∧ (loadRowAt 28 (.pointer (some ⟨bb, off + q * 32, none⟩))).run Tryd.prog w' = .ok (.agg (hc X)) w')) (by kernel_rfl) (by kernel_rfl) (fun _ _ h => h) ?_ (fun hHeld => ?_)
    · ((try dsimp only) <;> (first | exact ⟨q8, q9, HLq.out _ (Fr.refl F0 W').drew⟩ | exact hHeld | exact ⟨keep_fr f5 hHeld.1, keep_fr f5 hHeld.2.1, HLq.out _ g4⟩ | exact ⟨keep_alloc hHeld.1, keep_alloc hHeld.2.1, HLq.out _ (g4.alloc _)⟩ | exact ⟨p8, p9, HLw.out _ hs5'.out⟩ | exact ⟨p86, p96, HLw.out _ hs6'.out⟩))
    refine rtake 1 ?_
    refine rtake 2 ?_
    refine wpAnyH_ready (rs := [0, 3]) (by kernel_rfl) (by simp) ?_
    refine AllReadyH.cons (o := ⟨_, _, _, _, _, _⟩) rfl (fun K hK => ?_) (AllReadyH.cons (o := ⟨_, _, _, _, _, _⟩) rfl (fun K hK => ?_) AllReadyH.nil)
    go_simp
    refine hK.out _ _ ?_ (fun hHeld => ?_)
    · ((try dsimp only) <;> (first | exact ⟨q8, q9, HLq.out _ (Fr.refl F0 W').drew⟩ | exact hHeld | exact ⟨keep_fr f5 hHeld.1, keep_fr f5 hHeld.2.1, HLq.out _ g4⟩ | exact ⟨keep_alloc hHeld.1, keep_alloc hHeld.2.1, HLq.out _ (g4.alloc _)⟩ | exact ⟨p8, p9, HLw.out _ hs5'.out⟩ | exact ⟨p86, p96, HLw.out _ hs6'.out⟩))
    clear hK K
    try (simp only [Act.put, List.setIfInBounds_toArray]; dsimp only [List.set_cons_zero, List.set_cons_succ])
    refine wpAnyH_ready (rs := [3]) (by kernel_rfl) (by simp) ?_
    refine AllReadyH.cons (o := ⟨_, _, _, _, _, _⟩) rfl (fun K hK => ?_) AllReadyH.nil
    go_simp
    ((with_reducible refine (HOt.out _).mono ?_); rintro e w4 ⟨rfl, f5⟩; have g4 : Fr F0 W' w4 := (Fr.refl F0 W').drew.trans' f5; obtain ⟨a5, c5, w5, happ, ho5, f6, hs5, hb5⟩ := HO.out w4 g4; have q7a := keep_fr g4 q7; have q7b := keep_alloc (o := .cells (hc X) 28) q7a; have q75 := f6.keeps (fun e => (S.out.d1 _ e).1 rfl) q7a; have p8 := f6.keeps (fun e => (S.out.d1 _ e).2.1 rfl) (keep_fr g4 q8); have p9 := f6.keeps (fun e => n9 e) (keep_fr g4 q9); have hs5' := Lib.hid ((S.out.hs.fr g4).frx f6 (fun k hk e => (S.out.d2 k hk).2.2.2 e)); have f8 : Fr (fun k => k = g7) w5 (w5.setCell ⟨g7, 0, none⟩ (.slice a5 tl c5)) := (Fr.refl (fun k => k = g7) w5).setCell (p := ⟨g7, 0, none⟩) (fun _ => rfl) _; have p86 := f8.keeps (fun e => h87 e.symm) p8; have p96 := f8.keeps (fun e => n97 e) p9; have hs6' := Lib.hid (hs5'.out.frx f8 (fun k hk e => (S.out.d2 k hk).1 e)); have G := Lib.hid (And.intro g4 (And.intro ho5 (And.intro f6 hb5))); replace f8 := Lib.hid f8)
    refine hK.out _ _ ?_ (fun hHeld => ?_)
    · ((try dsimp only) <;> (first | exact ⟨q8, q9, HLq.out _ (Fr.refl F0 W').drew⟩ | exact hHeld | exact ⟨keep_fr f5 hHeld.1, keep_fr f5 hHeld.2.1, HLq.out _ g4⟩ | exact ⟨keep_alloc hHeld.1, keep_alloc hHeld.2.1, HLq.out _ (g4.alloc _)⟩ | exact ⟨p8, p9, HLw.out _ hs5'.out⟩ | exact ⟨p86, p96, HLw.out _ hs6'.out⟩))
    clear hK K
    try (simp only [Act.put, List.setIfInBounds_toArray]; dsimp only [List.set_cons_zero, List.set_cons_succ])
    refine rtake 4 ?_
    refine rtake 5 ?_
    refine wpAnyH_ready (rs := [6]) (by kernel_rfl) (by simp) ?_
    refine AllReadyH.cons (o := ⟨_, _, _, _, _, _⟩) rfl (fun K hK => ?_) AllReadyH.nil
    go_simp
    refine hK.out _ _ ?_ (fun hHeld => ?_)
    · ((try dsimp only) <;> (first | exact ⟨q8, q9, HLq.out _ (Fr.refl F0 W').drew⟩ | exact hHeld | exact ⟨keep_fr f5 hHeld.1, keep_fr f5 hHeld.2.1, HLq.out _ g4⟩ | exact ⟨keep_alloc hHeld.1, keep_alloc hHeld.2.1, HLq.out _ (g4.alloc _)⟩ | exact ⟨p8, p9, HLw.out _ hs5'.out⟩ | exact ⟨p86, p96, HLw.out _ hs6'.out⟩))
    clear hK K
    try (simp only [Act.put, List.setIfInBounds_toArray]; dsimp only [List.set_cons_zero, List.set_cons_succ])
    refine wpAnyH_ready (rs := [7]) (by kernel_rfl) (by simp) ?_
    refine AllReadyH.cons (o := ⟨_, _, _, _, _, _⟩) rfl (fun K hK => ?_) AllReadyH.nil
    go_simp
    refine hK.out _ _ ?_ (fun hHeld => ?_)
    · ((try dsimp only) <;> (first | exact ⟨q8, q9, HLq.out _ (Fr.refl F0 W').drew⟩ | exact hHeld | exact ⟨keep_fr f5 hHeld.1, keep_fr f5 hHeld.2.1, HLq.out _ g4⟩ | exact ⟨keep_alloc hHeld.1, keep_alloc hHeld.2.1, HLq.out _ (g4.alloc _)⟩ | exact ⟨p8, p9, HLw.out _ hs5'.out⟩ | exact ⟨p86, p96, HLw.out _ hs6'.out⟩))
    clear hK K
    try (simp only [Act.put, List.setIfInBounds_toArray]; dsimp only [List.set_cons_zero, List.set_cons_succ])
    refine wpAnyH_ready (rs := [8]) (by kernel_rfl) (by simp) ?_
    refine AllReadyH.cons (o := ⟨_, _, _, _, _, _⟩) rfl (fun K hK => ?_) AllReadyH.nil
    go_simp
    refine hK.out _ _ ?_ (fun hHeld => ?_)
    · ((try dsimp only) <;> (first | exact ⟨q8, q9, HLq.out _ (Fr.refl F0 W').drew⟩ | exact hHeld | exact ⟨keep_fr f5 hHeld.1, keep_fr f5 hHeld.2.1, HLq.out _ g4⟩ | exact ⟨keep_alloc hHeld.1, keep_alloc hHeld.2.1, HLq.out _ (g4.alloc _)⟩ | exact ⟨p8, p9, HLw.out _ hs5'.out⟩ | exact ⟨p86, p96, HLw.out _ hs6'.out⟩))
    clear hK K
    try (simp only [Act.put, List.setIfInBounds_toArray]; dsimp only [List.set_cons_zero, List.set_cons_succ])
    refine wpAnyH_done (by kernel_rfl) ?_ _
    refine NoPanic.normal ?_
    rotate_left
    go_simp
    ((with_reducible refine (HOt.out _).mono ?_); rintro e w4 ⟨rfl, f5⟩; have g4 : Fr F0 W' w4 := (Fr.refl F0 W').drew.trans' f5; obtain ⟨a5, c5, w5, happ, ho5, f6, hs5, hb5⟩ := HO.out w4 g4; have q7a := keep_fr g4 q7; have q7b := keep_alloc (o := .cells (hc X) 28) q7a; have q75 := f6.keeps (fun e => (S.out.d1 _ e).1 rfl) q7a; have p8 := f6.keeps (fun e => (S.out.d1 _ e).2.1 rfl) (keep_fr g4 q8); have p9 := f6.keeps (fun e => n9 e) (keep_fr g4 q9); have hs5' := Lib.hid ((S.out.hs.fr g4).frx f6 (fun k hk e => (S.out.d2 k hk).2.2.2 e)); have f8 : Fr (fun k => k = g7) w5 (w5.setCell ⟨g7, 0, none⟩ (.slice a5 tl c5)) := (Fr.refl (fun k => k = g7) w5).setCell (p := ⟨g7, 0, none⟩) (fun _ => rfl) _; have p86 := f8.keeps (fun e => h87 e.symm) p8; have p96 := f8.keeps (fun e => n97 e) p9; have hs6' := Lib.hid (hs5'.out.frx f8 (fun k hk e => (S.out.d2 k hk).1 e)); have G := Lib.hid (And.intro g4 (And.intro ho5 (And.intro f6 hb5))); replace f8 := Lib.hid f8)
    refine hK.out _ _ ?_ (fun hHeld => ?_)
    · ((try dsimp only) <;> (first | exact ⟨q8, q9, HLq.out _ (Fr.refl F0 W').drew⟩ | exact hHeld | exact ⟨keep_fr f5 hHeld.1, keep_fr f5 hHeld.2.1, HLq.out _ g4⟩ | exact ⟨keep_alloc hHeld.1, keep_alloc hHeld.2.1, HLq.out _ (g4.alloc _)⟩ | exact ⟨p8, p9, HLw.out _ hs5'.out⟩ | exact ⟨p86, p96, HLw.out _ hs6'.out⟩))
    clear hK K
    try (simp only [Act.put, List.setIfInBounds_toArray]; dsimp only [List.set_cons_zero, List.set_cons_succ])
    refine rtake 4 ?_
    refine rtake 5 ?_
    refine wpAnyH_ready (rs := [0, 6]) (by kernel_rfl) (by simp) ?_
    refine AllReadyH.cons (o := ⟨_, _, _, _, _, _⟩) rfl (fun K hK => ?_) (AllReadyH.cons (o := ⟨_, _, _, _, _, _⟩) rfl (fun K hK => ?_) AllReadyH.nil)
    go_simp
    refine hK.out _ _ ?_ (fun hHeld => ?_)
    · ((try dsimp only) <;> (first | exact ⟨q8, q9, HLq.out _ (Fr.refl F0 W').drew⟩ | exact hHeld | exact ⟨keep_fr f5 hHeld.1, keep_fr f5 hHeld.2.1, HLq.out _ g4⟩ | exact ⟨keep_alloc hHeld.1, keep_alloc hHeld.2.1, HLq.out _ (g4.alloc _)⟩ | exact ⟨p8, p9, HLw.out _ hs5'.out⟩ | exact ⟨p86, p96, HLw.out _ hs6'.out⟩))
    clear hK K
    try (simp only [Act.put, List.setIfInBounds_toArray]; dsimp only [List.set_cons_zero, List.set_cons_succ])
    refine wpAnyH_ready (rs := [6]) (by kernel_rfl) (by simp) ?_
    refine AllReadyH.cons (o := ⟨_, _, _, _, _, _⟩) rfl (fun K hK => ?_) AllReadyH.nil
    go_simp
    refine hK.out _ _ ?_ (fun hHeld => ?_)
    · ((try dsimp only) <;> (first | exact ⟨q8, q9, HLq.out _ (Fr.refl F0 W').drew⟩ | exact hHeld | exact ⟨keep_fr f5 hHeld.1, keep_fr f5 hHeld.2.1, HLq.out _ g4⟩ | exact ⟨keep_alloc hHeld.1, keep_alloc hHeld.2.1, HLq.out _ (g4.alloc _)⟩ | exact ⟨p8, p9, HLw.out _ hs5'.out⟩ | exact ⟨p86, p96, HLw.out _ hs6'.out⟩))
    clear hK K
    try (simp only [Act.put, List.setIfInBounds_toArray]; dsimp only [List.set_cons_zero, List.set_cons_succ])
    refine wpAnyH_ready (rs := [7]) (by kernel_rfl) (by simp) ?_
    refine AllReadyH.cons (o := ⟨_, _, _, _, _, _⟩) rfl (fun K hK => ?_) AllReadyH.nil
    go_simp
    refine hK.out _ _ ?_ (fun hHeld => ?_)
    · ((try dsimp only) <;> (first | exact ⟨q8, q9, HLq.out _ (Fr.refl F0 W').drew⟩ | exact hHeld | exact ⟨keep_fr f5 hHeld.1, keep_fr f5 hHeld.2.1, HLq.out _ g4⟩ | exact ⟨keep_alloc hHeld.1, keep_alloc hHeld.2.1, HLq.out _ (g4.alloc _)⟩ | exact ⟨p8, p9, HLw.out _ hs5'.out⟩ | exact ⟨p86, p96, HLw.out _ hs6'.out⟩))
    clear hK K
    try (simp only [Act.put, List.setIfInBounds_toArray]; dsimp only [List.set_cons_zero, List.set_cons_succ])
    refine wpAnyH_ready (rs := [8]) (by kernel_rfl) (by simp) ?_
    refine AllReadyH.cons (o := ⟨_, _, _, _, _, _⟩) rfl (fun K hK => ?_) AllReadyH.nil
    go_simp
    refine hK.out _ _ ?_ (fun hHeld => ?_)
    · ((try dsimp only) <;> (first | exact ⟨q8, q9, HLq.out _ (Fr.refl F0 W').drew⟩ | exact hHeld | exact ⟨keep_fr f5 hHeld.1, keep_fr f5 hHeld.2.1, HLq.out _ g4⟩ | exact ⟨keep_alloc hHeld.1, keep_alloc hHeld.2.1, HLq.out _ (g4.alloc _)⟩ | exact ⟨p8, p9, HLw.out _ hs5'.out⟩ | exact ⟨p86, p96, HLw.out _ hs6'.out⟩))
    clear hK K
    try (simp only [Act.put, List.setIfInBounds_toArray]; dsimp only [List.set_cons_zero, List.set_cons_succ])
    refine wpAnyH_done (by kernel_rfl) ?_ _
    refine NoPanic.normal ?_
    rotate_left
    go_simp
    refine hK.out _ _ ?_ (fun hHeld => ?_)
    · ((try dsimp only) <;> (first | exact ⟨q8, q9, HLq.out _ (Fr.refl F0 W').drew⟩ | exact hHeld | exact ⟨keep_fr f5 hHeld.1, keep_fr f5 hHeld.2.1, HLq.out _ g4⟩ | exact ⟨keep_alloc hHeld.1, keep_alloc hHeld.2.1, HLq.out _ (g4.alloc _)⟩ | exact ⟨p8, p9, HLw.out _ hs5'.out⟩ | exact ⟨p86, p96, HLw.out _ hs6'.out⟩))
    clear hK K
    try (simp only [Act.put, List.setIfInBounds_toArray]; dsimp only [List.set_cons_zero, List.set_cons_succ])
    refine wpAnyH_ready (rs := [0]) (by kernel_rfl) (by simp) ?_
    refine AllReadyH.cons (o := ⟨_, _, _, _, _, _⟩) rfl (fun K hK => ?_) AllReadyH.nil
    go_simp
    refine hK.out _ _ ?_ (fun hHeld => ?_)
    · ((try dsimp only) <;> (first | exact ⟨q8, q9, HLq.out _ (Fr.refl F0 W').drew⟩ | exact hHeld | exact ⟨keep_fr f5 hHeld.1, keep_fr f5 hHeld.2.1, HLq.out _ g4⟩ | exact ⟨keep_alloc hHeld.1, keep_alloc hHeld.2.1, HLq.out _ (g4.alloc _)⟩ | exact ⟨p8, p9, HLw.out _ hs5'.out⟩ | exact ⟨p86, p96, HLw.out _ hs6'.out⟩))
    clear hK K
    try (simp only [Act.put, List.setIfInBounds_toArray]; dsimp only [List.set_cons_zero, List.set_cons_succ])
    refine wpAnyH_ready (rs := [7]) (by kernel_rfl) (by simp) ?_
    refine AllReadyH.cons (o := ⟨_, _, _, _, _, _⟩) rfl (fun K hK => ?_) AllReadyH.nil
    go_simp
    refine hK.out _ _ ?_ (fun hHeld => ?_)
    · ((try dsimp only) <;> (first | exact ⟨q8, q9, HLq.out _ (Fr.refl F0 W').drew⟩ | exact hHeld | exact ⟨keep_fr f5 hHeld.1, keep_fr f5 hHeld.2.1, HLq.out _ g4⟩ | exact ⟨keep_alloc hHeld.1, keep_alloc hHeld.2.1, HLq.out _ (g4.alloc _)⟩ | exact ⟨p8, p9, HLw.out _ hs5'.out⟩ | exact ⟨p86, p96, HLw.out _ hs6'.out⟩))
    clear hK K
    try (simp only [Act.put, List.setIfInBounds_toArray]; dsimp only [List.set_cons_zero, List.set_cons_succ])
    refine wpAnyH_ready (rs := [8]) (by kernel_rfl) (by simp) ?_
    refine AllReadyH.cons (o := ⟨_, _, _, _, _, _⟩) rfl (fun K hK => ?_) AllReadyH.nil
    go_simp
    refine hK.out _ _ ?_ (fun hHeld => ?_)
    · ((try dsimp only) <;> (first | exact ⟨q8, q9, HLq.out _ (Fr.refl F0 W').drew⟩ | exact hHeld | exact ⟨keep_fr f5 hHeld.1, keep_fr f5 hHeld.2.1, HLq.out _ g4⟩ | exact ⟨keep_alloc hHeld.1, keep_alloc hHeld.2.1, HLq.out _ (g4.alloc _)⟩ | exact ⟨p8, p9, HLw.out _ hs5'.out⟩ | exact ⟨p86, p96, HLw.out _ hs6'.out⟩))
    clear hK K
    try (simp only [Act.put, List.setIfInBounds_toArray]; dsimp only [List.set_cons_zero, List.set_cons_succ])
    refine wpAnyH_done (by kernel_rfl) ?_ _
    refine NoPanic.normal ?_
    rotate_left
    all_goals
      have fW6 : Fr F0 w (w5.setCell ⟨g7, 0, none⟩ (.slice a5 tl c5)) := ((fW.out.trans' G.out.1).trans G.out.2.2.1 (fun i hi e => hnv.out i e hi)).setCell (p := ⟨g7, 0, none⟩) (fun h => absurd h h71.out) _
      have hU := Lib.hid (HUp.out _ hs6'.out fW6)
      have HP1 := Lib.hid (fun w7 a7 c7 f7 hs7 hb7 => HPo.out w4 w5 w7 a5 c5 a7 c7 G.out.1 G.out.2.1 G.out.2.2.1 G.out.2.2.2 f7 hs7 hb7)
      have r86 := hHeld.1
      clear hHeld HPo p86 p96 hs6' f8 p8 p9 hs5' q75 fW6 hOI
      generalize w5.setCell ⟨g7, 0, none⟩ (.slice a5 tl c5) = w6 at *
      gi_wp2
      refine ⟨trivial, ?_⟩
      (with_reducible refine (callsIn_round hU.out).mono ?_); rintro e w7 ⟨a7, c7, rfl, hs7, f7, hb7⟩
      have q87 := keep_fr f7 r86
      have HP2 := Lib.hid (HP1.out w7 a7 c7 f7 hs7 hb7)
      obtain ⟨u, hu⟩ : ∃ k, k = (up row).length := ⟨_, rfl⟩
      rw [← hu] at HP2 ⊢
      clear hu HP1 hU hs7 f7 hb7
      gi_wp2
      exact HP2.out
  case done =>
    rintro D ys W' hD hy hi hK
    have h9 := hOI.putObj (.deferred none) hi hD hK rfl
    obtain ⟨v, out, row, b, d, hs⟩ := hi.1.2
    obtain ⟨v', out', row', b', d', hs'⟩ := h9.1.2
    have es : v' = v := by
      have hDg : D ≠ g7 := fun e => by have := hgs.out.1; omega
      have q := hs'.h7
      rw [World.putObj_heap_other (fun e => hDg e.symm), hs.h7] at q
      simpa using q.symm
    subst es
    have hy2 : ys.length = R := by rw [hy, pls_length]
    have hrw : row'.length ≤ 1 := rows_0 (by rw [hs'.len, hy2]; have := plk_rows i n R (by rw [hR.out]; exact Nat.le_refl _); have := hR.out; omega)
    have e3 := hs'.way
    rw [wayM_one hrw, List.append_nil] at e3
    obtain ⟨b5, d5, ev, hs5⟩ := hs'.own.is
    have hb5 := hs'.own.blk
    rw [e3] at ev hs5
    rw [ev, hg1e.out] at hb5
    have q7 := hs.h7
    rw [ev] at q7
    have HRes := Lib.hid (show ∃ b d, (.returned (.tuple #[.slice b5 T.length d5, .int .i64 0]) : Ending) = .returned (.tuple #[.slice b T.length d, .int .i64 0]) ∧ Hs (W'.putObj D (.deferred none)) b d T ∧ Fr F0 w (W'.putObj D (.deferred none)) ∧ ∀ k, ablk b = some k → w.heap.size ≤ k from
      ⟨b5, d5, rfl, hs5, hFr.out _ h9.2, fun k hk => hb5 k (by rw [ablk_own]; exact hk)⟩)
    clear hs hs' h9 hOI hi ev hs5 hb5 e3 hrw
    gi_wp2
    refine ⟨by simp, .inl ⟨_, _, rfl, run_takeDeferred hK, ?_⟩⟩
    refine ⟨_, results_tmp2 rfl _ _ _, ?_⟩
    exact HRes.out
  case stop =>
    rintro D cc pre W' hD h hK
    exact h.elim
end Go.Proofs.YthpcajpiflpmdaaDoor

/- Layer 10 (merkle), the program's own: Climb, where it is refused at once. -/
namespace Go.Proofs.YthpcajpiflpmdaaDoor
set_option linter.unusedVariables false
set_option linter.unusedSimpArgs false
open Go.RowKit Go.Shelf

theorem chkN_no {n : Int} (h : ¬ (1 ≤ n ∧ n ≤ 65536)) : chkN n ≠ 0 := by
  unfold chkN
  split
  · decide
  · split
    · decide
    · omega

set_option maxRecDepth 100000 in
set_option maxHeartbeats 8000000 in
theorem mClimb_arg (h : List UInt8) (i n : Int) (b : Option Addr) (m d : Nat) (w : World) (hl : h.length = 32) (hno : ¬ ((1 ≤ n ∧ n ≤ 65536) ∧ (0 ≤ i ∧ i < n))) :
    Calls Tryd.prog 18 #[.agg (hc h), .int .i64 i, .int .i64 n, .slice b m d] w fun e w' => e = .returned (.tuple #[.agg (hc z32), .int .i64 1]) ∧ Fr F0 w w' := by
  have HN := Lib.hid (fun w => mCheckN_any n w)
  have HP := Lib.hid (fun w => mIsPlace_any i n w)
  have sz := hc_size z32_length
  have oz := hc_one z32
  obtain ⟨X, hX⟩ : ∃ X, X = hc h := ⟨_, rfl⟩
  rw [← hX]
  obtain ⟨cv, hcv⟩ : ∃ c, c = chkN n := ⟨_, rfl⟩
  obtain ⟨pv, hpv⟩ : ∃ p, p = decide (0 ≤ i ∧ i < n) := ⟨_, rfl⟩
  rw [← hcv] at HN
  rw [← hpv] at HP
  have hor : cv ≠ 0 ∨ pv = false := by
    by_cases h1 : 1 ≤ n ∧ n ≤ 65536
    · right; rw [hpv, decide_eq_false_iff_not]; exact fun h2 => hno ⟨h1, h2⟩
    · left; rw [hcv]; exact chkN_no h1
  clear hcv hpv hno hl hX
  go_enter Tryd.func18, Tryd.ntmps18
  go_upto_region 1 with fail
  refine wp_new32 fun W1 Z sZ N1 => ?_
  have r8 := N1.new
  have F := (((Fr.refl F0 w).alloc (.cells X 28)).alloc (.cells #[.slice b m d] 22)).trans' N1.fr
  clear N1
  rw [World.size_alloc, World.size_alloc] at r8
  have g8l : Hid (¬ w.heap.size + 1 + 1 < w.heap.size) := by rw [Hid]; omega
  obtain ⟨g8, hg8⟩ : ∃ g, g = w.heap.size + 1 + 1 := ⟨_, rfl⟩
  rw [← hg8] at r8 g8l ⊢
  clear hg8
  have q8 := Lib.hid (setRow_heap _ _ _ (hc z32) _ _ r8)
  have F9 := Lib.hid (F.setRow (fun h => absurd h g8l.out) (hc z32))
  replace g8l := Lib.hid g8l
  clear F
  refine wp_scope_straight ?_
  go_wp2_with fail
  (with_reducible refine (HN.out _).mono ?_); rintro e w2 ⟨rfl, hw⟩; replace hw := hw.symm; subst hw
  by_cases hc0 : cv = 0
  · subst hc0
    obtain rfl : pv = false := hor.resolve_left (fun h => h rfl)
    clear hor
    go_wp2_with fail
    (with_reducible refine (HP.out _).mono ?_); rintro e w2 ⟨rfl, hw⟩; replace hw := hw.symm; subst hw
    go_wp2
    try rw [Exit.noGoto_ret]
    refine bodyPost_ret (results_cell_row_tmp rfl _ _ g8 _ _ _ _ rfl q8.out Tryd.underlying28 rfl (by rw [Tryd.szHashJ, sz])) rfl ⟨rfl, F9.out⟩
  · have l1 : ((cv : Int) != 0) = true := bne_iff_ne.2 hc0
    clear hor hc0
    go_wp2
    try rw [Exit.noGoto_ret]
    refine bodyPost_ret (results_cell_row_tmp rfl _ _ g8 _ _ _ _ rfl q8.out Tryd.underlying28 rfl (by rw [Tryd.szHashJ, sz])) rfl ⟨rfl, F9.out⟩

set_option maxRecDepth 100000 in
set_option maxHeartbeats 8000000 in
theorem mClimb_len (h : List UInt8) (i n : Nat) (b : Option Addr) (m d : Nat) (w : World) (hl : h.length = 32) (hi : i < n) (hb : n ≤ 65536) (hm : m ≠ rows n) (hmm : m ≤ 1000000) :
    Calls Tryd.prog 18 #[.agg (hc h), .int .i64 (i : Int), .int .i64 (n : Int), .slice b m d] w fun e w' => e = .returned (.tuple #[.agg (hc z32), .int .i64 14]) ∧ Fr F0 w w' := by
  have HN := Lib.hid (fun w => mCheckN_any (n : Int) w)
  rw [show chkN (n : Int) = 0 by rw [chkN, if_neg (by omega), if_neg (by omega)]] at HN
  have HP := Lib.hid (fun w => mIsPlace_any (i : Int) (n : Int) w)
  rw [decide_eq_true (show 0 ≤ (i : Int) ∧ (i : Int) < (n : Int) by omega)] at HP
  have HR := Lib.hid (fun w => mRows_any n (by omega) hb w)
  have l1 : ((m : Int) != (rows n : Nat)) = true := bne_iff_ne.2 (by omega)
  generalize rows n = R at *
  have sz := hc_size z32_length
  have oz := hc_one z32
  generalize hc h = X at *
  clear hi hm hl hb
  go_enter Tryd.func18, Tryd.ntmps18
  go_upto_region 1 with fail
  refine wp_new32 fun W1 Z sZ N1 => ?_
  have r8 := N1.new
  have r7 := N1.old (heap_alloc_new (w.alloc (.cells X 28)) (.cells #[.slice b m d] 22))
  have F := (((Fr.refl F0 w).alloc (.cells X 28)).alloc (.cells #[.slice b m d] 22)).trans' N1.fr
  clear N1
  rw [World.size_alloc, World.size_alloc] at r8
  rw [World.size_alloc] at r7
  have g8l : Hid (¬ w.heap.size + 1 + 1 < w.heap.size) := by rw [Hid]; omega
  obtain ⟨g8, hg8⟩ : ∃ g, g = w.heap.size + 1 + 1 := ⟨_, rfl⟩
  obtain ⟨g7, hg7⟩ : ∃ g, g = w.heap.size + 1 := ⟨_, rfl⟩
  rw [← hg8] at r8 g8l ⊢
  rw [← hg7] at r7 ⊢
  clear hg8 hg7
  have q8 := Lib.hid (setRow_heap _ _ _ (hc z32) _ _ r8)
  have F9 := Lib.hid (F.setRow (fun h => absurd h g8l.out) (hc z32))
  refine wp_scope_straight ?_
  go_wp2_with fail
  (with_reducible refine (HN.out _).mono ?_); rintro e w2 ⟨rfl, hw⟩; replace hw := hw.symm; subst hw
  go_wp2_with fail
  (with_reducible refine (HP.out _).mono ?_); rintro e w2 ⟨rfl, hw⟩; replace hw := hw.symm; subst hw
  go_upto_region 3 with fail
  refine wp_region_noPanic ?_
  refine wp_region_held_drew (S := (fun w' => w'.heap[g7]? = some (.cells #[.slice b m d] 22 (0, 0)))) (by kernel_rfl) ?_ (fun hHeld => ?_)
  · ((try dsimp only) <;> (first | exact r7 | exact hHeld))
  refine rtake 0 ?_
  refine rtake 1 ?_
  refine rtake 2 ?_
  refine wpAnyH_ready (rs := [3]) (by kernel_rfl) (by simp) ?_
  refine AllReadyH.cons (o := ⟨_, _, _, _, _, _⟩) rfl (fun K hK => ?_) AllReadyH.nil
  go_simp
  ((with_reducible refine (HR.out _).mono ?_); rintro e w3 ⟨rfl, rfl⟩)
  refine hK.out _ _ ?_ (fun hHeld => ?_)
  · ((try dsimp only) <;> (first | exact r7 | exact hHeld))
  clear hK K
  try (simp only [Act.put, List.setIfInBounds_toArray]; dsimp only [List.set_cons_zero, List.set_cons_succ])
  refine rtake 4 ?_
  refine wpAnyH_done (by kernel_rfl) ?_ _
  refine NoPanic.normal ?_
  have q9 := Lib.hid (setRow_heap W1.drew _ _ (hc z32) _ _ r8)
  have F8 := Lib.hid (F.drew.setRow (fun h => absurd h g8l.out) (hc z32))
  have r8' : W1.drew.heap[g8]? = some (.cells Z 28 (0, 0)) := r8
  clear r7 r8 hHeld q8 F9 F
  generalize W1.drew = W2 at *
  go_wp2
  try rw [Exit.noGoto_ret]
  refine bodyPost_ret (results_cell_row_tmp rfl _ _ g8 _ _ _ _ rfl q9.out Tryd.underlying28 rfl (by rw [Tryd.szHashJ, sz])) rfl ⟨rfl, F8.out⟩
end Go.Proofs.YthpcajpiflpmdaaDoor

/- Layer 10 (merkle), the program's own: Climb. -/
namespace Go.Proofs.YthpcajpiflpmdaaDoor
set_option linter.unusedVariables false
set_option linter.unusedSimpArgs false
open Go.RowKit Go.Shelf

attribute [local go_sem] Oper.semAt_some

/-- What the rounds of Climb hold: what was climbed so far, and that the rest tells what all tells. -/
structure ClS (g4 g7 g8 g10 : Nat) (Z : Array Value) (wy : List (List UInt8)) (b : Option Addr) (d i n : Nat) (T : Option (List UInt8)) (k : Nat) (W : World) (H : List UInt8) : Prop where
  h4 : W.heap[g4]? = some (.cells (hc H) 28 (0, 0))
  h7 : W.heap[g7]? = some (.cells #[.slice b wy.length d] 22 (0, 0))
  h8 : W.heap[g8]? = some (.cells Z 28 (0, 0))
  h10 : W.heap[g10]? = some (.cells #[.int .i64 0] 29 (0, 0))
  len : H.length = 32
  way : climbM (wy.drop k) H (plk i n k).2.1 (plk i n k).2.2 = T
theorem ClS.frS {g4 g7 g8 g10 : Nat} {Z : Array Value} {wy : List (List UInt8)} {b : Option Addr} {d i n : Nat} {T : Option (List UInt8)} {k : Nat} {A D : World} {H : List UInt8} {S : Nat → Prop} (h : ClS g4 g7 g8 g10 Z wy b d i n T k A H) (f : Fr S A D) (n4 : ¬ S g4) (n7 : ¬ S g7) (n8 : ¬ S g8) (n10 : ¬ S g10) : ClS g4 g7 g8 g10 Z wy b d i n T k D H :=
  ⟨f.keeps n4 h.h4, f.keeps n7 h.h7, f.keeps n8 h.h8, f.keeps n10 h.h10, h.len, h.way⟩
theorem ClS.fr0 {g4 g7 g8 g10 : Nat} {Z : Array Value} {wy : List (List UInt8)} {b : Option Addr} {d i n : Nat} {T : Option (List UInt8)} {k : Nat} {A D : World} {H : List UInt8} (h : ClS g4 g7 g8 g10 Z wy b d i n T k A H) (f : Fr F0 A D) : ClS g4 g7 g8 g10 Z wy b d i n T k D H := h.frS f (fun e => e) (fun e => e) (fun e => e) (fun e => e)
theorem ClS.grown {g4 g7 g8 g10 B' : Nat} {Z : Array Value} {wy : List (List UInt8)} {b : Option Addr} {d i n : Nat} {T : Option (List UInt8)} {k : Nat} {A D : World} {row : Option Nat} {H : List UInt8} (h : ClS g4 g7 g8 g10 Z wy b d i n T k A H) (hg : A.grownBy D row) (hr : ∀ r, row = some r → B' ≤ r ∧ ∃ o : Obj, A.heap[r]? = some o ∧ o.isCells = false) : ClS g4 g7 g8 g10 Z wy b d i n T k D H :=
  ⟨own_csJ h.h4 hg hr, own_csJ h.h7 hg hr, own_csJ h.h8 hg hr, own_csJ h.h10 hg hr, h.len, h.way⟩
/-- .. and what a round that leaves holds. -/
structure ClX (g4 g8 g10 : Nat) (Z : Array Value) (T : Option (List UInt8)) (W : World) : Prop where
  h4 : W.heap[g4]? = some (.cells (hc z32) 28 (0, 0))
  h8 : W.heap[g8]? = some (.cells Z 28 (0, 0))
  h10 : W.heap[g10]? = some (.cells #[.int .i64 14] 29 (0, 0))
  way : T = none

set_option maxRecDepth 100000 in
set_option maxHeartbeats 16000000 in
theorem mClimb_any (h : List UInt8) (i n : Nat) (wy : List (List UInt8)) (b : Option Addr) (m d : Nat) (w : World) (hs : Hs w b d wy) (hm : m = wy.length) (hl : h.length = 32) (hi : i < n) (hb : n ≤ 65536) (hr : m = rows n) (hcub : Cub w) :
    Calls Tryd.prog 18 #[.agg (hc h), .int .i64 (i : Int), .int .i64 (n : Int), .slice b m d] w fun e w' => e = .returned (.tuple #[.agg (hc ((climbM wy h i n).getD z32)), .int .i64 (if (climbM wy h i n).isSome then 0 else 14)]) ∧ Fr F0 w w' := by
  obtain ⟨T, hT⟩ : ∃ T, T = climbM wy h i n := ⟨_, rfl⟩
  rw [← hT]
  have hT32 : ∀ v, T = some v → v.length = 32 := fun v e => climbM_length wy h v i n hl (by rw [← hT]; exact e)
  have HN := Lib.hid (fun w => mCheckN_any (n : Int) w)
  rw [show chkN (n : Int) = 0 by rw [chkN, if_neg (by omega), if_neg (by omega)]] at HN
  have HP := Lib.hid (fun w => mIsPlace_any (i : Int) (n : Int) w)
  rw [decide_eq_true (show 0 ≤ (i : Int) ∧ (i : Int) < (n : Int) by omega)] at HP
  have HR := Lib.hid (fun w => mRows_any n (by omega) hb w)
  have hR16 := rows_small n hb
  have HPl := Lib.hid (fun W => mPlaces_any i n W)
  have HQ := Lib.hid (fun g1 g2 => places_seq g1 g2 i n hi (by omega) hb)
  rw [← hr] at HR HQ hR16
  have sh := hc_size hl
  have oh := hc_one h
  have sz := hc_size z32_length
  have oz := hc_one z32
  have HS := Lib.hid hs
  have HC := Lib.hid hcub
  have hro := hs.room
  rw [← hm] at hro
  have hl' := hl
  obtain ⟨X, hX⟩ : ∃ X, X = hc h := ⟨_, rfl⟩
  rw [← hX] at sh oh ⊢
  have HH := Lib.hid (And.intro hm (And.intro hl (And.intro hi (And.intro hb hr))))
  replace hT := Lib.hid hT
  replace hT32 := Lib.hid hT32
  replace hX := Lib.hid hX
  clear hs hcub hl hl' hi hb hr hm
  refine callsIn_wide (n := 6) |>.1 ?_
  refine callsIn_of_wp_marks Tryd.func18 rfl trivial ?_ rfl
  simp only [Tryd.ntmps18, List.size_toArray, List.length_cons, List.length_nil, Nat.reduceAdd, Nat.reduceSub, Array.replicate_succ, Array.replicate_zero, List.push_toArray, List.append_toArray, List.nil_append, List.cons_append]
  refine wpIn_wide.2 ?_
  go_upto_region 1 with fail
  refine wp_new32 fun W1 Z sZ N1 => ?_
  have r8 := N1.new
  have r7 := N1.old (heap_alloc_new (w.alloc (.cells X 28)) (.cells #[.slice b m d] 22))
  have r4 := N1.old (keep_alloc (o := .cells #[.slice b m d] 22) (heap_alloc_new w (.cells X 28)))
  have F := (((Fr.refl F0 w).alloc (.cells X 28)).alloc (.cells #[.slice b m d] 22)).trans' N1.fr
  clear N1
  rw [World.size_alloc, World.size_alloc] at r8
  rw [World.size_alloc] at r7
  have hgg : ∀ x, x = w.heap.size → ¬ x < w.heap.size := fun x e => by omega
  obtain ⟨g8, hg8⟩ : ∃ g, g = w.heap.size + 1 + 1 := ⟨_, rfl⟩
  obtain ⟨g7, hg7⟩ : ∃ g, g = w.heap.size + 1 := ⟨_, rfl⟩
  obtain ⟨g4, hg4⟩ : ∃ g, g = w.heap.size := ⟨_, rfl⟩
  rw [← hg8] at r8 ⊢
  rw [← hg7] at r7 ⊢
  rw [← hg4] at r4 ⊢
  have hgs := Lib.hid (And.intro hg4 (And.intro hg7 hg8))
  clear hg4 hg7 hg8 hgg
  refine wp_scope_straight ?_
  go_wp2_with fail
  (with_reducible refine (HN.out _).mono ?_); rintro e w2 ⟨rfl, hw⟩; replace hw := hw.symm; subst hw
  go_wp2_with fail
  (with_reducible refine (HP.out _).mono ?_); rintro e w2 ⟨rfl, hw⟩; replace hw := hw.symm; subst hw
  go_upto_region 3 with fail
  refine wp_region_noPanic ?_
  refine wp_region_held_drew (S := (fun w' => w'.heap[g7]? = some (.cells #[.slice b m d] 22 (0, 0)))) (by kernel_rfl) ?_ (fun hHeld => ?_)
  · ((try dsimp only) <;> (first | exact r7 | exact hHeld))
  refine rtake 0 ?_
  refine rtake 1 ?_
  refine rtake 2 ?_
  refine wpAnyH_ready (rs := [3]) (by kernel_rfl) (by simp) ?_
  refine AllReadyH.cons (o := ⟨_, _, _, _, _, _⟩) rfl (fun K hK => ?_) AllReadyH.nil
  go_simp
  ((with_reducible refine (HR.out _).mono ?_); rintro e w3 ⟨rfl, rfl⟩)
  refine hK.out _ _ ?_ (fun hHeld => ?_)
  · ((try dsimp only) <;> (first | exact r7 | exact hHeld))
  clear hK K
  try (simp only [Act.put, List.setIfInBounds_toArray]; dsimp only [List.set_cons_zero, List.set_cons_succ])
  refine rtake 4 ?_
  refine wpAnyH_done (by kernel_rfl) ?_ _
  refine NoPanic.normal ?_
  have r8' : W1.drew.heap[g8]? = some (.cells Z 28 (0, 0)) := r8
  have r7' : W1.drew.heap[g7]? = some (.cells #[.slice b m d] 22 (0, 0)) := r7
  have r4' : W1.drew.heap[g4]? = some (.cells X 28 (0, 0)) := r4
  replace F := F.drew
  clear r7 r8 r4 hHeld HN HP HR
  generalize W1.drew = W2 at *
  go_wp2_with fail
  refine wp_new fun W3 N3 => ?_
  have r10 := N3.new
  replace r4 := N3.old r4'
  replace r7 := N3.old r7'
  replace r8 := N3.old r8'
  have n410 := Lib.hid (And.intro (N3.ne r4') (And.intro (N3.ne r7') (N3.ne r8')))
  have hg10 := Lib.hid (show ¬ W2.heap.size < w.heap.size from fun e => by have := F.size; omega)
  replace F := F.trans' N3.fr
  clear N3 r4' r7' r8'
  obtain ⟨g10, hg10e⟩ : ∃ g, g = W2.heap.size := ⟨_, rfl⟩
  rw [← hg10e] at r10 n410 hg10 ⊢
  clear hg10e
  refine wp_label ?_
  go_wp2_with fail
  (with_reducible refine (HPl.out _).mono ?_); rintro e w3 ⟨gi, gn, rfl, r5, r6, f3, gi1, gn1⟩
  have hgi := Lib.hid (show g4 < w3.heap.size ∧ g7 < w3.heap.size ∧ g8 < w3.heap.size ∧ g10 < w3.heap.size from by
    have h1 := (Array.getElem?_eq_some_iff.1 r4).1; have h2 := (Array.getElem?_eq_some_iff.1 r7).1; have h3 := (Array.getElem?_eq_some_iff.1 r8).1; have h4 := (Array.getElem?_eq_some_iff.1 r10).1; have h5 := f3.size
    omega)
  have hgi2 := Lib.hid (And.intro (Array.getElem?_eq_some_iff.1 r5).1 (Array.getElem?_eq_some_iff.1 r6).1)
  replace r4 := keep_fr f3 r4
  replace r7 := keep_fr f3 r7
  replace r8 := keep_fr f3 r8
  replace r10 := keep_fr f3 r10
  replace F := F.trans' f3
  clear f3 HPl gi1 gn1
  have hwz := Lib.hid F.size
  obtain ⟨gp, hgp⟩ : ∃ g, g = w3.heap.size + 2 := ⟨_, rfl⟩
  have hS0 : ClS g4 g7 g8 g10 Z wy b d i n T 0 w3 h := ⟨by rw [← hX.out]; exact r4, by rw [← HH.out.1]; exact r7, r8, r10, HH.out.2.1, hT.out.symm⟩
  have hOI : OwnFrom w3.heap.size (fun (pre : List (Nat × Nat × Nat)) W' => ((pre = [] → W'.heap[gi]? = some (.cells #[.int .i64 (i : Int)] 3 (0, 0)) ∧ W'.heap[gn]? = some (.cells #[.int .i64 (n : Int)] 3 (0, 0))) ∧ ∃ H, ClS g4 g7 g8 g10 Z wy b d i n T pre.length W' H) ∧ Below w.heap.size w3 W') :=
    OwnFrom.and (OwnFrom.and (fun s A D row h hgr hr e => ⟨own_csJ (h e).1 hgr hr, own_csJ (h e).2 hgr hr⟩) (fun s A D row h hgr hr => by
      obtain ⟨H, hh⟩ := h
      exact ⟨H, hh.grown hgr hr⟩)) (own_below (β := List (Nat × Nat × Nat)) w3.heap.size w.heap.size w3 (Nat.le_refl _) hwz.out)
  have hOX : ∀ c : Code, OwnFrom w3.heap.size (fun (pre : List (Nat × Nat × Nat)) W' => (c = .exit 0 ∧ ClX g4 g8 g10 Z T W') ∧ Below w.heap.size w3 W') := fun c =>
    OwnFrom.and (fun s A D row h hgr hr => ⟨h.1, own_csJ h.2.h4 hgr hr, own_csJ h.2.h8 hgr hr, own_csJ h.2.h10 hgr hr, h.2.way⟩) (own_below (β := List (Nat × Nat × Nat)) w3.heap.size w.heap.size w3 (Nat.le_refl _) hwz.out)
  have hFr := Lib.hid (show ∀ W', Below w.heap.size w3 W' → Fr F0 w W' from fun W' b => F.trans (Fr.of_below' b) fun i hi hk => by omega)
  clear r4 r7 r8 r10 F
  go_wp2_with fail
  refine (wpIn_wide (n := 6)).1 ?_
  refine range_lawP (gf := 35) (lb := #[.pointer (some ⟨gi, 0, none⟩), .pointer (some ⟨gn, 0, none⟩)]) rfl (enters_of Tryd.func35 (by kernel_rfl) rfl) (HQ.out gi gn) (fun _ => rfl) (fun h k => Kb.trans h k) (fun W o => Kb.put (by omega))
    (fun (pre : List (Nat × Nat × Nat)) W' => ((pre = [] → W'.heap[gi]? = some (.cells #[.int .i64 (i : Int)] 3 (0, 0)) ∧ W'.heap[gn]? = some (.cells #[.int .i64 (n : Int)] 3 (0, 0))) ∧ ∃ H, ClS g4 g7 g8 g10 Z wy b d i n T pre.length W' H) ∧ Below w.heap.size w3 W')
    (fun c pre W' => (c = .exit 0 ∧ ClX g4 g8 g10 Z T W') ∧ Below w.heap.size w3 W')
    hOI hOX
    (fun pre W' h => h.1.1)
    (fun pre A cs h hA => by
      have f : Fr (fun k => k = gp) A (A.setRow (w3.heap.size + 2) cs) := by rw [← hgp]; exact (Fr.refl (fun k => k = gp) A).setRow (g := gp) (fun _ => rfl) cs
      obtain ⟨⟨h1, H, h2⟩, h3⟩ := h
      have hg := hgi.out
      exact ⟨⟨fun e => ⟨f.keeps (by have := hgi2.out.1; omega) (h1 e).1, f.keeps (by have := hgi2.out.2; omega) (h1 e).2⟩, H, h2.frS f (by omega) (by omega) (by omega) (by omega)⟩,
        h3.trans (f.below (Nat.le_trans hwz.out h3.size) fun k hk e => by have := hwz.out; omega)⟩)
    ⟨⟨fun _ => ⟨r5, r6⟩, _, hS0⟩, Below.refl _ _⟩
    (fun pre x a' W' => ∃ g11, a' = { tmps := #[.agg X, .int .i64 (i : Int), .int .i64 (n : Int), .slice b m d, .pointer (some ⟨g4, 0, none⟩), undef, undef, .pointer (some ⟨g7, 0, none⟩), .pointer (some ⟨g8, 0, none⟩), .int .i64 0, .pointer (some ⟨g10, 0, none⟩), .pointer (some ⟨g11, 0, none⟩), undef, .int .i64 (n : Int), .int .i64 0, .bool false, .bool false, .int .i64 (i : Int), .int .i64 (n : Int), .bool true, .bool false, .bool false, undef, .slice b m d, .int .i64 (m : Int), .int .i64 (n : Int), .int .i64 (m : Int), .bool false, undef, .int .i64 (i : Int), .int .i64 (n : Int), .func (.func 35) #[] #[.pointer (some ⟨gi, 0, none⟩), .pointer (some ⟨gn, 0, none⟩)], .agg (plC x.1 x.2.1 x.2.2), undef, undef, undef, undef, undef, undef, undef, undef, undef, undef, undef, undef, undef, undef, undef, undef, undef, undef, undef, undef, undef, undef, undef, undef, undef, undef], defers := [] } ∧
      W'.heap[g11]? = some (.cells (plC x.1 x.2.1 x.2.2) 58 (0, 0)) ∧ g11 ≠ g4 ∧ g11 ≠ g10 ∧ gp < W'.heap.size ∧ x = plk i n pre.length ∧ pre.length < m)
    (fun pre x a' sx A D row h hgr hr => by
      obtain ⟨g11, e, h9, r⟩ := h
      exact ⟨g11, e, own_csJ h9 hgr hr, r.1, r.2.1, Nat.lt_of_lt_of_le r.2.2.1 hgr.size, r.2.2.2⟩) ?assign ?body ?done ?stop
  case assign =>
    intro l2 pre x W0 W' K hi0 f0 hsz hnx hK
    obtain ⟨k, hkR, hpre, hxk⟩ := hnx
    have hpl : pre.length = k := by rw [hpre, pls_length]
    have sP : (plC x.1 x.2.1 x.2.2).size = 3 := rfl
    have oP := plC_one x.1 x.2.1 x.2.2
    have hx2 := hxk
    clear hxk
    obtain ⟨P, hP⟩ : ∃ P, P = plC x.1 x.2.1 x.2.2 := ⟨_, rfl⟩
    rw [← hP] at sP oP
    simp only [encP]
    rw [← hP] at hK ⊢
    replace hP := Lib.hid hP
    have hi4 := own_frI hOI hi0 f0
    gi_wp2
    refine any_putJ (P := K _) fun W4 N4 => ?_
    obtain ⟨H, hs⟩ := hi4.1.2
    have hi5 := own_frI hOI hi0 (f0.trans' N4.fr)
    refine hK _ _ ⟨N4.fr.size, fun k o _ ho2 _ => N4.old ho2⟩ (Kb.fr N4.fr fun e => e) hi5 ?_
    have h1 := (Array.getElem?_eq_some_iff.1 hs.h4).1
    have h2 := (Array.getElem?_eq_some_iff.1 hs.h10).1
    exact ⟨_, rfl, N4.new, by omega, by omega, by have := N4.fr.size; omega, by rw [hpl]; exact hx2, by rw [hpl, HH.out.2.2.2.2]; exact hkR⟩
  case body =>
    rintro l2 pre x a' W' hi ⟨g11, rfl, q11, n114, n1110, hgpl, hxk, hkm⟩
    obtain ⟨r_, at_, wd_⟩ := x
    simp only at q11 ⊢
    obtain ⟨H, S⟩ := hi.1.2
    have e0 : r_ = pre.length := by have := plk_1 i n pre.length; rw [← hxk] at this; exact this
    have e1 : at_ = (plk i n pre.length).2.1 := by rw [← hxk]
    have e2 : wd_ = (plk i n pre.length).2.2 := by rw [← hxk]
    have hat : at_ < wd_ := by rw [e1, e2]; exact plk_lt i n HH.out.2.2.1 _
    have hrk := plk_rows i n pre.length (by have := HH.out.2.2.2.2; omega)
    rw [← e2, ← HH.out.2.2.2.2] at hrk
    have hwd : 1 < wd_ := Classical.byContradiction fun hn => by rw [rows_le (by omega)] at hrk; omega
    have hwd1 : wd_ ≤ 100000 := by have := plk_le i n pre.length; rw [← e2] at this; have := HH.out.2.2.2.1; omega
    have hkl : pre.length < wy.length := by have := HH.out.1; omega
    have hway := S.way
    rw [← e1, ← e2, List.drop_eq_getElem_cons hkl, climbM_cons _ _ _ _ _ (by omega)] at hway
    have hXl := HS.out.ok.get hkl
    obtain ⟨bb, off, rfl, HLq, _⟩ := HS.out.load pre.length hkl
    obtain ⟨X2, hX2⟩ : ∃ X, X = wy.getD pre.length [] := ⟨_, rfl⟩
    rw [← hX2] at HLq hXl
    rw [show wy[pre.length] = X2 by rw [hX2, List.getD_eq_getElem?_getD, List.getElem?_eq_getElem hkl]; rfl] at hway
    rw [← e0] at HLq
    have hFW := hFr.out _ hi.2
    have HL1 := HLq W' hFW
    have sY := hc_size hXl
    have oY := hc_one X2
    have sH := hc_size S.len
    have oH := hc_one H
    have HAl := Lib.hid (fun W => mAlone_any r_ at_ wd_ (by omega) (by omega) W)
    have heq := fun w => run_equalIn_hashJ w X2 H hXl S.len
    obtain ⟨EQ, hEQ⟩ : ∃ b, b = decide (X2 = H) := ⟨_, rfl⟩
    obtain ⟨AL, hAL⟩ : ∃ b, b = alone at_ wd_ := ⟨_, rfl⟩
    rw [← hEQ, ← hAL] at hway
    rw [← hEQ] at heq
    rw [← hAL] at HAl
    have hPn := Lib.hid (show plk i n (pre.length + 1) = (r_ + 1, at_ / 2, (wd_ + 1) / 2) by rw [plk, ← hxk])
    have hpl : (pre ++ [(r_, at_, wd_)]).length = pre.length + 1 := by simp
    have hg := Lib.hid hgi.out
    have hgw := Lib.hid hgs.out
    have HNo : Hid ((EQ != AL) = false → ∀ W5, Fr F0 W' W5 → KeepsFrom w3.heap.size W' (W5.setRow g4 (hc (stpM at_ H X2))) ∧ Kb (w3.heap.size + 2) W' (W5.setRow g4 (hc (stpM at_ H X2))) ∧ (((pre ++ [(r_, at_, wd_)] = [] → (W5.setRow g4 (hc (stpM at_ H X2))).heap[gi]? = some (.cells #[.int .i64 (i : Int)] 3 (0, 0)) ∧ (W5.setRow g4 (hc (stpM at_ H X2))).heap[gn]? = some (.cells #[.int .i64 (n : Int)] 3 (0, 0))) ∧
        ∃ H', ClS g4 g7 g8 g10 Z wy (some ⟨bb, off, none⟩) d i n T (pre ++ [(r_, at_, wd_)]).length (W5.setRow g4 (hc (stpM at_ H X2))) H') ∧ Below w.heap.size w3 (W5.setRow g4 (hc (stpM at_ H X2))))) := by
      intro hne W5 f5
      have f6 : Fr (fun k => k = g4) W5 (W5.setRow g4 (hc (stpM at_ H X2))) := (Fr.refl (fun k => k = g4) W5).setRow (g := g4) (fun _ => rfl) _
      have z1 := f5.size
      have z2 := f6.size
      have z0 := hi.2.size
      have S5 := S.fr0 f5
      have hg' := hg.out
      have hg2 := hgw.out
      refine ⟨⟨by omega, fun k o hk ho2 hc2 => f6.keeps (by omega) (keep_fr f5 ho2)⟩, fun o ho2 => f6.keeps (by omega) (keep_fr f5 ho2), ⟨fun e => absurd e (by simp), stpM at_ H X2, setRow_heap _ _ _ _ _ _ S5.h4, f6.keeps (by omega) S5.h7, f6.keeps (by omega) S5.h8, f6.keeps (fun e => n410.out.1 e.symm) S5.h10, stpM_length _ _ _, ?_⟩, ?_⟩
      · rw [hpl, hPn.out]
        rw [if_neg (by rw [hne]; decide)] at hway
        exact hway
      · exact (hi.2.trans (f5.below (B := w.heap.size) (by have := hwz.out; omega) fun k hk e => e)).trans (f6.below (B := w.heap.size) (by have := hwz.out; omega) fun k hk e => by omega)
    have HXo : Hid ((EQ != AL) = true → ∀ W5, Fr F0 W' W5 → KeepsFrom w3.heap.size W' ((W5.setRow g4 (hc z32)).setCell ⟨g10, 0, none⟩ (.int .i64 14)) ∧ ((Code.exit 0 = Code.exit 0 ∧ ClX g4 g8 g10 Z T ((W5.setRow g4 (hc z32)).setCell ⟨g10, 0, none⟩ (.int .i64 14))) ∧ Below w.heap.size w3 ((W5.setRow g4 (hc z32)).setCell ⟨g10, 0, none⟩ (.int .i64 14))) ∧ Kb (w3.heap.size + 2) W' ((W5.setRow g4 (hc z32)).setCell ⟨g10, 0, none⟩ (.int .i64 14))) := by
      intro hne W5 f5
      have f6 : Fr (fun k => k = g4) W5 (W5.setRow g4 (hc z32)) := (Fr.refl (fun k => k = g4) W5).setRow (g := g4) (fun _ => rfl) _
      have f7 : Fr (fun k => k = g10) (W5.setRow g4 (hc z32)) ((W5.setRow g4 (hc z32)).setCell ⟨g10, 0, none⟩ (.int .i64 14)) := (Fr.refl (fun k => k = g10) _).setCell (p := ⟨g10, 0, none⟩) (fun _ => rfl) _
      have z1 := f5.size
      have z2 := f6.size
      have z3 := f7.size
      have z0 := hi.2.size
      have S5 := S.fr0 f5
      have hg' := hg.out
      have hg2 := hgw.out
      have hq10 := hg10.out
      have h10 := f6.keeps (fun e => n410.out.1 e.symm) S5.h10
      refine ⟨⟨by omega, fun k o hk ho2 hc2 => f7.keeps (by omega) (f6.keeps (by omega) (keep_fr f5 ho2))⟩, ⟨⟨rfl, f7.keeps n410.out.1 (setRow_heap _ _ _ _ _ _ S5.h4), f7.keeps n410.out.2.2 (f6.keeps (by omega) S5.h8), by rw [heap_setCell_at, h10]; rfl, ?_⟩, ?_⟩, fun o ho2 => f7.keeps (by omega) (f6.keeps (by omega) (keep_fr f5 ho2))⟩
      · rw [if_pos hne] at hway
        exact hway.symm
      · exact ((hi.2.trans (f5.below (B := w.heap.size) (by have := hwz.out; omega) fun k hk e => e)).trans (f6.below (B := w.heap.size) (by have := hwz.out; omega) fun k hk e => by omega)).trans (f7.below (B := w.heap.size) (by have := hwz.out; omega) fun k hk e => hq10 (by rw [← e]; exact hk))
    have HJ1 := Lib.hid (fun W (f : Fr F0 w W) => mJoined_any H X2 S.len hXl W (HC.out.fr f fun e => e))
    have HJ2 := Lib.hid (fun W (f : Fr F0 w W) => mJoined_any X2 H hXl S.len W (HC.out.fr f fun e => e))
    have hSl := stpM_length at_ H X2
    have sN := hc_size hSl
    have oN := hc_one (stpM at_ H X2)
    have hst := Lib.hid (show stpM at_ H X2 = if at_ % 2 = 1 then hh X2 H else hh H X2 from rfl)
    have hkl2 := Lib.hid (show r_ < m by omega)
    have q4 := S.h4
    have q7 := S.h7
    rw [← HH.out.1] at q7
    have q10 := S.h10
    have hl1 : (r_ : Int) < (m : Int) := by omega
    have hfw := Lib.hid hFW
    clear hway hEQ hxk e0 e1 e2 hrk hX2 hpl HLq hFW hOI hOX hkl hkm
    obtain ⟨NH, hNH⟩ : ∃ NH, NH = stpM at_ H X2 := ⟨_, rfl⟩
    rw [← hNH] at HNo sN oN hst
    replace hNH := Lib.hid hNH
    replace hAL := Lib.hid hAL
    have sP : (plC r_ at_ wd_).size = 3 := rfl
    have cP0 : (plC r_ at_ wd_)[0]? = some (.int .i64 (r_ : Int)) := rfl
    have cP1 : (plC r_ at_ wd_)[1]? = some (.int .i64 (at_ : Int)) := rfl
    obtain ⟨P, hP⟩ : ∃ P, P = plC r_ at_ wd_ := ⟨_, rfl⟩
    rw [← hP] at q11 HAl sP cP0 cP1 ⊢
    clear hP
    have dP0 := cell_is cP0 (by omega)
    have dP1 := cell_is cP1 (by omega)
    gi_upto_region 10 with fail
    refine wpIn_putJ fun W4 N4 => ?_
    have q12 := N4.new
    have p11 := N4.old q11
    have p4 := N4.old q4
    have p10 := N4.old q10
    have f4 := N4.fr
    clear N4 HL1
    obtain ⟨g12, hg12⟩ : ∃ g, g = W'.heap.size := ⟨_, rfl⟩
    rw [← hg12] at q12 ⊢
    replace hg12 := Lib.hid hg12
    refine region_roundH (S := (fun w' => (w'.heap[g11]? = some (.cells P 58 (0, 0)) ∧ w'.heap[g12]? = some (.cells (hc X2) 28 (0, 0)) ∧ w'.heap[g4]? = some (.cells (hc H) 28 (0, 0)) ∧ w'.heap[g10]? = some (.cells #[.int .i64 0] 29 (0, 0))) ∧ Fr F0 W' w')) (by kernel_rfl) (by kernel_rfl) (fun _ _ h => h) ?_ (fun hHeld => ?_)
    · ((try dsimp only) <;> (first | exact ⟨⟨p11, q12, p4, p10⟩, f4.drew⟩ | exact hHeld | exact ⟨⟨keep_fr f5 hHeld.1.1, keep_fr f5 hHeld.1.2.1, keep_fr f5 hHeld.1.2.2.1, keep_fr f5 hHeld.1.2.2.2⟩, hHeld.2.trans' f5⟩))
    refine rtake 0 ?_
    refine rtake 2 ?_
    refine rtake 3 ?_
    refine rtake 4 ?_
    refine wpAnyH_ready (rs := [1]) (by kernel_rfl) (by simp) ?_
    refine AllReadyH.cons (o := ⟨_, _, _, _, _, _⟩) rfl (fun K hK => ?_) AllReadyH.nil
    go_simp
    ((with_reducible refine (HAl.out _).mono ?_); rintro e w5 ⟨rfl, f5⟩)
    refine hK.out _ _ ?_ (fun hHeld => ?_)
    · ((try dsimp only) <;> (first | exact ⟨⟨p11, q12, p4, p10⟩, f4.drew⟩ | exact hHeld | exact ⟨⟨keep_fr f5 hHeld.1.1, keep_fr f5 hHeld.1.2.1, keep_fr f5 hHeld.1.2.2.1, keep_fr f5 hHeld.1.2.2.2⟩, hHeld.2.trans' f5⟩))
    clear hK K
    try (simp only [Act.put, List.setIfInBounds_toArray]; dsimp only [List.set_cons_zero, List.set_cons_succ])
    refine rtake 5 ?_
    refine rtake 6 ?_
    refine wpAnyH_done (by kernel_rfl) ?_ _
    refine NoPanic.normal ?_
    obtain ⟨⟨e11, e12, e4, e10⟩, f9⟩ := hHeld
    have F9 := Lib.hid (hfw.out.trans' f9)
    have G9 := Lib.hid f9
    clear p11 p4 p10 f4 q12 q11 q4 q7 q10 f5 hl1 f9 heq HAl
    by_cases hne : (EQ != AL) = true
    · have HX := Lib.hid (HXo.out hne w5 G9.out)
      have n104 : g10 ≠ g4 := fun e => n410.out.1 e.symm
      clear HXo HNo HJ1 HJ2
      cases EQ <;> cases AL <;> first | (cases hne; done) | skip
      all_goals
        clear hne
        gi_wp2
        exact ⟨HX.out.1, ⟨⟨rfl, HX.out.2.1.1.2⟩, HX.out.2.1.2⟩, HX.out.2.2⟩
    · have hne' : (EQ != AL) = false := by cases h9 : (EQ != AL) <;> simp_all
      have hae : AL = EQ := by cases EQ <;> cases AL <;> first | rfl | cases hne'
      have HN9 := Lib.hid (HNo.out hne')
      clear HXo HNo hne hne'
      subst hae
      cases AL
      all_goals
        by_cases hodd : at_ % 2 = 1
        · have l2 : ((at_ : Int) % 2 == 0) = false := by rw [beq_eq_false_iff_ne]; omega
          have HJ := Lib.hid (HJ2.out w5 F9.out)
          rw [show hh X2 H = NH by rw [hst.out, if_pos hodd]] at HJ
          clear HJ1 HJ2 hodd
          gi_wp2
          refine ⟨trivial, ?_⟩
          (with_reducible refine (callsIn_round HJ.out).mono ?_); rintro e w6 ⟨rfl, f6⟩
          have e46 := keep_fr f6 e4
          have HN6 := Lib.hid (HN9.out w6 (G9.out.trans' f6))
          clear HJ e11 e12 e4 e10 f6
          gi_wp2
          exact HN6.out
        · have l2 : ((at_ : Int) % 2 == 0) = true := by rw [beq_iff_eq]; omega
          have HJ := Lib.hid (HJ1.out w5 F9.out)
          rw [show hh H X2 = NH by rw [hst.out, if_neg hodd]] at HJ
          clear HJ1 HJ2 hodd
          gi_wp2
          refine ⟨trivial, ?_⟩
          (with_reducible refine (callsIn_round HJ.out).mono ?_); rintro e w6 ⟨rfl, f6⟩
          have e46 := keep_fr f6 e4
          have HN6 := Lib.hid (HN9.out w6 (G9.out.trans' f6))
          clear HJ e11 e12 e4 e10 f6
          gi_wp2
          exact HN6.out
  case done =>
    rintro D ys W' hD hy hi hK
    have h9 := hOI.putObj (.deferred none) hi hD hK rfl
    obtain ⟨H, hs⟩ := hi.1.2
    have hy2 : ys.length = m := by rw [hy, pls_length, HH.out.2.2.2.2]
    have hrk := plk_rows i n m (by rw [← HH.out.2.2.2.2]; exact Nat.le_refl _)
    have hw1 : (plk i n m).2.2 = 1 := by have h1 := rows_0 (n := (plk i n m).2.2) (by have := HH.out.2.2.2.2; omega); have h2 := plk_pos i n (by have := HH.out.2.2.1; omega) m; omega
    have eT := hs.way
    rw [hy2, List.drop_eq_nil_of_le (by rw [← HH.out.1]; exact Nat.le_refl _), climbM, if_pos hw1] at eT
    have hbl := hi.2
    have e4 := hs.h4
    have e10 := hs.h10
    have e8 := hs.h8
    have sV := hc_size hs.len
    have oV := hc_one H
    have HRes := Lib.hid (show (.returned (.tuple #[.agg (hc H), .int .i64 0]) : Ending) = .returned (.tuple #[.agg (hc (T.getD z32)), .int .i64 (if T.isSome then 0 else 14)]) by rw [← eT]; rfl)
    clear hs hi h9 eT hw1 hrk
    generalize hc H = VV at *
    have n48 : g4 ≠ g8 := by have := hgs.out; omega
    have n108 : g10 ≠ g8 := fun e => n410.out.2.2 e.symm
    have nD8 : D ≠ g8 := by have := hgi.out; omega
    have g8l : ¬ g8 < w.heap.size := by have := hgs.out; omega
    have FW := Lib.hid (hFr.out _ hbl)
    clear hOI hOX
    gi_wp2
    go_upto_region 14 with fail
    refine wp_region_noPanic ?_
    refine wp_region_held_drew (S := (fun w' => w'.heap[g4]? = some (.cells VV 28 (0, 0)) ∧ w'.heap[g10]? = some (.cells #[.int .i64 0] 29 (0, 0)))) (by kernel_rfl) ?_ (fun hHeld => ?_)
    · ((try dsimp only) <;> (first | exact ⟨e4, e10⟩ | exact hHeld | exact ⟨(setRow_other _ _ _ _ n48).trans hHeld.1, (setRow_other _ _ _ _ n108).trans hHeld.2⟩))
    refine rtake 0 ?_
    refine rtake 1 ?_
    refine wpAnyH_ready (rs := [2]) (by kernel_rfl) (by simp) ?_
    refine AllReadyH.cons (o := ⟨_, _, _, _, _, _⟩) rfl (fun K hK => ?_) AllReadyH.nil
    go_simp
    refine hK.out _ _ ?_ (fun hHeld => ?_)
    · ((try dsimp only) <;> (first | exact ⟨e4, e10⟩ | exact hHeld | exact ⟨(setRow_other _ _ _ _ n48).trans hHeld.1, (setRow_other _ _ _ _ n108).trans hHeld.2⟩))
    clear hK K
    try (simp only [Act.put, List.setIfInBounds_toArray]; dsimp only [List.set_cons_zero, List.set_cons_succ])
    refine rtake 3 ?_
    refine wpAnyH_done (by kernel_rfl) ?_ _
    refine NoPanic.normal ?_
    have q8 := setRow_heap W'.drew g8 _ VV _ _ e8
    have qD : (W'.drew.setRow g8 VV).heap[D]? = some (.deferred (some [])) := (setRow_other _ _ _ _ nD8).trans hK
    have F9 := Lib.hid (FW.out.drew.setRow (fun h => absurd h g8l) VV)
    clear hHeld e4 e10 e8
    generalize W'.drew.setRow g8 VV = W6 at *
    go_wp2
    try rw [Exit.noGoto_ret]
    refine ⟨by simp, .inl ⟨_, _, rfl, run_takeDeferred qD, ?_⟩⟩
    refine ⟨_, results_cell_row_tmp rfl _ _ g8 _ _ _ _ rfl ((World.putObj_heap_other (fun e => nD8 e.symm)).trans q8) Tryd.underlying28 rfl (by rw [Tryd.szHashJ, sV]), ?_⟩
    exact ⟨HRes.out, F9.out.trans (T := fun k => k = D) ⟨rfl, rfl, rfl, by simp [World.putObj], fun k hk hne => World.putObj_heap_other hne⟩ (fun i hi e => by have := hwz.out; omega)⟩
  case stop =>
    rintro D cc pre W' hD ⟨⟨rfl, hx⟩, hbl⟩ hK
    have e4 := hx.h4
    have e10 := hx.h10
    have e8 := hx.h8
    have sV := sz
    have oV := oz
    have HRes := Lib.hid (show (.returned (.tuple #[.agg (hc z32), .int .i64 14]) : Ending) = .returned (.tuple #[.agg (hc (T.getD z32)), .int .i64 (if T.isSome then 0 else 14)]) by rw [hx.way]; rfl)
    clear hx
    generalize hc z32 = VV at *
    have n48 : g4 ≠ g8 := by have := hgs.out; omega
    have n108 : g10 ≠ g8 := fun e => n410.out.2.2 e.symm
    have nD8 : D ≠ g8 := by have := hgi.out; omega
    have g8l : ¬ g8 < w.heap.size := by have := hgs.out; omega
    have FW := Lib.hid (hFr.out _ hbl)
    clear hOI hOX
    gi_wp2
    go_upto_region 14 with fail
    refine wp_region_noPanic ?_
    refine wp_region_held_drew (S := (fun w' => w'.heap[g4]? = some (.cells VV 28 (0, 0)) ∧ w'.heap[g10]? = some (.cells #[.int .i64 14] 29 (0, 0)))) (by kernel_rfl) ?_ (fun hHeld => ?_)
    · ((try dsimp only) <;> (first | exact ⟨e4, e10⟩ | exact hHeld | exact ⟨(setRow_other _ _ _ _ n48).trans hHeld.1, (setRow_other _ _ _ _ n108).trans hHeld.2⟩))
    refine rtake 0 ?_
    refine rtake 1 ?_
    refine wpAnyH_ready (rs := [2]) (by kernel_rfl) (by simp) ?_
    refine AllReadyH.cons (o := ⟨_, _, _, _, _, _⟩) rfl (fun K hK => ?_) AllReadyH.nil
    go_simp
    refine hK.out _ _ ?_ (fun hHeld => ?_)
    · ((try dsimp only) <;> (first | exact ⟨e4, e10⟩ | exact hHeld | exact ⟨(setRow_other _ _ _ _ n48).trans hHeld.1, (setRow_other _ _ _ _ n108).trans hHeld.2⟩))
    clear hK K
    try (simp only [Act.put, List.setIfInBounds_toArray]; dsimp only [List.set_cons_zero, List.set_cons_succ])
    refine rtake 3 ?_
    refine wpAnyH_done (by kernel_rfl) ?_ _
    refine NoPanic.normal ?_
    have q8 := setRow_heap W'.drew g8 _ VV _ _ e8
    have qD : (W'.drew.setRow g8 VV).heap[D]? = some (.deferred (some [])) := (setRow_other _ _ _ _ nD8).trans hK
    have F9 := Lib.hid (FW.out.drew.setRow (fun h => absurd h g8l) VV)
    clear hHeld e4 e10 e8
    generalize W'.drew.setRow g8 VV = W6 at *
    go_wp2
    try rw [Exit.noGoto_ret]
    refine ⟨by simp, .inl ⟨_, _, rfl, run_takeDeferred qD, ?_⟩⟩
    refine ⟨_, results_cell_row_tmp rfl _ _ g8 _ _ _ _ rfl ((World.putObj_heap_other (fun e => nD8 e.symm)).trans q8) Tryd.underlying28 rfl (by rw [Tryd.szHashJ, sV]), ?_⟩
    exact ⟨HRes.out, F9.out.trans (T := fun k => k = D) ⟨rfl, rfl, rfl, by simp [World.putObj], fun k hk hne => World.putObj_heap_other hne⟩ (fun i hi e => by have := hwz.out; omega)⟩
end Go.Proofs.YthpcajpiflpmdaaDoor

/- Layer 10 (merkle): Check; the law's plain and same. -/
namespace Go.Proofs.YthpcajpiflpmdaaDoor
set_option linter.unusedVariables false
set_option linter.unusedSimpArgs false
open Go.RowKit Go.Shelf

set_option maxRecDepth 100000 in
set_option maxHeartbeats 8000000 in
theorem mCheck_of (root h V : List UInt8) (i n E : Int) (b : Option Addr) (m d : Nat) (w : World) (hr : root.length = 32) (hl : h.length = 32) (hV : V.length = 32)
    (HCl : ∀ W, Fr F0 w W → Calls Tryd.prog 18 #[.agg (hc h), .int .i64 i, .int .i64 n, .slice b m d] W fun e w' => e = .returned (.tuple #[.agg (hc V), .int .i64 E]) ∧ Fr F0 W w') :
    Calls Tryd.prog 12 #[.agg (hc root), .agg (hc h), .int .i64 i, .int .i64 n, .slice b m d] w fun e w' => e = .returned (.bool (decide (E = 0) && decide (V = root))) ∧ Fr F0 w w' := by
  have H := Lib.hid HCl
  have heq := fun w => run_equalIn_hashJ w V root hV hr
  have s1 := hc_size hr
  have s2 := hc_size hl
  have s3 := hc_size hV
  have o3 := hc_one V
  generalize hc root = X at *
  generalize hc h = Y at *
  generalize hc V = Z at *
  generalize decide (V = root) = EQ at *
  clear HCl hr hl hV
  go_enter Tryd.func12, Tryd.ntmps12
  go_upto_region 1 with fail
  refine wp_new fun W1 N1 => ?_
  have r6 := N1.new
  have r5 := N1.old (heap_alloc_new w (.cells X 28))
  have F := ((Fr.refl F0 w).alloc (.cells X 28)).trans' N1.fr
  clear N1
  rw [World.size_alloc] at r6
  obtain ⟨g6, hg6⟩ : ∃ g, g = w.heap.size + 1 := ⟨_, rfl⟩
  obtain ⟨g5, hg5⟩ : ∃ g, g = w.heap.size := ⟨_, rfl⟩
  rw [← hg6] at r6 ⊢
  rw [← hg5] at r5 ⊢
  clear hg5 hg6
  go_wp2_with fail
  (with_reducible refine (H.out _ F).mono ?_); rintro e w2 ⟨rfl, f⟩
  replace r5 := keep_fr f r5
  replace F := F.trans' f
  clear H f r6
  go_upto_region 2 with fail
  refine wp_put fun W3 N3 => ?_
  have r11 := N3.new
  replace r5 := N3.old r5
  replace F := F.trans' N3.fr
  clear N3
  generalize w2.heap.size = g11 at *
  by_cases h0 : E = 0
  · subst h0
    go_wp2
    go_ret
    exact ⟨by simp, F⟩
  · have l1 : ((E : Int) == 0) = false := beq_eq_false_iff_ne.2 h0
    replace h0 := Lib.hid h0
    go_wp2
    go_ret
    exact ⟨by simp [decide_eq_false h0.out], F⟩

set_option maxRecDepth 100000 in
set_option maxHeartbeats 8000000 in
theorem plain10_any (l : List (List UInt8)) (a : Option Addr) (n c : Nat) (w : World) (h : Hs w a c l) (hn : n = l.length) (hl : l.length ≤ 1000) :
    Calls Tryd.prog 9 #[.slice a n c] w (NewHs l w) := by
  have HH := Lib.hid h
  have hN : n ≤ 1000 := by omega
  have hr := h.room
  rw [← hn] at hr
  replace hn := Lib.hid hn
  clear h hl
  go_enter Tryd.func9, Tryd.ntmps9
  go_wp2
  go_loopw [3, 8] (fun ov iv wr => ∃ (k : Nat), k ≤ n ∧ iv = .int .i64 (k : Int) ∧ OwnL 27 w.heap.size wr ov (l.take k) ∧ Fr F0 w wr) (fun _ iv _ => n - (intOf iv).toNat)
  case atStart => exact ⟨0, Nat.zero_le _, rfl, OwnL.nil _ _ _, Fr.refl _ _⟩
  case round =>
    obtain ⟨k, hk, rfl, ho, fo⟩ := hrel
    by_cases hlt : k < n
    · have hkl : k < l.length := by have := hn.out; omega
      obtain ⟨b, off, rfl, HL, _⟩ := HH.out.load k hkl
      have hXl := HH.out.ok.get hkl
      have hT : l.take (k + 1) = l.take k ++ [l.getD k []] := by rw [List.take_succ_eq_append_getElem hkl, List.getD_eq_getElem?_getD, List.getElem?_eq_getElem hkl]; rfl
      have hL1 := HL wr fo
      obtain ⟨X, hX⟩ : ∃ X, X = l.getD k [] := ⟨_, rfl⟩
      rw [← hX] at hL1 hXl hT
      have sX := hc_size hXl
      have oX := hc_one X
      have l1 : (k : Int) < (n : Int) := by omega
      have hlen : (l.take k).length ≤ 1000 := by rw [List.length_take]; omega
      have HO := Lib.hid (fun W (f : Fr F0 wr W) => (ho.fr0 f).appA X hXl (by have := fo.size; have := f.size; omega) (by omega) 25)
      have HB := Lib.hid (show ∀ j, u3.ownBlock = some j → j < w.heap.size → False from fun j e hj => by have := ho.blk j e; omega)
      obtain ⟨tl, htl⟩ : ∃ n, n = (l.take k).length + 1 := ⟨_, rfl⟩
      rw [← htl] at HO
      have hbl := fun W => run_buildLa W (hc X) sX
      replace htl := Lib.hid htl
      replace hlen := Lib.hid hlen
      replace hT := Lib.hid hT
      clear hX HL ho hXl
      go_upto_region 5 with fail
      refine wp_put fun W4 N4 => ?_
      have r5 := N4.new
      have f4 := N4.fr
      clear N4 hL1
      generalize wr.heap.size = g5 at *
      obtain ⟨a5, c5, w5, happ, ho5, f6, hs5, hb5⟩ := HO.out W4 f4
      have f7 : Fr F0 w w5 := (fo.trans' f4).trans f6 (fun i hi e => HB.out i e hi)
      replace ho5 := Lib.hid ho5
      replace f7 := Lib.hid f7
      clear f6 hs5 hb5 fo f4 HO
      go_wp2
      go_roundw
      case rel => exact ⟨k + 1, by omega, by go_num, by rw [hT.out]; exact ho5.out, f7.out⟩
      case measure => simp [intOf]; omega
    · obtain rfl : k = n := by omega
      rw [List.take_of_length_le (by have := hn.out; omega)] at ho
      have R := Lib.hid (ho.new_ fo)
      clear ho fo
      go_wp2
      go_ret
      exact R.out

set_option maxRecDepth 100000 in
set_option maxHeartbeats 8000000 in
theorem same10_any (l1 l2 : List (List UInt8)) (a b : Option Addr) (n1 n2 c d : Nat) (w : World) (h1 : Hs w a c l1) (h2 : Hs w b d l2) (e1 : n1 = l1.length) (e2 : n2 = l2.length) (hl : l1.length ≤ 1000) :
    Calls Tryd.prog 16 #[.slice a n1 c, .slice b n2 d] w fun e w' => e = .returned (.bool (decide (l1 = l2))) ∧ Fr F0 w w' := by
  have HH := Lib.hid (And.intro h1 h2)
  have r1 := h1.room
  have r2 := h2.room
  rw [← e1] at r1
  rw [← e2] at r2
  replace e1 := Lib.hid e1
  replace e2 := Lib.hid e2
  clear h1 h2
  obtain ⟨DQ, hDQ⟩ : ∃ q, q = decide (l1 = l2) := ⟨_, rfl⟩
  rw [← hDQ]
  replace hDQ := Lib.hid hDQ
  by_cases hne : n1 = n2
  · have l0 : ((n1 : Int) != (n2 : Int)) = false := by rw [hne]; simp
    go_enter Tryd.func16, Tryd.ntmps16
    go_wp2
    go_loopw [13] (fun iv wr => ∃ (k : Nat), k ≤ n1 ∧ iv = .int .i64 (k : Int) ∧ Hid (l1.take k = l2.take k) ∧ Fr F0 w wr) (fun iv _ => n1 - (intOf iv).toNat)
    case atStart => exact ⟨0, Nat.zero_le _, rfl, rfl, Fr.refl _ _⟩
    case round =>
      obtain ⟨k, hk, rfl, hT, fo⟩ := hrel
      by_cases hlt : k < n1
      · have k1 : k < l1.length := by have := e1.out; omega
        have k2 : k < l2.length := by have := e2.out; omega
        obtain ⟨bb, off, rfl, HL1, _⟩ := HH.out.1.load k k1
        obtain ⟨cc, of2, rfl, _, HL2⟩ := HH.out.2.load k k2
        have heq := fun w => run_equalIn_hashJ w (l1.getD k []) (l2.getD k []) (HH.out.1.ok.get k1) (HH.out.2.ok.get k2)
        have t1 : l1.take (k + 1) = l1.take k ++ [l1.getD k []] := by rw [List.take_succ_eq_append_getElem k1, List.getD_eq_getElem?_getD, List.getElem?_eq_getElem k1]; rfl
        have t2 : l2.take (k + 1) = l2.take k ++ [l2.getD k []] := by rw [List.take_succ_eq_append_getElem k2, List.getD_eq_getElem?_getD, List.getElem?_eq_getElem k2]; rfl
        obtain ⟨EQ, hEQ⟩ : ∃ q, q = decide (l1.getD k [] = l2.getD k []) := ⟨_, rfl⟩
        rw [← hEQ] at heq
        have hyes : Hid (EQ = true → l1.take (k + 1) = l2.take (k + 1)) := fun e => by
          rw [hEQ, decide_eq_true_iff] at e
          rw [t1, t2, hT.out, e]
        have hno : Hid (EQ = false → DQ = false) := fun e => by
          rw [hEQ, decide_eq_false_iff_not] at e
          rw [hDQ.out, decide_eq_false_iff_not]
          exact fun e9 => e (by rw [e9])
        have hlt1 : (k : Int) < (n1 : Int) := by omega
        have hlt2 : (k : Int) < (n2 : Int) := by omega
        have HLs := Lib.hid (And.intro HL1 HL2)
        generalize hc (l1.getD k []) = X at *
        generalize hc (l2.getD k []) = Y at *
        clear HL1 HL2 t1 t2 hEQ
        replace fo := Lib.hid fo
        go_upto_region 6 with fail
        refine wp_region_noPanic ?_
        refine wp_region_held_drew (S := (fun w' => ((loadRowAt 28 (.pointer (some ⟨bb, off + k * 32, none⟩))).run Tryd.prog w' = .ok (.agg X) w' ∧ (loadRowAt 27 (.pointer (some ⟨cc, of2 + k * 32, none⟩))).run Tryd.prog w' = .ok (.agg Y) w') ∧ Fr F0 w w')) (by kernel_rfl) ?_ (fun hHeld => ?_)
        · ((try dsimp only) <;> (first | exact ⟨⟨HLs.out.1 _ fo.out.drew, HLs.out.2 _ fo.out.drew⟩, fo.out.drew⟩ | exact hHeld))
        refine rtake 0 ?_
        refine rtake 1 ?_
        refine rtake 2 ?_
        refine rtake 3 ?_
        refine rtake 4 ?_
        refine rtake 5 ?_
        refine rtake 6 ?_
        refine rtake 7 ?_
        refine rtake 8 ?_
        refine wpAnyH_done (by kernel_rfl) ?_ _
        refine NoPanic.normal ?_
        cases EQ with
        | true =>
          go_wp2
          go_roundw
          case rel => exact ⟨k + 1, by omega, by go_num, hyes.out rfl, hHeld.2⟩
          case measure => simp [intOf]; omega
        | false =>
          have hD : DQ = false := hno.out rfl
          clear hno hyes hDQ
          subst hD
          go_wp2
          go_ret
          exact ⟨rfl, hHeld.2⟩
      · obtain rfl : k = n1 := by omega
        have hT' := hT.out
        rw [List.take_of_length_le (by have := e1.out; omega), List.take_of_length_le (by have := e2.out; omega)] at hT'
        have hD : DQ = true := by rw [hDQ.out, decide_eq_true hT']
        clear hT' hDQ
        subst hD
        go_wp2
        go_ret
        exact ⟨rfl, fo⟩
  · have l0 : ((n1 : Int) != (n2 : Int)) = true := bne_iff_ne.2 (by omega)
    have hD : DQ = false := by rw [hDQ.out, decide_eq_false (fun e => hne (by rw [e1.out, e2.out, e]))]
    clear hDQ
    subst hD
    go_enter Tryd.func16, Tryd.ntmps16
    go_wp2
    go_ret
    exact ⟨rfl, Fr.refl _ _⟩
end Go.Proofs.YthpcajpiflpmdaaDoor

/- Layer 10 (merkle): the law's unlike. -/
namespace Go.Proofs.YthpcajpiflpmdaaDoor
set_option linter.unusedVariables false
set_option linter.unusedSimpArgs false
open Go.RowKit Go.Shelf

/-- What unlike answers. -/
def UnR (l : List (List UInt8)) (w : World) (e : Ending) (w' : World) : Prop := ∃ b, e = .returned (.bool b) ∧ (b = true ↔ unl l) ∧ Fr F0 w w'
set_option maxRecDepth 100000 in
set_option maxHeartbeats 16000000 in
theorem unlike10_any (l : List (List UInt8)) (a : Option Addr) (n c : Nat) (w : World) (h : Hs w a c l) (hn : n = l.length) (hl : l.length ≤ 1000) :
    Calls Tryd.prog 8 #[.slice a n c] w (UnR l w) := by
  have hs0 := Lib.hid h
  have hro := h.room
  rw [← hn] at hro
  have hN : n ≤ 1000 := by omega
  replace hn := Lib.hid hn
  clear h hl
  go_enter Tryd.func8, Tryd.ntmps8
  go_wp2
  go_loopw [0] (fun lv wr => ∃ (row : List (List UInt8)) (m : Nat) (b : Option Addr) (d : Nat), lv = .slice b m d ∧ Hid (m = row.length) ∧ Hid (Hs wr b d row) ∧ Hid (unl row ↔ unl l) ∧ m ≤ 1000 ∧ m ≤ d ∧ Fr F0 w wr) (fun lv _ => lenOf lv)
  case atStart => exact ⟨l, n, a, c, rfl, hn, hs0, Iff.rfl, hN, hro.1, Fr.refl _ _⟩
  case round =>
    obtain ⟨row, m, b, d, rfl, hm, hs, hu, m1, md, fo⟩ := hrel
    by_cases h1 : 1 < m
    · have l1 : (1 : Int) < (m : Int) := by omega
      have hup := Lib.hid (unl_up (l := row) (by have := hm.out; omega))
      obtain ⟨wo, hwo⟩ : ∃ v, v = wr := ⟨_, rfl⟩
      subst hwo
      go_wp2
      go_loopw [3] (fun iv wi => ∃ (k p : Nat), Hid (p = 2 * k) ∧ p ≤ m + 1 ∧ iv = .int .i64 (p : Int) ∧ Hid (∀ j, j < k → row.getD (2 * j) [] ≠ row.getD (2 * j + 1) []) ∧ Fr F0 wo wi) (fun iv _ => m + 2 - (intOf iv).toNat)
      case atStart => exact ⟨0, 0, rfl, by omega, rfl, fun j hj => absurd hj (Nat.not_lt_zero _), Fr.refl _ _⟩
      case round =>
        obtain ⟨k, p, hp, pm, rfl, hk, fi⟩ := hrel
        obtain ⟨q, hq⟩ : ∃ q, q = p + 1 := ⟨_, rfl⟩
        have hw1 : IntKind.i64.wrap ((p : Int) + 1) = (q : Int) := by rw [IntKind.wrap_i64]; omega
        have hw2 : IntKind.i64.wrap ((p : Int) + 2) = (p : Int) + 2 := by rw [IntKind.wrap_i64]; omega
        by_cases hlt : q < m
        · have k1 : 2 * k < row.length := by have := hm.out; have := hp.out; omega
          have k2 : 2 * k + 1 < row.length := by have := hm.out; have := hp.out; omega
          obtain ⟨bb, off, rfl, _, HL1⟩ := hs.out.load (2 * k) k1
          obtain ⟨b', of', e9, _, HL2⟩ := hs.out.load (2 * k + 1) k2
          cases e9
          have heq := fun w => run_equalIn_arrJ w (row.getD (2 * k) []) (row.getD (2 * k + 1) []) (hs.out.ok.get k1) (hs.out.ok.get k2)
          rw [show off + 2 * k * 32 = off + p * 32 by rw [hp.out]] at HL1
          rw [show off + (2 * k + 1) * 32 = off + q * 32 by rw [hq, hp.out]] at HL2
          obtain ⟨EQ, hEQ⟩ : ∃ q, q = decide (row.getD (2 * k) [] = row.getD (2 * k + 1) []) := ⟨_, rfl⟩
          rw [← hEQ] at heq
          have hyes : Hid (EQ = false → ∀ j, j < k + 1 → row.getD (2 * j) [] ≠ row.getD (2 * j + 1) []) := fun e j hj => by
            rw [hEQ, decide_eq_false_iff_not] at e
            rcases (by omega : j < k ∨ j = k) with hj | rfl
            · exact hk.out j hj
            · exact e
          have hno : Hid (EQ = true → ¬ unl l) := fun e hul => by
            rw [hEQ, decide_eq_true_iff] at e
            exact (hup.out.1 (hu.out.2 hul)).1 k k2 e
          have hl1 : (p : Int) < (m : Int) := by omega
          have hl2 : (q : Int) < (m : Int) := by omega
          have HLs := Lib.hid (And.intro HL1 HL2)
          generalize hc (row.getD (2 * k) []) = X at *
          generalize hc (row.getD (2 * k + 1) []) = Y at *
          clear HL1 HL2 hEQ
          replace hq := Lib.hid hq
          replace fi := Lib.hid fi
          replace fo := Lib.hid fo
          go_upto_region 5 with fail
          refine wp_region_noPanic ?_
          refine wp_region_held_drew (S := (fun w' => ((loadRowAt 27 (.pointer (some ⟨bb, off + p * 32, none⟩))).run Tryd.prog w' = .ok (.agg X) w' ∧ (loadRowAt 27 (.pointer (some ⟨bb, off + q * 32, none⟩))).run Tryd.prog w' = .ok (.agg Y) w') ∧ Fr F0 wo w')) (by kernel_rfl) ?_ (fun hHeld => ?_)
          · ((try dsimp only) <;> (first | exact ⟨⟨HLs.out.1 _ fi.out.drew, HLs.out.2 _ fi.out.drew⟩, fi.out.drew⟩ | exact hHeld))
          refine rtake 0 ?_
          refine rtake 1 ?_
          refine rtake 2 ?_
          refine rtake 3 ?_
          refine rtake 4 ?_
          refine rtake 5 ?_
          refine rtake 6 ?_
          refine rtake 7 ?_
          refine rtake 8 ?_
          refine rtake 9 ?_
          refine wpAnyH_done (by kernel_rfl) ?_ _
          refine NoPanic.normal ?_
          cases EQ with
          | true =>
            have hD := hno.out rfl
            clear hno hyes
            replace hD := Lib.hid hD
            go_wp2
            go_ret
            exact ⟨false, rfl, ⟨fun e => (by cases e), fun e => absurd e hD.out⟩, fo.out.trans' hHeld.2⟩
          | false =>
            have hY := Lib.hid (hyes.out rfl)
            clear hno hyes
            go_wp2
            go_roundw
            case rel => exact ⟨k + 1, p + 2, by rw [Hid, hp.out]; omega, by have := hq.out; omega, by go_num, hY, hHeld.2⟩
            case measure => have := hq.out; simp [intOf]; omega
        · have hl2 : ¬ (q : Int) < (m : Int) := by omega
          have hrow : rowU row := fun j hj => hk.out j (by have := hm.out; have := hp.out; omega)
          have hu3 := Lib.hid (show unl (up row) ↔ unl l from ⟨fun h => hu.out.1 (hup.out.2 ⟨hrow, h⟩), fun h => (hup.out.1 (hu.out.2 h)).2⟩)
          have HU := Lib.hid (r10Up_any row b m d wr (hs.out.fr fi) hm.out (by have := hm.out; omega))
          clear hk hrow
          go_wp2_with fail
          (with_reducible refine HU.out.mono ?_); rintro e w3 ⟨a3, c3, rfl, hs3, f3, _⟩
          have hm3 : (up row).length = (m + 1) / 2 := by rw [up_length, ← hm.out]
          have hd3 := hs3.room.1
          obtain ⟨m3, hm3'⟩ : ∃ k, k = (up row).length := ⟨_, rfl⟩
          rw [← hm3'] at hm3 hd3 ⊢
          replace hm3' := Lib.hid hm3'
          replace hm3 := Lib.hid hm3
          replace hs3 := Lib.hid hs3
          have f9 := Lib.hid ((fo.trans' fi).trans' f3)
          clear HU f3
          go_wp2
          go_roundw
          case rel => exact ⟨up row, m3, a3, c3, rfl, hm3', hs3, hu3, by have := hm3.out; omega, hd3, f9.out⟩
          case measure => have := hm3.out; simp [lenOf]; omega
    · have l1 : ¬ (1 : Int) < (m : Int) := by omega
      have hu2 := hu.out.1 (unl_one (by have := hm.out; omega))
      replace hu2 := Lib.hid hu2
      go_wp2
      go_ret
      exact ⟨true, rfl, ⟨fun _ => hu2.out, fun _ => rfl⟩, fo⟩
end Go.Proofs.YthpcajpiflpmdaaDoor

/- Layer 10 (merkle): the chapter's example. -/
namespace Go.Proofs.YthpcajpiflpmdaaDoor
set_option linter.unusedVariables false
set_option linter.unusedSimpArgs false
open Go.RowKit Go.Shelf

theorem Hs.of_row {w : World} {g n : Nat} {l : List (List UInt8)} {t : TypeId} {fr : Nat × Nat} (h : w.heap[g]? = some (.cells (l.flatMap fun h => h.map B8).toArray t fr)) (ha : all32 l) (hn : n = l.length) (hm : n ≤ 1000000) : Hs w (some ⟨g, 0, none⟩) n l := by
  subst hn
  exact ⟨⟨flat_len l ha, Nat.le_refl _, by unfold maxLen; omega, (fun e => by cases e), fun j u hj => ⟨g, 0, rfl, by rw [Nat.zero_add, cell_of_row w g j _ t _ h]; simpa using hj⟩⟩, ha⟩
theorem hc_flat (h : List UInt8) : hc h = ([h].flatMap fun h => h.map B8).toArray := by simp [hc]
def buildL3 (parts : Array (Nat × Value)) : Sem Value := Instr.buildSlice 22 3 parts
@[go_sem ↓ high] theorem build_L3 (p : Array (Nat × Value)) : Instr.buildSlice 22 3 p = buildL3 p := rfl
theorem run_buildL3 (w : World) (a : List UInt8) (h : a.length = 32) : (buildL3 #[(0, .agg (hc a)), (1, .agg (hc a)), (2, .agg (hc a))]).run Tryd.prog w = .ok (.slice (some ⟨w.heap.size, 0, none⟩) 3 3) (w.alloc (.cells ([a, a, a].flatMap fun h => h.map B8).toArray 28)) := by
  obtain ⟨i0, hi, hz, hs, _⟩ := info_parts Tryd.infoHashJ
  have hp : 2 ^ 24 = 16777216 := rfl
  refine run_buildSlice w 22 28 3 _ _ i0 _ Tryd.underlying22 hi hz (by rw [hs]; omega) (by rw [hs]; omega) ?_
  have := Great.fill_whole (s := 32) (by omega) [.agg (hc a), .agg (hc a), .agg (hc a)] ((Array.range (3 * 32)).map ((Value.agg (hc z32)).cells[· % (Value.agg (hc z32)).cells.size]!)) (fun v hv => by
    simp only [List.mem_cons, List.not_mem_nil, or_false] at hv
    rcases hv with rfl | rfl | rfl <;> exact hc_size h) (by simp)
  rw [hs]
  simpa [Value.cells, hc] using this

def live10 : List UInt8 := sha2 [97]
theorem live10_length : live10.length = 32 := by simp [live10, sha2, sha_length]
theorem live10_z : ¬ live10 = List.replicate 32 0 := by rw [live10, sha2, sha_is, sha_is]; decide +kernel

set_option maxRecDepth 100000 in
set_option maxHeartbeats 8000000 in
theorem lives10_any (w : World) (hcub : Cub w) : Calls Tryd.prog 7 #[] w fun e w' => e = .returned (.bool true) ∧ Fr F0 w w' := by
  have hD := live10_length
  have sD := hc_size hD
  have oD := hc_one live10
  have HC := Lib.hid hcub
  have hconv := Joins.run_convert_bytes_const_at (P := Tryd.prog) w 49 5 #[.int .u8 97] 1 1 w.heap.size rfl Tryd.underlying49 Tryd.underlying5
  have F := (Fr.refl F0 w).alloc (.cells #[.int .u8 97] 5 (1, 2))
  have H1 := Lib.hid (show Calls Tryd.prog 21 #[.slice (some ⟨w.heap.size, 0, none⟩) 1 1] (w.alloc (.cells #[.int .u8 97] 5 (1, 2))) fun e w' => e = .returned (.agg (hc live10)) ∧ Fr F0 (w.alloc (.cells #[.int .u8 97] 5 (1, 2))) w' from
    Double_any (some ⟨w.heap.size, 0, none⟩) 1 1 [97] rfl (by simp) _ (Bs.of_r8J (L := [97]) (heap_alloc_new w _) rfl (by omega)) (HC.out.fr F fun e => e))
  have hall1 : all32 [live10] := fun x hx => by rw [List.mem_singleton] at hx; subst hx; exact hD
  have hall3 : all32 [live10, live10, live10] := fun x hx => by simp only [List.mem_cons, List.not_mem_nil, or_false] at hx; rcases hx with rfl | rfl | rfl <;> exact hD
  have H2 := Lib.hid (fun g W (f : Fr F0 w W) (h : W.heap[g]? = some (.cells (hc live10) 28 (0, 0))) => show Calls Tryd.prog 10 #[.slice (some ⟨g, 0, none⟩) 1 1] W fun e w' => e = .returned (.tuple #[.agg (hc live10), .int .i64 0]) ∧ Fr F0 W w' from by
    have := mRoot_any [live10] (some ⟨g, 0, none⟩) 1 1 W (Hs.of_row (by rw [h, hc_flat]) hall1 rfl (by omega)) rfl (by simp) (by simp) (HC.out.fr f fun e => e)
    rwa [rootM_one (by simp)] at this)
  have H3 := Lib.hid (fun g W (f : Fr F0 w W) (h : W.heap[g]? = some (.cells ([live10, live10, live10].flatMap fun h => h.map B8).toArray 28 (0, 0))) => show Calls Tryd.prog 11 #[.slice (some ⟨g, 0, none⟩) 3 3, .int .i64 2] W fun e w' => ∃ b d, e = .returned (.tuple #[.slice b 2 d, .int .i64 0]) ∧ Fr F0 W w' from by
    refine (mWay_any [live10, live10, live10] (some ⟨g, 0, none⟩) 3 3 2 W (Hs.of_row h hall3 rfl (by omega)) rfl (by omega) (by simp) (HC.out.fr f fun e => e)).mono ?_
    rintro e w' ⟨b, d, rfl, _, f', _⟩
    have hr : (wayM [live10, live10, live10] 2).length = 2 := by
      rw [wayM_length, show [live10, live10, live10].length = 3 from rfl, rows_gt (by omega), rows_gt (by omega), rows_le (by omega)]
    rw [hr]
    exact ⟨b, d, rfl, f'⟩)
  have H4 := Lib.hid (fun W => show Calls Tryd.prog 13 #[.agg (hc live10)] W fun e w' => e = .returned (.bool false) ∧ Fr F0 W w' from by
    have := Zero_any live10 hD W
    rwa [decide_eq_false live10_z] at this)
  have hb1 := fun W => run_buildLh W (hc live10) sD
  have hb3 := fun W => run_buildL3 W live10 hD
  have heq := fun w => run_equalIn_hashJ w live10 live10 hD hD
  rw [decide_eq_true rfl] at heq
  generalize hc live10 = X at *
  generalize ([live10, live10, live10].flatMap fun h => h.map B8).toArray = Y at *
  clear hcub hall1 hall3
  go_enter Tryd.func7, Tryd.ntmps7
  go_wp2_with fail
  (with_reducible refine H1.out.mono ?_); rintro e w2 ⟨rfl, f⟩
  replace F := F.trans' f
  clear f H1 hconv
  go_upto_region 2 with fail
  refine wp_put fun W3 N3 => ?_
  have r1 := N3.new
  replace F := F.trans' N3.fr
  clear N3
  generalize w2.heap.size = g1 at *
  go_wp2_with fail
  refine calls_new fun W4 N4 => ?_
  (with_reducible refine (H2.out _ _ (F.trans' N4.fr) N4.new).mono ?_); rintro e w5 ⟨rfl, f⟩
  replace r1 := keep_fr f (N4.old r1)
  replace F := (F.trans' N4.fr).trans' f
  clear N4 f H2
  go_upto_region 3 with fail
  refine wp_put fun W6 N6 => ?_
  have r2 := N6.new
  replace r1 := N6.old r1
  replace F := F.trans' N6.fr
  clear N6
  generalize w5.heap.size = g2 at *
  go_wp2_with fail
  refine calls_new fun W7 N7 => ?_
  (with_reducible refine (H3.out _ _ (F.trans' N7.fr) N7.new).mono ?_); rintro e w8 ⟨b, d, rfl, f⟩
  replace r1 := keep_fr f (N7.old r1)
  replace r2 := keep_fr f (N7.old r2)
  replace F := (F.trans' N7.fr).trans' f
  clear N7 f H3
  go_wp2_with fail
  (with_reducible refine (H4.out _).mono ?_); rintro e w9 ⟨rfl, f⟩
  go_wp2
  go_ret
  exact ⟨rfl, F.trans' f⟩
end Go.Proofs.YthpcajpiflpmdaaDoor

/- Layer 10 (merkle): the law MerkleRoots, walked. -/
namespace Go.Proofs.YthpcajpiflpmdaaDoor
set_option linter.unusedVariables false
set_option linter.unusedSimpArgs false
open Go.RowKit Go.Shelf

theorem Zero_z (w : World) : Calls Tryd.prog 13 #[.agg (hc z32)] w fun e w' => e = .returned (.bool true) ∧ Fr F0 w w' := by
  have := Zero_any z32 z32_length w
  rwa [decide_eq_true (show z32 = List.replicate 32 0 from rfl)] at this

set_option maxRecDepth 100000 in
set_option maxHeartbeats 16000000 in
theorem merkleRoots_any (l : List (List UInt8)) (a : Option Addr) (c : Nat) (i : Int) (w : World) (h : Hs w a c l) (hcub : Cub w) :
    Calls Tryd.prog 4 #[.slice a l.length c, .int .i64 i] w fun e w' => e = .returned (.bool true) ∧ Fr F0 w w' := by
  have HC := Lib.hid hcub
  have HL := Lib.hid (fun W (f : Fr F0 w W) => lives10_any W (hcub.fr f fun e => e))
  have HH := Lib.hid (fun W (f : Fr F0 w W) => h.fr f)
  have hro := h.room
  have h32 := h.ok
  obtain ⟨n, hn⟩ : ∃ n, n = l.length := ⟨_, rfl⟩
  rw [← hn] at hro ⊢
  clear h hcub
  by_cases hbig : 20 < n
  · have l1 : (20 : Int) < (n : Int) := by omega
    clear hbig
    go_enter Tryd.func4, Tryd.ntmps4
    go_wp2_with fail
    (with_reducible refine (HL.out _ (Fr.refl _ _)).mono ?_); rintro e w1 ⟨rfl, f1⟩
    go_wp2_with fail
    (with_reducible refine (HL.out _ f1).mono ?_); rintro e w2 ⟨rfl, f2⟩
    go_wp2
    go_ret
    exact ⟨rfl, f1.trans' f2⟩
  have l1 : ¬ (20 : Int) < (n : Int) := by omega
  by_cases h0 : n = 0
  · have HRo := Lib.hid (fun W => mRoot_0 a c W)
    have HWa := Lib.hid (fun W => mWay_0 a c i W)
    have HZ := Lib.hid Zero_z
    have HR0 := Lib.hid mRows_0
    have sz := hc_size z32_length
    have oz := hc_one z32
    subst h0
    generalize hc z32 = X at *
    clear hn hbig
    go_enter Tryd.func4, Tryd.ntmps4
    go_wp2_with fail
    (with_reducible refine (HL.out _ (Fr.refl _ _)).mono ?_); rintro e w1 ⟨rfl, f1⟩
    go_wp2_with fail
    (with_reducible refine (HRo.out _).mono ?_); rintro e w2 ⟨rfl, f2⟩
    go_upto_region 4 with fail
    refine wp_put fun W3 N3 => ?_
    have r5 := N3.new
    have F := (f1.trans' f2).trans' N3.fr
    clear N3 f1 f2
    generalize w2.heap.size = g5 at *
    go_wp2_with fail
    (with_reducible refine (HWa.out _).mono ?_); rintro e w4 ⟨rfl, f4⟩
    replace r5 := keep_fr f4 r5
    replace F := F.trans' f4
    clear f4
    go_wp2_with fail
    (with_reducible refine (HZ.out _).mono ?_); rintro e w5 ⟨rfl, f5⟩
    go_wp2_with fail
    (with_reducible refine (HR0.out _).mono ?_); rintro e w6 ⟨rfl, hw⟩; replace hw := hw.symm; subst hw
    go_wp2
    go_ret
    exact ⟨rfl, F.trans' f5⟩
  have hTl := rootM_length l h32 (by omega)
  have sT := hc_size hTl
  have oT := hc_one (rootM l)
  have l0 : ((n : Int) == 0) = false := beq_eq_false_iff_ne.2 (by omega)
  have HRo := Lib.hid (fun W (f : Fr F0 w W) => mRoot_any l a n c W (HH.out W f) hn (by omega) (by omega) (HC.out.fr f fun e => e))
  have HPl := Lib.hid (fun W (f : Fr F0 w W) => plain10_any l a n c W (HH.out W f) hn (by omega))
  have HRr := Lib.hid (fun a' c' W (h : Hs W a' c' l) => r10Root_any l a' l.length c' W h rfl (by omega) (by omega))
  rw [← hn] at HRr
  have heq := fun w => run_equalIn_hashJ w (rootM l) (rootM l) hTl hTl
  rw [decide_eq_true rfl] at heq
  generalize hc (rootM l) = X at *
  by_cases hi : 0 ≤ i ∧ i < (n : Int)
  · obtain ⟨j, rfl⟩ := Int.eq_ofNat_of_zero_le hi.1
    have hj : j < n := by omega
    have HWa := Lib.hid (fun W (f : Fr F0 w W) => mWay_any l a n c j W (HH.out W f) hn hj (by omega) (HC.out.fr f fun e => e))
    have HWr := Lib.hid (fun a' c' W (h : Hs W a' c' l) => r10Way_any l a' n c' j W h hn (by omega) (by omega))
    have hwl := wayM_length l j
    rw [← hn] at hwl
    have HRw := Lib.hid (fun W => mRows_any n (by omega) (by omega) W)
    obtain ⟨R, hR⟩ : ∃ R, R = (wayM l j).length := ⟨_, rfl⟩
    rw [← hR] at HWa hwl
    rw [← hwl] at HRw
    have hR16 : R ≤ 16 := by rw [hwl]; exact rows_small n (by omega)
    have HSa := Lib.hid (fun a1 c1 a2 c2 W (h1 : Hs W a1 c1 (wayM l j)) (h2 : Hs W a2 c2 (wayM l j)) => same10_any (wayM l j) (wayM l j) a1 a2 R R c1 c2 W h1 h2 hR hR (by rw [← hR]; omega))
    rw [decide_eq_true rfl] at HSa
    unfold NewHs at HWr HPl
    rw [← hR] at HWr
    rw [← hn] at HPl
    have k1 : ¬ (j : Int) < 0 := by omega
    have k2 : (j : Int) < (n : Int) := by omega
    replace hR := Lib.hid hR
    clear hi hj hwl h32 hTl hbig h0 hn
    go_enter Tryd.func4, Tryd.ntmps4
    go_wp2_with fail
    (with_reducible refine (HL.out _ (Fr.refl _ _)).mono ?_); rintro e w1 ⟨rfl, f1⟩
    go_wp2_with fail
    (with_reducible refine (HRo.out _ f1).mono ?_); rintro e w2 ⟨rfl, f2⟩
    go_upto_region 4 with fail
    refine wp_put fun W3 N3 => ?_
    have r5 := N3.new
    have F := (f1.trans' f2).trans' N3.fr
    clear N3 f1 f2
    generalize w2.heap.size = g5 at *
    go_wp2_with fail
    (with_reducible refine (HWa.out _ F).mono ?_); rintro e w4 ⟨b, d, rfl, hw, f4, _⟩
    replace r5 := keep_fr f4 r5
    replace F := F.trans' f4
    clear f4
    go_upto_region 7 with fail
    replace F := Lib.hid F
    replace hw := Lib.hid hw
    refine wp_region_noPanic ?_
    refine wp_region_held_drew (S := (fun w' => w'.heap[g5]? = some (.cells X 28 (0, 0)) ∧ Fr F0 w4 w')) (by kernel_rfl) ?_ (fun hHeld => ?_)
    · ((try dsimp only) <;> (first | exact ⟨r5, (Fr.refl F0 w4).drew⟩ | exact hHeld | exact ⟨keep_fr f5 hHeld.1, hHeld.2.trans' f5⟩))
    refine rtake 0 ?_
    refine rtake 1 ?_
    refine rtake 2 ?_
    refine rtake 3 ?_
    refine rtake 4 ?_
    refine wpAnyH_ready (rs := [5]) (by kernel_rfl) (by simp) ?_
    refine AllReadyH.cons (o := ⟨_, _, _, _, _, _⟩) rfl (fun K hK => ?_) AllReadyH.nil
    go_simp
    ((with_reducible refine (HPl.out _ (F.out.trans' hHeld.2)).mono ?_); rintro e w5 ⟨a5, c5, rfl, hs5, f5, _⟩)
    refine hK.out _ _ ?_ (fun hHeld => ?_)
    · ((try dsimp only) <;> (first | exact ⟨r5, (Fr.refl F0 w4).drew⟩ | exact hHeld | exact ⟨keep_fr f5 hHeld.1, hHeld.2.trans' f5⟩))
    clear hK K
    try (simp only [Act.put, List.setIfInBounds_toArray]; dsimp only [List.set_cons_zero, List.set_cons_succ])
    refine wpAnyH_ready (rs := [6]) (by kernel_rfl) (by simp) ?_
    refine AllReadyH.cons (o := ⟨_, _, _, _, _, _⟩) rfl (fun K hK => ?_) AllReadyH.nil
    go_simp
    ((with_reducible refine (HRr.out a5 c5 _ hs5).mono ?_); rintro e w6 ⟨rfl, f5⟩)
    refine hK.out _ _ ?_ (fun hHeld => ?_)
    · ((try dsimp only) <;> (first | exact ⟨r5, (Fr.refl F0 w4).drew⟩ | exact hHeld | exact ⟨keep_fr f5 hHeld.1, hHeld.2.trans' f5⟩))
    clear hK K
    try (simp only [Act.put, List.setIfInBounds_toArray]; dsimp only [List.set_cons_zero, List.set_cons_succ])
    refine rtake 7 ?_
    refine rtake 8 ?_
    refine wpAnyH_done (by kernel_rfl) ?_ _
    refine NoPanic.normal ?_
    have F6 := F.out.trans' hHeld.2
    have hw6 := Lib.hid (hw.out.fr hHeld.2)
    clear hHeld hw F r5
    go_wp2_with fail
    (with_reducible refine (HPl.out _ F6).mono ?_); rintro e w7 ⟨a7, c7, rfl, hs7, f7, _⟩
    go_wp2_with fail
    (with_reducible refine (HWr.out a7 c7 _ hs7).mono ?_); rintro e w8 ⟨a8, c8, rfl, hs8, f8, _⟩
    go_wp2_with fail
    (with_reducible refine (HSa.out b d a8 c8 _ (hw6.out.fr (f7.trans' f8)) hs8).mono ?_); rintro e w9 ⟨rfl, f9⟩
    go_wp2_with fail
    (with_reducible refine (HRw.out _).mono ?_); rintro e w10 ⟨rfl, hw⟩; replace hw := hw.symm; subst hw
    have F10 := Lib.hid (((F6.trans' f7).trans' f8).trans' f9)
    clear hs7 hs8 f7 f8 f9 F6
    go_wp2
    go_ret
    exact ⟨by simp, F10.out⟩
  · have HWa := Lib.hid (fun W => mWay_no a n c i W (by omega) (by omega) hi)
    have hi' : i < 0 ∨ (n : Int) ≤ i := by omega
    unfold NewHs at HPl
    rw [← hn] at HPl
    clear hi h32 hTl hbig h0 hn
    go_enter Tryd.func4, Tryd.ntmps4
    go_wp2_with fail
    (with_reducible refine (HL.out _ (Fr.refl _ _)).mono ?_); rintro e w1 ⟨rfl, f1⟩
    go_wp2_with fail
    (with_reducible refine (HRo.out _ f1).mono ?_); rintro e w2 ⟨rfl, f2⟩
    go_upto_region 4 with fail
    refine wp_put fun W3 N3 => ?_
    have r5 := N3.new
    have F := (f1.trans' f2).trans' N3.fr
    clear N3 f1 f2
    generalize w2.heap.size = g5 at *
    go_wp2_with fail
    (with_reducible refine (HWa.out _).mono ?_); rintro e w4 ⟨rfl, f4⟩
    replace r5 := keep_fr f4 r5
    replace F := F.trans' f4
    clear f4
    go_upto_region 7 with fail
    replace F := Lib.hid F
    refine wp_region_noPanic ?_
    refine wp_region_held_drew (S := (fun w' => w'.heap[g5]? = some (.cells X 28 (0, 0)) ∧ Fr F0 w4 w')) (by kernel_rfl) ?_ (fun hHeld => ?_)
    · ((try dsimp only) <;> (first | exact ⟨r5, (Fr.refl F0 w4).drew⟩ | exact hHeld | exact ⟨keep_fr f5 hHeld.1, hHeld.2.trans' f5⟩))
    refine rtake 0 ?_
    refine rtake 1 ?_
    refine rtake 2 ?_
    refine rtake 3 ?_
    refine rtake 4 ?_
    refine wpAnyH_ready (rs := [5]) (by kernel_rfl) (by simp) ?_
    refine AllReadyH.cons (o := ⟨_, _, _, _, _, _⟩) rfl (fun K hK => ?_) AllReadyH.nil
    go_simp
    ((with_reducible refine (HPl.out _ (F.out.trans' hHeld.2)).mono ?_); rintro e w5 ⟨a5, c5, rfl, hs5, f5, _⟩)
    refine hK.out _ _ ?_ (fun hHeld => ?_)
    · ((try dsimp only) <;> (first | exact ⟨r5, (Fr.refl F0 w4).drew⟩ | exact hHeld | exact ⟨keep_fr f5 hHeld.1, hHeld.2.trans' f5⟩))
    clear hK K
    try (simp only [Act.put, List.setIfInBounds_toArray]; dsimp only [List.set_cons_zero, List.set_cons_succ])
    refine wpAnyH_ready (rs := [6]) (by kernel_rfl) (by simp) ?_
    refine AllReadyH.cons (o := ⟨_, _, _, _, _, _⟩) rfl (fun K hK => ?_) AllReadyH.nil
    go_simp
    ((with_reducible refine (HRr.out a5 c5 _ hs5).mono ?_); rintro e w6 ⟨rfl, f5⟩)
    refine hK.out _ _ ?_ (fun hHeld => ?_)
    · ((try dsimp only) <;> (first | exact ⟨r5, (Fr.refl F0 w4).drew⟩ | exact hHeld | exact ⟨keep_fr f5 hHeld.1, hHeld.2.trans' f5⟩))
    clear hK K
    try (simp only [Act.put, List.setIfInBounds_toArray]; dsimp only [List.set_cons_zero, List.set_cons_succ])
    refine rtake 7 ?_
    refine rtake 8 ?_
    refine wpAnyH_done (by kernel_rfl) ?_ _
    refine NoPanic.normal ?_
    have F6 := Lib.hid (F.out.trans' hHeld.2)
    clear hHeld F r5
    by_cases h1 : i < 0
    · have k1 : decide (i < 0) = true := decide_eq_true h1
      clear h1 hi'
      go_wp2
      go_ret
      exact ⟨by simp, F6.out⟩
    · have k1 : decide (i < 0) = false := decide_eq_false h1
      have k2 : decide ((n : Int) ≤ i) = true := decide_eq_true (hi'.resolve_left h1)
      clear h1 hi'
      go_wp2
      go_ret
      exact ⟨by simp, F6.out⟩
end Go.Proofs.YthpcajpiflpmdaaDoor

/- Layer 10 (merkle): the law MerkleClimbs, walked. -/
namespace Go.Proofs.YthpcajpiflpmdaaDoor
set_option linter.unusedVariables false
set_option linter.unusedSimpArgs false
open Go.RowKit Go.Shelf

/-- What Climb answers at any place that is one. -/
theorem mClimb_in (h : List UInt8) (i n : Nat) (wy : List (List UInt8)) (b : Option Addr) (m d : Nat) (w : World) (hs : Hs w b d wy) (hm : m = wy.length) (hl : h.length = 32) (hi : i < n) (hb : n ≤ 65536) (hmm : m ≤ 1000000) (hcub : Cub w) :
    Calls Tryd.prog 18 #[.agg (hc h), .int .i64 (i : Int), .int .i64 (n : Int), .slice b m d] w fun e w' => e = .returned (.tuple #[.agg (hc ((climbM wy h i n).getD z32)), .int .i64 (if (climbM wy h i n).isSome then 0 else 14)]) ∧ Fr F0 w w' := by
  by_cases hr : m = rows n
  · exact mClimb_any h i n wy b m d w hs hm hl hi hb hr hcub
  · rw [climbM_len wy h i n (by omega) (by rw [← hm]; exact hr)]
    exact mClimb_len h i n b m d w hl hi hb hr hmm

/-! Region 7: the law's own climb. -/
set_option maxRecDepth 100000 in
set_option maxHeartbeats 16000000 in
theorem mc7 {s0 s4 s6 s7 s8 s9 s10 s11 s12 s13 s14 s15 s16 s17 s18 s19 s20 s21 s22 s23 s24 s25 s26 s27 s28 s29 s30 s31 s32 s33 s34 s35 s36 s37 s38 s39 s40 s41 s42 s43 s44 s45 s46 s47 s48 s49 s50 s51 s52 s53 s54 s55 s56 s57 s58 s59 s60 s61 s62 s63 s64 s65 s66 s67 s68 s69 s70 s71 s72 s73 s74 s75 s76 s77 s78 s79 s80 s81 s82 s83 s84 s85 s86 s87 s88 s89 s90 s91 s92 s93 s94 s95 s96 s97 s98 s99 s100 s101 s102 s103 s104 s105 : Value} {K : Act → World → Prop} {Q : Exit → Act → World → Prop} (w w6 : World) (l : List (List UInt8)) (h : List UInt8) (X V R : Array Value) (i n m c : Nat) (a : Option Addr) (g5 g9 g11 : Nat) (sX : X.size = 32) (HPl : RowKit.Hid (∀ W, Fr F0 w W → Calls Tryd.prog 9 #[.slice a m c] W fun e w' => ∃ a' c', e = .returned (.slice a' m c') ∧ Hs w' a' c' l ∧ Fr F0 W w')) (HCl : RowKit.Hid (∀ a' c' W, Hs W a' c' l → Calls Tryd.prog 19 #[.agg X, .int .i64 (i : Int), .int .i64 (n : Int), .slice a' m c'] W (ClimbR l h i n W))) (r5 : w6.heap[g5]? = some (.cells X 28 (0, 0))) (r9 : w6.heap[g9]? = some (.cells R 28 (0, 0))) (r11 : w6.heap[g11]? = some (.cells V 28 (0, 0))) (F : Fr F0 w w6)
    (hK : RowKit.Hid (∀ {u14 u15 u63 u64 u65 u66 u67 u68 u69 u70 u71 : Value} {w' : World}, ((∃ (p : Nat) (x : List UInt8), x.length = 32 ∧ u14 = .pointer (some ⟨p, 0, none⟩) ∧ u15 = .bool (climbM l h i n).isSome ∧ (∀ v, climbM l h i n = some v → x = v) ∧ w'.heap[p]? = some (.cells (hc x) 27 (0, 0))) ∧ (w'.heap[g5]? = some (.cells X 28 (0, 0)) ∧ w'.heap[g9]? = some (.cells R 28 (0, 0)) ∧ w'.heap[g11]? = some (.cells V 28 (0, 0))) ∧ Fr F0 w w') → K ⟨#[s0, .int .i64 (i : Int), .int .i64 (n : Int), .slice a m c, s4, .pointer (some ⟨g5, 0, none⟩), s6, s7, s8, s9, s10, s11, s12, s13, u14, u15, s16, s17, s18, s19, s20, s21, s22, s23, s24, s25, s26, s27, s28, s29, s30, s31, s32, s33, s34, s35, s36, s37, s38, s39, s40, s41, s42, s43, s44, s45, s46, s47, s48, s49, s50, s51, s52, s53, s54, s55, s56, s57, s58, s59, s60, s61, s62, u63, u64, u65, u66, u67, u68, u69, u70, u71, s72, s73, s74, s75, s76, s77, s78, s79, s80, s81, s82, s83, s84, s85, s86, s87, s88, s89, s90, s91, s92, s93, s94, s95, s96, s97, s98, s99, s100, s101, s102, s103, s104, s105], []⟩ w')) :
    Code.wp Tryd.prog ((Tryd.f5.body.bind (findRegion 7)).getD .skip) (Exit.then K Q) ⟨#[s0, .int .i64 (i : Int), .int .i64 (n : Int), .slice a m c, s4, .pointer (some ⟨g5, 0, none⟩), s6, s7, s8, s9, s10, s11, s12, s13, s14, s15, s16, s17, s18, s19, s20, s21, s22, s23, s24, s25, s26, s27, s28, s29, s30, s31, s32, s33, s34, s35, s36, s37, s38, s39, s40, s41, s42, s43, s44, s45, s46, s47, s48, s49, s50, s51, s52, s53, s54, s55, s56, s57, s58, s59, s60, s61, s62, s63, s64, s65, s66, s67, s68, s69, s70, s71, s72, s73, s74, s75, s76, s77, s78, s79, s80, s81, s82, s83, s84, s85, s86, s87, s88, s89, s90, s91, s92, s93, s94, s95, s96, s97, s98, s99, s100, s101, s102, s103, s104, s105], []⟩ w6 := by
  conv => arg 2; whnf
  have HG0 := Lib.hid (And.intro (Array.getElem?_eq_some_iff.1 r5).1 (And.intro (Array.getElem?_eq_some_iff.1 r9).1 (And.intro (Array.getElem?_eq_some_iff.1 r11).1 F.size)))
  refine wp_region_noPanic ?_
  refine wp_region_held_drew (S := (fun w' => (w'.heap[g5]? = some (.cells X 28 (0, 0)) ∧ w'.heap[g9]? = some (.cells R 28 (0, 0)) ∧ w'.heap[g11]? = some (.cells V 28 (0, 0))) ∧ Fr F0 w w')) (by kernel_rfl) ?_ (fun hHeld => ?_)
  · ((try dsimp only) <;> (first | exact ⟨⟨r5, r9, r11⟩, F.drew⟩ | exact hHeld | exact ⟨⟨keep_fr f5 hHeld.1.1, keep_fr f5 hHeld.1.2.1, keep_fr f5 hHeld.1.2.2⟩, hHeld.2.trans' f5⟩ | exact ⟨⟨keep_alloc hHeld.1.1, keep_alloc hHeld.1.2.1, keep_alloc hHeld.1.2.2⟩, hHeld.2.alloc _⟩ | exact ⟨⟨keep_row (by have := HG0.out; omega) hHeld.1.1, keep_row (by have := HG0.out; omega) hHeld.1.2.1, keep_row (by have := HG0.out; omega) hHeld.1.2.2⟩, hHeld.2.setRow (fun h => by have := HG0.out; omega) _⟩))
  refine rtake 0 ?_
  refine rtake 1 ?_
  refine rtake 2 ?_
  refine rtake 3 ?_
  refine wpAnyH_ready (rs := [4, 9]) (by kernel_rfl) (by simp) ?_
  refine AllReadyH.cons (o := ⟨_, _, _, _, _, _⟩) rfl (fun K hK => ?_) (AllReadyH.cons (o := ⟨_, _, _, _, _, _⟩) rfl (fun K hK => ?_) AllReadyH.nil)
  go_simp
  ((with_reducible refine (HPl.out _ hHeld.2).mono ?_); rintro e w5 ⟨a5, c5, rfl, hs5, f5⟩; have z5 := f5.size; (try simp only [World.size_alloc, heap_drew'] at z5))
  refine hK.out _ _ ?_ (fun hHeld => ?_)
  · ((try dsimp only) <;> (first | exact ⟨⟨r5, r9, r11⟩, F.drew⟩ | exact hHeld | exact ⟨⟨keep_fr f5 hHeld.1.1, keep_fr f5 hHeld.1.2.1, keep_fr f5 hHeld.1.2.2⟩, hHeld.2.trans' f5⟩ | exact ⟨⟨keep_alloc hHeld.1.1, keep_alloc hHeld.1.2.1, keep_alloc hHeld.1.2.2⟩, hHeld.2.alloc _⟩ | exact ⟨⟨keep_row (by have := HG0.out; omega) hHeld.1.1, keep_row (by have := HG0.out; omega) hHeld.1.2.1, keep_row (by have := HG0.out; omega) hHeld.1.2.2⟩, hHeld.2.setRow (fun h => by have := HG0.out; omega) _⟩))
  clear hK K
  try (simp only [Act.put, List.setIfInBounds_toArray]; dsimp only [List.set_cons_zero, List.set_cons_succ])
  refine wpAnyH_ready (rs := [5, 9]) (by kernel_rfl) (by simp) ?_
  refine AllReadyH.cons (o := ⟨_, _, _, _, _, _⟩) rfl (fun K hK => ?_) (AllReadyH.cons (o := ⟨_, _, _, _, _, _⟩) rfl (fun K hK => ?_) AllReadyH.nil)
  go_simp
  ((first | (with_reducible refine (HCl.out a5 c5 _ hs5).mono ?_) | (with_reducible refine (HCl.out a5 c5 _ (hs5.fr ((Fr.refl F0 _).alloc _))).mono ?_)); rintro e w7 ⟨x, hx, rfl, hv, f5⟩; have z7 := f5.size; (try simp only [World.size_alloc, heap_drew'] at z7); have sx := hc_size hx; have ox := hc_one x)
  refine hK.out _ _ ?_ (fun hHeld => ?_)
  · ((try dsimp only) <;> (first | exact ⟨⟨r5, r9, r11⟩, F.drew⟩ | exact hHeld | exact ⟨⟨keep_fr f5 hHeld.1.1, keep_fr f5 hHeld.1.2.1, keep_fr f5 hHeld.1.2.2⟩, hHeld.2.trans' f5⟩ | exact ⟨⟨keep_alloc hHeld.1.1, keep_alloc hHeld.1.2.1, keep_alloc hHeld.1.2.2⟩, hHeld.2.alloc _⟩ | exact ⟨⟨keep_row (by have := HG0.out; omega) hHeld.1.1, keep_row (by have := HG0.out; omega) hHeld.1.2.1, keep_row (by have := HG0.out; omega) hHeld.1.2.2⟩, hHeld.2.setRow (fun h => by have := HG0.out; omega) _⟩))
  clear hK K
  try (simp only [Act.put, List.setIfInBounds_toArray]; dsimp only [List.set_cons_zero, List.set_cons_succ])
  refine rtake 6 ?_
  refine rtake 7 ?_
  refine rtake 8 ?_
  refine wpAnyH_ready (rs := [9]) (by kernel_rfl) (by simp) ?_
  refine AllReadyH.cons (o := ⟨_, _, _, _, _, _⟩) rfl (fun K hK => ?_) AllReadyH.nil
  go_simp
  refine hK.out _ _ ?_ (fun hHeld => ?_)
  · ((try dsimp only) <;> (first | exact ⟨⟨r5, r9, r11⟩, F.drew⟩ | exact hHeld | exact ⟨⟨keep_fr f5 hHeld.1.1, keep_fr f5 hHeld.1.2.1, keep_fr f5 hHeld.1.2.2⟩, hHeld.2.trans' f5⟩ | exact ⟨⟨keep_alloc hHeld.1.1, keep_alloc hHeld.1.2.1, keep_alloc hHeld.1.2.2⟩, hHeld.2.alloc _⟩ | exact ⟨⟨keep_row (by have := HG0.out; omega) hHeld.1.1, keep_row (by have := HG0.out; omega) hHeld.1.2.1, keep_row (by have := HG0.out; omega) hHeld.1.2.2⟩, hHeld.2.setRow (fun h => by have := HG0.out; omega) _⟩))
  clear hK K
  try (simp only [Act.put, List.setIfInBounds_toArray]; dsimp only [List.set_cons_zero, List.set_cons_succ])
  refine wpAnyH_ready (rs := [10]) (by kernel_rfl) (by simp) ?_
  refine AllReadyH.cons (o := ⟨_, _, _, _, _, _⟩) rfl (fun K hK => ?_) AllReadyH.nil
  go_simp
  (try (rw [rowIn_of (n := 32) (t' := 27) (by ((try rw [← Array.getElem?_eq_getElem]); repeat (first | exact heap_alloc_new _ _ | refine keep_alloc ?_ | refine keep_fr (by assumption) ?_))) (by rfl) sx ox]; go_simp))
  refine hK.out _ _ ?_ (fun hHeld => ?_)
  · ((try dsimp only) <;> (first | exact ⟨⟨r5, r9, r11⟩, F.drew⟩ | exact hHeld | exact ⟨⟨keep_fr f5 hHeld.1.1, keep_fr f5 hHeld.1.2.1, keep_fr f5 hHeld.1.2.2⟩, hHeld.2.trans' f5⟩ | exact ⟨⟨keep_alloc hHeld.1.1, keep_alloc hHeld.1.2.1, keep_alloc hHeld.1.2.2⟩, hHeld.2.alloc _⟩ | exact ⟨⟨keep_row (by have := HG0.out; omega) hHeld.1.1, keep_row (by have := HG0.out; omega) hHeld.1.2.1, keep_row (by have := HG0.out; omega) hHeld.1.2.2⟩, hHeld.2.setRow (fun h => by have := HG0.out; omega) _⟩))
  clear hK K
  try (simp only [Act.put, List.setIfInBounds_toArray]; dsimp only [List.set_cons_zero, List.set_cons_succ])
  refine rtake 11 ?_
  refine wpAnyH_done (by kernel_rfl) ?_ _
  refine NoPanic.normal ?_
  rotate_left
  go_simp
  refine hK.out _ _ ?_ (fun hHeld => ?_)
  · ((try dsimp only) <;> (first | exact ⟨⟨r5, r9, r11⟩, F.drew⟩ | exact hHeld | exact ⟨⟨keep_fr f5 hHeld.1.1, keep_fr f5 hHeld.1.2.1, keep_fr f5 hHeld.1.2.2⟩, hHeld.2.trans' f5⟩ | exact ⟨⟨keep_alloc hHeld.1.1, keep_alloc hHeld.1.2.1, keep_alloc hHeld.1.2.2⟩, hHeld.2.alloc _⟩ | exact ⟨⟨keep_row (by have := HG0.out; omega) hHeld.1.1, keep_row (by have := HG0.out; omega) hHeld.1.2.1, keep_row (by have := HG0.out; omega) hHeld.1.2.2⟩, hHeld.2.setRow (fun h => by have := HG0.out; omega) _⟩))
  clear hK K
  try (simp only [Act.put, List.setIfInBounds_toArray]; dsimp only [List.set_cons_zero, List.set_cons_succ])
  refine wpAnyH_ready (rs := [5]) (by kernel_rfl) (by simp) ?_
  refine AllReadyH.cons (o := ⟨_, _, _, _, _, _⟩) rfl (fun K hK => ?_) AllReadyH.nil
  go_simp
  ((first | (with_reducible refine (HCl.out a5 c5 _ hs5).mono ?_) | (with_reducible refine (HCl.out a5 c5 _ (hs5.fr ((Fr.refl F0 _).alloc _))).mono ?_)); rintro e w7 ⟨x, hx, rfl, hv, f5⟩; have z7 := f5.size; (try simp only [World.size_alloc, heap_drew'] at z7); have sx := hc_size hx; have ox := hc_one x)
  refine hK.out _ _ ?_ (fun hHeld => ?_)
  · ((try dsimp only) <;> (first | exact ⟨⟨r5, r9, r11⟩, F.drew⟩ | exact hHeld | exact ⟨⟨keep_fr f5 hHeld.1.1, keep_fr f5 hHeld.1.2.1, keep_fr f5 hHeld.1.2.2⟩, hHeld.2.trans' f5⟩ | exact ⟨⟨keep_alloc hHeld.1.1, keep_alloc hHeld.1.2.1, keep_alloc hHeld.1.2.2⟩, hHeld.2.alloc _⟩ | exact ⟨⟨keep_row (by have := HG0.out; omega) hHeld.1.1, keep_row (by have := HG0.out; omega) hHeld.1.2.1, keep_row (by have := HG0.out; omega) hHeld.1.2.2⟩, hHeld.2.setRow (fun h => by have := HG0.out; omega) _⟩))
  clear hK K
  try (simp only [Act.put, List.setIfInBounds_toArray]; dsimp only [List.set_cons_zero, List.set_cons_succ])
  refine rtake 6 ?_
  refine rtake 7 ?_
  refine rtake 8 ?_
  refine wpAnyH_ready (rs := [10]) (by kernel_rfl) (by simp) ?_
  refine AllReadyH.cons (o := ⟨_, _, _, _, _, _⟩) rfl (fun K hK => ?_) AllReadyH.nil
  go_simp
  (try (rw [rowIn_of (n := 32) (t' := 27) (by ((try rw [← Array.getElem?_eq_getElem]); repeat (first | exact heap_alloc_new _ _ | refine keep_alloc ?_ | refine keep_fr (by assumption) ?_))) (by rfl) sx ox]; go_simp))
  refine hK.out _ _ ?_ (fun hHeld => ?_)
  · ((try dsimp only) <;> (first | exact ⟨⟨r5, r9, r11⟩, F.drew⟩ | exact hHeld | exact ⟨⟨keep_fr f5 hHeld.1.1, keep_fr f5 hHeld.1.2.1, keep_fr f5 hHeld.1.2.2⟩, hHeld.2.trans' f5⟩ | exact ⟨⟨keep_alloc hHeld.1.1, keep_alloc hHeld.1.2.1, keep_alloc hHeld.1.2.2⟩, hHeld.2.alloc _⟩ | exact ⟨⟨keep_row (by have := HG0.out; omega) hHeld.1.1, keep_row (by have := HG0.out; omega) hHeld.1.2.1, keep_row (by have := HG0.out; omega) hHeld.1.2.2⟩, hHeld.2.setRow (fun h => by have := HG0.out; omega) _⟩))
  clear hK K
  try (simp only [Act.put, List.setIfInBounds_toArray]; dsimp only [List.set_cons_zero, List.set_cons_succ])
  refine rtake 11 ?_
  refine wpAnyH_done (by kernel_rfl) ?_ _
  refine NoPanic.normal ?_
  rotate_left
  go_simp
  refine hK.out _ _ ?_ (fun hHeld => ?_)
  · ((try dsimp only) <;> (first | exact ⟨⟨r5, r9, r11⟩, F.drew⟩ | exact hHeld | exact ⟨⟨keep_fr f5 hHeld.1.1, keep_fr f5 hHeld.1.2.1, keep_fr f5 hHeld.1.2.2⟩, hHeld.2.trans' f5⟩ | exact ⟨⟨keep_alloc hHeld.1.1, keep_alloc hHeld.1.2.1, keep_alloc hHeld.1.2.2⟩, hHeld.2.alloc _⟩ | exact ⟨⟨keep_row (by have := HG0.out; omega) hHeld.1.1, keep_row (by have := HG0.out; omega) hHeld.1.2.1, keep_row (by have := HG0.out; omega) hHeld.1.2.2⟩, hHeld.2.setRow (fun h => by have := HG0.out; omega) _⟩))
  clear hK K
  try (simp only [Act.put, List.setIfInBounds_toArray]; dsimp only [List.set_cons_zero, List.set_cons_succ])
  refine wpAnyH_ready (rs := [4]) (by kernel_rfl) (by simp) ?_
  refine AllReadyH.cons (o := ⟨_, _, _, _, _, _⟩) rfl (fun K hK => ?_) AllReadyH.nil
  go_simp
  ((with_reducible refine (HPl.out _ hHeld.2).mono ?_); rintro e w5 ⟨a5, c5, rfl, hs5, f5⟩; have z5 := f5.size; (try simp only [World.size_alloc, heap_drew'] at z5))
  refine hK.out _ _ ?_ (fun hHeld => ?_)
  · ((try dsimp only) <;> (first | exact ⟨⟨r5, r9, r11⟩, F.drew⟩ | exact hHeld | exact ⟨⟨keep_fr f5 hHeld.1.1, keep_fr f5 hHeld.1.2.1, keep_fr f5 hHeld.1.2.2⟩, hHeld.2.trans' f5⟩ | exact ⟨⟨keep_alloc hHeld.1.1, keep_alloc hHeld.1.2.1, keep_alloc hHeld.1.2.2⟩, hHeld.2.alloc _⟩ | exact ⟨⟨keep_row (by have := HG0.out; omega) hHeld.1.1, keep_row (by have := HG0.out; omega) hHeld.1.2.1, keep_row (by have := HG0.out; omega) hHeld.1.2.2⟩, hHeld.2.setRow (fun h => by have := HG0.out; omega) _⟩))
  clear hK K
  try (simp only [Act.put, List.setIfInBounds_toArray]; dsimp only [List.set_cons_zero, List.set_cons_succ])
  refine wpAnyH_ready (rs := [5]) (by kernel_rfl) (by simp) ?_
  refine AllReadyH.cons (o := ⟨_, _, _, _, _, _⟩) rfl (fun K hK => ?_) AllReadyH.nil
  go_simp
  ((first | (with_reducible refine (HCl.out a5 c5 _ hs5).mono ?_) | (with_reducible refine (HCl.out a5 c5 _ (hs5.fr ((Fr.refl F0 _).alloc _))).mono ?_)); rintro e w7 ⟨x, hx, rfl, hv, f5⟩; have z7 := f5.size; (try simp only [World.size_alloc, heap_drew'] at z7); have sx := hc_size hx; have ox := hc_one x)
  refine hK.out _ _ ?_ (fun hHeld => ?_)
  · ((try dsimp only) <;> (first | exact ⟨⟨r5, r9, r11⟩, F.drew⟩ | exact hHeld | exact ⟨⟨keep_fr f5 hHeld.1.1, keep_fr f5 hHeld.1.2.1, keep_fr f5 hHeld.1.2.2⟩, hHeld.2.trans' f5⟩ | exact ⟨⟨keep_alloc hHeld.1.1, keep_alloc hHeld.1.2.1, keep_alloc hHeld.1.2.2⟩, hHeld.2.alloc _⟩ | exact ⟨⟨keep_row (by have := HG0.out; omega) hHeld.1.1, keep_row (by have := HG0.out; omega) hHeld.1.2.1, keep_row (by have := HG0.out; omega) hHeld.1.2.2⟩, hHeld.2.setRow (fun h => by have := HG0.out; omega) _⟩))
  clear hK K
  try (simp only [Act.put, List.setIfInBounds_toArray]; dsimp only [List.set_cons_zero, List.set_cons_succ])
  refine rtake 6 ?_
  refine rtake 7 ?_
  refine rtake 8 ?_
  refine wpAnyH_ready (rs := [10]) (by kernel_rfl) (by simp) ?_
  refine AllReadyH.cons (o := ⟨_, _, _, _, _, _⟩) rfl (fun K hK => ?_) AllReadyH.nil
  go_simp
  (try (rw [rowIn_of (n := 32) (t' := 27) (by ((try rw [← Array.getElem?_eq_getElem]); repeat (first | exact heap_alloc_new _ _ | refine keep_alloc ?_ | refine keep_fr (by assumption) ?_))) (by rfl) sx ox]; go_simp))
  refine hK.out _ _ ?_ (fun hHeld => ?_)
  · ((try dsimp only) <;> (first | exact ⟨⟨r5, r9, r11⟩, F.drew⟩ | exact hHeld | exact ⟨⟨keep_fr f5 hHeld.1.1, keep_fr f5 hHeld.1.2.1, keep_fr f5 hHeld.1.2.2⟩, hHeld.2.trans' f5⟩ | exact ⟨⟨keep_alloc hHeld.1.1, keep_alloc hHeld.1.2.1, keep_alloc hHeld.1.2.2⟩, hHeld.2.alloc _⟩ | exact ⟨⟨keep_row (by have := HG0.out; omega) hHeld.1.1, keep_row (by have := HG0.out; omega) hHeld.1.2.1, keep_row (by have := HG0.out; omega) hHeld.1.2.2⟩, hHeld.2.setRow (fun h => by have := HG0.out; omega) _⟩))
  clear hK K
  try (simp only [Act.put, List.setIfInBounds_toArray]; dsimp only [List.set_cons_zero, List.set_cons_succ])
  refine rtake 11 ?_
  refine wpAnyH_done (by kernel_rfl) ?_ _
  refine NoPanic.normal ?_
  rotate_left
  all_goals
    refine hK.out ⟨⟨_, x, hx, rfl, rfl, hv, ?_⟩, hHeld.1, hHeld.2⟩
    apply new_row (t := 27) (f := (0, 0))
    repeat (first | exact heap_alloc_new _ _ | refine keep_alloc ?_ | refine keep_fr (by assumption) ?_)

theorem mc_arg (i n : Int) (hno : ¬ ((1 ≤ n ∧ n ≤ 65536) ∧ (0 ≤ i ∧ i < n))) :
    decide (n < 1) = true ∨ (decide (n < 1) = false ∧ decide (65536 < n) = true) ∨ (decide (n < 1) = false ∧ decide (65536 < n) = false ∧ decide (i < 0) = true) ∨ (decide (n < 1) = false ∧ decide (65536 < n) = false ∧ decide (i < 0) = false ∧ decide (n ≤ i) = true) := by
  simp only [decide_eq_true_eq, decide_eq_false_iff_not]
  omega

set_option maxRecDepth 100000 in
set_option maxHeartbeats 16000000 in
theorem merkleClimbs_arg (h : List UInt8) (hl : h.length = 32) (i n : Int) (l : List (List UInt8)) (a : Option Addr) (c : Nat) (root : List UInt8) (hr : root.length = 32) (w : World) (hs : Hs w a c l) (hcub : Cub w)
    (hno : 20 < l.length ∨ ¬ ((1 ≤ n ∧ n ≤ 65536) ∧ (0 ≤ i ∧ i < n))) :
    Calls Tryd.prog 5 #[.agg (hc h), .int .i64 i, .int .i64 n, .slice a l.length c, .agg (hc root)] w fun e w' => e = .returned (.bool true) ∧ Fr F0 w w' := by
  have HL := Lib.hid (fun W (f : Fr F0 w W) => lives10_any W (hcub.fr f fun e => e))
  have sX := hc_size hl
  have sR := hc_size hr
  have oX := hc_one h
  have oR := hc_one root
  obtain ⟨m, hm⟩ : ∃ m, m = l.length := ⟨_, rfl⟩
  rw [← hm] at hno ⊢
  have hZ := hc_size z32_length
  have oZ := hc_one z32
  have HCl : 20 < m ∨ RowKit.Hid (∀ w, Calls Tryd.prog 18 #[.agg (hc h), .int .i64 i, .int .i64 n, .slice a m c] w fun e w' => e = .returned (.tuple #[.agg (hc z32), .int .i64 1]) ∧ Fr F0 w w') :=
    hno.imp id fun h9 => Lib.hid (fun w => mClimb_arg h i n a m c w hl h9)
  have HCk : 20 < m ∨ RowKit.Hid (∀ w, Calls Tryd.prog 12 #[.agg (hc root), .agg (hc h), .int .i64 i, .int .i64 n, .slice a m c] w fun e w' => e = .returned (.bool false) ∧ Fr F0 w w') :=
    HCl.imp id fun h9 => Lib.hid (fun w => mCheck_of root h z32 i n 1 a m c w hr hl z32_length fun W _ => h9.out W)
  have HZ := Lib.hid Zero_z
  have hK : 20 < m ∨ _ := hno.imp id (mc_arg i n)
  generalize hc z32 = Z at *
  generalize hc h = X at *
  generalize hc root = R at *
  clear hno hs hcub hl hr hm
  go_enter Tryd.func5, Tryd.ntmps5
  go_upto_region 1 with fail
  refine wp_new fun W1 N1 => ?_
  have r9 := N1.new
  have r5 := N1.old (heap_alloc_new w (.cells X 28))
  have F := ((Fr.refl F0 w).alloc (.cells X 28)).trans' N1.fr
  clear N1
  rw [World.size_alloc] at r9
  obtain ⟨g9, hg9⟩ : ∃ g, g = w.heap.size + 1 := ⟨_, rfl⟩
  obtain ⟨g5, hg5⟩ : ∃ g, g = w.heap.size := ⟨_, rfl⟩
  rw [← hg9] at r9 ⊢
  rw [← hg5] at r5 ⊢
  clear hg5 hg9
  go_wp2_with fail
  (with_reducible refine (HL.out _ F).mono ?_); rintro e w2 ⟨rfl, f⟩
  replace r5 := keep_fr f r5
  replace r9 := keep_fr f r9
  replace F := F.trans' f
  clear f
  by_cases hbig : 20 < m
  · have l1 : (20 : Int) < (m : Int) := by omega
    clear HCl HCk hK hbig
    go_wp2_with fail
    (with_reducible refine (HL.out _ F).mono ?_); rintro e w3 ⟨rfl, f⟩
    go_wp2
    go_ret
    exact ⟨rfl, F.trans' f⟩
  have l1 : ¬ (20 : Int) < (m : Int) := by omega
  replace HCl := HCl.resolve_left hbig
  replace HCk := HCk.resolve_left hbig
  replace hK := hK.resolve_left hbig
  clear hbig HL
  go_wp2_with fail
  (with_reducible refine (HCl.out _).mono ?_); rintro e w3 ⟨rfl, f⟩
  replace r5 := keep_fr f r5
  replace r9 := keep_fr f r9
  replace F := F.trans' f
  clear f
  go_upto_region 4 with fail
  refine wp_put fun W4 N4 => ?_
  have r11 := N4.new
  replace r5 := N4.old r5
  replace r9 := N4.old r9
  replace F := F.trans' N4.fr
  clear N4
  generalize w3.heap.size = g11 at *
  go_wp2_with fail
  (with_reducible refine (HCk.out _).mono ?_); rintro e w5 ⟨rfl, f⟩
  replace r11 := keep_fr f r11
  replace F := F.trans' f
  clear f r5 r9 HCl HCk
  rcases hK with k1 | ⟨k1, k2⟩ | ⟨k1, k2, k3⟩ | ⟨k1, k2, k3, k4⟩
  all_goals
    go_wp2_with fail
    (with_reducible refine (HZ.out _).mono ?_); rintro e w6 ⟨rfl, f⟩
    go_wp2
    go_ret
    exact ⟨rfl, F.trans' f⟩
end Go.Proofs.YthpcajpiflpmdaaDoor

/- Layer 10 (merkle): the law MerkleProves: the region that takes the two hashes. -/
namespace Go.Proofs.YthpcajpiflpmdaaDoor
set_option linter.unusedVariables false
set_option linter.unusedSimpArgs false
open Go.RowKit Go.Shelf

set_option maxRecDepth 100000 in
set_option maxHeartbeats 16000000 in
theorem mp10 {s2 s3 s4 s6 s7 s8 s9 s10 s11 s12 s13 s14 s15 s16 s17 s18 s19 s20 s21 s22 s23 s24 s25 s26 s27 s28 s29 s30 s31 s32 s33 s34 s35 s36 s37 s38 s39 s40 s41 s42 s43 s44 s45 s46 s47 s48 s49 s50 s51 s52 s53 s54 s55 s56 s57 s58 s59 s60 s61 s62 s63 s64 s65 s66 s67 s68 s69 s70 s71 s72 s73 s74 s75 s76 s77 s78 s79 s80 s81 s82 s83 s84 s85 s86 s87 s88 s89 s90 s91 s92 s93 s94 s95 s96 s97 s98 s99 s100 s101 s102 s103 s104 s105 s106 s107 s108 s109 s110 s111 s112 s113 s114 s115 s116 s117 s118 s119 s120 s121 s122 s123 s124 s125 s126 s127 s128 s129 s130 s131 s132 s133 s134 s135 s136 s137 s138 s139 : Value} {K : Act → World → Prop} {Q : Exit → Act → World → Prop} (w w6 : World) (X Y : Array Value) (j m c bb off g5 : Nat) (sX : X.size = 32) (sY : Y.size = 32) (oX : rowOne X) (oY : rowOne Y) (hj : j < m) (hjz : (j : Int) < (m : Int)) (HLj : RowKit.Hid (∀ W, Fr F0 w W → (loadRowAt 28 (.pointer (some ⟨bb, off + j * 32, none⟩))).run Tryd.prog W = .ok (.agg Y) W)) (r5 : w6.heap[g5]? = some (.cells X 28 (0, 0))) (F : Fr F0 w w6)
    (hK : RowKit.Hid (∀ {u11 u12 u13 u88 u89 u90 u91 u92 u93 u94 : Value} {w' : World}, ((∃ pa pb : Nat, u11 = .pointer (some ⟨pa, 0, none⟩) ∧ u12 = .pointer (some ⟨pb, 0, none⟩) ∧ u13 = .int .i64 (m : Int) ∧ (pa ≠ pb ∧ w6.heap.size ≤ pa ∧ w6.heap.size ≤ pb) ∧ w'.heap[pa]? = some (.cells Y 27 (0, 0)) ∧ w'.heap[pb]? = some (.cells X 27 (0, 0))) ∧ Fr F0 w w') → K ⟨#[.slice (some ⟨bb, off, none⟩) m c, .int .i64 (j : Int), s2, s3, s4, .pointer (some ⟨g5, 0, none⟩), s6, s7, s8, s9, s10, u11, u12, u13, s14, s15, s16, s17, s18, s19, s20, s21, s22, s23, s24, s25, s26, s27, s28, s29, s30, s31, s32, s33, s34, s35, s36, s37, s38, s39, s40, s41, s42, s43, s44, s45, s46, s47, s48, s49, s50, s51, s52, s53, s54, s55, s56, s57, s58, s59, s60, s61, s62, s63, s64, s65, s66, s67, s68, s69, s70, s71, s72, s73, s74, s75, s76, s77, s78, s79, s80, s81, s82, s83, s84, s85, s86, s87, u88, u89, u90, u91, u92, u93, u94, s95, s96, s97, s98, s99, s100, s101, s102, s103, s104, s105, s106, s107, s108, s109, s110, s111, s112, s113, s114, s115, s116, s117, s118, s119, s120, s121, s122, s123, s124, s125, s126, s127, s128, s129, s130, s131, s132, s133, s134, s135, s136, s137, s138, s139], []⟩ w')) :
    Code.wp Tryd.prog ((Tryd.f6.body.bind (findRegion 10)).getD .skip) (Exit.then K Q) ⟨#[.slice (some ⟨bb, off, none⟩) m c, .int .i64 (j : Int), s2, s3, s4, .pointer (some ⟨g5, 0, none⟩), s6, s7, s8, s9, s10, s11, s12, s13, s14, s15, s16, s17, s18, s19, s20, s21, s22, s23, s24, s25, s26, s27, s28, s29, s30, s31, s32, s33, s34, s35, s36, s37, s38, s39, s40, s41, s42, s43, s44, s45, s46, s47, s48, s49, s50, s51, s52, s53, s54, s55, s56, s57, s58, s59, s60, s61, s62, s63, s64, s65, s66, s67, s68, s69, s70, s71, s72, s73, s74, s75, s76, s77, s78, s79, s80, s81, s82, s83, s84, s85, s86, s87, s88, s89, s90, s91, s92, s93, s94, s95, s96, s97, s98, s99, s100, s101, s102, s103, s104, s105, s106, s107, s108, s109, s110, s111, s112, s113, s114, s115, s116, s117, s118, s119, s120, s121, s122, s123, s124, s125, s126, s127, s128, s129, s130, s131, s132, s133, s134, s135, s136, s137, s138, s139], []⟩ w6 := by
  conv => arg 2; whnf
  have HG0 := Lib.hid (And.intro (Array.getElem?_eq_some_iff.1 r5).1 F.size)
  refine wp_region_noPanic ?_
  refine wp_region_held_drew (S := (fun w' => (w'.heap[g5]? = some (.cells X 28 (0, 0)) ∧ (loadRowAt 28 (.pointer (some ⟨bb, off + j * 32, none⟩))).run Tryd.prog w' = .ok (.agg Y) w') ∧ Fr F0 w w')) (by kernel_rfl) ?_ (fun hHeld => ?_)
  · ((try dsimp only) <;> (first | exact ⟨⟨r5, HLj.out _ F.drew⟩, F.drew⟩ | exact hHeld | exact ⟨⟨keep_alloc hHeld.1.1, HLj.out _ (hHeld.2.alloc _)⟩, hHeld.2.alloc _⟩ | exact ⟨⟨keep_row (by have := HG0.out; (try simp only [World.size_alloc, heap_drew']); omega) hHeld.1.1, HLj.out _ (hHeld.2.setRow (fun h => by have := HG0.out; (try simp only [World.size_alloc, heap_drew'] at h); omega) _)⟩, hHeld.2.setRow (fun h => by have := HG0.out; (try simp only [World.size_alloc, heap_drew'] at h); omega) _⟩))
  refine rtake 0 ?_
  refine rtake 1 ?_
  refine rtake 2 ?_
  refine rtake 3 ?_
  refine rtake 4 ?_
  refine rtake 5 ?_
  refine rtake 6 ?_
  refine wpAnyH_ready (rs := [7, 8]) (by kernel_rfl) (by simp) ?_
  refine AllReadyH.cons (o := ⟨_, _, _, _, _, _⟩) rfl (fun K hK => ?_) (AllReadyH.cons (o := ⟨_, _, _, _, _, _⟩) rfl (fun K hK => ?_) AllReadyH.nil)
  go_simp
  refine hK.out _ _ ?_ (fun hHeld => ?_)
  · ((try dsimp only) <;> (first | exact ⟨⟨r5, HLj.out _ F.drew⟩, F.drew⟩ | exact hHeld | exact ⟨⟨keep_alloc hHeld.1.1, HLj.out _ (hHeld.2.alloc _)⟩, hHeld.2.alloc _⟩ | exact ⟨⟨keep_row (by have := HG0.out; (try simp only [World.size_alloc, heap_drew']); omega) hHeld.1.1, HLj.out _ (hHeld.2.setRow (fun h => by have := HG0.out; (try simp only [World.size_alloc, heap_drew'] at h); omega) _)⟩, hHeld.2.setRow (fun h => by have := HG0.out; (try simp only [World.size_alloc, heap_drew'] at h); omega) _⟩))
  clear hK K
  try (simp only [Act.put, List.setIfInBounds_toArray]; dsimp only [List.set_cons_zero, List.set_cons_succ])
  refine wpAnyH_ready (rs := [8]) (by kernel_rfl) (by simp) ?_
  refine AllReadyH.cons (o := ⟨_, _, _, _, _, _⟩) rfl (fun K hK => ?_) AllReadyH.nil
  go_simp
  refine hK.out _ _ ?_ (fun hHeld => ?_)
  · ((try dsimp only) <;> (first | exact ⟨⟨r5, HLj.out _ F.drew⟩, F.drew⟩ | exact hHeld | exact ⟨⟨keep_alloc hHeld.1.1, HLj.out _ (hHeld.2.alloc _)⟩, hHeld.2.alloc _⟩ | exact ⟨⟨keep_row (by have := HG0.out; (try simp only [World.size_alloc, heap_drew']); omega) hHeld.1.1, HLj.out _ (hHeld.2.setRow (fun h => by have := HG0.out; (try simp only [World.size_alloc, heap_drew'] at h); omega) _)⟩, hHeld.2.setRow (fun h => by have := HG0.out; (try simp only [World.size_alloc, heap_drew'] at h); omega) _⟩))
  clear hK K
  try (simp only [Act.put, List.setIfInBounds_toArray]; dsimp only [List.set_cons_zero, List.set_cons_succ])
  refine wpAnyH_ready (rs := [9]) (by kernel_rfl) (by simp) ?_
  refine AllReadyH.cons (o := ⟨_, _, _, _, _, _⟩) rfl (fun K hK => ?_) AllReadyH.nil
  go_simp
  (try (rw [rowIn_of (n := 32) (t' := 27) (by ((try rw [← Array.getElem?_eq_getElem]); repeat (first | exact heap_alloc_new _ _ | exact heap_alloc2_new _ _ _ | refine keep_row (by (try simp only [World.size_alloc]); omega) ?_ | refine keep_alloc ?_))) (by rfl) sY oY]; go_simp))
  refine hK.out _ _ ?_ (fun hHeld => ?_)
  · ((try dsimp only) <;> (first | exact ⟨⟨r5, HLj.out _ F.drew⟩, F.drew⟩ | exact hHeld | exact ⟨⟨keep_alloc hHeld.1.1, HLj.out _ (hHeld.2.alloc _)⟩, hHeld.2.alloc _⟩ | exact ⟨⟨keep_row (by have := HG0.out; (try simp only [World.size_alloc, heap_drew']); omega) hHeld.1.1, HLj.out _ (hHeld.2.setRow (fun h => by have := HG0.out; (try simp only [World.size_alloc, heap_drew'] at h); omega) _)⟩, hHeld.2.setRow (fun h => by have := HG0.out; (try simp only [World.size_alloc, heap_drew'] at h); omega) _⟩))
  clear hK K
  try (simp only [Act.put, List.setIfInBounds_toArray]; dsimp only [List.set_cons_zero, List.set_cons_succ])
  refine wpAnyH_ready (rs := [10]) (by kernel_rfl) (by simp) ?_
  refine AllReadyH.cons (o := ⟨_, _, _, _, _, _⟩) rfl (fun K hK => ?_) AllReadyH.nil
  go_simp
  (try (rw [rowIn_of (n := 32) (t' := 27) (by ((try rw [← Array.getElem?_eq_getElem]); repeat (first | exact heap_alloc_new _ _ | exact heap_alloc2_new _ _ _ | refine keep_row (by (try simp only [World.size_alloc]); omega) ?_ | refine keep_alloc ?_))) (by rfl) sX oX]; go_simp))
  refine hK.out _ _ ?_ (fun hHeld => ?_)
  · ((try dsimp only) <;> (first | exact ⟨⟨r5, HLj.out _ F.drew⟩, F.drew⟩ | exact hHeld | exact ⟨⟨keep_alloc hHeld.1.1, HLj.out _ (hHeld.2.alloc _)⟩, hHeld.2.alloc _⟩ | exact ⟨⟨keep_row (by have := HG0.out; (try simp only [World.size_alloc, heap_drew']); omega) hHeld.1.1, HLj.out _ (hHeld.2.setRow (fun h => by have := HG0.out; (try simp only [World.size_alloc, heap_drew'] at h); omega) _)⟩, hHeld.2.setRow (fun h => by have := HG0.out; (try simp only [World.size_alloc, heap_drew'] at h); omega) _⟩))
  clear hK K
  try (simp only [Act.put, List.setIfInBounds_toArray]; dsimp only [List.set_cons_zero, List.set_cons_succ])
  refine rtake 11 ?_
  refine wpAnyH_done (by kernel_rfl) ?_ _
  refine NoPanic.normal ?_
  rotate_left
  go_simp
  refine hK.out _ _ ?_ (fun hHeld => ?_)
  · ((try dsimp only) <;> (first | exact ⟨⟨r5, HLj.out _ F.drew⟩, F.drew⟩ | exact hHeld | exact ⟨⟨keep_alloc hHeld.1.1, HLj.out _ (hHeld.2.alloc _)⟩, hHeld.2.alloc _⟩ | exact ⟨⟨keep_row (by have := HG0.out; (try simp only [World.size_alloc, heap_drew']); omega) hHeld.1.1, HLj.out _ (hHeld.2.setRow (fun h => by have := HG0.out; (try simp only [World.size_alloc, heap_drew'] at h); omega) _)⟩, hHeld.2.setRow (fun h => by have := HG0.out; (try simp only [World.size_alloc, heap_drew'] at h); omega) _⟩))
  clear hK K
  try (simp only [Act.put, List.setIfInBounds_toArray]; dsimp only [List.set_cons_zero, List.set_cons_succ])
  refine wpAnyH_ready (rs := [7]) (by kernel_rfl) (by simp) ?_
  refine AllReadyH.cons (o := ⟨_, _, _, _, _, _⟩) rfl (fun K hK => ?_) AllReadyH.nil
  go_simp
  refine hK.out _ _ ?_ (fun hHeld => ?_)
  · ((try dsimp only) <;> (first | exact ⟨⟨r5, HLj.out _ F.drew⟩, F.drew⟩ | exact hHeld | exact ⟨⟨keep_alloc hHeld.1.1, HLj.out _ (hHeld.2.alloc _)⟩, hHeld.2.alloc _⟩ | exact ⟨⟨keep_row (by have := HG0.out; (try simp only [World.size_alloc, heap_drew']); omega) hHeld.1.1, HLj.out _ (hHeld.2.setRow (fun h => by have := HG0.out; (try simp only [World.size_alloc, heap_drew'] at h); omega) _)⟩, hHeld.2.setRow (fun h => by have := HG0.out; (try simp only [World.size_alloc, heap_drew'] at h); omega) _⟩))
  clear hK K
  try (simp only [Act.put, List.setIfInBounds_toArray]; dsimp only [List.set_cons_zero, List.set_cons_succ])
  refine wpAnyH_ready (rs := [9]) (by kernel_rfl) (by simp) ?_
  refine AllReadyH.cons (o := ⟨_, _, _, _, _, _⟩) rfl (fun K hK => ?_) AllReadyH.nil
  go_simp
  (try (rw [rowIn_of (n := 32) (t' := 27) (by ((try rw [← Array.getElem?_eq_getElem]); repeat (first | exact heap_alloc_new _ _ | exact heap_alloc2_new _ _ _ | refine keep_row (by (try simp only [World.size_alloc]); omega) ?_ | refine keep_alloc ?_))) (by rfl) sY oY]; go_simp))
  refine hK.out _ _ ?_ (fun hHeld => ?_)
  · ((try dsimp only) <;> (first | exact ⟨⟨r5, HLj.out _ F.drew⟩, F.drew⟩ | exact hHeld | exact ⟨⟨keep_alloc hHeld.1.1, HLj.out _ (hHeld.2.alloc _)⟩, hHeld.2.alloc _⟩ | exact ⟨⟨keep_row (by have := HG0.out; (try simp only [World.size_alloc, heap_drew']); omega) hHeld.1.1, HLj.out _ (hHeld.2.setRow (fun h => by have := HG0.out; (try simp only [World.size_alloc, heap_drew'] at h); omega) _)⟩, hHeld.2.setRow (fun h => by have := HG0.out; (try simp only [World.size_alloc, heap_drew'] at h); omega) _⟩))
  clear hK K
  try (simp only [Act.put, List.setIfInBounds_toArray]; dsimp only [List.set_cons_zero, List.set_cons_succ])
  refine wpAnyH_ready (rs := [10]) (by kernel_rfl) (by simp) ?_
  refine AllReadyH.cons (o := ⟨_, _, _, _, _, _⟩) rfl (fun K hK => ?_) AllReadyH.nil
  go_simp
  (try (rw [rowIn_of (n := 32) (t' := 27) (by ((try rw [← Array.getElem?_eq_getElem]); repeat (first | exact heap_alloc_new _ _ | exact heap_alloc2_new _ _ _ | refine keep_row (by (try simp only [World.size_alloc]); omega) ?_ | refine keep_alloc ?_))) (by rfl) sX oX]; go_simp))
  refine hK.out _ _ ?_ (fun hHeld => ?_)
  · ((try dsimp only) <;> (first | exact ⟨⟨r5, HLj.out _ F.drew⟩, F.drew⟩ | exact hHeld | exact ⟨⟨keep_alloc hHeld.1.1, HLj.out _ (hHeld.2.alloc _)⟩, hHeld.2.alloc _⟩ | exact ⟨⟨keep_row (by have := HG0.out; (try simp only [World.size_alloc, heap_drew']); omega) hHeld.1.1, HLj.out _ (hHeld.2.setRow (fun h => by have := HG0.out; (try simp only [World.size_alloc, heap_drew'] at h); omega) _)⟩, hHeld.2.setRow (fun h => by have := HG0.out; (try simp only [World.size_alloc, heap_drew'] at h); omega) _⟩))
  clear hK K
  try (simp only [Act.put, List.setIfInBounds_toArray]; dsimp only [List.set_cons_zero, List.set_cons_succ])
  refine rtake 11 ?_
  refine wpAnyH_done (by kernel_rfl) ?_ _
  refine NoPanic.normal ?_
  rotate_left
  all_goals
    refine hK.out ⟨⟨_, _, rfl, rfl, rfl, ⟨by (try simp only [World.size_alloc, heap_drew', World.size_setRow]); omega, by (try simp only [World.size_alloc, heap_drew', World.size_setRow]); omega, by (try simp only [World.size_alloc, heap_drew', World.size_setRow]); omega⟩, ?_, ?_⟩, hHeld.2⟩
    · repeat (first | exact heap_alloc_new _ _ | exact heap_alloc2_new _ _ _ | refine keep_row (by (try simp only [World.size_alloc, heap_drew', World.size_setRow]); omega) ?_ | refine keep_alloc ?_ | refine keep_drew ?_ | apply new_row (t := 27) (f := (0, 0)))
    · repeat (first | exact heap_alloc_new _ _ | exact heap_alloc2_new _ _ _ | refine keep_row (by (try simp only [World.size_alloc, heap_drew', World.size_setRow]); omega) ?_ | refine keep_alloc ?_ | refine keep_drew ?_ | apply new_row (t := 27) (f := (0, 0)))
end Go.Proofs.YthpcajpiflpmdaaDoor
