import Derived.Test.YthpcajpiflpmdaaDoorZ8
import Derived.Test.YthpcajpiflpmdaaDoorZ2
import Derived.Test.YthpcajpiflpmdaaDoorZ1
import Derived.OwnWalk
import Derived.Test.YthpcajpiflpmdaaDoorZ4
import Derived.Deep.CutBlock
import Derived.Deep.DeepCutAuto
import Derived.Deep.RegionHeld3
import Derived.OrdersHeld
/- Stage 2, digest: Double. -/
namespace Go.Proofs.YthpcajpiflpmdaaDoor
set_option linter.unusedVariables false
set_option linter.unusedSimpArgs false
open Go.RowKit

set_option maxHeartbeats 4000000 in
theorem Double_any (a : Option Addr) (n c : Nat) (bs : List UInt8) (hn : n = bs.length) (hl : bs.length ≤ 140737488355000) (w : World) (h : Bs w a c bs) (hcub : Cub w) :
    Calls Tryd.prog 21 #[.slice a n c] w fun e w' => e = .returned (.agg ((sha2 bs).map B8).toArray) ∧ Fr F0 w w' := by
  subst hn
  have hz1 : ((sha bs).map B8).toArray.size = 32 := by simp [sha_length]
  have hz2 : ((sha2 bs).map B8).toArray.size = 32 := by simp [sha2, sha_length]
  have HB := Lib.hid h
  have HC := Lib.hid hcub
  clear h hcub
  go_enter Tryd.func21, Tryd.ntmps21
  go_wp2_with fail
  refine (Sum_any a _ c bs rfl hl _ (Sl.fr HB.out ((Fr.refl F0 w).alloc _) fun _ _ f => f) (HC.out.fr ((Fr.refl F0 w).alloc _) fun f => f)).mono ?_
  rintro e w1 ⟨rfl, h1⟩
  have h1s := h1.size
  simp only [World.size_alloc] at h1s
  go_wp2_with (refine wpList_store_row rfl 28 (.tmp 3) (.tmp 5) rfl w1.heap.size _ rfl rfl 28 _ (heap_alloc_new w1 _) (by rw [Tryd.sz32, hz1]) (by rw [hz1]; rfl) (oneB_map _) ?_)
  generalize hY : w1.heap.size = Y at *
  have hF2 : Fr F0 w ((w1.alloc (.cells #[.int .u8 0, .int .u8 0, .int .u8 0, .int .u8 0, .int .u8 0, .int .u8 0, .int .u8 0, .int .u8 0, .int .u8 0, .int .u8 0, .int .u8 0, .int .u8 0, .int .u8 0, .int .u8 0, .int .u8 0, .int .u8 0, .int .u8 0, .int .u8 0, .int .u8 0, .int .u8 0, .int .u8 0, .int .u8 0, .int .u8 0, .int .u8 0, .int .u8 0, .int .u8 0, .int .u8 0, .int .u8 0, .int .u8 0, .int .u8 0, .int .u8 0, .int .u8 0] 28)).setRow Y ((sha bs).map B8).toArray) := ((((Fr.refl F0 w).alloc _).trans' h1).alloc _).setRow (fun h => by omega) _
  have hY2 := setRow_heap _ _ _ ((sha bs).map B8).toArray _ _ (show (w1.alloc (.cells #[.int .u8 0, .int .u8 0, .int .u8 0, .int .u8 0, .int .u8 0, .int .u8 0, .int .u8 0, .int .u8 0, .int .u8 0, .int .u8 0, .int .u8 0, .int .u8 0, .int .u8 0, .int .u8 0, .int .u8 0, .int .u8 0, .int .u8 0, .int .u8 0, .int .u8 0, .int .u8 0, .int .u8 0, .int .u8 0, .int .u8 0, .int .u8 0, .int .u8 0, .int .u8 0, .int .u8 0, .int .u8 0, .int .u8 0, .int .u8 0, .int .u8 0, .int .u8 0] 28)).heap[Y]? = some (.cells _ 28 (0, 0)) by rw [← hY]; exact heap_alloc_new w1 _)
  have hR : ∃ cs, ((w1.alloc (.cells #[.int .u8 0, .int .u8 0, .int .u8 0, .int .u8 0, .int .u8 0, .int .u8 0, .int .u8 0, .int .u8 0, .int .u8 0, .int .u8 0, .int .u8 0, .int .u8 0, .int .u8 0, .int .u8 0, .int .u8 0, .int .u8 0, .int .u8 0, .int .u8 0, .int .u8 0, .int .u8 0, .int .u8 0, .int .u8 0, .int .u8 0, .int .u8 0, .int .u8 0, .int .u8 0, .int .u8 0, .int .u8 0, .int .u8 0, .int .u8 0, .int .u8 0, .int .u8 0] 28)).setRow Y ((sha bs).map B8).toArray).heap[w.heap.size]? = some (.cells cs 28 (0, 0)) ∧ cs.size = 32 := ⟨_, by rw [setRow_other _ _ _ _ (by omega), heap_alloc_old _ _ (by omega)]; exact h1.keeps (fun f => f) (heap_alloc_new w _), rfl⟩
  generalize (w1.alloc (.cells #[.int .u8 0, .int .u8 0, .int .u8 0, .int .u8 0, .int .u8 0, .int .u8 0, .int .u8 0, .int .u8 0, .int .u8 0, .int .u8 0, .int .u8 0, .int .u8 0, .int .u8 0, .int .u8 0, .int .u8 0, .int .u8 0, .int .u8 0, .int .u8 0, .int .u8 0, .int .u8 0, .int .u8 0, .int .u8 0, .int .u8 0, .int .u8 0, .int .u8 0, .int .u8 0, .int .u8 0, .int .u8 0, .int .u8 0, .int .u8 0, .int .u8 0, .int .u8 0] 28)).setRow Y ((sha bs).map B8).toArray = w2 at *
  obtain ⟨cs, hR, hRz⟩ := hR
  have hx := Bs.of_row hY2 (by rw [sha_length]; unfold maxLen; omega)
  rw [sha_length] at hx
  refine (Sum_any _ 32 32 (sha bs) (sha_length _).symm (by rw [sha_length]; omega) _ hx (HC.out.fr hF2 fun f => f)).mono ?_
  rintro e w3 ⟨rfl, h3⟩
  go_wp2_with (refine wpList_store_row rfl 28 (.tmp 2) (.tmp 7) rfl w.heap.size _ rfl rfl 28 _ (h3.keeps (fun f => f) hR) (by rw [Tryd.sz32]; exact congrArg some hz2.symm) (by rw [hRz]; exact hz2.symm) (oneB_map _) ?_)
  refine bodyPost_ret (results_cell_row rfl _ _ w.heap.size _ _ _ _ rfl (setRow_heap _ _ _ _ _ _ (h3.keeps (fun f => f) hR)) Tryd.underlying28 rfl (by rw [Tryd.sz32]; exact congrArg some hz2.symm)) rfl ⟨rfl, ?_⟩
  exact (hF2.trans' h3).setRow (fun h => by omega) _
end Go.Proofs.YthpcajpiflpmdaaDoor

/- The document's answer 02 (digest): how it reckons the standard's constants, as Lean says it; that they are the standard's. Nothing here speaks of the program. -/
namespace Go.Proofs.YthpcajpiflpmdaaDoor
set_option linter.unusedVariables false
set_option linter.unusedSimpArgs false

/-- The digits of what is carried. -/
def dig : Nat → Nat → List Nat
  | 0, _ => []
  | f + 1, c => if c = 0 then [] else c % 65536 :: dig f (c / 65536)

/-- Digits times x, with a carry. -/
def mulL : List Nat → Nat → Nat → List Nat
  | [], x, c => dig 8 c
  | d :: l, x, c => (c + d * x) % 65536 :: mulL l x ((c + d * x) / 65536)

def powL (x : Nat) : Nat → List Nat
  | 0 => [1]
  | n + 1 => mulL (powL x n) x 0

theorem dig_fuel : ∀ f c, c < 65536 ^ f → dig (f + 1) c = dig f c
  | 0, c, h => by
    have : c = 0 := by simpa using h
    subst this
    rfl
  | f + 1, c, h => by
    show (if c = 0 then [] else c % 65536 :: dig (f + 1) (c / 65536)) = (if c = 0 then [] else c % 65536 :: dig f (c / 65536))
    split
    · rfl
    · rw [dig_fuel f (c / 65536) (by rw [Nat.div_lt_iff_lt_mul (by omega)]; rw [Nat.pow_succ] at h; exact h)]

theorem dig_zero : dig 8 0 = [] := rfl
theorem dig_step (c : Nat) (h0 : 0 < c) (h : c < 18446744073709551616) : dig 8 c = c % 65536 :: dig 8 (c / 65536) := by
  have e : dig 8 c = c % 65536 :: dig 7 (c / 65536) := by
    show (if c = 0 then [] else c % 65536 :: dig 7 (c / 65536)) = _
    rw [if_neg (by omega)]
  rw [e, dig_fuel 7 _ (by
    have : (65536 : Nat) ^ 7 = 5192296858534827628530496329220096 := by decide
    omega)]

theorem dig_small : ∀ f c, ∀ d ∈ dig f c, d < 65536
  | 0, _ => by simp [dig]
  | f + 1, c => by
    intro d hd
    rw [dig] at hd
    split at hd
    · cases hd
    · rcases List.mem_cons.1 hd with rfl | hd
      · omega
      · exact dig_small f _ d hd

theorem mulL_small : ∀ l x c, ∀ d ∈ mulL l x c, d < 65536
  | [], x, c => dig_small 8 c
  | e :: l, x, c => by
    intro d hd
    rcases List.mem_cons.1 hd with rfl | hd
    · omega
    · exact mulL_small l x _ d hd

theorem powL_small (x : Nat) : ∀ n, ∀ d ∈ powL x n, d < 65536
  | 0 => by simp [powL]
  | n + 1 => mulL_small _ _ _

theorem dig_length : ∀ f c, (dig f c).length ≤ f
  | 0, _ => by simp [dig]
  | f + 1, c => by
    rw [dig]
    split
    · simp
    · simp only [List.length_cons]
      have := dig_length f (c / 65536)
      omega

theorem mulL_length : ∀ l x c, (mulL l x c).length ≤ l.length + 8
  | [], x, c => by have := dig_length 8 c; simpa [mulL] using this
  | e :: l, x, c => by have := mulL_length l x ((c + e * x) / 65536); simp only [mulL, List.length_cons]; omega

theorem powL_length (x : Nat) : ∀ n, (powL x n).length ≤ 1 + 8 * n
  | 0 => by simp [powL]
  | n + 1 => by have := mulL_length (powL x n) x 0; have := powL_length x n; simp only [powL]; omega

/-- Which of two is greater, by sixteen digits. -/
def ovr (a b : List Nat) : Nat → Bool
  | 0 => false
  | i + 1 => if a.getD i 0 = b.getD i 0 then ovr a b i else decide (b.getD i 0 < a.getD i 0)

def wantL (p n : Nat) : List Nat := List.replicate (2 * n) 0 ++ [p]

/-- The bits that are left. -/
def rootX (p n : Nat) : Nat → Nat → Nat
  | 0, x => x
  | b + 1, x => rootX p n b (if ovr (powL (x + 2 ^ b) n) (wantL p n) 16 then x else x + 2 ^ b)

def rootN (p n : Nat) : Nat := rootX p n 36 0 % 4294967296

/-- The primes below. -/
def primesB : Nat → List Nat
  | 0 => []
  | p + 1 => if p < 2 then [] else if (primesB p).all (fun q => decide (p % q ≠ 0)) then primesB p ++ [p] else primesB p

theorem primesB_pos : ∀ p, ∀ q ∈ primesB p, 2 ≤ q ∧ q < p
  | 0 => by simp [primesB]
  | p + 1 => by
    intro q hq
    rw [primesB] at hq
    split at hq
    · cases hq
    · split at hq
      · rcases List.mem_append.1 hq with hq | hq
        · have := primesB_pos p q hq; omega
        · have : q = p := by simpa using hq
          omega
      · have := primesB_pos p q hq; omega

theorem primesB_step (p : Nat) (h : 2 ≤ p) : primesB (p + 1) = if (primesB p).all (fun q => decide (p % q ≠ 0)) then primesB p ++ [p] else primesB p := by
  rw [primesB, if_neg (by omega)]

theorem primesB_mono (p : Nat) (h : 2 ≤ p) : ∀ u, (primesB p).length ≤ (primesB (p + u)).length
  | 0 => Nat.le_refl _
  | u + 1 => by
    refine Nat.le_trans (primesB_mono p h u) ?_
    rw [← Nat.add_assoc, primesB_step _ (by omega)]
    split <;> simp

theorem primes_311 : (primesB 311).length = 63 := by decide +kernel
theorem primes_312 : (primesB 312).length = 64 := by decide +kernel

theorem primes_few (p : Nat) (h : 2 ≤ p) (h' : p < 312) : (primesB p).length < 64 := by
  have := primesB_mono p h (311 - p)
  rw [show p + (311 - p) = 311 by omega, primes_311] at this
  omega

theorem cubes_right : (primesB 312).map (fun p => rootN p 3) = cubesN := by decide +kernel
theorem squares_right : ((primesB 312).take 8).map (fun p => rootN p 2) = squaresN := by decide +kernel
theorem primes_small : ∀ p ∈ primesB 312, p < 312 := fun p h => (primesB_pos 312 p h).2

theorem cubes_at (i : Nat) (h : i < 64) : BitVec.ofNat 32 (rootN ((primesB 312).getD i 0) 3) = cubesL.getD i 0 := by
  rw [cubesL, ← cubes_right]
  simp [List.getD, List.getElem?_eq_getElem (show i < (primesB 312).length by rw [primes_312]; exact h)]

theorem squares_at (i : Nat) (h : i < 8) : BitVec.ofNat 32 (rootN ((primesB 312).getD i 0) 2) = H0.getD i 0 := by
  rw [H0, ← squares_right]
  have h8 : i < ((primesB 312).take 8).length := by rw [List.length_take, primes_312]; omega
  simp [List.getD, List.getElem?_take, h, List.getElem?_eq_getElem (show i < (primesB 312).length by rw [primes_312]; omega)]
end Go.Proofs.YthpcajpiflpmdaaDoor

/- The document's answer 02 (digest): the walks of digit, power. -/
namespace Go.Proofs.YthpcajpiflpmdaaDoor
set_option linter.unusedVariables false
set_option linter.unusedSimpArgs false
open Go.RowKit

theorem Tryd.infoU64b : (Tryd.prog.info? 70).map (fun i => (i.zero, i.size, i.bytes)) = some (some (.int .u64 0), 1, 8) := by kernel_rfl

/-- A number of 64 bits as a value. -/
def U64b (x : Nat) : Value := .int .u64 (x : Int)
/-- A slice of numbers that is read. -/
def Us2 (w : World) (a : Option Addr) (c : Nat) (l : List Nat) : Prop := Sl w 1 a c l.length (l.map U64b)
/-- A row of numbers of the call's own. -/
def OwnU2 (w : World) (v : Value) (l : List Nat) : Prop := w.ownsRow 0 70 1 v l.length (l.map U64b)

theorem OwnU2.nil (w : World) : OwnU2 w (.slice none 0 0) [] := World.ownsRow_nil _ _ _ _
theorem OwnU2.us {w : World} {a : Option Addr} {n c : Nat} {l : List Nat} (h : OwnU2 w (.slice a n c) l) : n = l.length ∧ Us2 w a c l := by
  obtain ⟨rfl, hs⟩ := Sl.of_own h
  exact ⟨rfl, hs⟩
theorem OwnU2.slice {w : World} {v : Value} {l : List Nat} (h : OwnU2 w v l) : ∃ a c, v = .slice a l.length c := own_slice h
theorem OwnU2.lt {w : World} {v : Value} {l : List Nat} (h : OwnU2 w v l) : ∀ k, v.ownBlock = some k → k < w.heap.size := fun k hk => (World.ownsRow.lt h k hk).2
theorem OwnU2.fr {S : Nat → Prop} {w w' : World} {v : Value} {l : List Nat} (h : OwnU2 w v l) (hf : Fr S w w') (hs : ∀ k, v.ownBlock = some k → ¬ S k) : OwnU2 w' v l := by
  refine ⟨h.1, ?_⟩
  rcases h.2 with hn | ⟨g, cap, cur, rfl, hb, hg, r⟩
  · exact .inl hn
  · exact .inr ⟨g, cap, cur, rfl, hb, hf.keeps (hs g rfl) hg, r⟩

theorem Us2.one {l : List Nat} : ∀ u ∈ l.map U64b, u.oneCell' = true := by
  intro u hu
  simp only [List.mem_map] at hu
  obtain ⟨x, _, rfl⟩ := hu
  rfl

theorem Us2.get {w : World} {a : Option Addr} {c : Nat} {l : List Nat} (h : Us2 w a c l) (j : Nat) (hj : j < l.length) : ∃ b off, a = some ⟨b, off, none⟩ ∧ w.cell? ⟨b, off + j, none⟩ = some (.int .u64 (l.getD j 0 : Nat)) :=
  h.cell j (U64b (l.getD j 0)) (by simp [List.getElem?_map, List.getElem?_eq_getElem hj, List.getD])

/-- 'append(s, x...)' on numbers, in a walk. -/
theorem wpList_appU2 {w : World} {ops : Array Oper} {rest : List Oper} {o : Oper} {a : Act} {Q : Exit → Act → World → Prop} (hgd : o.guard = none) (s x : Operand)
    (ho : o.op = .call { callee := .builtin .append, args := #[s, x], argTypes := #[84, 84] })
    (v : Value) (b0 : List Nat) (hs : a.eval s = v) (hown : OwnU2 w v b0) (ad : Option Addr) (m c : Nat) (l : List Nat) (hx : a.eval x = .slice ad m c) (hsl : Us2 w ad c l) (hm : m = l.length)
    (hb : b0.length + l.length ≤ 1000000)
    (h : ∀ a' c' w', OwnU2 w' (.slice a' (b0.length + l.length) c') (b0 ++ l) → w.grownBy w' v.ownBlock → (∀ k, ablk a' = some k → v.ownBlock = some k ∨ w.heap.size ≤ k) →
      wpList Tryd.prog ops Q rest (a.put o.dst (.slice a' (b0.length + l.length) c')) w') : wpList Tryd.prog ops Q (o :: rest) a w := by
  subst hm
  obtain ⟨i0, hi, hz0, hz1, hz2⟩ := info_parts Tryd.infoU64b
  refine wpList_app hgd s x 84 ho 70 i0 (.int .u64 0) 1 8 Tryd.underlying84 hi hz0 hz1 hz2 rfl (by decide) v _ _ hs hown ad c _ _ hx hsl Us2.one (by unfold maxLen; omega) (by omega) ?_
  intro a' c' w' h1 h2 h3
  exact h a' c' w' (by simpa [OwnU2] using h1) h2 h3

theorem Us2.of_new (w : World) (x : Nat) : Us2 (w.alloc (.cells #[.int .u64 (x : Int)] 70)) (some ⟨w.heap.size, 0, none⟩) 1 [x] :=
  ⟨rfl, Nat.le_refl _, by unfold maxLen; omega, (fun e => by cases e), fun j u hj => ⟨w.heap.size, 0, rfl, by
    rw [Nat.zero_add, cell_of_row _ _ j _ _ _ (heap_alloc_new w _)]
    match j, hj with
    | 0, hj => simpa [U64b] using hj⟩⟩

theorem digit2_any (a : Option Addr) (n c : Nat) (l : List Nat) (i : Nat) (hn : n = l.length) (w : World) (h : Us2 w a c l) :
    Calls Tryd.prog 54 #[.slice a n c, .int .i64 (i : Int)] w fun e w' => e = .returned (.int .u64 (l.getD i 0 : Nat)) ∧ w' = w := by
  subst hn
  by_cases hi : i < l.length
  · obtain ⟨b, off, rfl, hc⟩ := h.get i hi
    have l1 : (i : Int) < l.length := by omega
    clear h
    generalize l.getD i 0 = v at *
    go_enter Tryd.func54, Tryd.ntmps54
    go_wp2
    go_ret
    exact ⟨rfl, rfl⟩
  · have l1 : ¬ (i : Int) < l.length := by omega
    have e : l.getD i 0 = 0 := by simp [List.getD, List.getElem?_eq_none (show l.length ≤ i by omega)]
    rw [e]
    clear h e
    go_enter Tryd.func54, Tryd.ntmps54
    go_wp2
    go_ret
    exact ⟨rfl, rfl⟩

/-- What is left to be written of a product. -/
def restL (l : List Nat) (x i c : Nat) : List Nat := mulL (l.drop i) x c

theorem restL_in (l : List Nat) (x i c : Nat) (h : i < l.length) : restL l x i c = (c + l.getD i 0 * x) % 65536 :: restL l x (i + 1) ((c + l.getD i 0 * x) / 65536) := by
  rw [restL, List.drop_eq_getElem_cons h]
  simp [mulL, restL, List.getD, List.getElem?_eq_getElem h]

theorem restL_out (l : List Nat) (x i c : Nat) (h : l.length ≤ i) (h0 : 0 < c) (hc : c < 18446744073709551616) : restL l x i c = c % 65536 :: restL l x (i + 1) (c / 65536) := by
  rw [restL, restL, List.drop_eq_nil_of_le h, List.drop_eq_nil_of_le (by omega)]
  exact dig_step c h0 hc

theorem restL_end (l : List Nat) (x i : Nat) (h : l.length ≤ i) : restL l x i 0 = [] := by
  rw [restL, List.drop_eq_nil_of_le h]
  rfl

set_option maxRecDepth 100000 in
set_option maxHeartbeats 8000000 in
theorem power_any (x n : Nat) (hx : x < 1099511627776) (hn : n ≤ 3) (w : World) :
    Calls Tryd.prog 53 #[.int .u64 (x : Int), .int .i64 (n : Int)] w fun e w' => ∃ a c, e = .returned (.slice a (powL x n).length c) ∧ Us2 w' a c (powL x n) ∧ Fr F0 w w' := by
  go_enter Tryd.func53, Tryd.ntmps53
  go_wp2_with fail
  go_loopw [1, 5] (fun nv ov wr => ∃ k : Nat, k ≤ n ∧ nv = .int .i64 ((n - k : Nat) : Int) ∧ (∃ a c, ov = .slice a (powL x k).length c ∧ Us2 wr a c (powL x k)) ∧ Fr F0 w wr) (fun nv _ _ => (intOf nv).toNat)
  case atStart => exact ⟨0, Nat.zero_le _, rfl, ⟨_, _, rfl, Us2.of_new w 1⟩, (Fr.refl F0 w).alloc _⟩
  case round =>
    obtain ⟨k, hk, rfl, ⟨a, c, rfl, hu⟩, hf⟩ := hrel
    obtain ⟨w1, hw1⟩ : ∃ w1, w1 = wr := ⟨_, rfl⟩
    subst hw1
    by_cases hkn : k < n
    · obtain ⟨d, hd⟩ : ∃ d, n - k = d := ⟨_, rfl⟩
      have l1 : (0 : Int) < (d : Int) := by omega
      have HD := Lib.hid hd
      have hsm := powL_small x k
      have hln := powL_length x k
      have hln2 := powL_length x (k + 1)
      have HP := Lib.hid (show powL x (k + 1) = restL (powL x k) x 0 0 by simp [restL, powL])
      generalize powL x k = L at *
      rw [hd]
      clear hd
      have HU := Lib.hid hu
      have HF := Lib.hid hf
      clear hu hf
      go_wp2_with fail
      rw [show decide (0 < d) = true from decide_eq_true (by omega)]
      go_loopw [6, 7, 8] (fun nv cv iv w2 => ∃ (i c' : Nat) (nx : List Nat), iv = .int .i64 i ∧ cv = .int .u64 c' ∧ (c' ≤ x ∧ nx.length = i) ∧ (∃ a2 c2, nv = .slice a2 nx.length c2 ∧ OwnU2 w2 (.slice a2 nx.length c2) nx ∧ ∀ g, ablk a2 = some g → w1.heap.size ≤ g) ∧ nx ++ restL L x i c' = powL x (k + 1) ∧ Fr F0 w1 w2)
        (fun _ cv iv _ => (L.length - (intOf iv).toNat) * 18446744073709551616 + (intOf cv).toNat)
      case atStart => exact ⟨0, 0, [], rfl, rfl, ⟨Nat.zero_le _, rfl⟩, ⟨_, _, rfl, World.ownsRow_made w1 #[] 0 (Nat.zero_le _) (Nat.zero_le _) rfl, fun g e => by cases e; exact Nat.le_refl _⟩, HP.out.symm, (Fr.refl F0 w1).alloc _⟩
      case round =>
        obtain ⟨i, c', nx, rfl, rfl, ⟨hcx, hni⟩, ⟨a2, c2, rfl, hown, hblk⟩, hres, hf2⟩ := hrel
        have hnl : nx.length ≤ 1 + 8 * (k + 1) := by have := congrArg List.length hres; simp at this; omega
        have hil : i ≤ 1000 := by omega
        have HNI := Lib.hid hni
        clear hni
        have HR := Lib.hid hres
        have HB := Lib.hid hblk
        clear hres hblk
        have hu2 : Us2 wr a c L := Sl.fr HU.out hf2 fun _ _ f => f
        by_cases hin : i < L.length
        · obtain ⟨b, off, ea, hc⟩ := hu2.get i hin
          have hd := hsm _ (List.getElem_mem hin)
          have e1 : L.getD i 0 = L[i] := by simp [List.getD, List.getElem?_eq_getElem hin]
          have hst := restL_in L x i c' hin
          rw [e1] at hst hc
          generalize L[i] = dd at *
          have hmul : dd * x ≤ 65535 * x := Nat.mul_le_mul_right _ (by omega)
          generalize hpr : dd * x = pr at *
          have m1 : IntKind.u64.wrap ((dd : Int) * x) = (pr : Int) := by
            rw [← Int.natCast_mul, hpr]
            exact IntWalk.u64_in _ (by omega)
          have m2 : IntKind.u64.wrap ((c' : Int) + pr) = ((c' + pr : Nat) : Int) := by rw [IntWalk.u64_in _ (by omega)]; omega
          obtain ⟨sm, hsmm⟩ : ∃ sm, c' + pr = sm := ⟨_, rfl⟩
          rw [hsmm] at m2 hst
          have hq : sm / 65536 ≤ x := by omega
          obtain ⟨r, hr⟩ : ∃ r, sm % 65536 = r := ⟨_, rfl⟩
          obtain ⟨z, hz⟩ : ∃ z, sm / 65536 = z := ⟨_, rfl⟩
          have mr : (sm : Int) % 65536 = (r : Int) := by omega
          have mz : (sm : Int) / 65536 = (z : Int) := by omega
          rw [hr, hz] at hst
          have l2 : (i : Int) < L.length := by omega
          have HST := Lib.hid hst
          have HZ := Lib.hid hz
          have hzx : z ≤ x := by omega
          clear hst hsmm hpr hmul e1 hr hz
          subst ea
          go_wp2_with (at_builtin; refine wpList_appU2 rfl _ _ rfl _ nx rfl (hown.fr ((Fr.refl F0 wr).alloc _) (fun _ _ f => f)) _ _ _ [r] rfl (Us2.of_new wr r) rfl (by simp; omega) ?_; intro a3 c3 w3 ho hg hb)
          go_roundw
          case rel =>
            refine ⟨i + 1, z, nx ++ [r], by go_num, rfl, ⟨by omega, by have := HNI.out; simp; omega⟩, ⟨a3, c3, by simp, by simpa using ho, fun g hg' => ?_⟩, ?_, (hf2.alloc _).grown hg fun g e hl => ?_⟩
            · rcases hb g hg' with h | h
              · exact HB.out g (by rw [← ablk_own]; exact h)
              · have := hf2.size; simp only [World.size_alloc] at h; omega
            · rw [← HR.out, HST.out, List.append_assoc]; rfl
            · have := HB.out g (by rw [← ablk_own]; exact e)
              omega
          case measure => simp [intOf]; omega
        · by_cases hc0 : 0 < c'
          · have hst := restL_out L x i c' (by omega) hc0 (by omega)
            obtain ⟨r, hr⟩ : ∃ r, c' % 65536 = r := ⟨_, rfl⟩
            obtain ⟨z, hz⟩ : ∃ z, c' / 65536 = z := ⟨_, rfl⟩
            have mr : (c' : Int) % 65536 = (r : Int) := by omega
            have mz : (c' : Int) / 65536 = (z : Int) := by omega
            rw [hr, hz] at hst
            have l2 : ¬ (i : Int) < L.length := by omega
            have HLE := Lib.hid (show L.length ≤ i by omega)
            have l3 : (0 : Int) < (c' : Int) := by omega
            have HST := Lib.hid hst
            have HZ := Lib.hid hz
            have hzx : z ≤ x := by omega
            clear hst hr hz
            go_wp2_with (at_builtin; refine wpList_appU2 rfl _ _ rfl _ nx rfl (hown.fr ((Fr.refl F0 wr).alloc _) (fun _ _ f => f)) _ _ _ [r] rfl (Us2.of_new wr r) rfl (by simp; omega) ?_; intro a3 c3 w3 ho hg hb)
            go_roundw
            case rel =>
              refine ⟨i + 1, z, nx ++ [r], by go_num, rfl, ⟨by have := HZ.out; omega, by have := HNI.out; simp; omega⟩, ⟨a3, c3, by simp, by simpa using ho, fun g hg' => ?_⟩, ?_, (hf2.alloc _).grown hg fun g e hl => ?_⟩
              · rcases hb g hg' with h | h
                · exact HB.out g (by rw [← ablk_own]; exact h)
                · have := hf2.size; simp only [World.size_alloc] at h; omega
              · rw [← HR.out, HST.out, List.append_assoc]; rfl
              · have := HB.out g (by rw [← ablk_own]; exact e)
                omega
            case measure =>
              have := HZ.out
              have := HLE.out
              simp [intOf]; omega
          · have l2 : ¬ (i : Int) < L.length := by omega
            have l3 : ¬ (0 : Int) < (c' : Int) := by omega
            have hc00 : c' = 0 := by omega
            have hfin : nx = powL x (k + 1) := by
              have := HR.out
              rw [hc00, restL_end _ _ _ (by omega), List.append_nil] at this
              exact this
            have HFIN := Lib.hid hfin
            clear hfin hc00
            have hdn : IntKind.i64.wrap ((d : Int) - 1) = ((d - 1 : Nat) : Int) := by rw [IntWalk.i64_in _ (by have := HD.out; omega)]; omega
            generalize hd1 : d - 1 = d1 at *
            have HD1 := Lib.hid hd1
            clear hd1
            go_wp2
            go_roundw
            case rel =>
              have := HD.out
              have := HD1.out
              refine ⟨k + 1, by omega, by go_num, ⟨a2, c2, by rw [← HFIN.out], ?_⟩, HF.out.trans' hf2⟩
              rw [← HFIN.out]
              exact hown.us.2
            case measure =>
              have := HD1.out
              simp [intOf]; omega
    · obtain rfl : k = n := by omega
      rw [Nat.sub_self]
      go_wp2
      go_ret
      exact ⟨a, c, rfl, hu, hf⟩
end Go.Proofs.YthpcajpiflpmdaaDoor

/- The document's answer 02 (digest): the walk of root. -/
namespace Go.Proofs.YthpcajpiflpmdaaDoor
set_option linter.unusedVariables false
set_option linter.unusedSimpArgs false
open Go.RowKit

theorem made_zeros (q : Nat) : (madeCells #[Value.int IntKind.u64 0] q).toList = (List.replicate q 0).map U64b := by
  apply List.ext_getElem
  · simp [madeCells]
  · intro i h1 h2
    simp [madeCells, Nat.mod_one]
    rfl

theorem ovr_step (a b : List Nat) (i : Nat) (h : a.getD i 0 ≠ b.getD i 0) : ovr a b (i + 1) = decide (b.getD i 0 < a.getD i 0) := by rw [ovr, if_neg h]
theorem ovr_same (a b : List Nat) (i : Nat) (h : a.getD i 0 = b.getD i 0) : ovr a b (i + 1) = ovr a b i := by rw [ovr, if_pos h]

theorem rootX_lt (p n : Nat) : ∀ b x, x + 2 ^ b ≤ 2 ^ 36 → rootX p n b x < 2 ^ 36
  | 0, x, h => by simp only [rootX]; simp at h; omega
  | b + 1, x, h => by
    rw [rootX]
    rw [Nat.pow_succ] at h
    have : 0 < 2 ^ b := Nat.pow_pos (by omega)
    split
    · exact rootX_lt p n b x (by omega)
    · exact rootX_lt p n b _ (by omega)

set_option maxRecDepth 100000 in
set_option maxHeartbeats 8000000 in
theorem root_any (p n : Nat) (hp : p < 1099511627776) (hn : n ≤ 3) (w : World) :
    Calls Tryd.prog 48 #[.int .u64 (p : Int), .int .i64 (n : Int)] w fun e w' => e = .returned (.int .u32 (wi (BitVec.ofNat 32 (rootN p n)))) ∧ Fr F0 w w' := by
  obtain ⟨i0, hi, hz0, hz1, hz2⟩ := info_parts Tryd.infoU64b
  obtain ⟨q, hq⟩ : ∃ q, q = 2 * n := ⟨_, rfl⟩
  have mq : IntKind.i64.wrap (2 * (n : Int)) = (q : Int) := by rw [IntWalk.i64_in _ (by omega)]; omega
  have hq6 : q ≤ 6 := by omega
  have HQ := Lib.hid hq
  clear hq
  go_enter Tryd.func48, Tryd.ntmps48
  go_wp2_with (first | (at_make; refine wpList_make_full w rfl _ _ _ rfl 0 70 i0 _ 1 Tryd.underlying84 hi hz0 hz1 .i64 .i64 q q q rfl rfl rfl rfl (by rw [hz2]; omega) (by unfold maxLen; omega) (Nat.zero_le _) ?_; intro w1 ho hg; have hoU : OwnU2 w1 (.slice (some ⟨w.heap.size, 0, none⟩) q q) (List.replicate q 0) := (by unfold OwnU2; rw [← made_zeros, List.length_replicate]; simpa [Value.cells] using ho)) | (at_builtin; refine wpList_appU2 rfl _ _ rfl _ (List.replicate q 0) rfl (hoU.fr ((Fr.refl F0 w1).alloc _) (fun _ _ f => f)) _ _ _ [p] rfl (Us2.of_new w1 p) rfl (by simp; omega) ?_; intro a3 c3 w3 ho3 hg3 hb3))
  have hF3 : Fr F0 w w3 := ((((Fr.refl F0 w).grown hg (fun k e => by cases e)).alloc _).grown hg3 fun k e hl => by cases e; simp at hl)
  have hW3 : Us2 w3 a3 c3 (wantL p n) := by
    have := ho3.us.2
    rwa [HQ.out] at this
  have hwl : (wantL p n).length = q + 1 := by simp [wantL, HQ.out]
  have hwl' : q + 1 = (wantL p n).length := hwl.symm
  generalize hQ1 : q + 1 = Q1 at *
  clear hQ1 ho hoU ho3 hg hg3 hb3 hwl
  have HF3 := Lib.hid hF3
  have HW3 := Lib.hid hW3
  have HWL := Lib.hid hwl'
  clear hF3 hW3 hwl'
  go_loopw [6, 7] (fun xv bv wr => ∃ b x : Nat, b ≤ 36 ∧ bv = .int .i64 ((b : Int) - 1) ∧ xv = .int .u64 (x : Int) ∧ x + 2 ^ b ≤ 2 ^ 36 ∧ rootX p n b x = rootX p n 36 0 ∧ Fr F0 w3 wr) (fun _ bv _ => (intOf bv + 1).toNat)
  case atStart => exact ⟨36, 0, by omega, rfl, rfl, by omega, rfl, Fr.refl _ _⟩
  case round =>
    obtain ⟨b, x, hb, rfl, rfl, hxb, hres, hf⟩ := hrel
    obtain ⟨w4, hw4⟩ : ∃ w4, w4 = wr := ⟨_, rfl⟩
    subst hw4
    have HR := Lib.hid hres
    clear hres
    cases b with
    | zero =>
      have hx : x < 2 ^ 36 := by simp at hxb; omega
      have hN : wi (BitVec.ofNat 32 (rootN p n)) = (x : Int) % 4294967296 := by
        have := HR.out
        rw [rootX] at this
        rw [wi, rootN, ← this, BitVec.toNat_ofNat]
        show ((x % 4294967296 % 4294967296 : Nat) : Int) = _
        rw [Nat.mod_mod]
        rfl
      have HN := Lib.hid hN
      clear hN
      go_wp2
      go_ret
      refine ⟨?_, HF3.out.trans' hf⟩
      rw [HN.out]
      rfl
    | succ b =>
      have hb1 : ((b + 1 : Nat) : Int) - 1 = (b : Int) := by omega
      have hp0 : 0 < 2 ^ b := Nat.pow_pos (by omega)
      rw [Nat.pow_succ] at hxb
      obtain ⟨P2, hP2⟩ : ∃ P2, 2 ^ b = P2 := ⟨_, rfl⟩
      have HP2 := Lib.hid hP2
      rw [hP2] at hxb hp0
      have mb : IntKind.u64.wrap ((2 : Int) ^ b) = (P2 : Int) := by
        rw [← hP2, show (2 : Int) ^ b = ((2 ^ b : Nat) : Int) by rw [Int.natCast_pow]; rfl]
        exact IntWalk.u64_in _ (by omega)
      have mx : IntKind.u64.wrap ((x : Int) + (P2 : Int)) = ((x + P2 : Nat) : Int) := by rw [IntWalk.u64_in _ (by omega)]; omega
      obtain ⟨y, hy⟩ : ∃ y, x + P2 = y := ⟨_, rfl⟩
      rw [hy] at mx
      have HY := Lib.hid hy
      have hyl : y < 1099511627776 := by omega
      have lb : (b : Int) < 64 := by omega
      clear hy hP2
      rw [hb1]
      clear hb1
      go_wp2_with fail
      refine (power_any y n hyl hn w4).mono ?_
      rintro e w5 ⟨aA, cA, rfl, hA, hf5⟩
      have hf5' := hf.trans' hf5
      have HA := Lib.hid hA
      obtain ⟨LA, hLA⟩ : ∃ l, (powL y n).length = l := ⟨_, rfl⟩
      rw [hLA]
      have HLA := Lib.hid hLA
      clear hA hf hf5 hLA
      go_wp2_with fail
      go_loopw [9, 10] (fun ov iv wr => ∃ i : Nat, i ≤ 16 ∧ iv = .int .i64 i ∧ ov = .bool (ovr (powL y n) (wantL p n) i) ∧ wr = w5) (fun _ iv _ => 16 - (intOf iv).toNat)
      case atStart => exact ⟨0, by omega, rfl, rfl, rfl⟩
      case round =>
        obtain ⟨i, hi, rfl, rfl, rfl⟩ := hrel
        have hWr : Us2 wr a3 c3 (wantL p n) := Sl.fr HW3.out hf5' fun _ _ f => f
        by_cases hi16 : i < 16
        · have l1 : (i : Int) < 16 := by omega
          have C1 := digit2_any aA LA cA (powL y n) i HLA.out.symm wr HA.out
          have C2 := digit2_any a3 Q1 c3 (wantL p n) i HWL.out wr hWr
          have S1 := ovr_step (powL y n) (wantL p n) i
          have S2 := ovr_same (powL y n) (wantL p n) i
          generalize (powL y n).getD i 0 = da at *
          generalize (wantL p n).getD i 0 = db at *
          have D1 := Lib.hid C1
          have D2 := Lib.hid C2
          by_cases hdd : da = db
          · have HS := Lib.hid (S2 hdd)
            subst hdd
            clear C1 C2 S1 S2 hWr
            go_wp2_with fail
            refine D1.out.mono ?_
            rintro e w6 ⟨rfl, rfl⟩
            go_wp2_with fail
            refine D2.out.mono ?_
            rintro e w6 ⟨rfl, rfl⟩
            go_wp2
            go_roundw
            case rel => exact ⟨i + 1, by omega, by go_num, by rw [HS.out], trivial⟩
            case measure => simp [intOf]; omega
          · have HS := Lib.hid (S1 hdd)
            clear C1 C2 S1 S2 hWr
            go_wp2_with fail
            refine D1.out.mono ?_
            rintro e w6 ⟨rfl, rfl⟩
            go_wp2_with fail
            refine D2.out.mono ?_
            rintro e w6 ⟨rfl, rfl⟩
            go_wp2_with fail
            refine D1.out.mono ?_
            rintro e w6 ⟨rfl, rfl⟩
            go_wp2_with fail
            refine D2.out.mono ?_
            rintro e w6 ⟨rfl, rfl⟩
            go_wp2
            go_roundw
            case rel => exact ⟨i + 1, by omega, by go_num, by rw [HS.out], trivial⟩
            case measure => simp [intOf]; omega
        · have hi0 : i = 16 := by omega
          have HO : ovr (powL y n) (wantL p n) i = ovr (powL y n) (wantL p n) 16 := by rw [hi0]
          have HX := Lib.hid (show rootX p n (b + 1) x = rootX p n b (if ovr (powL (x + 2 ^ b) n) (wantL p n) 16 then x else x + 2 ^ b) from rfl)
          rw [HO]
          have HXY : x + 2 ^ b = y := by rw [HP2.out]; exact HY.out
          have HXY' := Lib.hid HXY
          clear hi0 HO hWr HXY
          generalize hov : ovr (powL y n) (wantL p n) 16 = ov at *
          have HOV := Lib.hid hov
          clear hov
          have mb1 : IntKind.i64.wrap ((b : Int) - 1) = (b : Int) - 1 := IntWalk.i64_in _ (by omega)
          cases ov with
          | true =>
            go_wp2
            go_roundw
            case rel =>
              refine ⟨b, x, by omega, by go_num, rfl, by have := HP2.out; omega, ?_, hf5'⟩
              rw [← HR.out, HX.out, HXY'.out, HOV.out]
              rfl
            case measure => simp [intOf] <;> omega
          | false =>
            go_wp2
            go_roundw
            case rel =>
              refine ⟨b, y, by omega, by go_num, rfl, by have := HP2.out; have := HY.out; omega, ?_, hf5'⟩
              rw [← HR.out, HX.out, HXY'.out, HOV.out]
              rfl
            case measure => simp [intOf] <;> omega
end Go.Proofs.YthpcajpiflpmdaaDoor

/- The document's answer 02 (digest): the walk of primes. -/
namespace Go.Proofs.YthpcajpiflpmdaaDoor
set_option linter.unusedVariables false
set_option linter.unusedSimpArgs false
open Go.RowKit

theorem all_take_succ (f : Nat → Bool) (l : List Nat) (k : Nat) (h : k < l.length) : (l.take (k + 1)).all f = ((l.take k).all f && f (l.getD k 0)) := by
  rw [List.take_succ_eq_append_getElem h, List.all_append]
  simp [List.getD, List.getElem?_eq_getElem h]

set_option maxRecDepth 100000 in
set_option maxHeartbeats 8000000 in
theorem primes_any (w : World) :
    Calls Tryd.prog 47 #[.int .i64 64] w fun e w' => ∃ a c, e = .returned (.slice a 64 c) ∧ Us2 w' a c (primesB 312) ∧ Fr F0 w w' ∧ ∀ g, ablk a = some g → w.heap.size ≤ g := by
  go_enter Tryd.func47, Tryd.ntmps47
  go_wp2_with fail
  go_loopw [3, 4] (fun ov pv wr => ∃ p : Nat, 2 ≤ p ∧ p ≤ 312 ∧ pv = .int .u64 p ∧ (∃ a c, ov = .slice a (primesB p).length c ∧ OwnU2 wr (.slice a (primesB p).length c) (primesB p) ∧ ∀ g, ablk a = some g → w.heap.size ≤ g) ∧ Fr F0 w wr) (fun _ pv _ => 312 - (intOf pv).toNat)
  case atStart => exact ⟨2, by omega, by omega, rfl, ⟨_, _, rfl, World.ownsRow_made w #[] 0 (Nat.zero_le _) (Nat.zero_le _) rfl, fun g e => by cases e; exact Nat.le_refl _⟩, (Fr.refl F0 w).alloc _⟩
  case round =>
    obtain ⟨p, hp2, hp, rfl, ⟨a, c, rfl, hown, hblk⟩, hf⟩ := hrel
    by_cases hlt : p < 312
    · have hfew := primes_few p hp2 hlt
      have hpos := primesB_pos p
      have HST := Lib.hid (primesB_step p hp2)
      obtain ⟨w4, hw4⟩ : ∃ w4, w4 = wr := ⟨_, rfl⟩
      subst hw4
      generalize hL : primesB p = L at *
      have HBK := Lib.hid hblk
      have HU := Lib.hid hown.us.2
      have HO := Lib.hid hown
      clear hblk hown
      have l1 : (L.length : Int) < 64 := by omega
      go_wp2_with fail
      go_loopw [5, 17] (fun bv iv wr => ∃ k : Nat, k ≤ L.length ∧ iv = .int .i64 k ∧ bv = .bool ((L.take k).all fun q => decide (p % q ≠ 0)) ∧ wr = w4) (fun _ iv _ => L.length - (intOf iv).toNat)
      case atStart => exact ⟨0, by omega, rfl, by simp, rfl⟩
      case round =>
        obtain ⟨k, hk, rfl, rfl, rfl⟩ := hrel
        by_cases hkl : k < L.length
        · obtain ⟨b, off, ea, hc⟩ := HU.out.get k hkl
          obtain ⟨hq, hqp⟩ := hpos (L.getD k 0) (by simp [List.getD, List.getElem?_eq_getElem hkl])
          have HS := Lib.hid (all_take_succ (fun q => decide (p % q ≠ 0)) L k hkl)
          generalize L.getD k 0 = q at *
          generalize (L.take k).all (fun q => decide (p % q ≠ 0)) = bv at *
          have lk : (k : Int) < L.length := by omega
          have lq : ¬ (q : Int) = 0 := by omega
          obtain ⟨r, hr⟩ : ∃ r, p % q = r := ⟨_, rfl⟩
          have mr : IntKind.u64.wrap (Int.tmod (p : Int) q) = (r : Int) := by
            rw [Int.tmod_eq_emod_of_nonneg (by omega), ← hr, ← Int.natCast_emod]
            have := Nat.mod_lt p (show q > 0 by omega)
            exact IntWalk.u64_in _ (by omega)
          have HR := Lib.hid hr
          clear hr hpos
          subst ea
          cases bv with
          | true =>
            go_wp2
            go_roundw
            case rel =>
              refine ⟨k + 1, by omega, by go_num, ?_, trivial⟩
              rw [HS.out, Bool.true_and, ← Int.natCast_emod]
              by_cases h0 : p % q = 0 <;> simp [h0] <;> omega
            case measure => simp [intOf] <;> omega
          | false =>
            go_wp2
            go_roundw
            case rel => exact ⟨k + 1, by omega, by go_num, by rw [HS.out]; rfl, trivial⟩
            case measure => simp [intOf] <;> omega
        · have hkL : L.take k = L := List.take_of_length_le (by omega)
          rw [hkL]
          have lk : ¬ (k : Int) < L.length := by omega
          have mp : IntKind.u64.wrap ((p : Int) + 1) = ((p + 1 : Nat) : Int) := by rw [IntWalk.u64_in _ (by omega)]; omega
          obtain ⟨p1, hp1⟩ : ∃ p1, p1 = p + 1 := ⟨_, rfl⟩
          rw [← hp1] at mp
          have HP1 := Lib.hid hp1
          have HLL := Lib.hid hL
          clear hkL hp1 hL hpos
          generalize hall : (L.all fun q => decide (p % q ≠ 0)) = al at *
          have HAL := Lib.hid hall
          clear hall
          cases al with
          | true =>
            go_wp2_with (at_builtin; refine wpList_appU2 rfl _ _ rfl _ L rfl (HO.out.fr ((Fr.refl F0 wr).alloc _) (fun _ _ f => f)) _ _ _ [p] rfl (Us2.of_new wr p) rfl (by simp; omega) ?_; intro a3 c3 w3 ho hg hb)
            go_roundw
            case rel =>
              have e1 := HP1.out
              have hn : primesB p1 = L ++ [p] := by rw [e1, HST.out]; rfl
              refine ⟨p1, by omega, by omega, rfl, ⟨a3, c3, by rw [hn]; simp, by rw [hn]; simpa using ho, fun g hg' => ?_⟩, (hf.alloc _).grown hg fun g e hl => ?_⟩
              · rcases hb g hg' with h | h
                · exact HBK.out g (by rw [← ablk_own]; exact h)
                · have := hf.size; simp only [World.size_alloc] at h; omega
              · have := HBK.out g (by rw [← ablk_own]; exact e)
                omega
            case measure =>
              have e1 := HP1.out
              simp [intOf] <;> omega
          | false =>
            go_wp2
            go_roundw
            case rel =>
              have e1 := HP1.out
              have hn : primesB p1 = L := by rw [e1, HST.out]; rfl
              exact ⟨p1, by omega, by omega, rfl, ⟨a, c, by rw [hn], by rw [hn]; exact HO.out, HBK.out⟩, hf⟩
            case measure =>
              have e1 := HP1.out
              simp [intOf] <;> omega
    · obtain rfl : p = 312 := by omega
      have h64 := primes_312
      have hU := hown.us.2
      have HU := Lib.hid hU
      clear hU hown
      rw [h64]
      go_wp2
      go_ret
      exact ⟨a, c, rfl, HU.out, hf, hblk⟩
end Go.Proofs.YthpcajpiflpmdaaDoor

/- The document's answer 02 (digest): words for the walk of Sum. -/
namespace Go.Proofs.YthpcajpiflpmdaaDoor
set_option linter.unusedVariables false
set_option linter.unusedSimpArgs false
open Go.RowKit

attribute [local go_sem high] wdv_and wdv_or wdv_xor wdv_not wdv_add wdv_shl wdv_shr wdv_to8 wdv_of8

theorem Bs.of_new (w : World) (x : UInt8) : Bs (w.alloc (.cells #[.int .u8 (x.toNat : Int)] 5)) (some ⟨w.heap.size, 0, none⟩) 1 [x] :=
  ⟨rfl, Nat.le_refl _, by unfold maxLen; omega, (fun e => by cases e), fun j u hj => ⟨w.heap.size, 0, rfl, by
    rw [Nat.zero_add, cell_of_row _ _ j _ _ _ (heap_alloc_new w _)]
    match j, hj with
    | 0, hj => simpa [B8] using hj⟩⟩

theorem wpList_build_none {P : Program} {w : World} {ops : Array Oper} {rest : List Oper} {o : Oper} {a : Act} {Q : Exit → Act → World → Prop} (hg : o.guard = none) (t : TypeId) (ho : o.op = .build t #[]) (cells : Array Value)
    (hb : P.built t [] = some cells) (h : wpList P ops Q rest (a.put o.dst (.agg cells)) w) : wpList P ops Q (o :: rest) a w := by
  refine wpList_build hg t #[] ho (by simp [hb]) ?_
  simpa [hb] using h

theorem Tryd.built64 : Tryd.prog.built 83 [] = some (arrW [] 64) := by kernel_rfl
theorem Tryd.built8 : Tryd.prog.built 72 [] = some (arrW [] 8) := by kernel_rfl
theorem Tryd.built32 : Tryd.prog.built 27 [] = some (arrB [] 32) := by kernel_rfl
theorem Tryd.sz8w : (Tryd.prog.info? 72).map (·.size) = some 8 := by kernel_rfl
theorem Tryd.sz32w : (Tryd.prog.info? 27).map (·.size) = some 32 := by kernel_rfl

theorem oneV (l : List Value) (z : Value) (n : Nat) (h : ∀ v ∈ l, v.oneCell' = true) (hz : z.oneCell' = true) : (arrV l z n).all (·.oneCell') = true := oneW _ fun v hv => by
  rcases List.mem_append.1 hv with hv | hv
  · exact h v hv
  · rw [List.eq_of_mem_replicate hv]
    exact hz
theorem oneAW (l : List Wd) (n : Nat) : (arrW l n).all (·.oneCell') = true := oneV _ _ _ (fun v h => by
  simp only [List.mem_map] at h
  obtain ⟨x, _, rfl⟩ := h
  rfl) rfl
theorem oneAB (l : List UInt8) (n : Nat) : (arrB l n).all (·.oneCell') = true := oneV _ _ _ Bs.one rfl

theorem Calls.of_world_2 {P : Program} {f : FuncId} {args : Array Value} {w : World} {R : Ending → World → Prop} (W : World) (h : W = w) (k : Calls P f args W R) : Calls P f args w R := h ▸ k

theorem be8_take (x j : Nat) (h : j < 8) : (be8 x).take (j + 1) = (be8 x).take j ++ [UInt8.ofNat (x / 2 ^ (56 - 8 * j))] := by
  rw [List.take_succ_eq_append_getElem (by rw [be8_length]; exact h)]
  simp [be8]

theorem byte_at (x s : Nat) : ((x : Int) * 8 / 2 ^ s % 256) = (((UInt8.ofNat (8 * x / 2 ^ s)).toNat : Nat) : Int) := by
  show _ = ((8 * x / 2 ^ s % 256 : Nat) : Int)
  rw [Int.natCast_emod, Int.natCast_ediv, Int.natCast_pow, Int.natCast_mul, Int.mul_comm]
  rfl

theorem wp_of_world_2 {P : Program} {c : Code} {Q : Exit → Act → World → Prop} {a : Act} {w : World} (W : World) (h : W = w) (k : Code.wp P c Q a W) : Code.wp P c Q a w := h ▸ k

theorem blk_get (m : List UInt8) (k i : Nat) (h : i < 64) : (blk m k).getD i 0 = m.getD (64 * k + i) 0 := by
  simp [blk, List.getD, List.getElem?_take, h]

theorem cell_heap {w w' : World} (h : w'.heap = w.heap) (p : Addr) : w'.cell? p = w.cell? p := by simp [World.cell?, h]

theorem take_succD (l : List Wd) (k : Nat) (h : k < l.length) : l.take (k + 1) = l.take k ++ [l.getD k 0] := by
  rw [List.take_succ_eq_append_getElem h]
  simp [List.getD, List.getElem?_eq_getElem h]

theorem Bs.getD {w : World} {c : Nat} {bs : List UInt8} {b off : Nat} (h : Bs w (some ⟨b, off, none⟩) c bs) (j : Nat) (hj : j < bs.length) : w.cell? ⟨b, off + j, none⟩ = some (.int .u8 ((bs.getD j 0).toNat : Int)) := by
  obtain ⟨b', off', e, hc⟩ := h.at j hj
  cases e
  rw [hc]
  simp [List.getD, List.getElem?_eq_getElem hj]

theorem rowW_set (L : List Wd) (p : Nat) (v : Wd) : ((L.map W32).toArray.setIfInBounds p (.int .u32 (wi v))) = ((L.set p v).map W32).toArray := by
  apply Array.ext'
  simp only [Array.toList_setIfInBounds]
  rw [List.map_set]

theorem arrW_setIn (L : List Wd) (n p : Nat) (v : Wd) (h : L.length = n) : (arrW L n).setIfInBounds p (.int .u32 (wi v)) = arrW (L.set p v) n := by
  rw [arrW_full _ _ h, arrW_full _ _ (by simpa using h), rowW_set]

theorem mix_set (c s : List Wd) (i : Nat) (hi : i < c.length) (hs : s.length = c.length) : (c.take i ++ s.drop i).set i (c.getD i 0) = c.take (i + 1) ++ s.drop (i + 1) := by
  have hl : (c.take i).length = i := by simp; omega
  rw [List.set_append_right _ _ (by omega), hl, Nat.sub_self, List.drop_eq_getElem_cons (by omega), List.set_cons_zero, take_succD c i hi, List.append_assoc]
  rfl

theorem zip_getD (s v : List Wd) (i : Nat) (h : i < s.length) (h' : i < v.length) : (List.zipWith (· + ·) s v).getD i 0 = s.getD i 0 + v.getD i 0 := by
  simp [List.getD, List.getElem?_zipWith, List.getElem?_eq_getElem h, List.getElem?_eq_getElem h']

theorem bytesOf_get : ∀ (s : List Wd) (j r : Nat), j < s.length → r < 4 → (bytesOf s)[4 * j + r]? = some (lo8 (s.getD j 0 >>> (24 - 8 * r)))
  | [], j, r, h, _ => by simp at h
  | x :: s, 0, r, _, hr => by
    have e : bytesOf (x :: s) = [lo8 (x >>> 24), lo8 (x >>> 16), lo8 (x >>> 8), lo8 x] ++ bytesOf s := rfl
    rw [e, List.getElem?_append_left (by simp; omega)]
    match r, hr with
    | 0, _ => rfl
    | 1, _ => rfl
    | 2, _ => rfl
    | 3, _ => simp
  | x :: s, j + 1, r, h, hr => by
    have e : bytesOf (x :: s) = [lo8 (x >>> 24), lo8 (x >>> 16), lo8 (x >>> 8), lo8 x] ++ bytesOf s := rfl
    rw [e, List.getElem?_append_right (by simp; omega)]
    have := bytesOf_get s j r (by simpa using h) hr
    rw [← show 4 * (j + 1) + r - [lo8 (x >>> 24), lo8 (x >>> 16), lo8 (x >>> 8), lo8 x].length = 4 * j + r by simp; omega] at this
    rw [this]
    simp [List.getD]

theorem take_succB (l : List UInt8) (k : Nat) (x : UInt8) (h : l[k]? = some x) : l.take (k + 1) = l.take k ++ [x] := by
  obtain ⟨hk, e⟩ := List.getElem?_eq_some_iff.1 h
  rw [List.take_succ_eq_append_getElem hk, e]


end Go.Proofs.YthpcajpiflpmdaaDoor

/- The document's answer 02 (digest): a statement of Sum's innermost round. -/
namespace Go.Proofs.YthpcajpiflpmdaaDoor
set_option linter.unusedVariables false
set_option linter.unusedSimpArgs false
open Go.RowKit

attribute [local go_sem high] wdv_and wdv_or wdv_xor wdv_not wdv_add wdv_shl wdv_shr wdv_to8 wdv_of8

set_option maxRecDepth 100000 in
set_option maxHeartbeats 16000000 in
theorem reg26 {s0 s1 s2 s3 s4 s5 s6 s8 s11 s13 s14 s15 s16 s17 s18 s19 s20 s21 s22 s23 s24 s25 s26 s27 s28 s29 s30 s31 s32 s33 s34 s35 s36 s37 s38 s39 s40 s41 s42 s43 s44 s45 s46 s47 s48 s49 s50 s51 s52 s53 s54 s55 s56 s57 s58 s59 s60 s61 s62 s63 s64 s65 s66 s67 s68 s69 s70 s71 s72 s73 s74 s75 s76 s77 s78 s79 s80 s81 s82 s83 s84 s85 s86 s87 s88 s89 s90 s91 s92 s93 s94 s95 s96 s97 s98 s99 s100 s101 s102 s103 s104 s105 s106 s107 s108 s109 s110 s111 s112 s113 s114 s115 s116 s117 s118 s119 s120 s121 s122 s123 s124 s125 s126 s127 s128 s129 s130 s131 s132 s133 s134 s135 s136 s137 s138 s139 s140 s141 s142 s143 s144 s145 s146 s147 s148 s149 s150 s151 s152 s153 s154 s155 s156 s157 s158 s159 s160 s161 s162 s163 s164 s165 s166 s167 s168 s169 s170 s171 s172 s173 s174 s175 s176 s177 s178 s179 s180 s181 s182 s183 s184 s185 s186 s187 s188 s189 s190 s191 s192 s193 s194 s195 s196 s197 s198 s199 s200 s201 s202 s203 s204 s205 s206 s207 s208 s209 s210 s211 s212 s213 s214 s215 s216 s217 s218 s219 s220 s221 s222 s223 s224 s225 s226 s227 s228 s229 s230 s231 s232 s233 s234 s235 s236 s237 s238 s239 s240 s241 s242 s243 s244 s245 s246 s247 s248 s249 s250 s251 s252 s253 s254 s255 s256 s257 s258 s259 s260 s261 s262 s263 s264 s265 s266 s267 s268 s269 s270 s271 s272 s273 s274 s275 s276 s277 s278 s279 s280 s281 s282 s283 : Value} {K : Act → World → Prop} {Q : Exit → Act → World → Prop} (wr : World) (Wb t b8 off8 L c8 p q0 r0 r1 r2 r3 : Nat) (x0 x1 x2 x3 : UInt8) (lt64 : (t : Int) < 64) (hneW : b8 ≠ Wb) (m0 : IntKind.i64.wrap (4 * (t : Int)) = (q0 : Int)) (m1 : IntKind.i64.wrap ((p : Int) + (q0 : Int)) = (r0 : Int)) (m2 : IntKind.i64.wrap ((r0 : Int) + 1) = (r1 : Int)) (m3 : IntKind.i64.wrap ((r0 : Int) + 2) = (r2 : Int)) (m4 : IntKind.i64.wrap ((r0 : Int) + 3) = (r3 : Int)) (n0 : (r0 : Int) < (L : Int)) (n1 : (r1 : Int) < (L : Int)) (n2 : (r2 : Int) < (L : Int)) (n3 : (r3 : Int) < (L : Int)) (k0 : wr.drew.cell? ⟨Wb, t, none⟩ = some (.int .u32 0)) (z0 : wr.drew.frozen? ⟨Wb, t, none⟩ = false) (c0 : wr.drew.cell? ⟨b8, off8 + r0, none⟩ = some (.int .u8 (x0.toNat : Int))) (c1 : wr.drew.cell? ⟨b8, off8 + r1, none⟩ = some (.int .u8 (x1.toNat : Int))) (c2 : wr.drew.cell? ⟨b8, off8 + r2, none⟩ = some (.int .u8 (x2.toNat : Int))) (c3 : wr.drew.cell? ⟨b8, off8 + r3, none⟩ = some (.int .u8 (x3.toNat : Int)))
    (hK : RowKit.Hid (∀ {u79 u80 u81 u82 u83 u84 u85 u86 u87 u88 u89 u90 u91 u92 u93 u94 u95 u96 u97 u98 u99 u100 u101 u102 u103 u104 u105 u106 u107 u108 u109 u110 u111 u112 u113 u114 u115 u116 u117 u118 u119 u120 u121 : Value} {w' : World}, (w'.heap = (wr.setCell ⟨Wb, t, none⟩ (.int .u32 (wi (w8 x0 <<< 24 ||| w8 x1 <<< 16 ||| w8 x2 <<< 8 ||| w8 x3)))).heap ∧ Fr F0 (wr.setCell ⟨Wb, t, none⟩ (.int .u32 (wi (w8 x0 <<< 24 ||| w8 x1 <<< 16 ||| w8 x2 <<< 8 ||| w8 x3)))) w') → K ⟨#[s0, s1, s2, s3, s4, s5, s6, .slice (some ⟨b8, off8, none⟩) L c8, s8, .int .i64 p, .pointer (some ⟨Wb, 0, none⟩), s11, .int .i64 t, s13, s14, s15, s16, s17, s18, s19, s20, s21, s22, s23, s24, s25, s26, s27, s28, s29, s30, s31, s32, s33, s34, s35, s36, s37, s38, s39, s40, s41, s42, s43, s44, s45, s46, s47, s48, s49, s50, s51, s52, s53, s54, s55, s56, s57, s58, s59, s60, s61, s62, s63, s64, s65, s66, s67, s68, s69, s70, s71, s72, s73, s74, s75, s76, s77, s78, u79, u80, u81, u82, u83, u84, u85, u86, u87, u88, u89, u90, u91, u92, u93, u94, u95, u96, u97, u98, u99, u100, u101, u102, u103, u104, u105, u106, u107, u108, u109, u110, u111, u112, u113, u114, u115, u116, u117, u118, u119, u120, u121, s122, s123, s124, s125, s126, s127, s128, s129, s130, s131, s132, s133, s134, s135, s136, s137, s138, s139, s140, s141, s142, s143, s144, s145, s146, s147, s148, s149, s150, s151, s152, s153, s154, s155, s156, s157, s158, s159, s160, s161, s162, s163, s164, s165, s166, s167, s168, s169, s170, s171, s172, s173, s174, s175, s176, s177, s178, s179, s180, s181, s182, s183, s184, s185, s186, s187, s188, s189, s190, s191, s192, s193, s194, s195, s196, s197, s198, s199, s200, s201, s202, s203, s204, s205, s206, s207, s208, s209, s210, s211, s212, s213, s214, s215, s216, s217, s218, s219, s220, s221, s222, s223, s224, s225, s226, s227, s228, s229, s230, s231, s232, s233, s234, s235, s236, s237, s238, s239, s240, s241, s242, s243, s244, s245, s246, s247, s248, s249, s250, s251, s252, s253, s254, s255, s256, s257, s258, s259, s260, s261, s262, s263, s264, s265, s266, s267, s268, s269, s270, s271, s272, s273, s274, s275, s276, s277, s278, s279, s280, s281, s282, s283], []⟩ w')) :
    Code.wp Tryd.prog ((Tryd.f39.body.bind (findRegion 26)).getD .skip) (Exit.then K Q) ⟨#[s0, s1, s2, s3, s4, s5, s6, .slice (some ⟨b8, off8, none⟩) L c8, s8, .int .i64 p, .pointer (some ⟨Wb, 0, none⟩), s11, .int .i64 t, s13, s14, s15, s16, s17, s18, s19, s20, s21, s22, s23, s24, s25, s26, s27, s28, s29, s30, s31, s32, s33, s34, s35, s36, s37, s38, s39, s40, s41, s42, s43, s44, s45, s46, s47, s48, s49, s50, s51, s52, s53, s54, s55, s56, s57, s58, s59, s60, s61, s62, s63, s64, s65, s66, s67, s68, s69, s70, s71, s72, s73, s74, s75, s76, s77, s78, s79, s80, s81, s82, s83, s84, s85, s86, s87, s88, s89, s90, s91, s92, s93, s94, s95, s96, s97, s98, s99, s100, s101, s102, s103, s104, s105, s106, s107, s108, s109, s110, s111, s112, s113, s114, s115, s116, s117, s118, s119, s120, s121, s122, s123, s124, s125, s126, s127, s128, s129, s130, s131, s132, s133, s134, s135, s136, s137, s138, s139, s140, s141, s142, s143, s144, s145, s146, s147, s148, s149, s150, s151, s152, s153, s154, s155, s156, s157, s158, s159, s160, s161, s162, s163, s164, s165, s166, s167, s168, s169, s170, s171, s172, s173, s174, s175, s176, s177, s178, s179, s180, s181, s182, s183, s184, s185, s186, s187, s188, s189, s190, s191, s192, s193, s194, s195, s196, s197, s198, s199, s200, s201, s202, s203, s204, s205, s206, s207, s208, s209, s210, s211, s212, s213, s214, s215, s216, s217, s218, s219, s220, s221, s222, s223, s224, s225, s226, s227, s228, s229, s230, s231, s232, s233, s234, s235, s236, s237, s238, s239, s240, s241, s242, s243, s244, s245, s246, s247, s248, s249, s250, s251, s252, s253, s254, s255, s256, s257, s258, s259, s260, s261, s262, s263, s264, s265, s266, s267, s268, s269, s270, s271, s272, s273, s274, s275, s276, s277, s278, s279, s280, s281, s282, s283], []⟩ wr := by
  conv => arg 2; whnf
  refine wp_region_noPanic ?_
  refine wp_region_held_drew (S := (fun w' => w'.cell? ⟨b8, off8 + r0, none⟩ = some (.int .u8 (x0.toNat : Int)) ∧ w'.cell? ⟨b8, off8 + r1, none⟩ = some (.int .u8 (x1.toNat : Int)) ∧ w'.cell? ⟨b8, off8 + r2, none⟩ = some (.int .u8 (x2.toNat : Int)) ∧ w'.cell? ⟨b8, off8 + r3, none⟩ = some (.int .u8 (x3.toNat : Int)))) (by kernel_rfl) ?_ (fun hHeld => ?_)
  · ((try dsimp only) <;> (first | exact ⟨c0, c1, c2, c3⟩ | (refine ⟨?_, ?_, ?_, ?_⟩ <;> rw [cell_drew, cell_setCell_ne _ _ _ _ hneW] <;> assumption)))
  refine rtake 0 ?_
  refine rtake 1 ?_
  refine rtake 2 ?_
  refine rtake 3 ?_
  refine rtake 4 ?_
  refine rtake 5 ?_
  refine rtake 6 ?_
  refine rtake 7 ?_
  refine rtake 8 ?_
  refine rtake 9 ?_
  refine rtake 10 ?_
  refine rtake 11 ?_
  refine rtake 12 ?_
  refine rtake 13 ?_
  refine rtake 14 ?_
  refine rtake 15 ?_
  refine rtake 16 ?_
  refine rtake 17 ?_
  refine rtake 18 ?_
  refine rtake 19 ?_
  refine rtake 20 ?_
  refine rtake 21 ?_
  refine rtake 22 ?_
  refine rtake 23 ?_
  refine rtake 24 ?_
  refine rtake 25 ?_
  refine rtake 26 ?_
  refine rtake 27 ?_
  refine rtake 28 ?_
  refine rtake 29 ?_
  refine rtake 30 ?_
  refine rtake 31 ?_
  refine rtake 32 ?_
  refine rtake 33 ?_
  refine rtake 34 ?_
  refine rtake 35 ?_
  refine rtake 36 ?_
  refine rtake 37 ?_
  refine rtake 38 ?_
  refine rtake 39 ?_
  refine rtake 40 ?_
  refine rtake 41 ?_
  refine rtake 42 ?_
  refine wpAnyH_ready (rs := [43]) (by kernel_rfl) (by simp) ?_
  refine AllReadyH.cons (o := ⟨_, _, _, _, _, _⟩) rfl (fun K hK => ?_) AllReadyH.nil
  go_simp
  refine hK.out _ _ ?_ (fun hHeld => ?_)
  · ((try dsimp only) <;> (first | exact ⟨c0, c1, c2, c3⟩ | (refine ⟨?_, ?_, ?_, ?_⟩ <;> rw [cell_drew, cell_setCell_ne _ _ _ _ hneW] <;> assumption)))
  clear hK K
  try (simp only [Act.put, List.setIfInBounds_toArray]; dsimp only [List.set_cons_zero, List.set_cons_succ])
  refine wpAnyH_done (by kernel_rfl) ?_ _
  refine NoPanic.normal ?_
  all_goals exact hK.out ⟨by simp only [heap_drew], (Fr.refl F0 _).drew⟩
end Go.Proofs.YthpcajpiflpmdaaDoor

/- The document's answer 02 (digest): a statement of Sum's innermost round. -/
namespace Go.Proofs.YthpcajpiflpmdaaDoor
set_option linter.unusedVariables false
set_option linter.unusedSimpArgs false
open Go.RowKit

attribute [local go_sem high] wdv_and wdv_or wdv_xor wdv_not wdv_add wdv_shl wdv_shr wdv_to8 wdv_of8

set_option maxRecDepth 100000 in
set_option maxHeartbeats 16000000 in
theorem reg27 {s0 s1 s2 s3 s4 s5 s6 s7 s8 s9 s11 s13 s14 s15 s16 s17 s18 s19 s20 s21 s22 s23 s24 s25 s26 s27 s28 s29 s30 s31 s32 s33 s34 s35 s36 s37 s38 s39 s40 s41 s42 s43 s44 s45 s46 s47 s48 s49 s50 s51 s52 s53 s54 s55 s56 s57 s58 s59 s60 s61 s62 s63 s64 s65 s66 s67 s68 s69 s70 s71 s72 s73 s74 s75 s76 s77 s78 s79 s80 s81 s82 s83 s84 s85 s86 s87 s88 s89 s90 s91 s92 s93 s94 s95 s96 s97 s98 s99 s100 s101 s102 s103 s104 s105 s106 s107 s108 s109 s110 s111 s112 s113 s114 s115 s116 s117 s118 s119 s120 s121 s122 s123 s124 s125 s126 s127 s128 s129 s130 s131 s132 s133 s134 s135 s136 s137 s138 s139 s140 s141 s142 s143 s144 s145 s146 s147 s148 s149 s150 s151 s152 s153 s154 s155 s156 s157 s158 s159 s160 s161 s162 s163 s164 s165 s166 s167 s168 s169 s170 s171 s172 s173 s174 s175 s176 s177 s178 s179 s180 s181 s182 s183 s184 s185 s186 s187 s188 s189 s190 s191 s192 s193 s194 s195 s196 s197 s198 s199 s200 s201 s202 s203 s204 s205 s206 s207 s208 s209 s210 s211 s212 s213 s214 s215 s216 s217 s218 s219 s220 s221 s222 s223 s224 s225 s226 s227 s228 s229 s230 s231 s232 s233 s234 s235 s236 s237 s238 s239 s240 s241 s242 s243 s244 s245 s246 s247 s248 s249 s250 s251 s252 s253 s254 s255 s256 s257 s258 s259 s260 s261 s262 s263 s264 s265 s266 s267 s268 s269 s270 s271 s272 s273 s274 s275 s276 s277 s278 s279 s280 s281 s282 s283 : Value} {K : Act → World → Prop} {Q : Exit → Act → World → Prop} (wr : World) (Wb t q2 q7 q15 q16 : Nat) (x2 x7 x15 x16 : Wd) (lt64 : (t : Int) < 64) (m2 : IntKind.i64.wrap ((t : Int) - 2) = (q2 : Int)) (m7 : IntKind.i64.wrap ((t : Int) - 7) = (q7 : Int)) (m15 : IntKind.i64.wrap ((t : Int) - 15) = (q15 : Int)) (m16 : IntKind.i64.wrap ((t : Int) - 16) = (q16 : Int)) (o2 : (q2 : Int) < 64) (o7 : (q7 : Int) < 64) (o15 : (q15 : Int) < 64) (o16 : (q16 : Int) < 64) (n2 : q2 ≠ t) (n7 : q7 ≠ t) (n15 : q15 ≠ t) (n16 : q16 ≠ t) (k0 : wr.drew.cell? ⟨Wb, t, none⟩ = some (.int .u32 0)) (z0 : wr.drew.frozen? ⟨Wb, t, none⟩ = false) (d2 : wr.drew.cell? ⟨Wb, q2, none⟩ = some (.int .u32 (wi x2))) (d7 : wr.drew.cell? ⟨Wb, q7, none⟩ = some (.int .u32 (wi x7))) (d15 : wr.drew.cell? ⟨Wb, q15, none⟩ = some (.int .u32 (wi x15))) (d16 : wr.drew.cell? ⟨Wb, q16, none⟩ = some (.int .u32 (wi x16)))
    (hK : RowKit.Hid (∀ {u122 u123 u124 u125 u126 u127 u128 u129 u130 u131 u132 u133 u134 u135 u136 u137 u138 u139 u140 u141 u142 u143 u144 u145 u146 u147 u148 u149 u150 u151 u152 u153 u154 u155 u156 u157 u158 u159 u160 u161 u162 u163 u164 u165 u166 u167 u168 : Value} {w' : World}, (w'.heap = (wr.setCell ⟨Wb, t, none⟩ (.int .u32 (wi ((rotr x2 17 ^^^ rotr x2 19 ^^^ x2 >>> 10) + x7 + (rotr x15 7 ^^^ rotr x15 18 ^^^ x15 >>> 3) + x16)))).heap ∧ Fr F0 (wr.setCell ⟨Wb, t, none⟩ (.int .u32 (wi ((rotr x2 17 ^^^ rotr x2 19 ^^^ x2 >>> 10) + x7 + (rotr x15 7 ^^^ rotr x15 18 ^^^ x15 >>> 3) + x16)))) w') → K ⟨#[s0, s1, s2, s3, s4, s5, s6, s7, s8, s9, .pointer (some ⟨Wb, 0, none⟩), s11, .int .i64 t, s13, s14, s15, s16, s17, s18, s19, s20, s21, s22, s23, s24, s25, s26, s27, s28, s29, s30, s31, s32, s33, s34, s35, s36, s37, s38, s39, s40, s41, s42, s43, s44, s45, s46, s47, s48, s49, s50, s51, s52, s53, s54, s55, s56, s57, s58, s59, s60, s61, s62, s63, s64, s65, s66, s67, s68, s69, s70, s71, s72, s73, s74, s75, s76, s77, s78, s79, s80, s81, s82, s83, s84, s85, s86, s87, s88, s89, s90, s91, s92, s93, s94, s95, s96, s97, s98, s99, s100, s101, s102, s103, s104, s105, s106, s107, s108, s109, s110, s111, s112, s113, s114, s115, s116, s117, s118, s119, s120, s121, u122, u123, u124, u125, u126, u127, u128, u129, u130, u131, u132, u133, u134, u135, u136, u137, u138, u139, u140, u141, u142, u143, u144, u145, u146, u147, u148, u149, u150, u151, u152, u153, u154, u155, u156, u157, u158, u159, u160, u161, u162, u163, u164, u165, u166, u167, u168, s169, s170, s171, s172, s173, s174, s175, s176, s177, s178, s179, s180, s181, s182, s183, s184, s185, s186, s187, s188, s189, s190, s191, s192, s193, s194, s195, s196, s197, s198, s199, s200, s201, s202, s203, s204, s205, s206, s207, s208, s209, s210, s211, s212, s213, s214, s215, s216, s217, s218, s219, s220, s221, s222, s223, s224, s225, s226, s227, s228, s229, s230, s231, s232, s233, s234, s235, s236, s237, s238, s239, s240, s241, s242, s243, s244, s245, s246, s247, s248, s249, s250, s251, s252, s253, s254, s255, s256, s257, s258, s259, s260, s261, s262, s263, s264, s265, s266, s267, s268, s269, s270, s271, s272, s273, s274, s275, s276, s277, s278, s279, s280, s281, s282, s283], []⟩ w')) :
    Code.wp Tryd.prog ((Tryd.f39.body.bind (findRegion 27)).getD .skip) (Exit.then K Q) ⟨#[s0, s1, s2, s3, s4, s5, s6, s7, s8, s9, .pointer (some ⟨Wb, 0, none⟩), s11, .int .i64 t, s13, s14, s15, s16, s17, s18, s19, s20, s21, s22, s23, s24, s25, s26, s27, s28, s29, s30, s31, s32, s33, s34, s35, s36, s37, s38, s39, s40, s41, s42, s43, s44, s45, s46, s47, s48, s49, s50, s51, s52, s53, s54, s55, s56, s57, s58, s59, s60, s61, s62, s63, s64, s65, s66, s67, s68, s69, s70, s71, s72, s73, s74, s75, s76, s77, s78, s79, s80, s81, s82, s83, s84, s85, s86, s87, s88, s89, s90, s91, s92, s93, s94, s95, s96, s97, s98, s99, s100, s101, s102, s103, s104, s105, s106, s107, s108, s109, s110, s111, s112, s113, s114, s115, s116, s117, s118, s119, s120, s121, s122, s123, s124, s125, s126, s127, s128, s129, s130, s131, s132, s133, s134, s135, s136, s137, s138, s139, s140, s141, s142, s143, s144, s145, s146, s147, s148, s149, s150, s151, s152, s153, s154, s155, s156, s157, s158, s159, s160, s161, s162, s163, s164, s165, s166, s167, s168, s169, s170, s171, s172, s173, s174, s175, s176, s177, s178, s179, s180, s181, s182, s183, s184, s185, s186, s187, s188, s189, s190, s191, s192, s193, s194, s195, s196, s197, s198, s199, s200, s201, s202, s203, s204, s205, s206, s207, s208, s209, s210, s211, s212, s213, s214, s215, s216, s217, s218, s219, s220, s221, s222, s223, s224, s225, s226, s227, s228, s229, s230, s231, s232, s233, s234, s235, s236, s237, s238, s239, s240, s241, s242, s243, s244, s245, s246, s247, s248, s249, s250, s251, s252, s253, s254, s255, s256, s257, s258, s259, s260, s261, s262, s263, s264, s265, s266, s267, s268, s269, s270, s271, s272, s273, s274, s275, s276, s277, s278, s279, s280, s281, s282, s283], []⟩ wr := by
  conv => arg 2; whnf
  refine wp_region_noPanic ?_
  refine wp_region_held_drew (S := (fun w' => w'.cell? ⟨Wb, q2, none⟩ = some (.int .u32 (wi x2)) ∧ w'.cell? ⟨Wb, q7, none⟩ = some (.int .u32 (wi x7)) ∧ w'.cell? ⟨Wb, q15, none⟩ = some (.int .u32 (wi x15)) ∧ w'.cell? ⟨Wb, q16, none⟩ = some (.int .u32 (wi x16)))) (by kernel_rfl) ?_ (fun hHeld => ?_)
  · ((try dsimp only) <;> (first | exact ⟨d2, d7, d15, d16⟩ | (refine ⟨?_, ?_, ?_, ?_⟩ <;> (simp only [cell_drew]; rw [cell_set_off _ _ _ _ _ (by assumption)]; assumption))))
  refine rtake 0 ?_
  refine rtake 1 ?_
  refine rtake 2 ?_
  refine rtake 3 ?_
  refine rtake 4 ?_
  refine rtake 6 ?_
  refine rtake 7 ?_
  refine rtake 8 ?_
  refine rtake 9 ?_
  refine rtake 12 ?_
  refine rtake 13 ?_
  refine rtake 14 ?_
  refine rtake 15 ?_
  refine rtake 16 ?_
  refine rtake 18 ?_
  refine rtake 19 ?_
  refine rtake 20 ?_
  refine rtake 21 ?_
  refine rtake 23 ?_
  refine rtake 24 ?_
  refine rtake 25 ?_
  refine rtake 26 ?_
  refine rtake 28 ?_
  refine rtake 29 ?_
  refine rtake 30 ?_
  refine rtake 31 ?_
  refine rtake 34 ?_
  refine rtake 35 ?_
  refine rtake 36 ?_
  refine rtake 37 ?_
  refine rtake 38 ?_
  refine rtake 41 ?_
  refine rtake 42 ?_
  refine rtake 43 ?_
  refine rtake 44 ?_
  refine wpAnyH_ready (rs := [5]) (by kernel_rfl) (by simp) ?_
  refine AllReadyH.cons (o := ⟨_, _, _, _, _, _⟩) rfl (fun K hK => ?_) AllReadyH.nil
  go_simp
  (refine (r2turn_any x2 17 _ (by omega) (by omega)).mono ?_; rintro e w5 ⟨rfl, rfl⟩)
  refine hK.out _ _ ?_ (fun hHeld => ?_)
  · ((try dsimp only) <;> (first | exact ⟨d2, d7, d15, d16⟩ | (refine ⟨?_, ?_, ?_, ?_⟩ <;> (simp only [cell_drew]; rw [cell_set_off _ _ _ _ _ (by assumption)]; assumption))))
  clear hK K
  try (simp only [Act.put, List.setIfInBounds_toArray]; dsimp only [List.set_cons_zero, List.set_cons_succ])
  refine wpAnyH_ready (rs := [10]) (by kernel_rfl) (by simp) ?_
  refine AllReadyH.cons (o := ⟨_, _, _, _, _, _⟩) rfl (fun K hK => ?_) AllReadyH.nil
  go_simp
  (refine (r2turn_any x2 19 _ (by omega) (by omega)).mono ?_; rintro e w5 ⟨rfl, rfl⟩)
  refine hK.out _ _ ?_ (fun hHeld => ?_)
  · ((try dsimp only) <;> (first | exact ⟨d2, d7, d15, d16⟩ | (refine ⟨?_, ?_, ?_, ?_⟩ <;> (simp only [cell_drew]; rw [cell_set_off _ _ _ _ _ (by assumption)]; assumption))))
  clear hK K
  try (simp only [Act.put, List.setIfInBounds_toArray]; dsimp only [List.set_cons_zero, List.set_cons_succ])
  refine rtake 11 ?_
  refine rtake 17 ?_
  refine rtake 22 ?_
  refine wpAnyH_ready (rs := [27]) (by kernel_rfl) (by simp) ?_
  refine AllReadyH.cons (o := ⟨_, _, _, _, _, _⟩) rfl (fun K hK => ?_) AllReadyH.nil
  go_simp
  (refine (r2turn_any x15 7 _ (by omega) (by omega)).mono ?_; rintro e w5 ⟨rfl, rfl⟩)
  refine hK.out _ _ ?_ (fun hHeld => ?_)
  · ((try dsimp only) <;> (first | exact ⟨d2, d7, d15, d16⟩ | (refine ⟨?_, ?_, ?_, ?_⟩ <;> (simp only [cell_drew]; rw [cell_set_off _ _ _ _ _ (by assumption)]; assumption))))
  clear hK K
  try (simp only [Act.put, List.setIfInBounds_toArray]; dsimp only [List.set_cons_zero, List.set_cons_succ])
  refine wpAnyH_ready (rs := [32]) (by kernel_rfl) (by simp) ?_
  refine AllReadyH.cons (o := ⟨_, _, _, _, _, _⟩) rfl (fun K hK => ?_) AllReadyH.nil
  go_simp
  (refine (r2turn_any x15 18 _ (by omega) (by omega)).mono ?_; rintro e w5 ⟨rfl, rfl⟩)
  refine hK.out _ _ ?_ (fun hHeld => ?_)
  · ((try dsimp only) <;> (first | exact ⟨d2, d7, d15, d16⟩ | (refine ⟨?_, ?_, ?_, ?_⟩ <;> (simp only [cell_drew]; rw [cell_set_off _ _ _ _ _ (by assumption)]; assumption))))
  clear hK K
  try (simp only [Act.put, List.setIfInBounds_toArray]; dsimp only [List.set_cons_zero, List.set_cons_succ])
  refine rtake 33 ?_
  refine rtake 39 ?_
  refine rtake 40 ?_
  refine rtake 45 ?_
  refine rtake 46 ?_
  refine wpAnyH_ready (rs := [47]) (by kernel_rfl) (by simp) ?_
  refine AllReadyH.cons (o := ⟨_, _, _, _, _, _⟩) rfl (fun K hK => ?_) AllReadyH.nil
  go_simp
  refine hK.out _ _ ?_ (fun hHeld => ?_)
  · ((try dsimp only) <;> (first | exact ⟨d2, d7, d15, d16⟩ | (refine ⟨?_, ?_, ?_, ?_⟩ <;> (simp only [cell_drew]; rw [cell_set_off _ _ _ _ _ (by assumption)]; assumption))))
  clear hK K
  try (simp only [Act.put, List.setIfInBounds_toArray]; dsimp only [List.set_cons_zero, List.set_cons_succ])
  refine wpAnyH_done (by kernel_rfl) ?_ _
  refine NoPanic.normal ?_
  all_goals exact hK.out ⟨by simp only [heap_drew], (Fr.refl F0 _).drew.drew.drew.drew.drew⟩
end Go.Proofs.YthpcajpiflpmdaaDoor

/- The document's answer 02 (digest): two statements of Sum's innermost round. -/
namespace Go.Proofs.YthpcajpiflpmdaaDoor
set_option linter.unusedVariables false
set_option linter.unusedSimpArgs false
open Go.RowKit

attribute [local go_sem high] wdv_and wdv_or wdv_xor wdv_not wdv_add wdv_shl wdv_shr wdv_to8 wdv_of8

set_option maxRecDepth 100000 in
set_option maxHeartbeats 16000000 in
theorem reg28 {s0 s1 s2 s4 s5 s6 s7 s8 s9 s13 s14 s15 s16 s17 s18 s19 s20 s21 s22 s23 s24 s25 s26 s27 s28 s29 s30 s31 s32 s33 s34 s35 s36 s37 s38 s39 s40 s41 s42 s43 s44 s45 s46 s47 s48 s49 s50 s51 s52 s53 s54 s55 s56 s57 s58 s59 s60 s61 s62 s63 s64 s65 s66 s67 s68 s69 s70 s71 s72 s73 s74 s75 s76 s77 s78 s79 s80 s81 s82 s83 s84 s85 s86 s87 s88 s89 s90 s91 s92 s93 s94 s95 s96 s97 s98 s99 s100 s101 s102 s103 s104 s105 s106 s107 s108 s109 s110 s111 s112 s113 s114 s115 s116 s117 s118 s119 s120 s121 s122 s123 s124 s125 s126 s127 s128 s129 s130 s131 s132 s133 s134 s135 s136 s137 s138 s139 s140 s141 s142 s143 s144 s145 s146 s147 s148 s149 s150 s151 s152 s153 s154 s155 s156 s157 s158 s159 s160 s161 s162 s163 s164 s165 s166 s167 s168 s169 s170 s171 s172 s173 s174 s175 s176 s177 s178 s179 s180 s181 s182 s183 s184 s185 s186 s187 s188 s189 s190 s191 s192 s193 s194 s195 s196 s197 s198 s199 s200 s201 s202 s203 s204 s205 s206 s207 s208 s209 s210 s211 s212 s213 s214 s215 s216 s217 s218 s219 s220 s221 s222 s223 s224 s225 s226 s227 s228 s229 s230 s231 s232 s233 s234 s235 s236 s237 s238 s239 s240 s241 s242 s243 s244 s245 s246 s247 s248 s249 s250 s251 s252 s253 s254 s255 s256 s257 s258 s259 s260 s261 s262 s263 s264 s265 s266 s267 s268 s269 s270 s271 s272 s273 s274 s275 s276 s277 s278 s279 s280 s281 s282 s283 : Value} {K : Act → World → Prop} {Q : Exit → Act → World → Prop} (wo : World) (Kb Wb Vb t : Nat) (xe xf xg xh kq x : Wd) (lt64 : (t : Int) < 64) (d4 : wo.cell? ⟨Vb, 4, none⟩ = some (.int .u32 (wi xe))) (d5 : wo.cell? ⟨Vb, 5, none⟩ = some (.int .u32 (wi xf))) (d6 : wo.cell? ⟨Vb, 6, none⟩ = some (.int .u32 (wi xg))) (d7 : wo.cell? ⟨Vb, 7, none⟩ = some (.int .u32 (wi xh))) (dk : wo.cell? ⟨Kb, t, none⟩ = some (.int .u32 (wi kq))) (dw : wo.cell? ⟨Wb, t, none⟩ = some (.int .u32 (wi x)))
    (hK : RowKit.Hid (∀ {u13 u169 u170 u171 u172 u173 u174 u175 u176 u177 u178 u179 u180 u181 u182 u183 u184 u185 u186 u187 u188 u189 u190 u191 u192 u193 u194 u195 u196 u197 u198 u199 u200 u201 u202 u203 : Value} {w' : World}, (u13 = .int .u32 (wi (xh + (rotr xe 6 ^^^ rotr xe 11 ^^^ rotr xe 25) + (xe &&& xf ^^^ ~~~ xe &&& xg) + kq + x)) ∧ w'.heap = wo.heap ∧ Fr F0 wo w') → K ⟨#[s0, s1, s2, .pointer (some ⟨Kb, 0, none⟩), s4, s5, s6, s7, s8, s9, .pointer (some ⟨Wb, 0, none⟩), .pointer (some ⟨Vb, 0, none⟩), .int .i64 t, u13, s14, s15, s16, s17, s18, s19, s20, s21, s22, s23, s24, s25, s26, s27, s28, s29, s30, s31, s32, s33, s34, s35, s36, s37, s38, s39, s40, s41, s42, s43, s44, s45, s46, s47, s48, s49, s50, s51, s52, s53, s54, s55, s56, s57, s58, s59, s60, s61, s62, s63, s64, s65, s66, s67, s68, s69, s70, s71, s72, s73, s74, s75, s76, s77, s78, s79, s80, s81, s82, s83, s84, s85, s86, s87, s88, s89, s90, s91, s92, s93, s94, s95, s96, s97, s98, s99, s100, s101, s102, s103, s104, s105, s106, s107, s108, s109, s110, s111, s112, s113, s114, s115, s116, s117, s118, s119, s120, s121, s122, s123, s124, s125, s126, s127, s128, s129, s130, s131, s132, s133, s134, s135, s136, s137, s138, s139, s140, s141, s142, s143, s144, s145, s146, s147, s148, s149, s150, s151, s152, s153, s154, s155, s156, s157, s158, s159, s160, s161, s162, s163, s164, s165, s166, s167, s168, u169, u170, u171, u172, u173, u174, u175, u176, u177, u178, u179, u180, u181, u182, u183, u184, u185, u186, u187, u188, u189, u190, u191, u192, u193, u194, u195, u196, u197, u198, u199, u200, u201, u202, u203, s204, s205, s206, s207, s208, s209, s210, s211, s212, s213, s214, s215, s216, s217, s218, s219, s220, s221, s222, s223, s224, s225, s226, s227, s228, s229, s230, s231, s232, s233, s234, s235, s236, s237, s238, s239, s240, s241, s242, s243, s244, s245, s246, s247, s248, s249, s250, s251, s252, s253, s254, s255, s256, s257, s258, s259, s260, s261, s262, s263, s264, s265, s266, s267, s268, s269, s270, s271, s272, s273, s274, s275, s276, s277, s278, s279, s280, s281, s282, s283], []⟩ w')) :
    Code.wp Tryd.prog ((Tryd.f39.body.bind (findRegion 28)).getD .skip) (Exit.then K Q) ⟨#[s0, s1, s2, .pointer (some ⟨Kb, 0, none⟩), s4, s5, s6, s7, s8, s9, .pointer (some ⟨Wb, 0, none⟩), .pointer (some ⟨Vb, 0, none⟩), .int .i64 t, s13, s14, s15, s16, s17, s18, s19, s20, s21, s22, s23, s24, s25, s26, s27, s28, s29, s30, s31, s32, s33, s34, s35, s36, s37, s38, s39, s40, s41, s42, s43, s44, s45, s46, s47, s48, s49, s50, s51, s52, s53, s54, s55, s56, s57, s58, s59, s60, s61, s62, s63, s64, s65, s66, s67, s68, s69, s70, s71, s72, s73, s74, s75, s76, s77, s78, s79, s80, s81, s82, s83, s84, s85, s86, s87, s88, s89, s90, s91, s92, s93, s94, s95, s96, s97, s98, s99, s100, s101, s102, s103, s104, s105, s106, s107, s108, s109, s110, s111, s112, s113, s114, s115, s116, s117, s118, s119, s120, s121, s122, s123, s124, s125, s126, s127, s128, s129, s130, s131, s132, s133, s134, s135, s136, s137, s138, s139, s140, s141, s142, s143, s144, s145, s146, s147, s148, s149, s150, s151, s152, s153, s154, s155, s156, s157, s158, s159, s160, s161, s162, s163, s164, s165, s166, s167, s168, s169, s170, s171, s172, s173, s174, s175, s176, s177, s178, s179, s180, s181, s182, s183, s184, s185, s186, s187, s188, s189, s190, s191, s192, s193, s194, s195, s196, s197, s198, s199, s200, s201, s202, s203, s204, s205, s206, s207, s208, s209, s210, s211, s212, s213, s214, s215, s216, s217, s218, s219, s220, s221, s222, s223, s224, s225, s226, s227, s228, s229, s230, s231, s232, s233, s234, s235, s236, s237, s238, s239, s240, s241, s242, s243, s244, s245, s246, s247, s248, s249, s250, s251, s252, s253, s254, s255, s256, s257, s258, s259, s260, s261, s262, s263, s264, s265, s266, s267, s268, s269, s270, s271, s272, s273, s274, s275, s276, s277, s278, s279, s280, s281, s282, s283], []⟩ wo := by
  conv => arg 2; whnf
  refine wp_region_noPanic ?_
  refine wp_region_held_drew (S := (fun w' => w'.cell? ⟨Vb, 4, none⟩ = some (.int .u32 (wi xe)) ∧ w'.cell? ⟨Vb, 5, none⟩ = some (.int .u32 (wi xf)) ∧ w'.cell? ⟨Vb, 6, none⟩ = some (.int .u32 (wi xg)) ∧ w'.cell? ⟨Vb, 7, none⟩ = some (.int .u32 (wi xh)) ∧ w'.cell? ⟨Kb, t, none⟩ = some (.int .u32 (wi kq)) ∧ w'.cell? ⟨Wb, t, none⟩ = some (.int .u32 (wi x)))) (by kernel_rfl) ?_ (fun hHeld => ?_)
  · ((try dsimp only) <;> (exact ⟨d4, d5, d6, d7, dk, dw⟩))
  refine rtake 0 ?_
  refine rtake 1 ?_
  refine rtake 2 ?_
  refine rtake 3 ?_
  refine rtake 5 ?_
  refine rtake 6 ?_
  refine rtake 9 ?_
  refine rtake 10 ?_
  refine rtake 14 ?_
  refine rtake 15 ?_
  refine rtake 16 ?_
  refine rtake 17 ?_
  refine rtake 18 ?_
  refine rtake 19 ?_
  refine rtake 20 ?_
  refine rtake 21 ?_
  refine rtake 22 ?_
  refine rtake 23 ?_
  refine rtake 24 ?_
  refine rtake 25 ?_
  refine rtake 27 ?_
  refine rtake 28 ?_
  refine rtake 29 ?_
  refine rtake 31 ?_
  refine rtake 32 ?_
  refine rtake 33 ?_
  refine wpAnyH_ready (rs := [4]) (by kernel_rfl) (by simp) ?_
  refine AllReadyH.cons (o := ⟨_, _, _, _, _, _⟩) rfl (fun K hK => ?_) AllReadyH.nil
  go_simp
  (refine (r2turn_any xe 6 _ (by omega) (by omega)).mono ?_; rintro e w5 ⟨rfl, rfl⟩)
  refine hK.out _ _ ?_ (fun hHeld => ?_)
  · ((try dsimp only) <;> (exact ⟨d4, d5, d6, d7, dk, dw⟩))
  clear hK K
  try (simp only [Act.put, List.setIfInBounds_toArray]; dsimp only [List.set_cons_zero, List.set_cons_succ])
  refine wpAnyH_ready (rs := [7]) (by kernel_rfl) (by simp) ?_
  refine AllReadyH.cons (o := ⟨_, _, _, _, _, _⟩) rfl (fun K hK => ?_) AllReadyH.nil
  go_simp
  (refine (r2turn_any xe 11 _ (by omega) (by omega)).mono ?_; rintro e w5 ⟨rfl, rfl⟩)
  refine hK.out _ _ ?_ (fun hHeld => ?_)
  · ((try dsimp only) <;> (exact ⟨d4, d5, d6, d7, dk, dw⟩))
  clear hK K
  try (simp only [Act.put, List.setIfInBounds_toArray]; dsimp only [List.set_cons_zero, List.set_cons_succ])
  refine rtake 8 ?_
  refine wpAnyH_ready (rs := [11]) (by kernel_rfl) (by simp) ?_
  refine AllReadyH.cons (o := ⟨_, _, _, _, _, _⟩) rfl (fun K hK => ?_) AllReadyH.nil
  go_simp
  (refine (r2turn_any xe 25 _ (by omega) (by omega)).mono ?_; rintro e w5 ⟨rfl, rfl⟩)
  refine hK.out _ _ ?_ (fun hHeld => ?_)
  · ((try dsimp only) <;> (exact ⟨d4, d5, d6, d7, dk, dw⟩))
  clear hK K
  try (simp only [Act.put, List.setIfInBounds_toArray]; dsimp only [List.set_cons_zero, List.set_cons_succ])
  refine rtake 12 ?_
  refine rtake 13 ?_
  refine rtake 26 ?_
  refine rtake 30 ?_
  refine rtake 34 ?_
  refine rtake 35 ?_
  refine wpAnyH_done (by kernel_rfl) ?_ _
  refine NoPanic.normal ?_
  all_goals exact hK.out ⟨rfl, rfl, (Fr.refl F0 wo).drew.drew.drew.drew⟩
end Go.Proofs.YthpcajpiflpmdaaDoor

/- The document's answer 02 (digest): a statement of Sum's innermost round. -/
namespace Go.Proofs.YthpcajpiflpmdaaDoor
set_option linter.unusedVariables false
set_option linter.unusedSimpArgs false
open Go.RowKit

attribute [local go_sem high] wdv_and wdv_or wdv_xor wdv_not wdv_add wdv_shl wdv_shr wdv_to8 wdv_of8

set_option maxRecDepth 100000 in
set_option maxHeartbeats 16000000 in
theorem reg29 {s0 s1 s2 s3 s4 s5 s6 s7 s8 s9 s10 s12 s13 s14 s15 s16 s17 s18 s19 s20 s21 s22 s23 s24 s25 s26 s27 s28 s29 s30 s31 s32 s33 s34 s35 s36 s37 s38 s39 s40 s41 s42 s43 s44 s45 s46 s47 s48 s49 s50 s51 s52 s53 s54 s55 s56 s57 s58 s59 s60 s61 s62 s63 s64 s65 s66 s67 s68 s69 s70 s71 s72 s73 s74 s75 s76 s77 s78 s79 s80 s81 s82 s83 s84 s85 s86 s87 s88 s89 s90 s91 s92 s93 s94 s95 s96 s97 s98 s99 s100 s101 s102 s103 s104 s105 s106 s107 s108 s109 s110 s111 s112 s113 s114 s115 s116 s117 s118 s119 s120 s121 s122 s123 s124 s125 s126 s127 s128 s129 s130 s131 s132 s133 s134 s135 s136 s137 s138 s139 s140 s141 s142 s143 s144 s145 s146 s147 s148 s149 s150 s151 s152 s153 s154 s155 s156 s157 s158 s159 s160 s161 s162 s163 s164 s165 s166 s167 s168 s169 s170 s171 s172 s173 s174 s175 s176 s177 s178 s179 s180 s181 s182 s183 s184 s185 s186 s187 s188 s189 s190 s191 s192 s193 s194 s195 s196 s197 s198 s199 s200 s201 s202 s203 s204 s205 s206 s207 s208 s209 s210 s211 s212 s213 s214 s215 s216 s217 s218 s219 s220 s221 s222 s223 s224 s225 s226 s227 s228 s229 s230 s231 s232 s233 s234 s235 s236 s237 s238 s239 s240 s241 s242 s243 s244 s245 s246 s247 s248 s249 s250 s251 s252 s253 s254 s255 s256 s257 s258 s259 s260 s261 s262 s263 s264 s265 s266 s267 s268 s269 s270 s271 s272 s273 s274 s275 s276 s277 s278 s279 s280 s281 s282 s283 : Value} {K : Act → World → Prop} {Q : Exit → Act → World → Prop} (wo : World) (Vb : Nat) (xa xb xc : Wd) (d0 : wo.cell? ⟨Vb, 0, none⟩ = some (.int .u32 (wi xa))) (d1 : wo.cell? ⟨Vb, 1, none⟩ = some (.int .u32 (wi xb))) (d2 : wo.cell? ⟨Vb, 2, none⟩ = some (.int .u32 (wi xc)))
    (hK : RowKit.Hid (∀ {u14 u204 u205 u206 u207 u208 u209 u210 u211 u212 u213 u214 u215 u216 u217 u218 u219 u220 u221 u222 u223 u224 u225 u226 u227 u228 u229 u230 u231 u232 : Value} {w' : World}, (u14 = .int .u32 (wi ((rotr xa 2 ^^^ rotr xa 13 ^^^ rotr xa 22) + (xa &&& xb ^^^ xa &&& xc ^^^ xb &&& xc))) ∧ w'.heap = wo.heap ∧ Fr F0 wo w') → K ⟨#[s0, s1, s2, s3, s4, s5, s6, s7, s8, s9, s10, .pointer (some ⟨Vb, 0, none⟩), s12, s13, u14, s15, s16, s17, s18, s19, s20, s21, s22, s23, s24, s25, s26, s27, s28, s29, s30, s31, s32, s33, s34, s35, s36, s37, s38, s39, s40, s41, s42, s43, s44, s45, s46, s47, s48, s49, s50, s51, s52, s53, s54, s55, s56, s57, s58, s59, s60, s61, s62, s63, s64, s65, s66, s67, s68, s69, s70, s71, s72, s73, s74, s75, s76, s77, s78, s79, s80, s81, s82, s83, s84, s85, s86, s87, s88, s89, s90, s91, s92, s93, s94, s95, s96, s97, s98, s99, s100, s101, s102, s103, s104, s105, s106, s107, s108, s109, s110, s111, s112, s113, s114, s115, s116, s117, s118, s119, s120, s121, s122, s123, s124, s125, s126, s127, s128, s129, s130, s131, s132, s133, s134, s135, s136, s137, s138, s139, s140, s141, s142, s143, s144, s145, s146, s147, s148, s149, s150, s151, s152, s153, s154, s155, s156, s157, s158, s159, s160, s161, s162, s163, s164, s165, s166, s167, s168, s169, s170, s171, s172, s173, s174, s175, s176, s177, s178, s179, s180, s181, s182, s183, s184, s185, s186, s187, s188, s189, s190, s191, s192, s193, s194, s195, s196, s197, s198, s199, s200, s201, s202, s203, u204, u205, u206, u207, u208, u209, u210, u211, u212, u213, u214, u215, u216, u217, u218, u219, u220, u221, u222, u223, u224, u225, u226, u227, u228, u229, u230, u231, u232, s233, s234, s235, s236, s237, s238, s239, s240, s241, s242, s243, s244, s245, s246, s247, s248, s249, s250, s251, s252, s253, s254, s255, s256, s257, s258, s259, s260, s261, s262, s263, s264, s265, s266, s267, s268, s269, s270, s271, s272, s273, s274, s275, s276, s277, s278, s279, s280, s281, s282, s283], []⟩ w')) :
    Code.wp Tryd.prog ((Tryd.f39.body.bind (findRegion 29)).getD .skip) (Exit.then K Q) ⟨#[s0, s1, s2, s3, s4, s5, s6, s7, s8, s9, s10, .pointer (some ⟨Vb, 0, none⟩), s12, s13, s14, s15, s16, s17, s18, s19, s20, s21, s22, s23, s24, s25, s26, s27, s28, s29, s30, s31, s32, s33, s34, s35, s36, s37, s38, s39, s40, s41, s42, s43, s44, s45, s46, s47, s48, s49, s50, s51, s52, s53, s54, s55, s56, s57, s58, s59, s60, s61, s62, s63, s64, s65, s66, s67, s68, s69, s70, s71, s72, s73, s74, s75, s76, s77, s78, s79, s80, s81, s82, s83, s84, s85, s86, s87, s88, s89, s90, s91, s92, s93, s94, s95, s96, s97, s98, s99, s100, s101, s102, s103, s104, s105, s106, s107, s108, s109, s110, s111, s112, s113, s114, s115, s116, s117, s118, s119, s120, s121, s122, s123, s124, s125, s126, s127, s128, s129, s130, s131, s132, s133, s134, s135, s136, s137, s138, s139, s140, s141, s142, s143, s144, s145, s146, s147, s148, s149, s150, s151, s152, s153, s154, s155, s156, s157, s158, s159, s160, s161, s162, s163, s164, s165, s166, s167, s168, s169, s170, s171, s172, s173, s174, s175, s176, s177, s178, s179, s180, s181, s182, s183, s184, s185, s186, s187, s188, s189, s190, s191, s192, s193, s194, s195, s196, s197, s198, s199, s200, s201, s202, s203, s204, s205, s206, s207, s208, s209, s210, s211, s212, s213, s214, s215, s216, s217, s218, s219, s220, s221, s222, s223, s224, s225, s226, s227, s228, s229, s230, s231, s232, s233, s234, s235, s236, s237, s238, s239, s240, s241, s242, s243, s244, s245, s246, s247, s248, s249, s250, s251, s252, s253, s254, s255, s256, s257, s258, s259, s260, s261, s262, s263, s264, s265, s266, s267, s268, s269, s270, s271, s272, s273, s274, s275, s276, s277, s278, s279, s280, s281, s282, s283], []⟩ wo := by
  conv => arg 2; whnf
  refine wp_region_noPanic ?_
  refine wp_region_held_drew (S := (fun w' => w'.cell? ⟨Vb, 0, none⟩ = some (.int .u32 (wi xa)) ∧ w'.cell? ⟨Vb, 1, none⟩ = some (.int .u32 (wi xb)) ∧ w'.cell? ⟨Vb, 2, none⟩ = some (.int .u32 (wi xc)))) (by kernel_rfl) ?_ (fun hHeld => ?_)
  · ((try dsimp only) <;> (exact ⟨d0, d1, d2⟩))
  refine rtake 0 ?_
  refine rtake 1 ?_
  refine rtake 3 ?_
  refine rtake 4 ?_
  refine rtake 7 ?_
  refine rtake 8 ?_
  refine rtake 11 ?_
  refine rtake 12 ?_
  refine rtake 13 ?_
  refine rtake 14 ?_
  refine rtake 15 ?_
  refine rtake 16 ?_
  refine rtake 17 ?_
  refine rtake 18 ?_
  refine rtake 19 ?_
  refine rtake 20 ?_
  refine rtake 21 ?_
  refine rtake 22 ?_
  refine rtake 23 ?_
  refine rtake 24 ?_
  refine rtake 25 ?_
  refine rtake 26 ?_
  refine rtake 27 ?_
  refine wpAnyH_ready (rs := [2]) (by kernel_rfl) (by simp) ?_
  refine AllReadyH.cons (o := ⟨_, _, _, _, _, _⟩) rfl (fun K hK => ?_) AllReadyH.nil
  go_simp
  (refine (r2turn_any xa 2 _ (by omega) (by omega)).mono ?_; rintro e w5 ⟨rfl, rfl⟩)
  refine hK.out _ _ ?_ (fun hHeld => ?_)
  · ((try dsimp only) <;> (exact ⟨d0, d1, d2⟩))
  clear hK K
  try (simp only [Act.put, List.setIfInBounds_toArray]; dsimp only [List.set_cons_zero, List.set_cons_succ])
  refine wpAnyH_ready (rs := [5]) (by kernel_rfl) (by simp) ?_
  refine AllReadyH.cons (o := ⟨_, _, _, _, _, _⟩) rfl (fun K hK => ?_) AllReadyH.nil
  go_simp
  (refine (r2turn_any xa 13 _ (by omega) (by omega)).mono ?_; rintro e w5 ⟨rfl, rfl⟩)
  refine hK.out _ _ ?_ (fun hHeld => ?_)
  · ((try dsimp only) <;> (exact ⟨d0, d1, d2⟩))
  clear hK K
  try (simp only [Act.put, List.setIfInBounds_toArray]; dsimp only [List.set_cons_zero, List.set_cons_succ])
  refine rtake 6 ?_
  refine wpAnyH_ready (rs := [9]) (by kernel_rfl) (by simp) ?_
  refine AllReadyH.cons (o := ⟨_, _, _, _, _, _⟩) rfl (fun K hK => ?_) AllReadyH.nil
  go_simp
  (refine (r2turn_any xa 22 _ (by omega) (by omega)).mono ?_; rintro e w5 ⟨rfl, rfl⟩)
  refine hK.out _ _ ?_ (fun hHeld => ?_)
  · ((try dsimp only) <;> (exact ⟨d0, d1, d2⟩))
  clear hK K
  try (simp only [Act.put, List.setIfInBounds_toArray]; dsimp only [List.set_cons_zero, List.set_cons_succ])
  refine rtake 10 ?_
  refine rtake 28 ?_
  refine rtake 29 ?_
  refine wpAnyH_done (by kernel_rfl) ?_ _
  refine NoPanic.normal ?_
  all_goals exact hK.out ⟨rfl, rfl, (Fr.refl F0 wo).drew.drew.drew.drew⟩
end Go.Proofs.YthpcajpiflpmdaaDoor
