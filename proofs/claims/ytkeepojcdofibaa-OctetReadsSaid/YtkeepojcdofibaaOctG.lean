/- Stage 1, octet: slices.Backward at bytes; the reader's Get. -/
import Derived.RangeFuncNested
import Derived.RangeFuncBound
import Derived.RangeFuncCalls
import Derived.RangeFuncLeaves
import Derived.Shelf.Abstract
import Derived.Shelf.RegionOpen
import Derived.OwnWalkIn
import Derived.TacticsInMore
import Derived.LoopNIn
import Derived.LoopIn
import Derived.RangeFuncBox
import Derived.Laws.BitsAllLaws
import Derived.Test.YtkeepojcdofibaaOctR
namespace Go.Proofs.Ytkeepojcdofibaa
set_option linter.unusedVariables false
set_option linter.unusedSimpArgs false
open Go.RowKit Go.Shelf

attribute [local go_sem] Oper.semAt_some

/-- But for block x, and what is no cells, memory is as it was. -/
def Kc (x : Nat) (W W' : World) : Prop := W.heap.size ≤ W'.heap.size ∧ ∀ k c e f, k ≠ x → W.heap[k]? = some (.cells c e f) → W'.heap[k]? = some (.cells c e f)

theorem Kc.refl (x : Nat) (W : World) : Kc x W W := ⟨Nat.le_refl _, fun _ _ _ _ _ h => h⟩
theorem Kc.trans {x : Nat} {A B C : World} (h : Kc x A B) (k : Kc x B C) : Kc x A C := ⟨Nat.le_trans h.1 k.1, fun i c e f hi ha => k.2 i c e f hi (h.2 i c e f hi ha)⟩
theorem Kc.setCell (x : Nat) (W : World) (v : Value) : Kc x W (W.setCell ⟨x, 0, none⟩ v) := ⟨by simp [World.setCell], fun k c e f hk h => by rw [Below.heap_setCell _ _ _ _ hk]; exact h⟩
theorem Kc.below {x : Nat} {W W' : World} (h : Below W.heap.size W W') : Kc x W W' := ⟨h.size, fun k c e f _ hk => (h.block k (Array.getElem?_eq_some_iff.1 hk).1).trans hk⟩
theorem Kc.putObj {x : Nat} (W : World) (l : Nat) (o o' : Obj) (h : W.heap[l]? = some o) (hc : o.isCells = false) : Kc x W (W.putObj l o') := by
  refine ⟨by simp [World.putObj], fun k c e f _ hk => ?_⟩
  by_cases hl : k = l
  · subst hl
    rw [h] at hk
    cases hk
    cases hc
  · simp only [World.putObj]
    rw [Array.getElem?_setIfInBounds_ne (by omega)]
    exact hk

theorem Kc.cell {x : Nat} {W W' : World} (h : Kc x W W') {p : Addr} {v : Value} (hp : p.block ≠ x) (hc : W.cell? p = some v) : W'.cell? p = some v := by
  unfold World.cell? at hc ⊢
  cases hb : W.heap[p.block]? with
  | none => rw [hb] at hc; cases hc
  | some o =>
    rw [hb] at hc
    cases o with
    | cells c e f => rw [h.2 _ c e f hp hb]; exact hc
    | _ => cases hc

/-- What has come when k rounds are over. -/
def upto {α : Type} (f : Nat → α) (k : Nat) : List α := (List.range k).map f
theorem upto_succ {α : Type} (f : Nat → α) (k : Nat) : upto f (k + 1) = upto f k ++ [f k] := by simp [upto, List.range_succ]
theorem upto_length {α : Type} (f : Nat → α) (k : Nat) : (upto f k).length = k := by simp [upto]

/-- The k-th from behind. -/
def bk (bs : List UInt8) (k : Nat) : Nat × UInt8 := (bs.length - 1 - k, bs.getD (bs.length - 1 - k) 0)

theorem bk_all (bs : List UInt8) : (upto (bk bs) bs.length).map (·.2) = bs.reverse := by
  apply List.ext_getElem
  · simp [upto]
  · intro i h1 h2
    have h3 : i < bs.length := by simpa using h2
    simp [upto, bk, List.getElem_reverse]
    rw [List.getElem?_eq_getElem (by omega)]
    rfl

abbrev encB (x : Nat × UInt8) : Array Value := #[.int .i64 (x.1 : Int), .int .u8 (x.2.toNat : Int)]

set_option maxRecDepth 100000 in
set_option maxHeartbeats 2000000 in
theorem Backward1_in (F : Fence) (n : Nat) (hF : F.fn 34) (hro : F.round = none) (hn : 1 ≤ n) (l Bx X b off cap : Nat) (bs : List UInt8) (hreach : bs.length ≤ 140737488355328) (hbX : b ≠ X) (hBX : Bx ≠ X) (J Jx : List (Nat × UInt8) → World → Prop)
    (hY : ∀ pre x W, J pre W → pre.length < bs.length → YieldAt F (n - 1) Try.prog l (encB x) W fun e W' =>
      (e = .returned (.bool true) ∧ J (pre ++ [x]) W' ∧ Kc X W W') ∨ (e = .returned (.bool false) ∧ Jx (pre ++ [x]) W'))
    (W : World) (hBs : W.cell? ⟨Bx, 0, none⟩ = some (.slice (some ⟨b, off, none⟩) bs.length cap)) (hc : ∀ j, (hj : j < bs.length) → W.cell? ⟨b, off + j, none⟩ = some (.int .u8 (bs[j].toNat : Int))) (h0 : J [] W) :
    CallsIn F n Try.prog 34 #[.func (.yield l) #[] #[], .pointer (some ⟨Bx, 0, none⟩)] W fun e W' => (∃ v, e = .returned v) ∧
      ((∃ ys, ys = upto (bk bs) bs.length ∧ J ys W') ∨ (∃ pre, True ∧ Jx pre W')) := by
  refine callsIn_of_wp Try.func34 rfl hF ?_ hro
  simp only [Try.ntmps34, List.size_toArray, List.length_cons, List.length_nil, Nat.reduceAdd, Nat.reduceSub, Array.replicate_succ, Array.replicate_zero, List.push_toArray, List.append_toArray, List.nil_append, List.cons_append]
  gi_wp2
  gi_loopw [3] (fun i wr => ∃ k : Nat, k ≤ bs.length ∧ i = .int .i64 ((bs.length : Int) - 1 - k) ∧ J (upto (bk bs) k) wr ∧ Kc X W wr)
    (fun i _ => (intOf i + 1).toNat)
  case atStart => exact ⟨0, Nat.zero_le _, by simp, h0, Kc.refl _ _⟩
  case round =>
    obtain ⟨k, hk, rfl, hJs, hnx⟩ := hrel
    have hbox := hnx.cell (p := ⟨Bx, 0, none⟩) hBX hBs
    by_cases hlt : k < bs.length
    · obtain ⟨fn, tmps, assign, body, hy, hR⟩ := hY _ (bk bs k) wr hJs (by rw [upto_length]; exact hlt)
      dsimp only [encB, bk] at hy
      have hcx := hnx.cell (p := ⟨b, off + (bs.length - 1 - k), none⟩) hbX (hc (bs.length - 1 - k) (by omega))
      have e2 : bs.getD (bs.length - 1 - k) 0 = bs[bs.length - 1 - k] := by simp [List.getD, List.getElem?_eq_getElem (show bs.length - 1 - k < bs.length by omega)]
      have e1 : ((bs.length - 1 - k : Nat) : Int) = (bs.length : Int) - 1 - k := by omega
      rw [e1, e2] at hy
      clear e1 e2
      gi_wp2
      refine hR.mono ?_
      rintro e W3 (⟨rfl, hJ3, hk3⟩ | ⟨rfl, hJx3⟩)
      · gi_wp2
        go_roundw
        case rel => exact ⟨k + 1, by omega, by go_num, by rw [upto_succ]; exact hJ3, hnx.trans hk3⟩
        case measure => simp [intOf]; omega
      · gi_wp2
        refine bodyPost_ret (results_none rfl _ _ _) rfl ?_
        exact ⟨⟨_, rfl⟩, .inr ⟨_, trivial, hJx3⟩⟩
    · obtain rfl : k = bs.length := by omega
      gi_wp2
      go_end0
      exact ⟨⟨_, rfl⟩, .inl ⟨_, rfl, hJs⟩⟩

set_option maxRecDepth 100000 in
set_option maxHeartbeats 1000000 in
/-- .. at no bytes: no round. -/
theorem Backward1_nil_in (F : Fence) (n : Nat) (hF : F.fn 34) (hro : F.round = none) (l Bx : Nat) (a : Option Addr) (cap : Nat) (J : List (Nat × UInt8) → World → Prop) (W : World) (hBs : W.cell? ⟨Bx, 0, none⟩ = some (.slice a 0 cap)) (h0 : J [] W) :
    CallsIn F n Try.prog 34 #[.func (.yield l) #[] #[], .pointer (some ⟨Bx, 0, none⟩)] W fun e W' => (∃ v, e = .returned v) ∧ J [] W' := by
  refine callsIn_of_wp Try.func34 rfl hF ?_ hro
  simp only [Try.ntmps34, List.size_toArray, List.length_cons, List.length_nil, Nat.reduceAdd, Nat.reduceSub, Array.replicate_succ, Array.replicate_zero, List.push_toArray, List.append_toArray, List.nil_append, List.cons_append]
  gi_wp2
  gi_loopw [3] (fun i wr => i = .int .i64 (-1) ∧ J [] wr) (fun _ _ => 0)
  case atStart => exact ⟨rfl, h0⟩
  case round =>
    obtain ⟨rfl, hJs⟩ := hrel
    gi_wp2
    go_end0
    exact ⟨⟨_, rfl⟩, hJs⟩

set_option maxHeartbeats 1000000 in
theorem Backward_in (F : Fence) (n : Nat) (hF : F.fn 31) (hro : F.round = none) (a : Option Addr) (len cap : Nat) (w : World) :
    CallsIn F n Try.prog 31 #[.slice a len cap] w fun e w' => e = .returned (.func (.func 34) #[] #[.pointer (some ⟨w.heap.size, 0, none⟩)]) ∧ w' = w.alloc (.cells #[.slice a len cap] 26) := by
  refine callsIn_of_wp Try.func31 rfl hF ?_ hro
  simp only [Try.ntmps31, List.size_toArray, List.length_cons, List.length_nil, Nat.reduceAdd, Nat.reduceSub, Array.replicate_succ, Array.replicate_zero, List.push_toArray, List.append_toArray, List.nil_append, List.cons_append]
  gi_wp2
  go_ret
  exact ⟨rfl, rfl⟩

theorem Backward_stops (F : Fence) (n : Nat) (hF : F.fn 34) (hro : F.round = none) (hn : 1 ≤ n) (Bx X : Nat) (a : Option Addr) (cap : Nat) (bs : List UInt8) (hreach : bs.length ≤ 140737488355328) (w : World)
    (hBX : Bx ≠ X) (hc : w.cell? ⟨Bx, 0, none⟩ = some (.slice a bs.length cap)) (hI : Bs w a cap bs) (hX : ∀ k, bs ≠ [] → ablk a = some k → k ≠ X) :
    SeqStopsK F n Try.prog 34 #[.pointer (some ⟨Bx, 0, none⟩)] encB (Kc X) (fun ys => ys = upto (bk bs) bs.length) (fun _ => True) bs.length w := fun l J Jx W hW _ _ hY h0 => by
  have hK : Kc X w W := Kc.below hW
  have hc' := hK.cell (p := ⟨Bx, 0, none⟩) hBX hc
  by_cases hb : bs = []
  · subst hb
    exact (Backward1_nil_in F n hF hro l Bx a cap J W hc' h0).mono fun e W' ⟨he, hj⟩ => ⟨he, .inl ⟨_, rfl, hj⟩⟩
  · obtain ⟨b, off, rfl, hcs⟩ := hI.cells hb
    have hbX := hX b hb rfl
    exact Backward1_in F n hF hro hn l Bx X b off cap bs hreach hbX hBX J Jx hY W hc' (fun j hj => hK.cell (p := ⟨b, off + j, none⟩) hbX (hcs j hj)) h0

/-! ### Get -/

/-- The number of bytes, the lowest first. -/
def ofLE : List UInt8 → Nat
  | [] => 0
  | c :: r => c.toNat + 256 * ofLE r

/-- What has been gathered. -/
def acc (l : List (Nat × UInt8)) : Nat := l.foldl (fun s p => s * 256 + p.2.toNat) 0

theorem acc_snoc (l : List (Nat × UInt8)) (x : Nat × UInt8) : acc (l ++ [x]) = acc l * 256 + x.2.toNat := by simp [acc]

theorem acc_lt (l : List (Nat × UInt8)) : acc l < 256 ^ l.length := by
  obtain ⟨r, rfl⟩ : ∃ r, l = List.reverse r := ⟨l.reverse, by simp⟩
  induction r with
  | nil => simp [acc]
  | cons x r ih =>
    rw [List.reverse_cons, acc_snoc]
    have := x.2.toNat_lt
    simp only [List.length_append, List.length_cons, List.length_nil, Nat.pow_succ] at *
    omega

theorem acc_map (l : List (Nat × UInt8)) : acc l = (l.map (·.2)).foldl (fun s c => s * 256 + c.toNat) 0 := by simp [acc, List.foldl_map]

theorem ofLE_rev (bs : List UInt8) : bs.reverse.foldl (fun s c => s * 256 + c.toNat) 0 = ofLE bs := by
  induction bs with
  | nil => rfl
  | cons c r ih => simp only [List.reverse_cons, List.foldl_append, ih, List.foldl_cons, List.foldl_nil, ofLE]; omega

theorem acc_all (bs : List UInt8) : acc (upto (bk bs) bs.length) = ofLE bs := by rw [acc_map, bk_all, ofLE_rev]

/-- A number of so many bytes, and what is left behind it. -/
def gt (n : Int) (st : Option (List UInt8)) : Nat × Option (List UInt8) := if szB n then (ofLE (tk n st).1, (tk n st).2) else (0, none)

theorem Get_bad (b : Nat) (a : Option Addr) (st : Option (List UInt8)) (n : Int) (w : World) (h : IsR w b a st) (hn : szB n = false) :
    Calls Try.prog 17 #[.pointer (some ⟨b, 0, none⟩), .int .i64 n] w fun e w' => e = .returned (.int .u64 0) ∧ RPost w b a none w' := by
  go_enter Try.func17, Try.ntmps17
  go_wp2_with (first | (go_at_call 28; refine (isSize_any _ _).mono ?_; rintro e w' ⟨rfl, rfl⟩) | (go_at_call 30; refine (rfail_any b a st _ h).mono ?_; rintro e w1 ⟨rfl, h1⟩))
  go_ret
  exact ⟨rfl, h1⟩

theorem or_byte (A X : Nat) (hA : A < 72057594037927936) (hX : X < 2 ^ 8) : bits .or .u64 ((A : Int) * 256) (X : Int) = ((A * 256 + X : Nat) : Int) := by
  have h := u64_or_nat (A * 256) X (by omega) (by omega)
  have e : A * 256 = A <<< 8 := by rw [Nat.shiftLeft_eq]
  rw [show ((A : Int) * 256) = ((A * 256 : Nat) : Int) from by omega, h, e, ← Nat.shiftLeft_add_eq_or_of_lt hX]

set_option maxRecDepth 100000 in
set_option maxHeartbeats 2000000 in
theorem Get_ok (b : Nat) (a : Option Addr) (st : Option (List UInt8)) (n : Int) (w : World) (h : IsR w b a st) (hl : lft st ≤ 140737488355328) (hn : szB n = true) :
    Calls Try.prog 17 #[.pointer (some ⟨b, 0, none⟩), .int .i64 n] w fun e w' => e = .returned (.int .u64 (ofLE (tk n st).1)) ∧ RPost w b a (tk n st).2 w' := by
  have hn8 : (tk n st).1.length ≤ 8 := by
    have : n ≤ 8 := by
      simp only [szB, Bool.or_eq_true, beq_iff_eq] at hn
      omega
    unfold tk
    cases st with
    | none => simp
    | some bs =>
      dsimp only
      split
      · simp; omega
      · simp
  have hA : IsR (w.alloc (.cells #[.int .u64 0] 29)) b a st := h.fr ((Fr.refl F0 w).alloc _) (fun f => f) fun _ _ f => f
  have C1 := Lib.hid (take_any b a st n _ hA hl)
  generalize tk n st = q at *
  obtain ⟨r, st'⟩ := q
  dsimp only at *
  refine callsIn_wide (n := 6) |>.1 ?_
  refine callsIn_of_wp_marks Try.func17 rfl trivial ?_ rfl
  simp only [Try.ntmps17, List.size_toArray, List.length_cons, List.length_nil, Nat.reduceAdd, Nat.reduceSub, Array.replicate_succ, Array.replicate_zero, List.push_toArray, List.append_toArray, List.nil_append, List.cons_append]
  gi_wp2_with (first | (refine ⟨trivial, ?_⟩; gi_at_call 28; refine (callsIn_wide.2 (isSize_any _ _)).mono ?_; rintro e w' ⟨rfl, rfl⟩) | (refine ⟨trivial, ?_⟩; gi_at_call 32; refine (callsIn_wide.2 C1.out).mono ?_; rintro e w1 ⟨a2, c2, rfl, hb, hp, ha2⟩; have HP := Lib.hid hp; have HA := Lib.hid ha2; clear hp ha2) | (refine ⟨trivial, ?_⟩; gi_at_call 31; refine (Backward_in _ _ trivial rfl _ _ _ _).mono ?_; rintro e w2 ⟨rfl, rfl⟩))
  obtain ⟨a', hr, hf, ha⟩ := HP.out
  have hsz : w.heap.size < w1.heap.size := hf.lt (by simp)
  have hne : w.heap.size ≠ b := by have := h.lt; omega
  have cx : w1.heap[w.heap.size]? = some (.cells #[.int .u64 0] 29 (0, 0)) := hf.keeps hne (heap_alloc_new w (.cells #[.int .u64 0] 29))
  have cx' : (w1.alloc (.cells #[.slice a2 r.length c2] 26)).heap[w.heap.size]? = some (.cells #[.int .u64 0] 29 (0, 0)) := (Below.heap_alloc w1 _ _ hsz).trans cx
  have hbL : (w1.alloc (.cells #[.slice a2 r.length c2] 26)).cell? ⟨w1.heap.size, 0, none⟩ = some (.slice a2 r.length c2) := cell_of_one (heap_alloc_new w1 _)
  have hb' : Bs (w1.alloc (.cells #[.slice a2 r.length c2] 26)) a2 c2 r := Sl.fr hb ((Fr.refl F0 _).alloc _) fun _ _ f => f
  refine wpIn_rangeFunc_ownG rfl (by omega) (gf := 34) (lb := #[.pointer (some ⟨w1.heap.size, 0, none⟩)]) rfl trivial (enters_of Try.func34 (by kernel_rfl) rfl)
    (Backward_stops Fence.wide 5 trivial rfl (by omega) w1.heap.size w.heap.size a2 c2 r (by omega) _ (by omega) hbL hb' (fun k _ hk => by have := h.blk k (HA.out k hk); omega))
    (fun h k => Kc.trans h k) (fun W l o o' _ h hc _ => Kc.putObj W l o o' h hc) (Below.refl _ _) (fun _ => rfl)
    (fun pre W => (W.cell? ⟨w.heap.size, 0, none⟩ = some (.int .u64 (acc pre)) ∧ W.frozen? ⟨w.heap.size, 0, none⟩ = false) ∧ Below w.heap.size (w1.alloc (.cells #[.slice a2 r.length c2] 26)) W)
    (fun _ _ _ => False)
    (OwnFrom.and (Own.from (fun s A B row hs hg hr => ⟨cell_kept hs.1 hg hr, (frozen_kept hs.1 hg hr).trans hs.2⟩) _) (ownFrom_below (by simp; omega) (by simp; omega)))
    (fun _ _ _ _ _ hs _ _ => hs)
    ⟨⟨cell_of_one cx', free_of_one cx'⟩, Below.refl _ _⟩
    (fun x => { tmps := #[.pointer (some ⟨b, 0, none⟩), .int .i64 n, undef, undef, .int .u64 0, .pointer (some ⟨w.heap.size, 0, none⟩), undef, .int .u8 (x.2.toNat : Int), .int .i64 n, .bool true,
      .bool false, undef, undef, .pointer (some ⟨b, 0, none⟩), .int .i64 n, .slice a2 r.length c2, .func (.func 34) #[] #[.pointer (some ⟨w1.heap.size, 0, none⟩)], .int .i64 (x.1 : Int), .int .u8 (x.2.toNat : Int), undef, undef, undef, undef, undef, undef], defers := [] }) ?assign ?body ?done ?stop
  case assign =>
    intro l x W K hK
    gi_wp2
    exact hK
  case body =>
    rintro l pre x W ⟨⟨hc, hfz⟩, hB⟩ hlen
    have hacc := acc_lt pre
    have hpow : 256 ^ pre.length ≤ 256 ^ 7 := Nat.pow_le_pow_right (by omega) (by omega)
    have hlt : acc pre < 72057594037927936 := by omega
    have hx8 := x.2.toNat_lt
    have hsn := Lib.hid (acc_snoc pre x)
    clear hacc hpow
    generalize hA' : acc pre = A at *
    generalize hx' : x.2.toNat = X at *
    have hor := or_byte A X hlt hx8
    gi_wp2
    exact ⟨(KeepsOthers.setCell _ _ _).from _, Kc.setCell _ _ _, ⟨by rw [hsn.out]; exact World.cell?_setCell_same' _ _ _ (by rw [hc]; rfl), by rw [World.frozen?_setCell]; exact hfz⟩, hB.setCell (p := ⟨w.heap.size, 0, none⟩) (Nat.le_refl _) _⟩
  case done =>
    rintro D ys W hD rfl ⟨⟨hc, _⟩, hB⟩ hK
    gi_wp2
    refine ⟨by simp, .inl ⟨_, _, rfl, run_takeDeferred hK, ?_⟩⟩
    have hBD : Below w.heap.size (w1.alloc (.cells #[.slice a2 r.length c2] 26)) (W.putObj D (.deferred none)) := hB.trans (belowK_b (w := w1.alloc (.cells #[.slice a2 r.length c2] 26)) (by simp; omega) W D _ _ (by simp at hD; simp; omega) hK rfl rfl)
    have hlb := h.lt
    have hak := h.blk
    have hR : IsR (w1.alloc (.cells #[.slice a2 r.length c2] 26)) b a' st' := hr.fr ((Fr.refl F0 w1).alloc _) (fun f => f) fun _ _ f => f
    exact ⟨_, results_tmp rfl _ _ _, by rw [← acc_all]; rfl, a', hR.below hBD hlb fun k hk => hak k (ha k hk),
      ((((Fr.refl F0 w).alloc _).of0.trans' hf).alloc _).trans (Fr.of_below' hBD) (fun i hi hk => by omega), ha⟩
  case stop =>
    rintro D c pre W _ _ h _
    exact h.elim
end Go.Proofs.Ytkeepojcdofibaa
