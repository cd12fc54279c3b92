import Derived.Test.YthpcajpiflpmdaaDoorZ3
import Derived.Test.YthpcajpiflpmdaaDoorZ6
import Derived.Lib.AppendZeros
/- slices.Grow of nothing, slices.Concat of bytes. -/
namespace Go.Proofs.YthpcajpiflpmdaaDoor
set_option linter.unusedVariables false
set_option linter.unusedSimpArgs false
open Go.RowKit

theorem size_zeroCells1 (z : Value) (n : Nat) (h : z.cells.size = 1) : (Builtin.zeroCells z.cells n).size = n := by rw [size_zeroCells, h, Nat.mul_one]

set_option maxRecDepth 100000 in
set_option maxHeartbeats 4000000 in
theorem slGrow_any (n : Nat) (w : World) (hn : n ≤ 1000000) :
    Calls Tryd.prog 46 #[.slice none 0 0, .int .i64 (n : Int)] w fun e w' => ∃ a c, e = .returned (.slice a 0 c) ∧ OwnB w' (.slice a 0 c) [] ∧ Fr F0 w w' ∧ ∀ k, ablk a = some k → w.heap.size ≤ k := by
  by_cases h0 : n = 0
  · subst h0
    go_enter Tryd.func46, Tryd.ntmps46
    go_wp2
    go_ret
    exact ⟨none, 0, rfl, OwnB.nil _, Fr.refl _ _, fun k h => by cases h⟩
  · obtain ⟨i0, hi, hz0, hz1, hz2⟩ := info_parts Tryd.infoU8
    have hrz : ∀ ty, (Builtin.append_ #[49, 3] ty #[.slice none 0 0, .int .i64 (n : Int)]).run Tryd.prog w =
        .ok (.slice (some ⟨w.heap.size, 0, none⟩) n (grownCap w n 0 5)) (w.drew.alloc (.cells (Builtin.zeroCells (Value.int .u8 0).cells n ++ Builtin.zeroCells (Value.int .u8 0).cells (grownCap w n 0 5 - n)) 5)) := fun ty =>
      Lib.run_append_nil_zeros w 49 3 ty 5 i0 (.int .u8 0) .i64 .i64 Tryd.underlying49 Tryd.underlying3 hi hz0 n (by omega) (by omega) (by omega) (by rw [hz2]; omega)
    have hG : n ≤ grownCap w n 0 5 := grownCap_ge w _ _ _
    have hM : grownCap w n 0 5 ≤ maxLen := grownCap_le_maxLen w _ _ _ (by unfold maxLen; omega)
    generalize grownCap w n 0 5 = G at *
    have hsz : (Builtin.zeroCells (Value.int .u8 0).cells n ++ Builtin.zeroCells (Value.int .u8 0).cells (G - n)).size = G := by
      rw [Array.size_append, size_zeroCells1 _ _ rfl, size_zeroCells1 _ _ rfl]; omega
    have hown := World.ownsRow_made (e := 5) (size := 1) (base := 0) w.drew (Builtin.zeroCells (Value.int .u8 0).cells n ++ Builtin.zeroCells (Value.int .u8 0).cells (G - n)) G (Nat.zero_le _) hM (by rw [hsz, Nat.mul_one])
    have hf := (Fr.refl F0 w).drew.alloc (.cells (Builtin.zeroCells (Value.int .u8 0).cells n ++ Builtin.zeroCells (Value.int .u8 0).cells (G - n)) 5)
    generalize Builtin.zeroCells (Value.int .u8 0).cells n ++ Builtin.zeroCells (Value.int .u8 0).cells (G - n) = Z at *
    have l1 : ¬ ((n : Int) < 0) := by omega
    have l2 : ((n : Int) > 0) := by omega
    have l3 : IntKind.i64.wrap ((n : Int) - (IntKind.i64.wrap 0)) = (n : Int) := by rw [IntKind.wrap_i64, IntKind.wrap_i64]; omega
    have l4 : IntKind.i64.wrap (n : Int) = (n : Int) := by rw [IntKind.wrap_i64]; omega
    clear hi hz0 hz1 hz2 hsz
    replace hown := Lib.hid hown
    replace hf := Lib.hid hf
    go_enter Tryd.func46, Tryd.ntmps46
    go_wp2_with (at_builtin; refine Lib.wpList_append_run _ rfl _ _ _ _ rfl _ _ rfl rfl _ _ (hrz _) ?_)
    go_ret
    exact ⟨_, _, rfl, hown.out, hf.out, fun k h => by cases h; exact Nat.le_refl _⟩

/-- Pieces of bytes: where each lies, its room, its bytes. -/
abbrev Pt := Option Addr × Nat × List UInt8
def pt (ps : List Pt) (k : Nat) : Pt := ps.getD k (none, 0, [])
def cat (ps : List Pt) : List UInt8 := (ps.map (·.2.2)).flatten
theorem cat_succ {ps : List Pt} {k : Nat} (h : k < ps.length) : cat (ps.take (k + 1)) = cat (ps.take k) ++ (pt ps k).2.2 := by
  rw [cat, cat, List.take_add_one, List.getElem?_eq_getElem h, List.map_append, List.flatten_append]
  simp only [pt, List.getD, List.getElem?_eq_getElem h, Option.toList_some, List.map_cons, List.map_nil, List.flatten_cons, List.flatten_nil, List.append_nil, Option.getD_some]
theorem cat_take_le (ps : List Pt) (k : Nat) : (cat (ps.take k)).length ≤ (cat ps).length := by
  conv => rhs; rw [← List.take_append_drop k ps]
  rw [cat, cat, List.map_append, List.flatten_append, List.length_append]
  omega
/-- A slice of slices of bytes that is read. -/
structure Pts (w : World) (a : Option Addr) (ps : List Pt) : Prop where
  cell : ∀ k, k < ps.length → ∃ b off, a = some ⟨b, off, none⟩ ∧ w.cell? ⟨b, off + k, none⟩ = some (.slice (pt ps k).1 (pt ps k).2.2.length (pt ps k).2.1)
  each : ∀ k, k < ps.length → Bs w (pt ps k).1 (pt ps k).2.1 (pt ps k).2.2
theorem Pts.fr {w w' : World} {a : Option Addr} {ps : List Pt} (h : Pts w a ps) (f : Fr F0 w w') : Pts w' a ps := by
  refine ⟨fun k hk => ?_, fun k hk => Bs.fr7 (h.each k hk) f⟩
  obtain ⟨b, off, e, hc⟩ := h.cell k hk
  exact ⟨b, off, e, f.cell (fun f => f) hc⟩

set_option maxRecDepth 100000 in
set_option maxHeartbeats 4000000 in
theorem slConcat_any (ps : List Pt) (a : Option Addr) (n c : Nat) (hn : n = ps.length) (hl : n ≤ 1000000) (w : World) (h : Pts w a ps) (hs : (cat ps).length ≤ 1000000) :
    Calls Tryd.prog 38 #[.slice a n c] w (NewBytes (cat ps) w) := by
  have HN := Lib.hid hn
  have HP := Lib.hid h
  have HS := Lib.hid hs
  clear hn h hs
  go_enter Tryd.func38, Tryd.ntmps38
  go_wp2_with fail
  go_loopw [3, 11] (fun sv iv wr => wr = w ∧ ∃ k : Nat, k ≤ n ∧ iv = .int .i64 (k : Int) ∧ sv = .int .i64 ((cat (ps.take k)).length : Int)) (fun _ iv _ => n - (intOf iv).toNat)
  case atStart => exact ⟨rfl, 0, by omega, rfl, rfl⟩
  case round =>
    obtain ⟨hw, k, hk, rfl, rfl⟩ := hrel
    replace hw := hw.symm
    subst hw
    by_cases h1 : k < n
    · have l1 : (k : Int) < (n : Int) := by omega
      have hkl : k < ps.length := by rw [← HN.out]; exact h1
      obtain ⟨b, off, ea, hc⟩ := HP.out.cell k hkl
      subst ea
      have e := Lib.hid (cat_succ hkl)
      have hle := cat_take_le ps (k + 1)
      rw [e.out, List.length_append] at hle
      have hle2 := Nat.le_trans hle HS.out
      generalize hp : pt ps k = p at *
      obtain ⟨pa, pc, pb⟩ := p
      dsimp only at hc hle hle2 e
      generalize hX : (cat (ps.take k)).length = X at *
      generalize hY : pb.length = Y at *
      have l2 : IntKind.i64.wrap ((X : Int) + (Y : Int)) = ((X + Y : Nat) : Int) := by rw [IntKind.wrap_i64]; omega
      have l3 : ¬ (((X + Y : Nat) : Int) < 0) := by omega
      have HXY := Lib.hid (show (cat (ps.take (k + 1))).length = X + Y by rw [e.out, List.length_append, hX, hY])
      clear hkl hle hle2 hp e hX hY
      go_wp2_with fail
      go_roundw
      case rel => exact ⟨trivial, k + 1, h1, by go_num, by rw [HXY.out, Int.natCast_add]⟩
      case measure => simp [intOf]; omega
    · have l1 : ¬ (k : Int) < (n : Int) := by omega
      obtain rfl : k = n := by omega
      have e : ps.take k = ps := by rw [HN.out, List.take_length]
      rw [e]
      have HG := Lib.hid (fun w => slGrow_any (cat ps).length w HS.out)
      generalize hX : (cat ps).length = X at *
      clear e
      go_wp2_with fail
      (with_reducible refine (HG.out _).mono ?_); rintro e w1 ⟨a1, c1, rfl, ho, hf, hb⟩
      replace hb := Lib.hid hb
      clear HG
      go_wp2_with fail
      go_loopw [6, 27] (fun sv iv wr => ∃ (j : Nat) (a' : Option Addr) (m' c' : Nat), j ≤ k ∧ iv = .int .i64 (j : Int) ∧ sv = .slice a' m' c' ∧ OwnB wr (.slice a' m' c') (cat (ps.take j)) ∧ Fr F0 w wr ∧ Hid (∀ i, ablk a' = some i → w.heap.size ≤ i)) (fun _ iv _ => k - (intOf iv).toNat)
      case atStart => exact ⟨0, a1, 0, c1, by omega, rfl, rfl, ho, hf, hb⟩
      case round =>
        clear ho hf hb
        obtain ⟨j, a2, m2, c2, hj, rfl, rfl, ho, hf, hb⟩ := hrel
        by_cases h2 : j < k
        · have l2 : (j : Int) < (k : Int) := by omega
          have hkl : j < ps.length := by rw [← HN.out]; exact h2
          have HPr := HP.out.fr hf
          obtain ⟨b, off, ea, hc⟩ := HPr.cell j hkl
          subst ea
          have hB := HPr.each j hkl
          have e := Lib.hid (cat_succ hkl)
          have hle := cat_take_le ps (j + 1)
          rw [e.out, List.length_append, hX] at hle
          replace hle := Lib.hid (Nat.le_trans hle HS.out)
          clear HPr
          generalize hp : pt ps j = p at *
          obtain ⟨pa, pc, pb⟩ := p
          dsimp only at hc hle e hB
          obtain rfl := ho.bs.1
          clear hkl hp
          generalize hL : cat (ps.take j) = L at *
          go_wp2_with (at_builtin; refine wpList_appB rfl _ _ rfl _ L rfl ho _ _ _ pb rfl hB rfl (by have := hle.out; omega) ?_; intro a3 c3 w3 ho3 hg3 hb3)
          have hf3 := own_app0 hf hb.out hg3
          have hbb := own_new hf hb.out hb3
          rw [← e.out] at ho3
          go_roundw
          case rel => exact ⟨j + 1, _, _, _, h2, by go_num, rfl, ho3, hf3, hbb⟩
          case measure => simp [intOf]; omega
        · have l2 : ¬ (j : Int) < (k : Int) := by omega
          obtain rfl : j = k := by omega
          have e : ps.take j = ps := by rw [HN.out, List.take_length]
          rw [e] at ho
          have hm := ho.bs.1
          subst hm
          have hb' := Lib.hid hb
          go_wp2_with fail
          go_ret
          exact ⟨a2, c2, by rw [hX]; rfl, ho.bs.2, hf, fun i hi => ⟨hb.out i hi, ho.lt i (by rw [ablk_own]; exact hi)⟩⟩
end Go.Proofs.YthpcajpiflpmdaaDoor
