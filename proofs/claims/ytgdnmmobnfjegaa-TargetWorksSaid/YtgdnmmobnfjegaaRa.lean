/- The document's answer 03 (wide): digits of 16 bits; the walks of digit and trim. -/
import Derived.Test.YtgdnmmobnfjegaaWb
import Derived.OwnWalk
namespace Go.Proofs.Ytgdnmmobnfjegaa
set_option linter.unusedVariables false
set_option linter.unusedSimpArgs false
open Go.RowKit

theorem Try.infoU64 : (Try.prog.info? 22).map (fun i => (i.zero, i.size, i.bytes)) = some (some (.int .u64 0), 1, 8) := by kernel_rfl

/-- A number of 64 bits as a value. -/
def U64 (x : Nat) : Value := .int .u64 (x : Int)
/-- A slice of numbers that is read. -/
def Us (w : World) (a : Option Addr) (c : Nat) (l : List Nat) : Prop := Sl w 1 a c l.length (l.map U64)
/-- A row of numbers of the call's own. -/
def OwnU (w : World) (v : Value) (l : List Nat) : Prop := w.ownsRow 0 22 1 v l.length (l.map U64)

theorem OwnU.nil (w : World) : OwnU w (.slice none 0 0) [] := World.ownsRow_nil _ _ _ _
theorem OwnU.us {w : World} {a : Option Addr} {n c : Nat} {l : List Nat} (h : OwnU w (.slice a n c) l) : n = l.length ∧ Us w a c l := by
  obtain ⟨rfl, hs⟩ := Sl.of_own h
  exact ⟨rfl, hs⟩
theorem OwnU.slice {w : World} {v : Value} {l : List Nat} (h : OwnU w v l) : ∃ a c, v = .slice a l.length c := own_slice h
theorem OwnU.lt {w : World} {v : Value} {l : List Nat} (h : OwnU w v l) : ∀ k, v.ownBlock = some k → k < w.heap.size := fun k hk => (World.ownsRow.lt h k hk).2
theorem OwnU.fr {S : Nat → Prop} {w w' : World} {v : Value} {l : List Nat} (h : OwnU w v l) (hf : Fr S w w') (hs : ∀ k, v.ownBlock = some k → ¬ S k) : OwnU w' v l := by
  refine ⟨h.1, ?_⟩
  rcases h.2 with hn | ⟨g, cap, cur, rfl, hb, hg, r⟩
  · exact .inl hn
  · exact .inr ⟨g, cap, cur, rfl, hb, hf.keeps (hs g rfl) hg, r⟩

theorem Us.one {l : List Nat} : ∀ u ∈ l.map U64, u.oneCell' = true := by
  intro u hu
  simp only [List.mem_map] at hu
  obtain ⟨x, _, rfl⟩ := hu
  rfl

theorem Us.get {w : World} {a : Option Addr} {c : Nat} {l : List Nat} (h : Us w a c l) (j : Nat) (hj : j < l.length) : ∃ b off, a = some ⟨b, off, none⟩ ∧ Obj.cellAt (off + j) w.heap[b]? = some (.int .u64 (l.getD j 0 : Nat)) := by
  obtain ⟨b, off, e, hc⟩ := h.cell j (U64 (l.getD j 0)) (by simp [List.getElem?_map, List.getElem?_eq_getElem hj, List.getD])
  exact ⟨b, off, e, by rw [← cell_at]; exact hc⟩

theorem Us.fr {w w' : World} {a : Option Addr} {c : Nat} {l : List Nat} (h : Us w a c l) (f : Fr F0 w w') : Us w' a c l := Sl.fr h f fun _ _ f => f

/-- 'append(s, x...)' on digits, in a walk. -/
theorem wpList_appN {w : World} {ops : Array Oper} {rest : List Oper} {o : Oper} {a : Act} {Q : Exit → Act → World → Prop} (hgd : o.guard = none) (s x : Operand)
    (ho : o.op = .call { callee := .builtin .append, args := #[s, x], argTypes := #[38, 38] })
    (v : Value) (b0 : List Nat) (hs : a.eval s = v) (hown : OwnU w v b0) (ad : Option Addr) (m c : Nat) (l : List Nat) (hx : a.eval x = .slice ad m c) (hsl : Us w ad c l) (hm : m = l.length)
    (hb : b0.length + l.length ≤ 1000000)
    (h : ∀ a' c' w', OwnU w' (.slice a' (b0.length + l.length) c') (b0 ++ l) → w.grownBy w' v.ownBlock → (∀ k, ablk a' = some k → v.ownBlock = some k ∨ w.heap.size ≤ k) →
      wpList Try.prog ops Q rest (a.put o.dst (.slice a' (b0.length + l.length) c')) w') : wpList Try.prog ops Q (o :: rest) a w := by
  subst hm
  obtain ⟨i0, hi, hz0, hz1, hz2⟩ := info_parts Try.infoU64
  refine wpList_app hgd s x 38 ho 22 i0 (.int .u64 0) 1 8 Try.underlying38 hi hz0 hz1 hz2 rfl (by decide) v _ _ hs hown ad c _ _ hx hsl Us.one (by unfold maxLen; omega) (by omega) ?_
  intro a' c' w' h1 h2 h3
  exact h a' c' w' (by simpa [OwnU] using h1) h2 h3

theorem Us.of_new (w : World) (x : Nat) : Us (w.alloc (.cells #[.int .u64 (x : Int)] 22)) (some ⟨w.heap.size, 0, none⟩) 1 [x] :=
  ⟨rfl, Nat.le_refl _, by unfold maxLen; omega, (fun e => by cases e), fun j u hj => ⟨w.heap.size, 0, rfl, by
    rw [Nat.zero_add, cell_of_row _ _ j _ _ _ (heap_alloc_new w _)]
    match j, hj with
    | 0, hj => simpa [U64] using hj⟩⟩

/-! ### digits -/

/-- n digits of 16 bits. -/
def ds (n x : Nat) : List Nat := (List.range n).map (dgt 16 x)
theorem ds_length (n x : Nat) : (ds n x).length = n := by simp [ds]
theorem ds_succ (n x : Nat) : ds (n + 1) x = ds n x ++ [dgt 16 x n] := by simp [ds, List.range_succ]
theorem ds_zero (x : Nat) : ds 0 x = [] := rfl
theorem ds_getD (n x i : Nat) (h : i < n) : (ds n x).getD i 0 = dgt 16 x i := by simp [ds, List.getD, h]

/-- How many digits a number has. -/
def lg (x : Nat) : Nat := if x = 0 then 0 else x.log2 / 16 + 1
theorem lg_lt (x : Nat) : x < 2 ^ (16 * lg x) := by
  unfold lg
  split
  · subst x; decide
  · exact Nat.lt_of_lt_of_le Nat.lt_log2_self (Nat.pow_le_pow_right (by omega) (by omega))
theorem lg_le {x : Nat} (h : 0 < lg x) : 2 ^ (16 * (lg x - 1)) ≤ x := by
  unfold lg at h ⊢
  split at h
  · omega
  · rename_i h0
    rw [if_neg h0]
    exact Nat.le_trans (Nat.pow_le_pow_right (by omega) (by omega)) (Nat.log2_self_le h0)
theorem lg_min {x n : Nat} (h : x < 2 ^ (16 * n)) : lg x ≤ n := by
  refine Nat.le_of_not_lt fun hn => ?_
  have h1 := lg_le (x := x) (by omega)
  have h2 : 2 ^ (16 * n) ≤ 2 ^ (16 * (lg x - 1)) := Nat.pow_le_pow_right (by omega) (by omega)
  omega
theorem lg_zero : lg 0 = 0 := rfl
theorem lg_pos {x : Nat} (h : x ≠ 0) : 0 < lg x := by unfold lg; rw [if_neg h]; omega
theorem lg_eq0 {x : Nat} (h : lg x = 0) : x = 0 := Decidable.byContradiction fun h0 => by have := lg_pos h0; omega

/-- A number's digits: the last one isn't 0. -/
def dg (x : Nat) : List Nat := ds (lg x) x
theorem dg_length (x : Nat) : (dg x).length = lg x := ds_length _ _
theorem dgt16_over {x n i : Nat} (h : x < 2 ^ (16 * n)) (hi : n ≤ i) : dgt 16 x i = 0 := by
  unfold dgt
  rw [Nat.div_eq_of_lt (Nat.lt_of_lt_of_le h (Nat.pow_le_pow_right (by omega) (by omega)))]
theorem dg_getD (x i : Nat) : (dg x).getD i 0 = dgt 16 x i := by
  by_cases h : i < lg x
  · exact ds_getD _ _ _ h
  · rw [dgt16_over (lg_lt x) (by omega)]
    simp [List.getD, List.getElem?_eq_none (show (dg x).length ≤ i by rw [dg_length]; omega)]
theorem dgt_top {x n : Nat} (h : x < 2 ^ (16 * (n + 1))) : dgt 16 x n = x / 2 ^ (16 * n) := by
  unfold dgt
  refine Nat.mod_eq_of_lt ?_
  rw [Nat.div_lt_iff_lt_mul (Nat.two_pow_pos _), ← Nat.pow_add]
  rwa [show 16 + 16 * n = 16 * (n + 1) by omega]

def vlen : Value → Nat | .slice _ m _ => m | _ => 0

/-- A slice of a number's digits. -/
abbrev Ns (w : World) (a : Option Addr) (c : Nat) (x : Nat) : Prop := Us w a c (dg x)
/-- A number is answered, in new memory or in what was there. -/
def NN (x : Nat) (w : World) (e : Ending) (w' : World) : Prop := ∃ a c, e = .returned (.slice a (lg x) c) ∧ Ns w' a c x ∧ Fr F0 w w'

theorem digit_any (a : Option Addr) (n c : Nat) (l : List Nat) (i : Nat) (hn : n = l.length) (w : World) (h : Us w a c l) :
    Calls Try.prog 43 #[.slice a n c, .int .i64 (i : Int)] w fun e w' => e = .returned (.int .u64 (l.getD i 0 : Nat)) ∧ w' = w := by
  subst hn
  by_cases hi : i < l.length
  · obtain ⟨b, off, rfl, hc⟩ := h.get i hi
    have l1 : (i : Int) < l.length := by omega
    clear h
    generalize l.getD i 0 = v at *
    go_enter Try.func43, Try.ntmps43
    go_wp2
    go_ret
    exact ⟨rfl, rfl⟩
  · have l1 : ¬ (i : Int) < l.length := by omega
    have e : l.getD i 0 = 0 := by simp [List.getD, List.getElem?_eq_none (show l.length ≤ i by omega)]
    rw [e]
    clear h e
    go_enter Try.func43, Try.ntmps43
    go_wp2
    go_ret
    exact ⟨rfl, rfl⟩

/-- digit, of a number. -/
theorem digitN (a : Option Addr) (n c x : Nat) (i : Nat) (hn : n = lg x) (w : World) (h : Ns w a c x) :
    Calls Try.prog 43 #[.slice a n c, .int .i64 (i : Int)] w fun e w' => e = .returned (.int .u64 (dgt 16 x i : Nat)) ∧ w' = w := by
  have := digit_any a n c (dg x) i (by rw [dg_length, hn]) w h
  rwa [dg_getD] at this

theorem Us.cut {w : World} {b off c n x : Nat} (h : Us w (some ⟨b, off, none⟩) c (ds (n + 1) x)) : Us w (some ⟨b, off, none⟩) c (ds n x) := by
  have hr := h.room
  rw [ds_length] at hr
  refine ⟨by simp, by rw [ds_length]; omega, h.most, h.nil, fun j u hj => ?_⟩
  refine h.cell j u ?_
  rw [ds_succ, List.map_append]
  rw [List.getElem?_append_left]
  · exact hj
  · exact (List.getElem?_eq_some_iff.1 hj).1

set_option maxHeartbeats 2000000 in
theorem trim_same (n x : Nat) (a : Option Addr) (c : Nat) (hx : x < 2 ^ (16 * n)) (hn : n ≤ 1000000) (w : World) (h : Us w a c (ds n x)) :
    Calls Try.prog 38 #[.slice a n c] w fun e w' => (∃ c, e = .returned (.slice a (lg x) c) ∧ Ns w a c x) ∧ w' = w := by
  go_enter Try.func38, Try.ntmps38
  go_wp2
  go_loopw [0] (fun v wr => wr = w ∧ ∃ m c, m ≤ n ∧ x < 2 ^ (16 * m) ∧ v = .slice a m c ∧ Us w a c (ds m x)) (fun v _ => vlen v)
  case atStart => exact ⟨rfl, n, c, Nat.le_refl _, hx, rfl, h⟩
  case round =>
    obtain ⟨rfl, m, c, hm, hxm, rfl, hu⟩ := hrel
    cases m with
    | zero =>
      have h0 : x = 0 := by simp at hxm; omega
      subst h0
      go_wp2
      go_ret
      exact ⟨⟨c, rfl, hu⟩, rfl⟩
    | succ m =>
      obtain ⟨b, off, rfl, hc⟩ := hu.get m (by rw [ds_length]; omega)
      rw [ds_getD _ _ _ (by omega), dgt_top hxm] at hc
      have l1 : (0 : Int) < ((m + 1 : Nat) : Int) := by omega
      have l2 : IntKind.i64.wrap (((m + 1 : Nat) : Int) - 1) = (m : Int) := by rw [IntWalk.i64_in _ (by omega)]; omega
      have l3 : ((m : Nat) : Int) < ((m + 1 : Nat) : Int) := by omega
      have hroom := hu.room
      rw [ds_length] at hroom
      have HU := Lib.hid hu
      have HX := Lib.hid hxm
      have HM := Lib.hid hm
      clear hu hxm hm hx h
      generalize hM : m + 1 = M at *
      by_cases hz : x / 2 ^ (16 * m) = 0
      · rw [hz] at hc
        have hlt : x < 2 ^ (16 * m) := by
          rcases Nat.lt_or_ge x (2 ^ (16 * m)) with h | h
          · exact h
          · have := Nat.div_pos h (Nat.two_pow_pos _); omega
        have HLT := Lib.hid hlt
        clear hlt hz
        have HMM := Lib.hid hM
        clear hM
        go_wp2
        go_roundw
        case rel =>
          have := HMM.out; subst this
          exact ⟨trivial, m, _, by have := HM.out; omega, HLT.out, rfl, HU.out.cut⟩
        case measure => have := HMM.out; simp [vlen]; omega
      · generalize hv : x / 2 ^ (16 * m) = v at *
        have l4 : ¬ (v : Int) = 0 := by omega
        have he : lg x = M := by
          have h1 := lg_min (n := M) HX.out
          have h2 : ¬ lg x ≤ m := fun hle => by
            have := lg_lt x
            have h3 : 2 ^ (16 * lg x) ≤ 2 ^ (16 * m) := Nat.pow_le_pow_right (by omega) (by omega)
            rw [Nat.div_eq_of_lt (by omega)] at hv
            omega
          omega
        have HE := Lib.hid he
        have HMM := Lib.hid hM
        clear he hM hv
        go_wp2
        go_ret
        refine ⟨⟨c, by rw [HE.out]; rfl, ?_⟩, rfl⟩
        have := HU.out
        unfold Ns dg
        rw [HE.out]
        exact this
theorem trim_any (n x : Nat) (a : Option Addr) (c : Nat) (hx : x < 2 ^ (16 * n)) (hn : n ≤ 1000000) (w : World) (h : Us w a c (ds n x)) :
    Calls Try.prog 38 #[.slice a n c] w fun e w' => (∃ a c, e = .returned (.slice a (lg x) c) ∧ Ns w a c x) ∧ w' = w :=
  (trim_same n x a c hx hn w h).mono fun e w' ⟨⟨c', h1, h2⟩, h3⟩ => ⟨⟨a, c', h1, h2⟩, h3⟩
end Go.Proofs.Ytgdnmmobnfjegaa
