import Derived.Test.YtjlnlbaaiciniaaZ9
import Derived.Test.YtjlnlbaaiciniaaZ6
import Derived.Test.YtjlnlbaaiciniaaZ1
/- Layer 11 (adjust): the chapter's example. -/
namespace Go.Proofs.Ytjlnlbaaiciniaa
set_option linter.unusedVariables false
set_option linter.unusedSimpArgs false
open Go.RowKit

/-- Rules that are built of their parts. -/
def buildRu (parts : Array (Nat × Value)) : Sem Value := Instr.build 28 parts
@[go_sem ↓ high] theorem build_rules (p : Array (Nat × Value)) : Instr.build 28 p = buildRu p := rfl
theorem run_buildRu (w : World) (parts : Array (Nat × Value)) (cells : Array Value) (h : Try.prog.built 28 parts.toList = some cells) : (buildRu parts).run Try.prog w = .ok (.agg cells) w := run_build w _ parts cells h

def liveRu : Array Value := (Value.int .i64 0 :: .int .u32 100 :: .int .u32 545259519 :: .int .i64 0 :: .int .u32 0 :: (List.replicate 64 (Value.int .u8 0) ++ [.int .u32 0, .int .u32 0, .int .u32 0])).toArray
theorem liveRu_of : RuOf liveRu 0 100 545259519 0 := ⟨rfl, rfl, rfl, rfl, rfl, by unfold rowOne; decide +kernel, by omega, by omega⟩

theorem live11a : decide (btP 486604544) = true := by decide +kernel
theorem live11b : decide (btP 545259519) = true := by decide +kernel
theorem live11c : enB (scN (btT 486604544) (tkN 100 50) 100 (btT 545259519)) = 478117888 := by decide +kernel

theorem med312 {L : List Nat} (h : L.Perm [3, 1, 2]) (hs : SO L 3) : L.getD 1 0 = 2 := by
  have hl := h.length_eq
  match L, hl with
  | [a, b, c], _ =>
    have h1 : a ≤ b := hs 0 1 (by omega) (by omega)
    have h2 : b ≤ c := hs 1 2 (by omega) (by omega)
    have m1 : 1 ∈ [a, b, c] := h.mem_iff.2 (by simp)
    have m2 : 2 ∈ [a, b, c] := h.mem_iff.2 (by simp)
    have m3 : 3 ∈ [a, b, c] := h.mem_iff.2 (by simp)
    simp at m1 m2 m3
    show b = 2
    omega

theorem med_live (w : World) : Calls Try.prog 19 #[.slice (some ⟨w.heap.size, 0, none⟩) 3 3] (w.alloc (.cells #[.int .u32 3, .int .u32 1, .int .u32 2] 22)) fun e w' => e = .returned (.int .u32 2) ∧ Fr F0 (w.alloc (.cells #[.int .u32 3, .int .u32 1, .int .u32 2] 22)) w' := by
  refine (jMedian_any (some ⟨w.heap.size, 0, none⟩) 3 [3, 1, 2] _ (Vs.of_list w [3, 1, 2] 22 (by simp)) (by simp) (by simp)).mono ?_
  rintro e w' ⟨⟨L, h1, h2, rfl⟩, f⟩
  exact ⟨by rw [show ([3, 1, 2] : List Nat).length / 2 = 1 from rfl, med312 h1 h2]; rfl, f⟩

set_option maxRecDepth 100000 in
set_option maxHeartbeats 4000000 in
theorem lives11_any (HD : DecC) (HE : EncC) (HS : ScaleC) (w : World) : Calls Try.prog 6 #[] w fun e w' => e = .returned (.bool true) ∧ Fr F0 w w' := by
  have H1 := Lib.hid (fun w => show Calls Try.prog 7 #[.agg liveRu, .int .u32 486604544, .int .i64 50] w fun e w' => e = .returned (.tuple #[.int .u32 478117888, .int .i64 0]) ∧ Fr F0 w w' by
    have := jNext_any HD HE HS liveRu_of 486604544 (by omega) 50 w
    rw [(nx_yes 50 ⟨of_decide_eq_true live11a, of_decide_eq_true live11b⟩ (by omega)).1, (nx_yes 50 ⟨of_decide_eq_true live11a, of_decide_eq_true live11b⟩ (by omega)).2, live11c] at this
    exact this)
  have H2 := Lib.hid med_live
  have hb : ∀ w, (buildRu #[(1, .int .u32 100), (2, .int .u32 545259519)]).run Try.prog w = .ok (.agg liveRu) w := fun w => run_buildRu w _ _ (by kernel_rfl)
  have s := liveRu_of.size
  have o := liveRu_of.one
  have zz : Try.zeroCells28.size = 72 := by kernel_rfl
  generalize liveRu = C at *
  generalize Try.zeroCells28 = Z at *
  clear HD HE HS
  go_enter Try.func6, Try.ntmps6
  go_wp2_with fail
  obtain ⟨W1, hW1⟩ : ∃ W1, W1 = (w.alloc (.cells Try.zeroCells28 28)).setRow w.heap.size C := ⟨_, rfl⟩
  refine Calls.of_world W1 hW1 ?_
  have F : Fr F0 w W1 := by rw [hW1]; exact ((Fr.refl F0 w).alloc _).setRow (fun h => by omega) _
  clear hW1
  (with_reducible refine (H1.out _).mono ?_); rintro e w2 ⟨rfl, f⟩
  replace F := F.trans' f
  clear f
  go_wp2_with fail
  (with_reducible refine (H2.out _).mono ?_); rintro e w3 ⟨rfl, f⟩
  replace F := (F.alloc _).trans' f
  clear f
  go_wp2_with fail
  go_ret
  exact ⟨rfl, F⟩
end Go.Proofs.Ytjlnlbaaiciniaa

/- Layer 11's law AdjustNext, walked. -/
namespace Go.Proofs.Ytjlnlbaaiciniaa
set_option linter.unusedVariables false
set_option linter.unusedSimpArgs false
open Go.RowKit

theorem run_maxU (ts : Array TypeId) (t : TypeId) (x y z : Nat) (h : max x y = z) (w : World) : (Builtin.max_ ts t #[.int .u64 (x : Int), .int .u64 (y : Int)]).run Try.prog w = .ok (.int .u64 (z : Int)) w := by
  rw [run_max_int2, show (if (y : Int) > (x : Int) then (y : Int) else (x : Int)) = (z : Int) by split <;> omega]

set_option maxRecDepth 100000 in
set_option maxHeartbeats 16000000 in
theorem adjustNext_core {C : Array Value} {every : Int} {span limit : Nat} {confirm : Int} (h : RuOf C every span limit confirm) (bits : Nat) (k : Int) (hk : -9223372036854775808 ≤ k ∧ k ≤ 9223372036854775807) (T M V tk : Nat) (E : Int) (o1 o2 : Bool) (htk : 0 < span → tkN span k = tk)
    (HL : Hid (∀ w : World, Calls Try.prog 6 #[] w fun e w' => e = .returned (.bool true) ∧ Fr F0 w w'))
    (H1 : Hid (∀ w, Calls Try.prog 7 #[.agg C, .int .u32 (bits : Int), .int .i64 k] w fun e w' => e = .returned (.tuple #[.int .u32 (V : Int), .int .i64 E]) ∧ Fr F0 w w'))
    (H2 : Hid (∀ w, Calls Try.prog 11 #[.int .u32 (bits : Int)] w fun e w' => ∃ a c, e = .returned (.tuple #[.slice a (lg T) c, .bool o1]) ∧ Ns w' a c T ∧ Fr F0 w w'))
    (H3 : Hid (∀ w, Calls Try.prog 11 #[.int .u32 (limit : Int)] w fun e w' => ∃ a c, e = .returned (.tuple #[.slice a (lg M) c, .bool o2]) ∧ Ns w' a c M ∧ Fr F0 w w'))
    (HC : Hid ((o1 = false ∧ E = 6 ∧ V = 0) ∨ (o1 = true ∧ o2 = false ∧ E = 6 ∧ V = 0) ∨ (o1 = true ∧ o2 = true ∧ span = 0 ∧ E = 1 ∧ V = 0) ∨ (o1 = true ∧ o2 = true ∧ 0 < span ∧ E = 0 ∧ ∃ S : Nat,
      Hid (∀ a c b d w, Ns w a c T → Ns w b d M → Calls Try.prog 13 #[.slice a (lg T) c, .int .u64 (tk : Int), .int .u64 (span : Int), .slice b (lg M) d] w fun e w' => NN S w e w') ∧
      Hid (∀ a c w, Ns w a c S → Calls Try.prog 12 #[.slice a (lg S) c] w fun e w' => e = .returned (.int .u32 (V : Int)) ∧ Fr F0 w w')))) (w : World) :
    Calls Try.prog 4 #[.agg C, .int .u32 (bits : Int), .int .i64 k] w fun e w' => e = .returned (.bool true) ∧ Fr F0 w w' := by
  obtain ⟨s, c0, c1, c2, c3, _, hlt, _⟩ := h
  have s1 : 1 < C.size := by omega
  have s2 : 2 < C.size := by omega
  have d1 := cell_is c1 s1
  have d2 := cell_is c2 s2
  have HK := Lib.hid hk
  have HLT := Lib.hid hlt
  have m6 : IntKind.u64.wrap (span : Int) = (span : Int) := IntWalk.u64_in _ (by omega)
  clear c0 c3 hlt hk
  go_enter Try.func4, Try.ntmps4
  go_wp2_with fail
  refine calls_new fun W0 N => ?_
  have r1 := N.new
  have F := N.fr
  clear N
  generalize w.heap.size = g1 at *
  (with_reducible refine (HL.out _).mono ?_); rintro e w1 ⟨rfl, f⟩
  replace r1 := keep_fr f r1
  replace F := F.trans' f
  clear f
  go_wp2_with fail
  (with_reducible refine (H1.out _).mono ?_); rintro e w2 ⟨rfl, f⟩
  replace r1 := keep_fr f r1
  replace F := F.trans' f
  clear f
  go_wp2_with fail
  (with_reducible refine (H2.out _).mono ?_); rintro e w3 ⟨p3, k3, rfl, n3, f⟩
  replace r1 := keep_fr f r1
  replace F := F.trans' f
  clear f
  go_wp2_with fail
  (with_reducible refine (H3.out _).mono ?_); rintro e w4 ⟨p4, k4, rfl, n4, f⟩
  replace r1 := keep_fr f r1
  replace n3 := Us.fr n3 f
  replace F := F.trans' f
  clear f
  rcases HC.out with ⟨rfl, rfl, rfl⟩ | ⟨rfl, rfl, rfl, rfl⟩ | ⟨rfl, rfl, rfl, rfl, rfl⟩ | ⟨rfl, rfl, l1, rfl, S, H4, H5⟩
  · clear HC n3 n4
    go_wp2_with fail
    go_ret
    exact ⟨rfl, F⟩
  · clear HC n3 n4
    go_wp2_with fail
    go_ret
    exact ⟨rfl, F⟩
  · clear HC n3 n4
    go_wp2_with fail
    go_ret
    exact ⟨rfl, F⟩
  · clear HC
    have l2 : ¬ (span : Int) = 0 := by omega
    have hks := htk l1
    unfold tkN at hks
    obtain ⟨q, hq⟩ : ∃ q, span / 4 = q := ⟨_, rfl⟩
    obtain ⟨f4, hf4⟩ : ∃ f, 4 * span = f := ⟨_, rfl⟩
    have m1 : (span : Int) / 4 = (q : Int) := by omega
    have hlt := HLT.out
    have hk := HK.out
    have m2 : IntKind.u64.wrap (q : Int) = (q : Int) := IntWalk.u64_in _ (by omega)
    have m4 : IntKind.u64.wrap (4 * (span : Int)) = (f4 : Int) := by rw [IntWalk.u64_in _ (by omega)]; omega
    have hcase : (k ≤ 0 ∧ max q 1 = tk) ∨ (0 < k ∧ ∃ kn : Nat, (kn : Int) = k ∧ ((kn < q ∧ max q 1 = tk) ∨ (¬ kn < q ∧ f4 < kn ∧ f4 = tk) ∨ (¬ kn < q ∧ ¬ f4 < kn ∧ kn = tk))) := by
      rw [hq, hf4] at hks
      by_cases h0 : k ≤ 0
      · left
        rw [if_pos (.inl h0)] at hks
        exact ⟨h0, hks⟩
      · right
        refine ⟨by omega, k.toNat, by omega, ?_⟩
        by_cases h1 : k.toNat < q
        · rw [if_pos (.inr h1)] at hks
          exact .inl ⟨h1, hks⟩
        · rw [if_neg (by omega)] at hks
          by_cases h2 : f4 < k.toNat
          · rw [if_pos h2] at hks
            exact .inr (.inl ⟨h1, h2, hks⟩)
          · rw [if_neg h2] at hks
            exact .inr (.inr ⟨h1, h2, hks⟩)
    clear hks hq hf4 htk hlt HLT HK
    rcases hcase with ⟨l3, hm⟩ | ⟨l3, kn, rfl, hcase⟩
    · have q1 := fun ts t w => show (Builtin.max_ ts t #[.int .u64 (q : Int), .int .u64 1]).run Try.prog w = _ from run_maxU ts t q 1 tk hm w
      clear hm
      go_wp2_with fail
      (with_reducible refine (H4.out _ _ _ _ _ n3 n4).mono ?_); rintro e w7 ⟨p7, k7, rfl, n7, f5⟩
      replace F := F.trans' f5
      clear f5
      go_wp2_with fail
      (with_reducible refine (H5.out _ _ _ n7).mono ?_); rintro e w8 ⟨rfl, f5⟩
      replace F := F.trans' f5
      go_wp2_with fail
      go_ret
      exact ⟨rfl, F⟩
    · have m7 : IntKind.u64.wrap (kn : Int) = (kn : Int) := IntWalk.u64_in _ (by omega)
      have l4 : ¬ (kn : Int) ≤ 0 := by omega
      have l4' : ¬ kn = 0 := by omega
      have l3' : 0 < kn := by omega
      clear hk
      rcases hcase with ⟨l5, hm⟩ | ⟨l5, l6, rfl⟩ | ⟨l5, l6, rfl⟩
      · have q1 := fun ts t w => show (Builtin.max_ ts t #[.int .u64 (q : Int), .int .u64 1]).run Try.prog w = _ from run_maxU ts t q 1 tk hm w
        have l5' : (kn : Int) < (q : Int) := by omega
        clear hm
        go_wp2_with fail
        (with_reducible refine (H4.out _ _ _ _ _ n3 n4).mono ?_); rintro e w7 ⟨p7, k7, rfl, n7, f5⟩
        replace F := F.trans' f5
        clear f5
        go_wp2_with fail
        (with_reducible refine (H5.out _ _ _ n7).mono ?_); rintro e w8 ⟨rfl, f5⟩
        replace F := F.trans' f5
        go_wp2_with fail
        go_ret
        exact ⟨rfl, F⟩
      · have l5' : ¬ (kn : Int) < (q : Int) := by omega
        have l6' : (f4 : Int) < (kn : Int) := by omega
        go_wp2_with fail
        (with_reducible refine (H4.out _ _ _ _ _ n3 n4).mono ?_); rintro e w7 ⟨p7, k7, rfl, n7, f5⟩
        replace F := F.trans' f5
        clear f5
        go_wp2_with fail
        (with_reducible refine (H5.out _ _ _ n7).mono ?_); rintro e w8 ⟨rfl, f5⟩
        replace F := F.trans' f5
        go_wp2_with fail
        go_ret
        exact ⟨rfl, F⟩
      · have l5' : ¬ (kn : Int) < (q : Int) := by omega
        have l6' : ¬ (f4 : Int) < (kn : Int) := by omega
        go_wp2_with fail
        (with_reducible refine (H4.out _ _ _ _ _ n3 n4).mono ?_); rintro e w7 ⟨p7, k7, rfl, n7, f5⟩
        replace F := F.trans' f5
        clear f5
        go_wp2_with fail
        (with_reducible refine (H5.out _ _ _ n7).mono ?_); rintro e w8 ⟨rfl, f5⟩
        replace F := F.trans' f5
        go_wp2_with fail
        go_ret
        exact ⟨rfl, F⟩

theorem adjustNext_any {C : Array Value} {every : Int} {span limit : Nat} {confirm : Int} (h : RuOf C every span limit confirm) (bits : Nat) (hb : bits < 4294967296) (k : Int) (hk : -9223372036854775808 ≤ k ∧ k ≤ 9223372036854775807) (w : World) :
    Calls Try.prog 4 #[.agg C, .int .u32 (bits : Int), .int .i64 k] w fun e w' => e = .returned (.bool true) ∧ Fr F0 w w' := by
  have HL := Lib.hid (lives11_any decC encC scaleC)
  have H1 := Lib.hid (jNext_any decC encC scaleC h bits hb k)
  have H2 := Lib.hid (r6Decode_any bits hb _ rfl)
  have H3 := Lib.hid (r6Decode_any limit h.limit_lt _ rfl)
  refine adjustNext_core h bits k hk (btT bits) (btT limit) _ (tkN span k) _ _ _ (fun _ => rfl) HL H1 H2 H3 (Lib.hid ?_) w
  by_cases hp : btP bits
  · by_cases hl : btP limit
    · by_cases h0 : 0 < span
      · refine .inr (.inr (.inr ⟨decide_eq_true hp, decide_eq_true hl, h0, (nx_yes k ⟨hp, hl⟩ h0).2, scN (btT bits) (tkN span k) span (btT limit), Lib.hid fun a c b d w h1 h2 => ?_, Lib.hid fun a c w h1 => ?_⟩))
        · exact r6Scale_any (btT bits) (tkN span k) span (btT limit) a c b d (btT_lt hp) (btT_lt hl) (tkN_word h0 h.span_lt k) (by have := h.span_lt; omega) h0 w h1 h2
        · rw [(nx_yes k ⟨hp, hl⟩ h0).1]
          exact r6Encode_any _ a c (scN_wide (btT_lt hl)) w h1
      · obtain rfl : span = 0 := by omega
        exact .inr (.inr (.inl ⟨decide_eq_true hp, decide_eq_true hl, rfl, (nx_zero k ⟨hp, hl⟩).2, (nx_zero k ⟨hp, hl⟩).1⟩))
    · exact .inr (.inl ⟨decide_eq_true hp, decide_eq_false hl, (nx_no k (fun f => hl f.2)).2, (nx_no k (fun f => hl f.2)).1⟩)
  · exact .inl ⟨decide_eq_false hp, (nx_no k (fun f => hp f.1)).2, (nx_no k (fun f => hp f.1)).1⟩
theorem adjustNext_all {C : Array Value} {every : Int} {span limit : Nat} {confirm : Int} (h : RuOf C every span limit confirm) (bits : Nat) (k : Int) (hb : bits < 4294967296) (hk : -9223372036854775808 ≤ k ∧ k ≤ 9223372036854775807) (w : World) :
    Calls Try.prog 4 #[.agg C, .int .u32 (bits : Int), .int .i64 k] w fun e w' => e = .returned (.bool true) ∧ Fr F0 w w' := adjustNext_any h bits hb k hk w
end Go.Proofs.Ytjlnlbaaiciniaa

/- Layer 11's law AdjustStays, walked. -/
namespace Go.Proofs.Ytjlnlbaaiciniaa
set_option linter.unusedVariables false
set_option linter.unusedSimpArgs false
open Go.RowKit

/-- What is told of bits: a target. -/
def Tells (b T : Nat) : Prop := Hid (∀ w, Calls Try.prog 8 #[.int .u32 (b : Int)] w fun e w' => e = .returned (.tuple #[.agg (rowN .u64 64 4 T), .int .i64 0]) ∧ Fr F0 w w')
/-- How two targets are held against each other. -/
def Holds2 (x y : Nat) (s : Int) : Prop := Hid (∀ w, Calls Try.prog 9 #[.agg (rowN .u64 64 4 x), .agg (rowN .u64 64 4 y)] w fun e w' => e = .returned (.int .i64 s) ∧ Fr F0 w w')

theorem Tells.out {b T : Nat} (h : Tells b T) : ∀ w, Calls Try.prog 8 #[.int .u32 (b : Int)] w fun e w' => e = .returned (.tuple #[.agg (rowN .u64 64 4 T), .int .i64 0]) ∧ Fr F0 w w' := Hid.out h
theorem Holds2.out {x y : Nat} {s : Int} (h : Holds2 x y s) : ∀ w, Calls Try.prog 9 #[.agg (rowN .u64 64 4 x), .agg (rowN .u64 64 4 y)] w fun e w' => e = .returned (.int .i64 s) ∧ Fr F0 w w' := Hid.out h

set_option maxRecDepth 100000 in
set_option maxHeartbeats 16000000 in
theorem adjustStays_core {C : Array Value} {every : Int} {span limit : Nat} {confirm : Int} (h : RuOf C every span limit confirm) (bits : Nat) (a b : Int) (V0 V1 V2 : Nat) (E : Int)
    (HL : Hid (∀ w : World, Calls Try.prog 6 #[] w fun e w' => e = .returned (.bool true) ∧ Fr F0 w w'))
    (H0 : Hid (∀ w, Calls Try.prog 7 #[.agg C, .int .u32 (bits : Int), .int .i64 (span : Int)] w fun e w' => e = .returned (.tuple #[.int .u32 (V0 : Int), .int .i64 E]) ∧ Fr F0 w w'))
    (H1 : Hid (∀ w, Calls Try.prog 7 #[.agg C, .int .u32 (bits : Int), .int .i64 a] w fun e w' => e = .returned (.tuple #[.int .u32 (V1 : Int), .int .i64 E]) ∧ Fr F0 w w'))
    (H2 : Hid (∀ w, Calls Try.prog 7 #[.agg C, .int .u32 (bits : Int), .int .i64 b] w fun e w' => e = .returned (.tuple #[.int .u32 (V2 : Int), .int .i64 E]) ∧ Fr F0 w w'))
    (HC : Hid ((¬ E = 0 ∧ V0 = 0 ∧ V1 = 0 ∧ V2 = 0) ∨ (E = 0 ∧ ∃ T M U X Y : Nat, ∃ s1 s2 : Int, Tells bits T ∧ Tells V0 U ∧ Tells V1 X ∧ Tells V2 Y ∧
      Hid (∀ w, Calls Try.prog 10 #[.agg C] w fun e w' => e = .returned (.agg (rowN .u64 64 4 M)) ∧ Fr F0 w w') ∧ Holds2 T M s1 ∧ Holds2 X Y s2 ∧
      (¬ s1 ≤ 0 ∨ (s1 ≤ 0 ∧ rowEq 256 U T = true)) ∧ (b < a ∨ (¬ b < a ∧ s2 ≤ 0))))) (w : World) :
    Calls Try.prog 3 #[.agg C, .int .u32 (bits : Int), .int .i64 a, .int .i64 b] w fun e w' => e = .returned (.bool true) ∧ Fr F0 w w' := by
  obtain ⟨s, c0, c1, c2, c3, _, hlt, _⟩ := h
  have s1 : 1 < C.size := by omega
  have d1 := cell_is c1 s1
  have m6 : IntKind.i64.wrap (span : Int) = (span : Int) := IntWalk.i64_in _ (by omega)
  clear c0 c2 c3 hlt
  go_enter Try.func3, Try.ntmps3
  go_wp2_with fail
  refine calls_new fun W0 N => ?_
  have r1 := N.new
  have F := N.fr
  clear N
  generalize w.heap.size = g1 at *
  (with_reducible refine (HL.out _).mono ?_); rintro e w1 ⟨rfl, f⟩
  replace r1 := keep_fr f r1
  replace F := F.trans' f
  clear f
  go_wp2_with fail
  (with_reducible refine (H0.out _).mono ?_); rintro e w2 ⟨rfl, f⟩
  replace r1 := keep_fr f r1
  replace F := F.trans' f
  clear f
  go_wp2_with fail
  (with_reducible refine (H1.out _).mono ?_); rintro e w3 ⟨rfl, f⟩
  replace r1 := keep_fr f r1
  replace F := F.trans' f
  clear f
  go_wp2_with fail
  (with_reducible refine (H2.out _).mono ?_); rintro e w4 ⟨rfl, f⟩
  replace r1 := keep_fr f r1
  replace F := F.trans' f
  clear f
  rcases HC.out with ⟨l1, rfl, rfl, rfl⟩ | ⟨rfl, T, M, U, X, Y, z1, z2, J1, J2, J3, J4, J5, J6, J7, l2, l3⟩
  · clear HC
    go_wp2_with fail
    go_ret
    exact ⟨rfl, F⟩
  · clear HC
    have L2 := Lib.hid l2
    have L3 := Lib.hid l3
    clear l2 l3
    go_wp2_with fail
    (with_reducible refine (J1.out _).mono ?_); rintro e w5 ⟨rfl, f⟩
    replace r1 := keep_fr f r1
    replace F := F.trans' f
    clear f
    go_upto_region 11 with fail
    refine wp_put fun W N => ?_
    have r2 := N.new
    replace r1 := N.old r1
    replace F := F.trans' N.fr
    clear N
    generalize w5.heap.size = g2 at *
    go_wp2_with fail
    (with_reducible refine (J2.out _).mono ?_); rintro e w6 ⟨rfl, f⟩
    replace r1 := keep_fr f r1
    replace r2 := keep_fr f r2
    replace F := F.trans' f
    clear f
    go_upto_region 12 with fail
    refine wp_put fun W7 N => ?_
    have r3 := N.new
    replace r1 := N.old r1
    replace r2 := N.old r2
    replace F := F.trans' N.fr
    clear N
    generalize w6.heap.size = g3 at *
    rcases L2.out with l2 | ⟨l2, l4⟩
    · have l5 : decide (z1 ≤ 0) = false := decide_eq_false (by omega)
      clear l2
      go_wp2_with fail
      refine wp_region_noPanic ?_
      refine wp_region_held_drew (S := (fun w' => (w'.heap[g1]? = some (.cells C 28 (0, 0)) ∧ w'.heap[g2]? = some (.cells (rowN .u64 64 4 T) 35 (0, 0)) ∧ w'.heap[g3]? = some (.cells (rowN .u64 64 4 U) 35 (0, 0))) ∧ Fr F0 w w')) (by kernel_rfl) ?_ (fun hHeld => ?_)
      · ((try dsimp only) <;> (first | exact ⟨⟨r1, r2, r3⟩, F.drew⟩ | exact ⟨⟨keep_fr f5 hHeld.1.1, keep_fr f5 hHeld.1.2.1, keep_fr f5 hHeld.1.2.2⟩, hHeld.2.trans' f5⟩))
      refine rtake 0 ?_
      refine rtake 1 ?_
      refine wpAnyH_ready (rs := [2]) (by kernel_rfl) (by simp) ?_
      refine AllReadyH.cons (o := ⟨_, _, _, _, _, _⟩) rfl (fun K hK => ?_) AllReadyH.nil
      go_simp
      ((with_reducible refine (J5.out _).mono ?_); rintro e w8 ⟨rfl, f5⟩)
      refine hK.out _ _ ?_ (fun hHeld => ?_)
      · ((try dsimp only) <;> (first | exact ⟨⟨r1, r2, r3⟩, F.drew⟩ | exact ⟨⟨keep_fr f5 hHeld.1.1, keep_fr f5 hHeld.1.2.1, keep_fr f5 hHeld.1.2.2⟩, hHeld.2.trans' f5⟩))
      clear hK K
      try (simp only [Act.put, List.setIfInBounds_toArray]; dsimp only [List.set_cons_zero, List.set_cons_succ])
      refine wpAnyH_ready (rs := [3]) (by kernel_rfl) (by simp) ?_
      refine AllReadyH.cons (o := ⟨_, _, _, _, _, _⟩) rfl (fun K hK => ?_) AllReadyH.nil
      go_simp
      ((with_reducible refine (J6.out _).mono ?_); rintro e w9 ⟨rfl, f5⟩)
      refine hK.out _ _ ?_ (fun hHeld => ?_)
      · ((try dsimp only) <;> (first | exact ⟨⟨r1, r2, r3⟩, F.drew⟩ | exact ⟨⟨keep_fr f5 hHeld.1.1, keep_fr f5 hHeld.1.2.1, keep_fr f5 hHeld.1.2.2⟩, hHeld.2.trans' f5⟩))
      clear hK K
      try (simp only [Act.put, List.setIfInBounds_toArray]; dsimp only [List.set_cons_zero, List.set_cons_succ])
      refine rtake 4 ?_
      refine rtake 5 ?_
      refine rleave 6 ?_
      refine rleave 7 ?_
      refine rleave 8 ?_
      refine rtake 9 ?_
      refine wpAnyH_done (by kernel_rfl) ?_ _
      refine NoPanic.normal ?_
      all_goals
        clear r1 r2 r3 F l5
        have F := hHeld.2
        clear hHeld
        go_wp2_with fail
        (with_reducible refine (J3.out _).mono ?_); rintro e w10 ⟨rfl, f⟩
        replace F := F.trans' f
        clear f
        go_upto_region 15 with fail
        refine wp_put fun W11 N => ?_
        have r4 := N.new
        replace F := F.trans' N.fr
        clear N
        generalize w10.heap.size = g4 at *
        go_wp2_with fail
        (with_reducible refine (J4.out _).mono ?_); rintro e w12 ⟨rfl, f⟩
        replace r4 := keep_fr f r4
        replace F := F.trans' f
        clear f
        go_upto_region 16 with fail
        refine wp_put fun W13 N => ?_
        have r5 := N.new
        replace r4 := N.old r4
        replace F := F.trans' N.fr
        clear N
        generalize w12.heap.size = g5 at *
        rcases L3.out with l6 | ⟨l6, l7⟩
        · have l8 : decide (b < a) = true := decide_eq_true (by omega)
          clear l6
          go_wp2_with fail
          go_ret
          exact ⟨by simp, F⟩
        · have l8 : decide (b < a) = false := decide_eq_false (by omega)
          have l9 : decide (z2 ≤ 0) = true := decide_eq_true (by omega)
          clear l6 l7
          go_wp2_with fail
          (with_reducible refine (J7.out _).mono ?_); rintro e w14 ⟨rfl, f⟩
          replace F := F.trans' f
          clear f
          go_wp2_with fail
          go_ret
          exact ⟨by simp, F⟩
    · have l5 : decide (z1 ≤ 0) = true := decide_eq_true (by omega)
      clear l2
      go_wp2_with fail
      refine wp_region_noPanic ?_
      refine wp_region_held_drew (S := (fun w' => (w'.heap[g1]? = some (.cells C 28 (0, 0)) ∧ w'.heap[g2]? = some (.cells (rowN .u64 64 4 T) 35 (0, 0)) ∧ w'.heap[g3]? = some (.cells (rowN .u64 64 4 U) 35 (0, 0))) ∧ Fr F0 w w')) (by kernel_rfl) ?_ (fun hHeld => ?_)
      · ((try dsimp only) <;> (first | exact ⟨⟨r1, r2, r3⟩, F.drew⟩ | exact ⟨⟨keep_fr f5 hHeld.1.1, keep_fr f5 hHeld.1.2.1, keep_fr f5 hHeld.1.2.2⟩, hHeld.2.trans' f5⟩))
      refine rtake 0 ?_
      refine rtake 1 ?_
      refine wpAnyH_ready (rs := [2]) (by kernel_rfl) (by simp) ?_
      refine AllReadyH.cons (o := ⟨_, _, _, _, _, _⟩) rfl (fun K hK => ?_) AllReadyH.nil
      go_simp
      ((with_reducible refine (J5.out _).mono ?_); rintro e w8 ⟨rfl, f5⟩)
      refine hK.out _ _ ?_ (fun hHeld => ?_)
      · ((try dsimp only) <;> (first | exact ⟨⟨r1, r2, r3⟩, F.drew⟩ | exact ⟨⟨keep_fr f5 hHeld.1.1, keep_fr f5 hHeld.1.2.1, keep_fr f5 hHeld.1.2.2⟩, hHeld.2.trans' f5⟩))
      clear hK K
      try (simp only [Act.put, List.setIfInBounds_toArray]; dsimp only [List.set_cons_zero, List.set_cons_succ])
      refine wpAnyH_ready (rs := [3]) (by kernel_rfl) (by simp) ?_
      refine AllReadyH.cons (o := ⟨_, _, _, _, _, _⟩) rfl (fun K hK => ?_) AllReadyH.nil
      go_simp
      ((with_reducible refine (J6.out _).mono ?_); rintro e w9 ⟨rfl, f5⟩)
      refine hK.out _ _ ?_ (fun hHeld => ?_)
      · ((try dsimp only) <;> (first | exact ⟨⟨r1, r2, r3⟩, F.drew⟩ | exact ⟨⟨keep_fr f5 hHeld.1.1, keep_fr f5 hHeld.1.2.1, keep_fr f5 hHeld.1.2.2⟩, hHeld.2.trans' f5⟩))
      clear hK K
      try (simp only [Act.put, List.setIfInBounds_toArray]; dsimp only [List.set_cons_zero, List.set_cons_succ])
      refine rtake 4 ?_
      refine rtake 5 ?_
      refine rtake 6 ?_
      refine rtake 7 ?_
      refine rtake 8 ?_
      refine rtake 9 ?_
      refine wpAnyH_done (by kernel_rfl) ?_ _
      refine NoPanic.normal ?_
      all_goals
        clear r1 r2 r3 F l5
        have F := hHeld.2
        clear hHeld
        go_wp2_with fail
        (with_reducible refine (J3.out _).mono ?_); rintro e w10 ⟨rfl, f⟩
        replace F := F.trans' f
        clear f
        go_upto_region 15 with fail
        refine wp_put fun W11 N => ?_
        have r4 := N.new
        replace F := F.trans' N.fr
        clear N
        generalize w10.heap.size = g4 at *
        go_wp2_with fail
        (with_reducible refine (J4.out _).mono ?_); rintro e w12 ⟨rfl, f⟩
        replace r4 := keep_fr f r4
        replace F := F.trans' f
        clear f
        go_upto_region 16 with fail
        refine wp_put fun W13 N => ?_
        have r5 := N.new
        replace r4 := N.old r4
        replace F := F.trans' N.fr
        clear N
        generalize w12.heap.size = g5 at *
        rcases L3.out with l6 | ⟨l6, l7⟩
        · have l8 : decide (b < a) = true := decide_eq_true (by omega)
          clear l6
          go_wp2_with fail
          go_ret
          exact ⟨by simp, F⟩
        · have l8 : decide (b < a) = false := decide_eq_false (by omega)
          have l9 : decide (z2 ≤ 0) = true := decide_eq_true (by omega)
          clear l6 l7
          go_wp2_with fail
          (with_reducible refine (J7.out _).mono ?_); rintro e w14 ⟨rfl, f⟩
          replace F := F.trans' f
          clear f
          go_wp2_with fail
          go_ret
          exact ⟨by simp, F⟩

/-- What a scaled target's bits tell. -/
theorem sc_tells {span limit bits : Nat} {k : Int} (hp : btP bits) (hl : btP limit) (h0 : 0 < span) :
    btP (enB (scN (btT bits) (tkN span k) span (btT limit))) ∧ enB (scN (btT bits) (tkN span k) span (btT limit)) < 4294967296 := by
  have h1 : 0 < scN (btT bits) (tkN span k) span (btT limit) := sc_pos _ _ _ _ hl.2.1
  have h2 : scN (btT bits) (tkN span k) span (btT limit) < W256 := scN_wide hl.2.2
  exact ⟨(en_back h1 h2).1, enB_lt h2⟩
theorem tells_of {b : Nat} (hp : btP b) (hb : b < 4294967296) : Tells b (btT b) := Lib.hid ((decC b hb).1 hp)
theorem holds2_of {x y : Nat} (hx : x < W256) (hy : y < W256) : Holds2 x y (sgn x y) := Lib.hid (wCmp_any x y hx hy)

theorem adjustStays_any {C : Array Value} {every : Int} {span limit : Nat} {confirm : Int} (h : RuOf C every span limit confirm) (bits : Nat) (hb : bits < 4294967296) (a b : Int) (w : World) :
    Calls Try.prog 3 #[.agg C, .int .u32 (bits : Int), .int .i64 a, .int .i64 b] w fun e w' => e = .returned (.bool true) ∧ Fr F0 w w' := by
  have HL := Lib.hid (lives11_any decC encC scaleC)
  have H0 := Lib.hid (jNext_any decC encC scaleC h bits hb (span : Int))
  have H1 := Lib.hid (jNext_any decC encC scaleC h bits hb a)
  have H2 := Lib.hid (jNext_any decC encC scaleC h bits hb b)
  refine adjustStays_core h bits a b _ _ _ _ HL H0 H1 H2 (Lib.hid ?_) w
  by_cases hpl : btP bits ∧ btP limit
  · obtain ⟨hp, hl⟩ := hpl
    by_cases h0 : 0 < span
    · refine .inr ⟨(nx_yes (span : Int) ⟨hp, hl⟩ h0).2, ?_⟩
      rw [(nx_yes (span : Int) ⟨hp, hl⟩ h0).1, (nx_yes a ⟨hp, hl⟩ h0).1, (nx_yes b ⟨hp, hl⟩ h0).1]
      have s0 := sc_tells (k := (span : Int)) hp hl h0
      have s1 := sc_tells (k := a) hp hl h0
      have s2 := sc_tells (k := b) hp hl h0
      refine ⟨btT bits, topN limit, _, _, _, _, _, tells_of hp hb, tells_of s0.1 s0.2, tells_of s1.1 s1.2, tells_of s2.1 s2.2, Lib.hid (jTop_any decC h), holds2_of (btT_lt hp) (topN_lt _), holds2_of (btT_lt s1.1) (btT_lt s2.1), ?_, ?_⟩
      · rw [show topN limit = btT limit from if_pos hl]
        by_cases h1 : btT bits ≤ btT limit
        · refine .inr ⟨by unfold sgn; split <;> (try split) <;> omega, ?_⟩
          have e : scN (btT bits) (tkN span (span : Int)) span (btT limit) = btT bits := by
            rw [tkN_self h0]; exact sc_same _ _ _ hp.2.1 h0 h1
          rw [e, (dec_again hp).2, rowEq]
          exact decide_eq_true rfl
        · refine .inl ?_
          unfold sgn; split <;> (try split) <;> omega
      · by_cases h1 : b < a
        · exact .inl h1
        · refine .inr ⟨h1, ?_⟩
          have h2 : scN (btT bits) (tkN span a) span (btT limit) ≤ scN (btT bits) (tkN span b) span (btT limit) := sc_mono _ _ _ _ _ (tkN_mono h0 (by omega)) hl.2.1
          have h3 := cut_mono (t := scN (btT bits) (tkN span a) span (btT limit)) (sc_pos _ _ _ _ hl.2.1) h2
          rw [← enB_T, ← enB_T] at h3
          unfold sgn; split <;> (try split) <;> omega
    · obtain rfl : span = 0 := by omega
      exact .inl ⟨by rw [(nx_zero a ⟨hp, hl⟩).2]; omega, (nx_zero _ ⟨hp, hl⟩).1, (nx_zero _ ⟨hp, hl⟩).1, (nx_zero _ ⟨hp, hl⟩).1⟩
  · exact .inl ⟨by rw [(nx_no a hpl).2]; omega, (nx_no _ hpl).1, (nx_no _ hpl).1, (nx_no _ hpl).1⟩
theorem adjustStays_all {C : Array Value} {every : Int} {span limit : Nat} {confirm : Int} (h : RuOf C every span limit confirm) (bits : Nat) (a b : Int) (hb : bits < 4294967296) (ha2 : -9223372036854775808 ≤ a ∧ a ≤ 9223372036854775807) (hb2 : -9223372036854775808 ≤ b ∧ b ≤ 9223372036854775807) (w : World) :
    Calls Try.prog 3 #[.agg C, .int .u32 (bits : Int), .int .i64 a, .int .i64 b] w fun e w' => e = .returned (.bool true) ∧ Fr F0 w w' := adjustStays_any h bits hb a b w
end Go.Proofs.Ytjlnlbaaiciniaa

/- Layer 11's law AdjustBounds: its regions. -/
namespace Go.Proofs.Ytjlnlbaaiciniaa
set_option linter.unusedVariables false
set_option linter.unusedSimpArgs false
open Go.RowKit

set_option maxRecDepth 100000 in
set_option maxHeartbeats 16000000 in
theorem nb11 {s0 s1 s2 s3 s4 s5 s6 s7 s8 s9 s10 s12 s15 s16 s17 s18 s19 s20 s21 s22 s23 s24 s25 s26 s27 s28 s29 s30 s31 s32 s33 s34 s35 s36 s37 s38 s39 s40 s41 s42 s43 s44 s45 s46 s47 s48 s49 s50 s51 s52 s53 s54 s55 s56 s57 s58 s59 s60 s61 s62 s63 s64 s65 s66 s67 s68 s69 s70 s71 s72 s73 s74 s75 s76 s77 s78 s79 s80 s81 s82 s83 s84 s85 s86 s87 s88 s89 s90 s91 s92 s93 s94 s95 s96 s97 s98 s99 s100 s101 s102 s103 s104 s105 s106 s107 s108 s109 s110 : Value} {K : Act → World → Prop} {Q : Exit → Act → World → Prop} (w6 : World) (N F4 g11 g13 : Nat) (o : Bool) (z2 : Int) (HJ : RowKit.Hid (o = true ∨ (o = false ∧ Holds2 N F4 z2 ∧ z2 ≤ 0))) (r3 : w6.heap[g11]? = some (.cells (rowN .u64 64 4 N) 35 (0, 0))) (r4 : w6.heap[g13]? = some (.cells (rowN .u64 64 4 F4) 35 (0, 0)))
    (hK : RowKit.Hid (∀ {u57 u58 u59 u60 u61 u62 u63 u64 : Value} {w' : World}, (u64 = .bool false ∧ Fr F0 w6 w') → K ⟨#[s0, s1, s2, s3, s4, s5, s6, s7, s8, s9, s10, .pointer (some ⟨g11, 0, none⟩), s12, .pointer (some ⟨g13, 0, none⟩), .bool o, s15, s16, s17, s18, s19, s20, s21, s22, s23, s24, s25, s26, s27, s28, s29, s30, s31, s32, s33, s34, s35, s36, s37, s38, s39, s40, s41, s42, s43, s44, s45, s46, s47, s48, s49, s50, s51, s52, s53, s54, s55, s56, u57, u58, u59, u60, u61, u62, u63, u64, s65, s66, s67, s68, s69, s70, s71, s72, s73, s74, s75, s76, s77, s78, s79, s80, s81, s82, s83, s84, s85, s86, s87, s88, s89, s90, s91, s92, s93, s94, s95, s96, s97, s98, s99, s100, s101, s102, s103, s104, s105, s106, s107, s108, s109, s110], []⟩ w')) :
    Code.wp Try.prog ((Try.f5.body.bind (findRegion 11)).getD .skip) (Exit.then K Q) ⟨#[s0, s1, s2, s3, s4, s5, s6, s7, s8, s9, s10, .pointer (some ⟨g11, 0, none⟩), s12, .pointer (some ⟨g13, 0, none⟩), .bool o, s15, s16, s17, s18, s19, s20, s21, s22, s23, s24, s25, s26, s27, s28, s29, s30, s31, s32, s33, s34, s35, s36, s37, s38, s39, s40, s41, s42, s43, s44, s45, s46, s47, s48, s49, s50, s51, s52, s53, s54, s55, s56, s57, s58, s59, s60, s61, s62, s63, s64, s65, s66, s67, s68, s69, s70, s71, s72, s73, s74, s75, s76, s77, s78, s79, s80, s81, s82, s83, s84, s85, s86, s87, s88, s89, s90, s91, s92, s93, s94, s95, s96, s97, s98, s99, s100, s101, s102, s103, s104, s105, s106, s107, s108, s109, s110], []⟩ w6 := by
  conv => arg 2; whnf
  rcases HJ.out with rfl | ⟨rfl, J, hz⟩
  · go_wp2_with fail
    exact hK.out ⟨rfl, Fr.refl _ _⟩
  · have l5 : decide (0 < z2) = false := decide_eq_false (by omega)
    clear hz HJ
    go_wp2_with fail
    (with_reducible refine (J.out _).mono ?_); rintro e w7 ⟨rfl, f⟩
    go_wp2_with fail
    exact hK.out ⟨by simp, f⟩

set_option maxRecDepth 100000 in
set_option maxHeartbeats 16000000 in
theorem nb13 {s0 s1 s2 s4 s5 s6 s7 s8 s10 s12 s13 s14 s15 s16 s17 s18 s19 s20 s21 s22 s23 s24 s25 s26 s27 s28 s29 s30 s31 s32 s33 s34 s35 s36 s37 s38 s39 s40 s41 s42 s43 s44 s45 s46 s47 s48 s49 s50 s51 s52 s53 s54 s55 s56 s57 s58 s59 s60 s61 s62 s63 s64 s65 s66 s67 s68 s69 s70 s71 s72 s73 s74 s75 s76 s77 s78 s79 s80 s81 s82 s83 s84 s85 s86 s87 s88 s89 s90 s91 s92 s93 s94 s95 s96 s97 s98 s99 s100 s101 s102 s103 s104 s105 s106 s107 s108 s109 s110 : Value} {K : Act → World → Prop} {Q : Exit → Act → World → Prop} (w w6 : World) (C : Array Value) (T N D R g1 g2 g3 : Nat) (HO : RowKit.Hid (∀ w : World, Calls Try.prog 16 #[.int .u64 4] w fun e w' => e = .returned (.agg (rowN .u64 64 4 4)) ∧ Fr F0 w w')) (HD : RowKit.Hid (∀ w : World, Calls Try.prog 15 #[.agg (rowN .u64 64 4 T), .agg (rowN .u64 64 4 4)] w fun e w' => e = .returned (.tuple #[.agg (rowN .u64 64 4 D), .agg (rowN .u64 64 4 R), .int .i64 0]) ∧ Fr F0 w w')) (r1 : w6.heap[g1]? = some (.cells C 28 (0, 0))) (r2 : w6.heap[g2]? = some (.cells (rowN .u64 64 4 T) 35 (0, 0))) (r3 : w6.heap[g3]? = some (.cells (rowN .u64 64 4 N) 35 (0, 0))) (F : Fr F0 w w6)
    (hK : RowKit.Hid (∀ {u15 u16 u17 u65 u66 u67 u68 u69 u70 u71 : Value} {w' : World}, ((∃ p1 : Nat, u15 = .pointer (some ⟨p1, 0, none⟩) ∧ w'.heap[p1]? = some (.cells (rowN .u64 64 4 D) 35 (0, 0)) ∧ w.heap.size ≤ p1 ∧ p1 ≠ g1 ∧ p1 ≠ g2 ∧ p1 ≠ g3) ∧ (w'.heap[g1]? = some (.cells C 28 (0, 0)) ∧ w'.heap[g2]? = some (.cells (rowN .u64 64 4 T) 35 (0, 0)) ∧ w'.heap[g3]? = some (.cells (rowN .u64 64 4 N) 35 (0, 0))) ∧ Fr F0 w w') → K ⟨#[s0, s1, s2, .pointer (some ⟨g1, 0, none⟩), s4, s5, s6, s7, s8, .pointer (some ⟨g2, 0, none⟩), s10, .pointer (some ⟨g3, 0, none⟩), s12, s13, s14, u15, u16, u17, s18, s19, s20, s21, s22, s23, s24, s25, s26, s27, s28, s29, s30, s31, s32, s33, s34, s35, s36, s37, s38, s39, s40, s41, s42, s43, s44, s45, s46, s47, s48, s49, s50, s51, s52, s53, s54, s55, s56, s57, s58, s59, s60, s61, s62, s63, s64, u65, u66, u67, u68, u69, u70, u71, s72, s73, s74, s75, s76, s77, s78, s79, s80, s81, s82, s83, s84, s85, s86, s87, s88, s89, s90, s91, s92, s93, s94, s95, s96, s97, s98, s99, s100, s101, s102, s103, s104, s105, s106, s107, s108, s109, s110], []⟩ w')) :
    Code.wp Try.prog ((Try.f5.body.bind (findRegion 13)).getD .skip) (Exit.then K Q) ⟨#[s0, s1, s2, .pointer (some ⟨g1, 0, none⟩), s4, s5, s6, s7, s8, .pointer (some ⟨g2, 0, none⟩), s10, .pointer (some ⟨g3, 0, none⟩), s12, s13, s14, s15, s16, s17, s18, s19, s20, s21, s22, s23, s24, s25, s26, s27, s28, s29, s30, s31, s32, s33, s34, s35, s36, s37, s38, s39, s40, s41, s42, s43, s44, s45, s46, s47, s48, s49, s50, s51, s52, s53, s54, s55, s56, s57, s58, s59, s60, s61, s62, s63, s64, s65, s66, s67, s68, s69, s70, s71, s72, s73, s74, s75, s76, s77, s78, s79, s80, s81, s82, s83, s84, s85, s86, s87, s88, s89, s90, s91, s92, s93, s94, s95, s96, s97, s98, s99, s100, s101, s102, s103, s104, s105, s106, s107, s108, s109, s110], []⟩ w6 := by
  conv => arg 2; whnf
  have HG0 := Lib.hid (And.intro (Array.getElem?_eq_some_iff.1 r1).1 (And.intro (Array.getElem?_eq_some_iff.1 r2).1 (And.intro (Array.getElem?_eq_some_iff.1 r3).1 F.size)))
  refine wp_region_noPanic ?_
  refine wp_region_held_drew (S := (fun w' => (w'.heap[g1]? = some (.cells C 28 (0, 0)) ∧ w'.heap[g2]? = some (.cells (rowN .u64 64 4 T) 35 (0, 0)) ∧ w'.heap[g3]? = some (.cells (rowN .u64 64 4 N) 35 (0, 0))) ∧ Fr F0 w w')) (by kernel_rfl) ?_ (fun hHeld => ?_)
  · ((try dsimp only) <;> (first | exact ⟨⟨r1, r2, r3⟩, F.drew⟩ | exact ⟨⟨keep_fr f5 hHeld.1.1, keep_fr f5 hHeld.1.2.1, keep_fr f5 hHeld.1.2.2⟩, hHeld.2.trans' f5⟩ | exact ⟨⟨keep_alloc hHeld.1.1, keep_alloc hHeld.1.2.1, keep_alloc hHeld.1.2.2⟩, hHeld.2.alloc _⟩ | exact ⟨⟨keep_row (by have := HG0.out; omega) hHeld.1.1, keep_row (by have := HG0.out; omega) hHeld.1.2.1, keep_row (by have := HG0.out; omega) hHeld.1.2.2⟩, hHeld.2.setRow (fun h => by have := HG0.out; omega) _⟩))
  refine rtake 0 ?_
  refine wpAnyH_ready (rs := [1, 7, 8]) (by kernel_rfl) (by simp) ?_
  refine AllReadyH.cons (o := ⟨_, _, _, _, _, _⟩) rfl (fun K hK => ?_) (AllReadyH.cons (o := ⟨_, _, _, _, _, _⟩) rfl (fun K hK => ?_) (AllReadyH.cons (o := ⟨_, _, _, _, _, _⟩) rfl (fun K hK => ?_) AllReadyH.nil))
  go_simp
  ((with_reducible refine (HO.out _).mono ?_); rintro e w5 ⟨rfl, f5⟩; have z5 := f5.size; (try simp only [World.size_alloc, heap_drew'] at z5))
  refine hK.out _ _ ?_ (fun hHeld => ?_)
  · ((try dsimp only) <;> (first | exact ⟨⟨r1, r2, r3⟩, F.drew⟩ | exact ⟨⟨keep_fr f5 hHeld.1.1, keep_fr f5 hHeld.1.2.1, keep_fr f5 hHeld.1.2.2⟩, hHeld.2.trans' f5⟩ | exact ⟨⟨keep_alloc hHeld.1.1, keep_alloc hHeld.1.2.1, keep_alloc hHeld.1.2.2⟩, hHeld.2.alloc _⟩ | exact ⟨⟨keep_row (by have := HG0.out; omega) hHeld.1.1, keep_row (by have := HG0.out; omega) hHeld.1.2.1, keep_row (by have := HG0.out; omega) hHeld.1.2.2⟩, hHeld.2.setRow (fun h => by have := HG0.out; omega) _⟩))
  clear hK K
  try (simp only [Act.put, List.setIfInBounds_toArray]; dsimp only [List.set_cons_zero, List.set_cons_succ])
  refine wpAnyH_ready (rs := [2, 7, 8]) (by kernel_rfl) (by simp) ?_
  refine AllReadyH.cons (o := ⟨_, _, _, _, _, _⟩) rfl (fun K hK => ?_) (AllReadyH.cons (o := ⟨_, _, _, _, _, _⟩) rfl (fun K hK => ?_) (AllReadyH.cons (o := ⟨_, _, _, _, _, _⟩) rfl (fun K hK => ?_) AllReadyH.nil))
  go_simp
  ((with_reducible refine (HD.out _).mono ?_); rintro e w5 ⟨rfl, f5⟩; have z5 := f5.size; (try simp only [World.size_alloc, heap_drew'] at z5))
  refine hK.out _ _ ?_ (fun hHeld => ?_)
  · ((try dsimp only) <;> (first | exact ⟨⟨r1, r2, r3⟩, F.drew⟩ | exact ⟨⟨keep_fr f5 hHeld.1.1, keep_fr f5 hHeld.1.2.1, keep_fr f5 hHeld.1.2.2⟩, hHeld.2.trans' f5⟩ | exact ⟨⟨keep_alloc hHeld.1.1, keep_alloc hHeld.1.2.1, keep_alloc hHeld.1.2.2⟩, hHeld.2.alloc _⟩ | exact ⟨⟨keep_row (by have := HG0.out; omega) hHeld.1.1, keep_row (by have := HG0.out; omega) hHeld.1.2.1, keep_row (by have := HG0.out; omega) hHeld.1.2.2⟩, hHeld.2.setRow (fun h => by have := HG0.out; omega) _⟩))
  clear hK K
  try (simp only [Act.put, List.setIfInBounds_toArray]; dsimp only [List.set_cons_zero, List.set_cons_succ])
  refine rtake 3 ?_
  refine rtake 4 ?_
  refine rtake 5 ?_
  refine rtake 6 ?_
  refine wpAnyH_ready (rs := [7, 8]) (by kernel_rfl) (by simp) ?_
  refine AllReadyH.cons (o := ⟨_, _, _, _, _, _⟩) rfl (fun K hK => ?_) (AllReadyH.cons (o := ⟨_, _, _, _, _, _⟩) rfl (fun K hK => ?_) AllReadyH.nil)
  go_simp
  refine hK.out _ _ ?_ (fun hHeld => ?_)
  · ((try dsimp only) <;> (first | exact ⟨⟨r1, r2, r3⟩, F.drew⟩ | exact ⟨⟨keep_fr f5 hHeld.1.1, keep_fr f5 hHeld.1.2.1, keep_fr f5 hHeld.1.2.2⟩, hHeld.2.trans' f5⟩ | exact ⟨⟨keep_alloc hHeld.1.1, keep_alloc hHeld.1.2.1, keep_alloc hHeld.1.2.2⟩, hHeld.2.alloc _⟩ | exact ⟨⟨keep_row (by have := HG0.out; omega) hHeld.1.1, keep_row (by have := HG0.out; omega) hHeld.1.2.1, keep_row (by have := HG0.out; omega) hHeld.1.2.2⟩, hHeld.2.setRow (fun h => by have := HG0.out; omega) _⟩))
  clear hK K
  try (simp only [Act.put, List.setIfInBounds_toArray]; dsimp only [List.set_cons_zero, List.set_cons_succ])
  refine wpAnyH_ready (rs := [8]) (by kernel_rfl) (by simp) ?_
  refine AllReadyH.cons (o := ⟨_, _, _, _, _, _⟩) rfl (fun K hK => ?_) AllReadyH.nil
  go_simp
  refine hK.out _ _ ?_ (fun hHeld => ?_)
  · ((try dsimp only) <;> (first | exact ⟨⟨r1, r2, r3⟩, F.drew⟩ | exact ⟨⟨keep_fr f5 hHeld.1.1, keep_fr f5 hHeld.1.2.1, keep_fr f5 hHeld.1.2.2⟩, hHeld.2.trans' f5⟩ | exact ⟨⟨keep_alloc hHeld.1.1, keep_alloc hHeld.1.2.1, keep_alloc hHeld.1.2.2⟩, hHeld.2.alloc _⟩ | exact ⟨⟨keep_row (by have := HG0.out; omega) hHeld.1.1, keep_row (by have := HG0.out; omega) hHeld.1.2.1, keep_row (by have := HG0.out; omega) hHeld.1.2.2⟩, hHeld.2.setRow (fun h => by have := HG0.out; omega) _⟩))
  clear hK K
  try (simp only [Act.put, List.setIfInBounds_toArray]; dsimp only [List.set_cons_zero, List.set_cons_succ])
  refine wpAnyH_ready (rs := [9]) (by kernel_rfl) (by simp) ?_
  refine AllReadyH.cons (o := ⟨_, _, _, _, _, _⟩) rfl (fun K hK => ?_) AllReadyH.nil
  go_simp
  (try (rw [rowIn_of (old := rowN .u64 64 4 0) (t' := 35) (by ((try rw [← Array.getElem?_eq_getElem]); repeat (first | exact heap_alloc_new _ _ | exact heap_alloc2_new _ _ _ | refine keep_alloc ?_ | refine keep_fr (by assumption) ?_))) (rowN_size _ _ _ _) (rowN_size _ _ _ _) (rowN_rowOne _ _ _ _)]; go_simp))
  refine hK.out _ _ ?_ (fun hHeld => ?_)
  · ((try dsimp only) <;> (first | exact ⟨⟨r1, r2, r3⟩, F.drew⟩ | exact ⟨⟨keep_fr f5 hHeld.1.1, keep_fr f5 hHeld.1.2.1, keep_fr f5 hHeld.1.2.2⟩, hHeld.2.trans' f5⟩ | exact ⟨⟨keep_alloc hHeld.1.1, keep_alloc hHeld.1.2.1, keep_alloc hHeld.1.2.2⟩, hHeld.2.alloc _⟩ | exact ⟨⟨keep_row (by have := HG0.out; omega) hHeld.1.1, keep_row (by have := HG0.out; omega) hHeld.1.2.1, keep_row (by have := HG0.out; omega) hHeld.1.2.2⟩, hHeld.2.setRow (fun h => by have := HG0.out; omega) _⟩))
  clear hK K
  try (simp only [Act.put, List.setIfInBounds_toArray]; dsimp only [List.set_cons_zero, List.set_cons_succ])
  refine wpAnyH_ready (rs := [10]) (by kernel_rfl) (by simp) ?_
  refine AllReadyH.cons (o := ⟨_, _, _, _, _, _⟩) rfl (fun K hK => ?_) AllReadyH.nil
  go_simp
  (try (rw [rowIn_of (old := rowN .u64 64 4 0) (t' := 35) (by ((try rw [← Array.getElem?_eq_getElem]); repeat (first | exact heap_alloc_new _ _ | exact heap_alloc2_new _ _ _ | refine keep_row (by (try simp only [World.size_alloc]); omega) ?_ | refine keep_alloc ?_ | refine keep_fr (by assumption) ?_))) (rowN_size _ _ _ _) (rowN_size _ _ _ _) (rowN_rowOne _ _ _ _)]; go_simp))
  refine hK.out _ _ ?_ (fun hHeld => ?_)
  · ((try dsimp only) <;> (first | exact ⟨⟨r1, r2, r3⟩, F.drew⟩ | exact ⟨⟨keep_fr f5 hHeld.1.1, keep_fr f5 hHeld.1.2.1, keep_fr f5 hHeld.1.2.2⟩, hHeld.2.trans' f5⟩ | exact ⟨⟨keep_alloc hHeld.1.1, keep_alloc hHeld.1.2.1, keep_alloc hHeld.1.2.2⟩, hHeld.2.alloc _⟩ | exact ⟨⟨keep_row (by have := HG0.out; omega) hHeld.1.1, keep_row (by have := HG0.out; omega) hHeld.1.2.1, keep_row (by have := HG0.out; omega) hHeld.1.2.2⟩, hHeld.2.setRow (fun h => by have := HG0.out; omega) _⟩))
  clear hK K
  try (simp only [Act.put, List.setIfInBounds_toArray]; dsimp only [List.set_cons_zero, List.set_cons_succ])
  refine rtake 11 ?_
  refine wpAnyH_done (by kernel_rfl) ?_ _
  refine NoPanic.normal ?_
  rotate_left
  go_simp
  refine hK.out _ _ ?_ (fun hHeld => ?_)
  · ((try dsimp only) <;> (first | exact ⟨⟨r1, r2, r3⟩, F.drew⟩ | exact ⟨⟨keep_fr f5 hHeld.1.1, keep_fr f5 hHeld.1.2.1, keep_fr f5 hHeld.1.2.2⟩, hHeld.2.trans' f5⟩ | exact ⟨⟨keep_alloc hHeld.1.1, keep_alloc hHeld.1.2.1, keep_alloc hHeld.1.2.2⟩, hHeld.2.alloc _⟩ | exact ⟨⟨keep_row (by have := HG0.out; omega) hHeld.1.1, keep_row (by have := HG0.out; omega) hHeld.1.2.1, keep_row (by have := HG0.out; omega) hHeld.1.2.2⟩, hHeld.2.setRow (fun h => by have := HG0.out; omega) _⟩))
  clear hK K
  try (simp only [Act.put, List.setIfInBounds_toArray]; dsimp only [List.set_cons_zero, List.set_cons_succ])
  refine wpAnyH_ready (rs := [7]) (by kernel_rfl) (by simp) ?_
  refine AllReadyH.cons (o := ⟨_, _, _, _, _, _⟩) rfl (fun K hK => ?_) AllReadyH.nil
  go_simp
  refine hK.out _ _ ?_ (fun hHeld => ?_)
  · ((try dsimp only) <;> (first | exact ⟨⟨r1, r2, r3⟩, F.drew⟩ | exact ⟨⟨keep_fr f5 hHeld.1.1, keep_fr f5 hHeld.1.2.1, keep_fr f5 hHeld.1.2.2⟩, hHeld.2.trans' f5⟩ | exact ⟨⟨keep_alloc hHeld.1.1, keep_alloc hHeld.1.2.1, keep_alloc hHeld.1.2.2⟩, hHeld.2.alloc _⟩ | exact ⟨⟨keep_row (by have := HG0.out; omega) hHeld.1.1, keep_row (by have := HG0.out; omega) hHeld.1.2.1, keep_row (by have := HG0.out; omega) hHeld.1.2.2⟩, hHeld.2.setRow (fun h => by have := HG0.out; omega) _⟩))
  clear hK K
  try (simp only [Act.put, List.setIfInBounds_toArray]; dsimp only [List.set_cons_zero, List.set_cons_succ])
  refine wpAnyH_ready (rs := [9]) (by kernel_rfl) (by simp) ?_
  refine AllReadyH.cons (o := ⟨_, _, _, _, _, _⟩) rfl (fun K hK => ?_) AllReadyH.nil
  go_simp
  (try (rw [rowIn_of (old := rowN .u64 64 4 0) (t' := 35) (by ((try rw [← Array.getElem?_eq_getElem]); repeat (first | exact heap_alloc_new _ _ | exact heap_alloc2_new _ _ _ | refine keep_alloc ?_ | refine keep_fr (by assumption) ?_))) (rowN_size _ _ _ _) (rowN_size _ _ _ _) (rowN_rowOne _ _ _ _)]; go_simp))
  refine hK.out _ _ ?_ (fun hHeld => ?_)
  · ((try dsimp only) <;> (first | exact ⟨⟨r1, r2, r3⟩, F.drew⟩ | exact ⟨⟨keep_fr f5 hHeld.1.1, keep_fr f5 hHeld.1.2.1, keep_fr f5 hHeld.1.2.2⟩, hHeld.2.trans' f5⟩ | exact ⟨⟨keep_alloc hHeld.1.1, keep_alloc hHeld.1.2.1, keep_alloc hHeld.1.2.2⟩, hHeld.2.alloc _⟩ | exact ⟨⟨keep_row (by have := HG0.out; omega) hHeld.1.1, keep_row (by have := HG0.out; omega) hHeld.1.2.1, keep_row (by have := HG0.out; omega) hHeld.1.2.2⟩, hHeld.2.setRow (fun h => by have := HG0.out; omega) _⟩))
  clear hK K
  try (simp only [Act.put, List.setIfInBounds_toArray]; dsimp only [List.set_cons_zero, List.set_cons_succ])
  refine wpAnyH_ready (rs := [10]) (by kernel_rfl) (by simp) ?_
  refine AllReadyH.cons (o := ⟨_, _, _, _, _, _⟩) rfl (fun K hK => ?_) AllReadyH.nil
  go_simp
  (try (rw [rowIn_of (old := rowN .u64 64 4 0) (t' := 35) (by ((try rw [← Array.getElem?_eq_getElem]); repeat (first | exact heap_alloc_new _ _ | exact heap_alloc2_new _ _ _ | refine keep_row (by (try simp only [World.size_alloc]); omega) ?_ | refine keep_alloc ?_ | refine keep_fr (by assumption) ?_))) (rowN_size _ _ _ _) (rowN_size _ _ _ _) (rowN_rowOne _ _ _ _)]; go_simp))
  refine hK.out _ _ ?_ (fun hHeld => ?_)
  · ((try dsimp only) <;> (first | exact ⟨⟨r1, r2, r3⟩, F.drew⟩ | exact ⟨⟨keep_fr f5 hHeld.1.1, keep_fr f5 hHeld.1.2.1, keep_fr f5 hHeld.1.2.2⟩, hHeld.2.trans' f5⟩ | exact ⟨⟨keep_alloc hHeld.1.1, keep_alloc hHeld.1.2.1, keep_alloc hHeld.1.2.2⟩, hHeld.2.alloc _⟩ | exact ⟨⟨keep_row (by have := HG0.out; omega) hHeld.1.1, keep_row (by have := HG0.out; omega) hHeld.1.2.1, keep_row (by have := HG0.out; omega) hHeld.1.2.2⟩, hHeld.2.setRow (fun h => by have := HG0.out; omega) _⟩))
  clear hK K
  try (simp only [Act.put, List.setIfInBounds_toArray]; dsimp only [List.set_cons_zero, List.set_cons_succ])
  refine rtake 11 ?_
  refine wpAnyH_done (by kernel_rfl) ?_ _
  refine NoPanic.normal ?_
  rotate_left
  go_simp
  refine hK.out _ _ ?_ (fun hHeld => ?_)
  · ((try dsimp only) <;> (first | exact ⟨⟨r1, r2, r3⟩, F.drew⟩ | exact ⟨⟨keep_fr f5 hHeld.1.1, keep_fr f5 hHeld.1.2.1, keep_fr f5 hHeld.1.2.2⟩, hHeld.2.trans' f5⟩ | exact ⟨⟨keep_alloc hHeld.1.1, keep_alloc hHeld.1.2.1, keep_alloc hHeld.1.2.2⟩, hHeld.2.alloc _⟩ | exact ⟨⟨keep_row (by have := HG0.out; omega) hHeld.1.1, keep_row (by have := HG0.out; omega) hHeld.1.2.1, keep_row (by have := HG0.out; omega) hHeld.1.2.2⟩, hHeld.2.setRow (fun h => by have := HG0.out; omega) _⟩))
  clear hK K
  try (simp only [Act.put, List.setIfInBounds_toArray]; dsimp only [List.set_cons_zero, List.set_cons_succ])
  refine wpAnyH_ready (rs := [2, 8]) (by kernel_rfl) (by simp) ?_
  refine AllReadyH.cons (o := ⟨_, _, _, _, _, _⟩) rfl (fun K hK => ?_) (AllReadyH.cons (o := ⟨_, _, _, _, _, _⟩) rfl (fun K hK => ?_) AllReadyH.nil)
  go_simp
  ((with_reducible refine (HD.out _).mono ?_); rintro e w5 ⟨rfl, f5⟩; have z5 := f5.size; (try simp only [World.size_alloc, heap_drew'] at z5))
  refine hK.out _ _ ?_ (fun hHeld => ?_)
  · ((try dsimp only) <;> (first | exact ⟨⟨r1, r2, r3⟩, F.drew⟩ | exact ⟨⟨keep_fr f5 hHeld.1.1, keep_fr f5 hHeld.1.2.1, keep_fr f5 hHeld.1.2.2⟩, hHeld.2.trans' f5⟩ | exact ⟨⟨keep_alloc hHeld.1.1, keep_alloc hHeld.1.2.1, keep_alloc hHeld.1.2.2⟩, hHeld.2.alloc _⟩ | exact ⟨⟨keep_row (by have := HG0.out; omega) hHeld.1.1, keep_row (by have := HG0.out; omega) hHeld.1.2.1, keep_row (by have := HG0.out; omega) hHeld.1.2.2⟩, hHeld.2.setRow (fun h => by have := HG0.out; omega) _⟩))
  clear hK K
  try (simp only [Act.put, List.setIfInBounds_toArray]; dsimp only [List.set_cons_zero, List.set_cons_succ])
  refine rtake 3 ?_
  refine rtake 4 ?_
  refine rtake 5 ?_
  refine rtake 6 ?_
  refine wpAnyH_ready (rs := [8]) (by kernel_rfl) (by simp) ?_
  refine AllReadyH.cons (o := ⟨_, _, _, _, _, _⟩) rfl (fun K hK => ?_) AllReadyH.nil
  go_simp
  refine hK.out _ _ ?_ (fun hHeld => ?_)
  · ((try dsimp only) <;> (first | exact ⟨⟨r1, r2, r3⟩, F.drew⟩ | exact ⟨⟨keep_fr f5 hHeld.1.1, keep_fr f5 hHeld.1.2.1, keep_fr f5 hHeld.1.2.2⟩, hHeld.2.trans' f5⟩ | exact ⟨⟨keep_alloc hHeld.1.1, keep_alloc hHeld.1.2.1, keep_alloc hHeld.1.2.2⟩, hHeld.2.alloc _⟩ | exact ⟨⟨keep_row (by have := HG0.out; omega) hHeld.1.1, keep_row (by have := HG0.out; omega) hHeld.1.2.1, keep_row (by have := HG0.out; omega) hHeld.1.2.2⟩, hHeld.2.setRow (fun h => by have := HG0.out; omega) _⟩))
  clear hK K
  try (simp only [Act.put, List.setIfInBounds_toArray]; dsimp only [List.set_cons_zero, List.set_cons_succ])
  refine wpAnyH_ready (rs := [9]) (by kernel_rfl) (by simp) ?_
  refine AllReadyH.cons (o := ⟨_, _, _, _, _, _⟩) rfl (fun K hK => ?_) AllReadyH.nil
  go_simp
  (try (rw [rowIn_of (old := rowN .u64 64 4 0) (t' := 35) (by ((try rw [← Array.getElem?_eq_getElem]); repeat (first | exact heap_alloc_new _ _ | exact heap_alloc2_new _ _ _ | refine keep_alloc ?_ | refine keep_fr (by assumption) ?_))) (rowN_size _ _ _ _) (rowN_size _ _ _ _) (rowN_rowOne _ _ _ _)]; go_simp))
  refine hK.out _ _ ?_ (fun hHeld => ?_)
  · ((try dsimp only) <;> (first | exact ⟨⟨r1, r2, r3⟩, F.drew⟩ | exact ⟨⟨keep_fr f5 hHeld.1.1, keep_fr f5 hHeld.1.2.1, keep_fr f5 hHeld.1.2.2⟩, hHeld.2.trans' f5⟩ | exact ⟨⟨keep_alloc hHeld.1.1, keep_alloc hHeld.1.2.1, keep_alloc hHeld.1.2.2⟩, hHeld.2.alloc _⟩ | exact ⟨⟨keep_row (by have := HG0.out; omega) hHeld.1.1, keep_row (by have := HG0.out; omega) hHeld.1.2.1, keep_row (by have := HG0.out; omega) hHeld.1.2.2⟩, hHeld.2.setRow (fun h => by have := HG0.out; omega) _⟩))
  clear hK K
  try (simp only [Act.put, List.setIfInBounds_toArray]; dsimp only [List.set_cons_zero, List.set_cons_succ])
  refine wpAnyH_ready (rs := [10]) (by kernel_rfl) (by simp) ?_
  refine AllReadyH.cons (o := ⟨_, _, _, _, _, _⟩) rfl (fun K hK => ?_) AllReadyH.nil
  go_simp
  (try (rw [rowIn_of (old := rowN .u64 64 4 0) (t' := 35) (by ((try rw [← Array.getElem?_eq_getElem]); repeat (first | exact heap_alloc_new _ _ | exact heap_alloc2_new _ _ _ | refine keep_row (by (try simp only [World.size_alloc]); omega) ?_ | refine keep_alloc ?_ | refine keep_fr (by assumption) ?_))) (rowN_size _ _ _ _) (rowN_size _ _ _ _) (rowN_rowOne _ _ _ _)]; go_simp))
  refine hK.out _ _ ?_ (fun hHeld => ?_)
  · ((try dsimp only) <;> (first | exact ⟨⟨r1, r2, r3⟩, F.drew⟩ | exact ⟨⟨keep_fr f5 hHeld.1.1, keep_fr f5 hHeld.1.2.1, keep_fr f5 hHeld.1.2.2⟩, hHeld.2.trans' f5⟩ | exact ⟨⟨keep_alloc hHeld.1.1, keep_alloc hHeld.1.2.1, keep_alloc hHeld.1.2.2⟩, hHeld.2.alloc _⟩ | exact ⟨⟨keep_row (by have := HG0.out; omega) hHeld.1.1, keep_row (by have := HG0.out; omega) hHeld.1.2.1, keep_row (by have := HG0.out; omega) hHeld.1.2.2⟩, hHeld.2.setRow (fun h => by have := HG0.out; omega) _⟩))
  clear hK K
  try (simp only [Act.put, List.setIfInBounds_toArray]; dsimp only [List.set_cons_zero, List.set_cons_succ])
  refine rtake 11 ?_
  refine wpAnyH_done (by kernel_rfl) ?_ _
  refine NoPanic.normal ?_
  rotate_left
  go_simp
  refine hK.out _ _ ?_ (fun hHeld => ?_)
  · ((try dsimp only) <;> (first | exact ⟨⟨r1, r2, r3⟩, F.drew⟩ | exact ⟨⟨keep_fr f5 hHeld.1.1, keep_fr f5 hHeld.1.2.1, keep_fr f5 hHeld.1.2.2⟩, hHeld.2.trans' f5⟩ | exact ⟨⟨keep_alloc hHeld.1.1, keep_alloc hHeld.1.2.1, keep_alloc hHeld.1.2.2⟩, hHeld.2.alloc _⟩ | exact ⟨⟨keep_row (by have := HG0.out; omega) hHeld.1.1, keep_row (by have := HG0.out; omega) hHeld.1.2.1, keep_row (by have := HG0.out; omega) hHeld.1.2.2⟩, hHeld.2.setRow (fun h => by have := HG0.out; omega) _⟩))
  clear hK K
  try (simp only [Act.put, List.setIfInBounds_toArray]; dsimp only [List.set_cons_zero, List.set_cons_succ])
  refine wpAnyH_ready (rs := [2]) (by kernel_rfl) (by simp) ?_
  refine AllReadyH.cons (o := ⟨_, _, _, _, _, _⟩) rfl (fun K hK => ?_) AllReadyH.nil
  go_simp
  ((with_reducible refine (HD.out _).mono ?_); rintro e w5 ⟨rfl, f5⟩; have z5 := f5.size; (try simp only [World.size_alloc, heap_drew'] at z5))
  refine hK.out _ _ ?_ (fun hHeld => ?_)
  · ((try dsimp only) <;> (first | exact ⟨⟨r1, r2, r3⟩, F.drew⟩ | exact ⟨⟨keep_fr f5 hHeld.1.1, keep_fr f5 hHeld.1.2.1, keep_fr f5 hHeld.1.2.2⟩, hHeld.2.trans' f5⟩ | exact ⟨⟨keep_alloc hHeld.1.1, keep_alloc hHeld.1.2.1, keep_alloc hHeld.1.2.2⟩, hHeld.2.alloc _⟩ | exact ⟨⟨keep_row (by have := HG0.out; omega) hHeld.1.1, keep_row (by have := HG0.out; omega) hHeld.1.2.1, keep_row (by have := HG0.out; omega) hHeld.1.2.2⟩, hHeld.2.setRow (fun h => by have := HG0.out; omega) _⟩))
  clear hK K
  try (simp only [Act.put, List.setIfInBounds_toArray]; dsimp only [List.set_cons_zero, List.set_cons_succ])
  refine rtake 3 ?_
  refine rtake 4 ?_
  refine rtake 5 ?_
  refine rtake 6 ?_
  refine wpAnyH_ready (rs := [9]) (by kernel_rfl) (by simp) ?_
  refine AllReadyH.cons (o := ⟨_, _, _, _, _, _⟩) rfl (fun K hK => ?_) AllReadyH.nil
  go_simp
  (try (rw [rowIn_of (old := rowN .u64 64 4 0) (t' := 35) (by ((try rw [← Array.getElem?_eq_getElem]); repeat (first | exact heap_alloc_new _ _ | exact heap_alloc2_new _ _ _ | refine keep_alloc ?_ | refine keep_fr (by assumption) ?_))) (rowN_size _ _ _ _) (rowN_size _ _ _ _) (rowN_rowOne _ _ _ _)]; go_simp))
  refine hK.out _ _ ?_ (fun hHeld => ?_)
  · ((try dsimp only) <;> (first | exact ⟨⟨r1, r2, r3⟩, F.drew⟩ | exact ⟨⟨keep_fr f5 hHeld.1.1, keep_fr f5 hHeld.1.2.1, keep_fr f5 hHeld.1.2.2⟩, hHeld.2.trans' f5⟩ | exact ⟨⟨keep_alloc hHeld.1.1, keep_alloc hHeld.1.2.1, keep_alloc hHeld.1.2.2⟩, hHeld.2.alloc _⟩ | exact ⟨⟨keep_row (by have := HG0.out; omega) hHeld.1.1, keep_row (by have := HG0.out; omega) hHeld.1.2.1, keep_row (by have := HG0.out; omega) hHeld.1.2.2⟩, hHeld.2.setRow (fun h => by have := HG0.out; omega) _⟩))
  clear hK K
  try (simp only [Act.put, List.setIfInBounds_toArray]; dsimp only [List.set_cons_zero, List.set_cons_succ])
  refine wpAnyH_ready (rs := [10]) (by kernel_rfl) (by simp) ?_
  refine AllReadyH.cons (o := ⟨_, _, _, _, _, _⟩) rfl (fun K hK => ?_) AllReadyH.nil
  go_simp
  (try (rw [rowIn_of (old := rowN .u64 64 4 0) (t' := 35) (by ((try rw [← Array.getElem?_eq_getElem]); repeat (first | exact heap_alloc_new _ _ | exact heap_alloc2_new _ _ _ | refine keep_row (by (try simp only [World.size_alloc]); omega) ?_ | refine keep_alloc ?_ | refine keep_fr (by assumption) ?_))) (rowN_size _ _ _ _) (rowN_size _ _ _ _) (rowN_rowOne _ _ _ _)]; go_simp))
  refine hK.out _ _ ?_ (fun hHeld => ?_)
  · ((try dsimp only) <;> (first | exact ⟨⟨r1, r2, r3⟩, F.drew⟩ | exact ⟨⟨keep_fr f5 hHeld.1.1, keep_fr f5 hHeld.1.2.1, keep_fr f5 hHeld.1.2.2⟩, hHeld.2.trans' f5⟩ | exact ⟨⟨keep_alloc hHeld.1.1, keep_alloc hHeld.1.2.1, keep_alloc hHeld.1.2.2⟩, hHeld.2.alloc _⟩ | exact ⟨⟨keep_row (by have := HG0.out; omega) hHeld.1.1, keep_row (by have := HG0.out; omega) hHeld.1.2.1, keep_row (by have := HG0.out; omega) hHeld.1.2.2⟩, hHeld.2.setRow (fun h => by have := HG0.out; omega) _⟩))
  clear hK K
  try (simp only [Act.put, List.setIfInBounds_toArray]; dsimp only [List.set_cons_zero, List.set_cons_succ])
  refine rtake 11 ?_
  refine wpAnyH_done (by kernel_rfl) ?_ _
  refine NoPanic.normal ?_
  rotate_left
  go_simp
  refine hK.out _ _ ?_ (fun hHeld => ?_)
  · ((try dsimp only) <;> (first | exact ⟨⟨r1, r2, r3⟩, F.drew⟩ | exact ⟨⟨keep_fr f5 hHeld.1.1, keep_fr f5 hHeld.1.2.1, keep_fr f5 hHeld.1.2.2⟩, hHeld.2.trans' f5⟩ | exact ⟨⟨keep_alloc hHeld.1.1, keep_alloc hHeld.1.2.1, keep_alloc hHeld.1.2.2⟩, hHeld.2.alloc _⟩ | exact ⟨⟨keep_row (by have := HG0.out; omega) hHeld.1.1, keep_row (by have := HG0.out; omega) hHeld.1.2.1, keep_row (by have := HG0.out; omega) hHeld.1.2.2⟩, hHeld.2.setRow (fun h => by have := HG0.out; omega) _⟩))
  clear hK K
  try (simp only [Act.put, List.setIfInBounds_toArray]; dsimp only [List.set_cons_zero, List.set_cons_succ])
  refine wpAnyH_ready (rs := [2, 7]) (by kernel_rfl) (by simp) ?_
  refine AllReadyH.cons (o := ⟨_, _, _, _, _, _⟩) rfl (fun K hK => ?_) (AllReadyH.cons (o := ⟨_, _, _, _, _, _⟩) rfl (fun K hK => ?_) AllReadyH.nil)
  go_simp
  ((with_reducible refine (HD.out _).mono ?_); rintro e w5 ⟨rfl, f5⟩; have z5 := f5.size; (try simp only [World.size_alloc, heap_drew'] at z5))
  refine hK.out _ _ ?_ (fun hHeld => ?_)
  · ((try dsimp only) <;> (first | exact ⟨⟨r1, r2, r3⟩, F.drew⟩ | exact ⟨⟨keep_fr f5 hHeld.1.1, keep_fr f5 hHeld.1.2.1, keep_fr f5 hHeld.1.2.2⟩, hHeld.2.trans' f5⟩ | exact ⟨⟨keep_alloc hHeld.1.1, keep_alloc hHeld.1.2.1, keep_alloc hHeld.1.2.2⟩, hHeld.2.alloc _⟩ | exact ⟨⟨keep_row (by have := HG0.out; omega) hHeld.1.1, keep_row (by have := HG0.out; omega) hHeld.1.2.1, keep_row (by have := HG0.out; omega) hHeld.1.2.2⟩, hHeld.2.setRow (fun h => by have := HG0.out; omega) _⟩))
  clear hK K
  try (simp only [Act.put, List.setIfInBounds_toArray]; dsimp only [List.set_cons_zero, List.set_cons_succ])
  refine rtake 3 ?_
  refine rtake 4 ?_
  refine rtake 5 ?_
  refine rtake 6 ?_
  refine wpAnyH_ready (rs := [7]) (by kernel_rfl) (by simp) ?_
  refine AllReadyH.cons (o := ⟨_, _, _, _, _, _⟩) rfl (fun K hK => ?_) AllReadyH.nil
  go_simp
  refine hK.out _ _ ?_ (fun hHeld => ?_)
  · ((try dsimp only) <;> (first | exact ⟨⟨r1, r2, r3⟩, F.drew⟩ | exact ⟨⟨keep_fr f5 hHeld.1.1, keep_fr f5 hHeld.1.2.1, keep_fr f5 hHeld.1.2.2⟩, hHeld.2.trans' f5⟩ | exact ⟨⟨keep_alloc hHeld.1.1, keep_alloc hHeld.1.2.1, keep_alloc hHeld.1.2.2⟩, hHeld.2.alloc _⟩ | exact ⟨⟨keep_row (by have := HG0.out; omega) hHeld.1.1, keep_row (by have := HG0.out; omega) hHeld.1.2.1, keep_row (by have := HG0.out; omega) hHeld.1.2.2⟩, hHeld.2.setRow (fun h => by have := HG0.out; omega) _⟩))
  clear hK K
  try (simp only [Act.put, List.setIfInBounds_toArray]; dsimp only [List.set_cons_zero, List.set_cons_succ])
  refine wpAnyH_ready (rs := [9]) (by kernel_rfl) (by simp) ?_
  refine AllReadyH.cons (o := ⟨_, _, _, _, _, _⟩) rfl (fun K hK => ?_) AllReadyH.nil
  go_simp
  (try (rw [rowIn_of (old := rowN .u64 64 4 0) (t' := 35) (by ((try rw [← Array.getElem?_eq_getElem]); repeat (first | exact heap_alloc_new _ _ | exact heap_alloc2_new _ _ _ | refine keep_alloc ?_ | refine keep_fr (by assumption) ?_))) (rowN_size _ _ _ _) (rowN_size _ _ _ _) (rowN_rowOne _ _ _ _)]; go_simp))
  refine hK.out _ _ ?_ (fun hHeld => ?_)
  · ((try dsimp only) <;> (first | exact ⟨⟨r1, r2, r3⟩, F.drew⟩ | exact ⟨⟨keep_fr f5 hHeld.1.1, keep_fr f5 hHeld.1.2.1, keep_fr f5 hHeld.1.2.2⟩, hHeld.2.trans' f5⟩ | exact ⟨⟨keep_alloc hHeld.1.1, keep_alloc hHeld.1.2.1, keep_alloc hHeld.1.2.2⟩, hHeld.2.alloc _⟩ | exact ⟨⟨keep_row (by have := HG0.out; omega) hHeld.1.1, keep_row (by have := HG0.out; omega) hHeld.1.2.1, keep_row (by have := HG0.out; omega) hHeld.1.2.2⟩, hHeld.2.setRow (fun h => by have := HG0.out; omega) _⟩))
  clear hK K
  try (simp only [Act.put, List.setIfInBounds_toArray]; dsimp only [List.set_cons_zero, List.set_cons_succ])
  refine wpAnyH_ready (rs := [10]) (by kernel_rfl) (by simp) ?_
  refine AllReadyH.cons (o := ⟨_, _, _, _, _, _⟩) rfl (fun K hK => ?_) AllReadyH.nil
  go_simp
  (try (rw [rowIn_of (old := rowN .u64 64 4 0) (t' := 35) (by ((try rw [← Array.getElem?_eq_getElem]); repeat (first | exact heap_alloc_new _ _ | exact heap_alloc2_new _ _ _ | refine keep_row (by (try simp only [World.size_alloc]); omega) ?_ | refine keep_alloc ?_ | refine keep_fr (by assumption) ?_))) (rowN_size _ _ _ _) (rowN_size _ _ _ _) (rowN_rowOne _ _ _ _)]; go_simp))
  refine hK.out _ _ ?_ (fun hHeld => ?_)
  · ((try dsimp only) <;> (first | exact ⟨⟨r1, r2, r3⟩, F.drew⟩ | exact ⟨⟨keep_fr f5 hHeld.1.1, keep_fr f5 hHeld.1.2.1, keep_fr f5 hHeld.1.2.2⟩, hHeld.2.trans' f5⟩ | exact ⟨⟨keep_alloc hHeld.1.1, keep_alloc hHeld.1.2.1, keep_alloc hHeld.1.2.2⟩, hHeld.2.alloc _⟩ | exact ⟨⟨keep_row (by have := HG0.out; omega) hHeld.1.1, keep_row (by have := HG0.out; omega) hHeld.1.2.1, keep_row (by have := HG0.out; omega) hHeld.1.2.2⟩, hHeld.2.setRow (fun h => by have := HG0.out; omega) _⟩))
  clear hK K
  try (simp only [Act.put, List.setIfInBounds_toArray]; dsimp only [List.set_cons_zero, List.set_cons_succ])
  refine rtake 11 ?_
  refine wpAnyH_done (by kernel_rfl) ?_ _
  refine NoPanic.normal ?_
  rotate_left
  go_simp
  refine hK.out _ _ ?_ (fun hHeld => ?_)
  · ((try dsimp only) <;> (first | exact ⟨⟨r1, r2, r3⟩, F.drew⟩ | exact ⟨⟨keep_fr f5 hHeld.1.1, keep_fr f5 hHeld.1.2.1, keep_fr f5 hHeld.1.2.2⟩, hHeld.2.trans' f5⟩ | exact ⟨⟨keep_alloc hHeld.1.1, keep_alloc hHeld.1.2.1, keep_alloc hHeld.1.2.2⟩, hHeld.2.alloc _⟩ | exact ⟨⟨keep_row (by have := HG0.out; omega) hHeld.1.1, keep_row (by have := HG0.out; omega) hHeld.1.2.1, keep_row (by have := HG0.out; omega) hHeld.1.2.2⟩, hHeld.2.setRow (fun h => by have := HG0.out; omega) _⟩))
  clear hK K
  try (simp only [Act.put, List.setIfInBounds_toArray]; dsimp only [List.set_cons_zero, List.set_cons_succ])
  refine wpAnyH_ready (rs := [2]) (by kernel_rfl) (by simp) ?_
  refine AllReadyH.cons (o := ⟨_, _, _, _, _, _⟩) rfl (fun K hK => ?_) AllReadyH.nil
  go_simp
  ((with_reducible refine (HD.out _).mono ?_); rintro e w5 ⟨rfl, f5⟩; have z5 := f5.size; (try simp only [World.size_alloc, heap_drew'] at z5))
  refine hK.out _ _ ?_ (fun hHeld => ?_)
  · ((try dsimp only) <;> (first | exact ⟨⟨r1, r2, r3⟩, F.drew⟩ | exact ⟨⟨keep_fr f5 hHeld.1.1, keep_fr f5 hHeld.1.2.1, keep_fr f5 hHeld.1.2.2⟩, hHeld.2.trans' f5⟩ | exact ⟨⟨keep_alloc hHeld.1.1, keep_alloc hHeld.1.2.1, keep_alloc hHeld.1.2.2⟩, hHeld.2.alloc _⟩ | exact ⟨⟨keep_row (by have := HG0.out; omega) hHeld.1.1, keep_row (by have := HG0.out; omega) hHeld.1.2.1, keep_row (by have := HG0.out; omega) hHeld.1.2.2⟩, hHeld.2.setRow (fun h => by have := HG0.out; omega) _⟩))
  clear hK K
  try (simp only [Act.put, List.setIfInBounds_toArray]; dsimp only [List.set_cons_zero, List.set_cons_succ])
  refine rtake 3 ?_
  refine rtake 4 ?_
  refine rtake 5 ?_
  refine rtake 6 ?_
  refine wpAnyH_ready (rs := [9]) (by kernel_rfl) (by simp) ?_
  refine AllReadyH.cons (o := ⟨_, _, _, _, _, _⟩) rfl (fun K hK => ?_) AllReadyH.nil
  go_simp
  (try (rw [rowIn_of (old := rowN .u64 64 4 0) (t' := 35) (by ((try rw [← Array.getElem?_eq_getElem]); repeat (first | exact heap_alloc_new _ _ | exact heap_alloc2_new _ _ _ | refine keep_alloc ?_ | refine keep_fr (by assumption) ?_))) (rowN_size _ _ _ _) (rowN_size _ _ _ _) (rowN_rowOne _ _ _ _)]; go_simp))
  refine hK.out _ _ ?_ (fun hHeld => ?_)
  · ((try dsimp only) <;> (first | exact ⟨⟨r1, r2, r3⟩, F.drew⟩ | exact ⟨⟨keep_fr f5 hHeld.1.1, keep_fr f5 hHeld.1.2.1, keep_fr f5 hHeld.1.2.2⟩, hHeld.2.trans' f5⟩ | exact ⟨⟨keep_alloc hHeld.1.1, keep_alloc hHeld.1.2.1, keep_alloc hHeld.1.2.2⟩, hHeld.2.alloc _⟩ | exact ⟨⟨keep_row (by have := HG0.out; omega) hHeld.1.1, keep_row (by have := HG0.out; omega) hHeld.1.2.1, keep_row (by have := HG0.out; omega) hHeld.1.2.2⟩, hHeld.2.setRow (fun h => by have := HG0.out; omega) _⟩))
  clear hK K
  try (simp only [Act.put, List.setIfInBounds_toArray]; dsimp only [List.set_cons_zero, List.set_cons_succ])
  refine wpAnyH_ready (rs := [10]) (by kernel_rfl) (by simp) ?_
  refine AllReadyH.cons (o := ⟨_, _, _, _, _, _⟩) rfl (fun K hK => ?_) AllReadyH.nil
  go_simp
  (try (rw [rowIn_of (old := rowN .u64 64 4 0) (t' := 35) (by ((try rw [← Array.getElem?_eq_getElem]); repeat (first | exact heap_alloc_new _ _ | exact heap_alloc2_new _ _ _ | refine keep_row (by (try simp only [World.size_alloc]); omega) ?_ | refine keep_alloc ?_ | refine keep_fr (by assumption) ?_))) (rowN_size _ _ _ _) (rowN_size _ _ _ _) (rowN_rowOne _ _ _ _)]; go_simp))
  refine hK.out _ _ ?_ (fun hHeld => ?_)
  · ((try dsimp only) <;> (first | exact ⟨⟨r1, r2, r3⟩, F.drew⟩ | exact ⟨⟨keep_fr f5 hHeld.1.1, keep_fr f5 hHeld.1.2.1, keep_fr f5 hHeld.1.2.2⟩, hHeld.2.trans' f5⟩ | exact ⟨⟨keep_alloc hHeld.1.1, keep_alloc hHeld.1.2.1, keep_alloc hHeld.1.2.2⟩, hHeld.2.alloc _⟩ | exact ⟨⟨keep_row (by have := HG0.out; omega) hHeld.1.1, keep_row (by have := HG0.out; omega) hHeld.1.2.1, keep_row (by have := HG0.out; omega) hHeld.1.2.2⟩, hHeld.2.setRow (fun h => by have := HG0.out; omega) _⟩))
  clear hK K
  try (simp only [Act.put, List.setIfInBounds_toArray]; dsimp only [List.set_cons_zero, List.set_cons_succ])
  refine rtake 11 ?_
  refine wpAnyH_done (by kernel_rfl) ?_ _
  refine NoPanic.normal ?_
  rotate_left
  go_simp
  refine hK.out _ _ ?_ (fun hHeld => ?_)
  · ((try dsimp only) <;> (first | exact ⟨⟨r1, r2, r3⟩, F.drew⟩ | exact ⟨⟨keep_fr f5 hHeld.1.1, keep_fr f5 hHeld.1.2.1, keep_fr f5 hHeld.1.2.2⟩, hHeld.2.trans' f5⟩ | exact ⟨⟨keep_alloc hHeld.1.1, keep_alloc hHeld.1.2.1, keep_alloc hHeld.1.2.2⟩, hHeld.2.alloc _⟩ | exact ⟨⟨keep_row (by have := HG0.out; omega) hHeld.1.1, keep_row (by have := HG0.out; omega) hHeld.1.2.1, keep_row (by have := HG0.out; omega) hHeld.1.2.2⟩, hHeld.2.setRow (fun h => by have := HG0.out; omega) _⟩))
  clear hK K
  try (simp only [Act.put, List.setIfInBounds_toArray]; dsimp only [List.set_cons_zero, List.set_cons_succ])
  refine wpAnyH_ready (rs := [1, 8]) (by kernel_rfl) (by simp) ?_
  refine AllReadyH.cons (o := ⟨_, _, _, _, _, _⟩) rfl (fun K hK => ?_) (AllReadyH.cons (o := ⟨_, _, _, _, _, _⟩) rfl (fun K hK => ?_) AllReadyH.nil)
  go_simp
  ((with_reducible refine (HO.out _).mono ?_); rintro e w5 ⟨rfl, f5⟩; have z5 := f5.size; (try simp only [World.size_alloc, heap_drew'] at z5))
  refine hK.out _ _ ?_ (fun hHeld => ?_)
  · ((try dsimp only) <;> (first | exact ⟨⟨r1, r2, r3⟩, F.drew⟩ | exact ⟨⟨keep_fr f5 hHeld.1.1, keep_fr f5 hHeld.1.2.1, keep_fr f5 hHeld.1.2.2⟩, hHeld.2.trans' f5⟩ | exact ⟨⟨keep_alloc hHeld.1.1, keep_alloc hHeld.1.2.1, keep_alloc hHeld.1.2.2⟩, hHeld.2.alloc _⟩ | exact ⟨⟨keep_row (by have := HG0.out; omega) hHeld.1.1, keep_row (by have := HG0.out; omega) hHeld.1.2.1, keep_row (by have := HG0.out; omega) hHeld.1.2.2⟩, hHeld.2.setRow (fun h => by have := HG0.out; omega) _⟩))
  clear hK K
  try (simp only [Act.put, List.setIfInBounds_toArray]; dsimp only [List.set_cons_zero, List.set_cons_succ])
  refine wpAnyH_ready (rs := [2, 8]) (by kernel_rfl) (by simp) ?_
  refine AllReadyH.cons (o := ⟨_, _, _, _, _, _⟩) rfl (fun K hK => ?_) (AllReadyH.cons (o := ⟨_, _, _, _, _, _⟩) rfl (fun K hK => ?_) AllReadyH.nil)
  go_simp
  ((with_reducible refine (HD.out _).mono ?_); rintro e w5 ⟨rfl, f5⟩; have z5 := f5.size; (try simp only [World.size_alloc, heap_drew'] at z5))
  refine hK.out _ _ ?_ (fun hHeld => ?_)
  · ((try dsimp only) <;> (first | exact ⟨⟨r1, r2, r3⟩, F.drew⟩ | exact ⟨⟨keep_fr f5 hHeld.1.1, keep_fr f5 hHeld.1.2.1, keep_fr f5 hHeld.1.2.2⟩, hHeld.2.trans' f5⟩ | exact ⟨⟨keep_alloc hHeld.1.1, keep_alloc hHeld.1.2.1, keep_alloc hHeld.1.2.2⟩, hHeld.2.alloc _⟩ | exact ⟨⟨keep_row (by have := HG0.out; omega) hHeld.1.1, keep_row (by have := HG0.out; omega) hHeld.1.2.1, keep_row (by have := HG0.out; omega) hHeld.1.2.2⟩, hHeld.2.setRow (fun h => by have := HG0.out; omega) _⟩))
  clear hK K
  try (simp only [Act.put, List.setIfInBounds_toArray]; dsimp only [List.set_cons_zero, List.set_cons_succ])
  refine rtake 3 ?_
  refine rtake 4 ?_
  refine rtake 5 ?_
  refine rtake 6 ?_
  refine wpAnyH_ready (rs := [8]) (by kernel_rfl) (by simp) ?_
  refine AllReadyH.cons (o := ⟨_, _, _, _, _, _⟩) rfl (fun K hK => ?_) AllReadyH.nil
  go_simp
  refine hK.out _ _ ?_ (fun hHeld => ?_)
  · ((try dsimp only) <;> (first | exact ⟨⟨r1, r2, r3⟩, F.drew⟩ | exact ⟨⟨keep_fr f5 hHeld.1.1, keep_fr f5 hHeld.1.2.1, keep_fr f5 hHeld.1.2.2⟩, hHeld.2.trans' f5⟩ | exact ⟨⟨keep_alloc hHeld.1.1, keep_alloc hHeld.1.2.1, keep_alloc hHeld.1.2.2⟩, hHeld.2.alloc _⟩ | exact ⟨⟨keep_row (by have := HG0.out; omega) hHeld.1.1, keep_row (by have := HG0.out; omega) hHeld.1.2.1, keep_row (by have := HG0.out; omega) hHeld.1.2.2⟩, hHeld.2.setRow (fun h => by have := HG0.out; omega) _⟩))
  clear hK K
  try (simp only [Act.put, List.setIfInBounds_toArray]; dsimp only [List.set_cons_zero, List.set_cons_succ])
  refine wpAnyH_ready (rs := [9]) (by kernel_rfl) (by simp) ?_
  refine AllReadyH.cons (o := ⟨_, _, _, _, _, _⟩) rfl (fun K hK => ?_) AllReadyH.nil
  go_simp
  (try (rw [rowIn_of (old := rowN .u64 64 4 0) (t' := 35) (by ((try rw [← Array.getElem?_eq_getElem]); repeat (first | exact heap_alloc_new _ _ | exact heap_alloc2_new _ _ _ | refine keep_alloc ?_ | refine keep_fr (by assumption) ?_))) (rowN_size _ _ _ _) (rowN_size _ _ _ _) (rowN_rowOne _ _ _ _)]; go_simp))
  refine hK.out _ _ ?_ (fun hHeld => ?_)
  · ((try dsimp only) <;> (first | exact ⟨⟨r1, r2, r3⟩, F.drew⟩ | exact ⟨⟨keep_fr f5 hHeld.1.1, keep_fr f5 hHeld.1.2.1, keep_fr f5 hHeld.1.2.2⟩, hHeld.2.trans' f5⟩ | exact ⟨⟨keep_alloc hHeld.1.1, keep_alloc hHeld.1.2.1, keep_alloc hHeld.1.2.2⟩, hHeld.2.alloc _⟩ | exact ⟨⟨keep_row (by have := HG0.out; omega) hHeld.1.1, keep_row (by have := HG0.out; omega) hHeld.1.2.1, keep_row (by have := HG0.out; omega) hHeld.1.2.2⟩, hHeld.2.setRow (fun h => by have := HG0.out; omega) _⟩))
  clear hK K
  try (simp only [Act.put, List.setIfInBounds_toArray]; dsimp only [List.set_cons_zero, List.set_cons_succ])
  refine wpAnyH_ready (rs := [10]) (by kernel_rfl) (by simp) ?_
  refine AllReadyH.cons (o := ⟨_, _, _, _, _, _⟩) rfl (fun K hK => ?_) AllReadyH.nil
  go_simp
  (try (rw [rowIn_of (old := rowN .u64 64 4 0) (t' := 35) (by ((try rw [← Array.getElem?_eq_getElem]); repeat (first | exact heap_alloc_new _ _ | exact heap_alloc2_new _ _ _ | refine keep_row (by (try simp only [World.size_alloc]); omega) ?_ | refine keep_alloc ?_ | refine keep_fr (by assumption) ?_))) (rowN_size _ _ _ _) (rowN_size _ _ _ _) (rowN_rowOne _ _ _ _)]; go_simp))
  refine hK.out _ _ ?_ (fun hHeld => ?_)
  · ((try dsimp only) <;> (first | exact ⟨⟨r1, r2, r3⟩, F.drew⟩ | exact ⟨⟨keep_fr f5 hHeld.1.1, keep_fr f5 hHeld.1.2.1, keep_fr f5 hHeld.1.2.2⟩, hHeld.2.trans' f5⟩ | exact ⟨⟨keep_alloc hHeld.1.1, keep_alloc hHeld.1.2.1, keep_alloc hHeld.1.2.2⟩, hHeld.2.alloc _⟩ | exact ⟨⟨keep_row (by have := HG0.out; omega) hHeld.1.1, keep_row (by have := HG0.out; omega) hHeld.1.2.1, keep_row (by have := HG0.out; omega) hHeld.1.2.2⟩, hHeld.2.setRow (fun h => by have := HG0.out; omega) _⟩))
  clear hK K
  try (simp only [Act.put, List.setIfInBounds_toArray]; dsimp only [List.set_cons_zero, List.set_cons_succ])
  refine rtake 11 ?_
  refine wpAnyH_done (by kernel_rfl) ?_ _
  refine NoPanic.normal ?_
  rotate_left
  go_simp
  refine hK.out _ _ ?_ (fun hHeld => ?_)
  · ((try dsimp only) <;> (first | exact ⟨⟨r1, r2, r3⟩, F.drew⟩ | exact ⟨⟨keep_fr f5 hHeld.1.1, keep_fr f5 hHeld.1.2.1, keep_fr f5 hHeld.1.2.2⟩, hHeld.2.trans' f5⟩ | exact ⟨⟨keep_alloc hHeld.1.1, keep_alloc hHeld.1.2.1, keep_alloc hHeld.1.2.2⟩, hHeld.2.alloc _⟩ | exact ⟨⟨keep_row (by have := HG0.out; omega) hHeld.1.1, keep_row (by have := HG0.out; omega) hHeld.1.2.1, keep_row (by have := HG0.out; omega) hHeld.1.2.2⟩, hHeld.2.setRow (fun h => by have := HG0.out; omega) _⟩))
  clear hK K
  try (simp only [Act.put, List.setIfInBounds_toArray]; dsimp only [List.set_cons_zero, List.set_cons_succ])
  refine wpAnyH_ready (rs := [2]) (by kernel_rfl) (by simp) ?_
  refine AllReadyH.cons (o := ⟨_, _, _, _, _, _⟩) rfl (fun K hK => ?_) AllReadyH.nil
  go_simp
  ((with_reducible refine (HD.out _).mono ?_); rintro e w5 ⟨rfl, f5⟩; have z5 := f5.size; (try simp only [World.size_alloc, heap_drew'] at z5))
  refine hK.out _ _ ?_ (fun hHeld => ?_)
  · ((try dsimp only) <;> (first | exact ⟨⟨r1, r2, r3⟩, F.drew⟩ | exact ⟨⟨keep_fr f5 hHeld.1.1, keep_fr f5 hHeld.1.2.1, keep_fr f5 hHeld.1.2.2⟩, hHeld.2.trans' f5⟩ | exact ⟨⟨keep_alloc hHeld.1.1, keep_alloc hHeld.1.2.1, keep_alloc hHeld.1.2.2⟩, hHeld.2.alloc _⟩ | exact ⟨⟨keep_row (by have := HG0.out; omega) hHeld.1.1, keep_row (by have := HG0.out; omega) hHeld.1.2.1, keep_row (by have := HG0.out; omega) hHeld.1.2.2⟩, hHeld.2.setRow (fun h => by have := HG0.out; omega) _⟩))
  clear hK K
  try (simp only [Act.put, List.setIfInBounds_toArray]; dsimp only [List.set_cons_zero, List.set_cons_succ])
  refine rtake 3 ?_
  refine rtake 4 ?_
  refine rtake 5 ?_
  refine rtake 6 ?_
  refine wpAnyH_ready (rs := [9]) (by kernel_rfl) (by simp) ?_
  refine AllReadyH.cons (o := ⟨_, _, _, _, _, _⟩) rfl (fun K hK => ?_) AllReadyH.nil
  go_simp
  (try (rw [rowIn_of (old := rowN .u64 64 4 0) (t' := 35) (by ((try rw [← Array.getElem?_eq_getElem]); repeat (first | exact heap_alloc_new _ _ | exact heap_alloc2_new _ _ _ | refine keep_alloc ?_ | refine keep_fr (by assumption) ?_))) (rowN_size _ _ _ _) (rowN_size _ _ _ _) (rowN_rowOne _ _ _ _)]; go_simp))
  refine hK.out _ _ ?_ (fun hHeld => ?_)
  · ((try dsimp only) <;> (first | exact ⟨⟨r1, r2, r3⟩, F.drew⟩ | exact ⟨⟨keep_fr f5 hHeld.1.1, keep_fr f5 hHeld.1.2.1, keep_fr f5 hHeld.1.2.2⟩, hHeld.2.trans' f5⟩ | exact ⟨⟨keep_alloc hHeld.1.1, keep_alloc hHeld.1.2.1, keep_alloc hHeld.1.2.2⟩, hHeld.2.alloc _⟩ | exact ⟨⟨keep_row (by have := HG0.out; omega) hHeld.1.1, keep_row (by have := HG0.out; omega) hHeld.1.2.1, keep_row (by have := HG0.out; omega) hHeld.1.2.2⟩, hHeld.2.setRow (fun h => by have := HG0.out; omega) _⟩))
  clear hK K
  try (simp only [Act.put, List.setIfInBounds_toArray]; dsimp only [List.set_cons_zero, List.set_cons_succ])
  refine wpAnyH_ready (rs := [10]) (by kernel_rfl) (by simp) ?_
  refine AllReadyH.cons (o := ⟨_, _, _, _, _, _⟩) rfl (fun K hK => ?_) AllReadyH.nil
  go_simp
  (try (rw [rowIn_of (old := rowN .u64 64 4 0) (t' := 35) (by ((try rw [← Array.getElem?_eq_getElem]); repeat (first | exact heap_alloc_new _ _ | exact heap_alloc2_new _ _ _ | refine keep_row (by (try simp only [World.size_alloc]); omega) ?_ | refine keep_alloc ?_ | refine keep_fr (by assumption) ?_))) (rowN_size _ _ _ _) (rowN_size _ _ _ _) (rowN_rowOne _ _ _ _)]; go_simp))
  refine hK.out _ _ ?_ (fun hHeld => ?_)
  · ((try dsimp only) <;> (first | exact ⟨⟨r1, r2, r3⟩, F.drew⟩ | exact ⟨⟨keep_fr f5 hHeld.1.1, keep_fr f5 hHeld.1.2.1, keep_fr f5 hHeld.1.2.2⟩, hHeld.2.trans' f5⟩ | exact ⟨⟨keep_alloc hHeld.1.1, keep_alloc hHeld.1.2.1, keep_alloc hHeld.1.2.2⟩, hHeld.2.alloc _⟩ | exact ⟨⟨keep_row (by have := HG0.out; omega) hHeld.1.1, keep_row (by have := HG0.out; omega) hHeld.1.2.1, keep_row (by have := HG0.out; omega) hHeld.1.2.2⟩, hHeld.2.setRow (fun h => by have := HG0.out; omega) _⟩))
  clear hK K
  try (simp only [Act.put, List.setIfInBounds_toArray]; dsimp only [List.set_cons_zero, List.set_cons_succ])
  refine rtake 11 ?_
  refine wpAnyH_done (by kernel_rfl) ?_ _
  refine NoPanic.normal ?_
  rotate_left
  go_simp
  refine hK.out _ _ ?_ (fun hHeld => ?_)
  · ((try dsimp only) <;> (first | exact ⟨⟨r1, r2, r3⟩, F.drew⟩ | exact ⟨⟨keep_fr f5 hHeld.1.1, keep_fr f5 hHeld.1.2.1, keep_fr f5 hHeld.1.2.2⟩, hHeld.2.trans' f5⟩ | exact ⟨⟨keep_alloc hHeld.1.1, keep_alloc hHeld.1.2.1, keep_alloc hHeld.1.2.2⟩, hHeld.2.alloc _⟩ | exact ⟨⟨keep_row (by have := HG0.out; omega) hHeld.1.1, keep_row (by have := HG0.out; omega) hHeld.1.2.1, keep_row (by have := HG0.out; omega) hHeld.1.2.2⟩, hHeld.2.setRow (fun h => by have := HG0.out; omega) _⟩))
  clear hK K
  try (simp only [Act.put, List.setIfInBounds_toArray]; dsimp only [List.set_cons_zero, List.set_cons_succ])
  refine wpAnyH_ready (rs := [1]) (by kernel_rfl) (by simp) ?_
  refine AllReadyH.cons (o := ⟨_, _, _, _, _, _⟩) rfl (fun K hK => ?_) AllReadyH.nil
  go_simp
  ((with_reducible refine (HO.out _).mono ?_); rintro e w5 ⟨rfl, f5⟩; have z5 := f5.size; (try simp only [World.size_alloc, heap_drew'] at z5))
  refine hK.out _ _ ?_ (fun hHeld => ?_)
  · ((try dsimp only) <;> (first | exact ⟨⟨r1, r2, r3⟩, F.drew⟩ | exact ⟨⟨keep_fr f5 hHeld.1.1, keep_fr f5 hHeld.1.2.1, keep_fr f5 hHeld.1.2.2⟩, hHeld.2.trans' f5⟩ | exact ⟨⟨keep_alloc hHeld.1.1, keep_alloc hHeld.1.2.1, keep_alloc hHeld.1.2.2⟩, hHeld.2.alloc _⟩ | exact ⟨⟨keep_row (by have := HG0.out; omega) hHeld.1.1, keep_row (by have := HG0.out; omega) hHeld.1.2.1, keep_row (by have := HG0.out; omega) hHeld.1.2.2⟩, hHeld.2.setRow (fun h => by have := HG0.out; omega) _⟩))
  clear hK K
  try (simp only [Act.put, List.setIfInBounds_toArray]; dsimp only [List.set_cons_zero, List.set_cons_succ])
  refine wpAnyH_ready (rs := [2]) (by kernel_rfl) (by simp) ?_
  refine AllReadyH.cons (o := ⟨_, _, _, _, _, _⟩) rfl (fun K hK => ?_) AllReadyH.nil
  go_simp
  ((with_reducible refine (HD.out _).mono ?_); rintro e w5 ⟨rfl, f5⟩; have z5 := f5.size; (try simp only [World.size_alloc, heap_drew'] at z5))
  refine hK.out _ _ ?_ (fun hHeld => ?_)
  · ((try dsimp only) <;> (first | exact ⟨⟨r1, r2, r3⟩, F.drew⟩ | exact ⟨⟨keep_fr f5 hHeld.1.1, keep_fr f5 hHeld.1.2.1, keep_fr f5 hHeld.1.2.2⟩, hHeld.2.trans' f5⟩ | exact ⟨⟨keep_alloc hHeld.1.1, keep_alloc hHeld.1.2.1, keep_alloc hHeld.1.2.2⟩, hHeld.2.alloc _⟩ | exact ⟨⟨keep_row (by have := HG0.out; omega) hHeld.1.1, keep_row (by have := HG0.out; omega) hHeld.1.2.1, keep_row (by have := HG0.out; omega) hHeld.1.2.2⟩, hHeld.2.setRow (fun h => by have := HG0.out; omega) _⟩))
  clear hK K
  try (simp only [Act.put, List.setIfInBounds_toArray]; dsimp only [List.set_cons_zero, List.set_cons_succ])
  refine rtake 3 ?_
  refine rtake 4 ?_
  refine rtake 5 ?_
  refine rtake 6 ?_
  refine wpAnyH_ready (rs := [9]) (by kernel_rfl) (by simp) ?_
  refine AllReadyH.cons (o := ⟨_, _, _, _, _, _⟩) rfl (fun K hK => ?_) AllReadyH.nil
  go_simp
  (try (rw [rowIn_of (old := rowN .u64 64 4 0) (t' := 35) (by ((try rw [← Array.getElem?_eq_getElem]); repeat (first | exact heap_alloc_new _ _ | exact heap_alloc2_new _ _ _ | refine keep_alloc ?_ | refine keep_fr (by assumption) ?_))) (rowN_size _ _ _ _) (rowN_size _ _ _ _) (rowN_rowOne _ _ _ _)]; go_simp))
  refine hK.out _ _ ?_ (fun hHeld => ?_)
  · ((try dsimp only) <;> (first | exact ⟨⟨r1, r2, r3⟩, F.drew⟩ | exact ⟨⟨keep_fr f5 hHeld.1.1, keep_fr f5 hHeld.1.2.1, keep_fr f5 hHeld.1.2.2⟩, hHeld.2.trans' f5⟩ | exact ⟨⟨keep_alloc hHeld.1.1, keep_alloc hHeld.1.2.1, keep_alloc hHeld.1.2.2⟩, hHeld.2.alloc _⟩ | exact ⟨⟨keep_row (by have := HG0.out; omega) hHeld.1.1, keep_row (by have := HG0.out; omega) hHeld.1.2.1, keep_row (by have := HG0.out; omega) hHeld.1.2.2⟩, hHeld.2.setRow (fun h => by have := HG0.out; omega) _⟩))
  clear hK K
  try (simp only [Act.put, List.setIfInBounds_toArray]; dsimp only [List.set_cons_zero, List.set_cons_succ])
  refine wpAnyH_ready (rs := [10]) (by kernel_rfl) (by simp) ?_
  refine AllReadyH.cons (o := ⟨_, _, _, _, _, _⟩) rfl (fun K hK => ?_) AllReadyH.nil
  go_simp
  (try (rw [rowIn_of (old := rowN .u64 64 4 0) (t' := 35) (by ((try rw [← Array.getElem?_eq_getElem]); repeat (first | exact heap_alloc_new _ _ | exact heap_alloc2_new _ _ _ | refine keep_row (by (try simp only [World.size_alloc]); omega) ?_ | refine keep_alloc ?_ | refine keep_fr (by assumption) ?_))) (rowN_size _ _ _ _) (rowN_size _ _ _ _) (rowN_rowOne _ _ _ _)]; go_simp))
  refine hK.out _ _ ?_ (fun hHeld => ?_)
  · ((try dsimp only) <;> (first | exact ⟨⟨r1, r2, r3⟩, F.drew⟩ | exact ⟨⟨keep_fr f5 hHeld.1.1, keep_fr f5 hHeld.1.2.1, keep_fr f5 hHeld.1.2.2⟩, hHeld.2.trans' f5⟩ | exact ⟨⟨keep_alloc hHeld.1.1, keep_alloc hHeld.1.2.1, keep_alloc hHeld.1.2.2⟩, hHeld.2.alloc _⟩ | exact ⟨⟨keep_row (by have := HG0.out; omega) hHeld.1.1, keep_row (by have := HG0.out; omega) hHeld.1.2.1, keep_row (by have := HG0.out; omega) hHeld.1.2.2⟩, hHeld.2.setRow (fun h => by have := HG0.out; omega) _⟩))
  clear hK K
  try (simp only [Act.put, List.setIfInBounds_toArray]; dsimp only [List.set_cons_zero, List.set_cons_succ])
  refine rtake 11 ?_
  refine wpAnyH_done (by kernel_rfl) ?_ _
  refine NoPanic.normal ?_
  rotate_left
  go_simp
  refine hK.out _ _ ?_ (fun hHeld => ?_)
  · ((try dsimp only) <;> (first | exact ⟨⟨r1, r2, r3⟩, F.drew⟩ | exact ⟨⟨keep_fr f5 hHeld.1.1, keep_fr f5 hHeld.1.2.1, keep_fr f5 hHeld.1.2.2⟩, hHeld.2.trans' f5⟩ | exact ⟨⟨keep_alloc hHeld.1.1, keep_alloc hHeld.1.2.1, keep_alloc hHeld.1.2.2⟩, hHeld.2.alloc _⟩ | exact ⟨⟨keep_row (by have := HG0.out; omega) hHeld.1.1, keep_row (by have := HG0.out; omega) hHeld.1.2.1, keep_row (by have := HG0.out; omega) hHeld.1.2.2⟩, hHeld.2.setRow (fun h => by have := HG0.out; omega) _⟩))
  clear hK K
  try (simp only [Act.put, List.setIfInBounds_toArray]; dsimp only [List.set_cons_zero, List.set_cons_succ])
  refine wpAnyH_ready (rs := [1, 7]) (by kernel_rfl) (by simp) ?_
  refine AllReadyH.cons (o := ⟨_, _, _, _, _, _⟩) rfl (fun K hK => ?_) (AllReadyH.cons (o := ⟨_, _, _, _, _, _⟩) rfl (fun K hK => ?_) AllReadyH.nil)
  go_simp
  ((with_reducible refine (HO.out _).mono ?_); rintro e w5 ⟨rfl, f5⟩; have z5 := f5.size; (try simp only [World.size_alloc, heap_drew'] at z5))
  refine hK.out _ _ ?_ (fun hHeld => ?_)
  · ((try dsimp only) <;> (first | exact ⟨⟨r1, r2, r3⟩, F.drew⟩ | exact ⟨⟨keep_fr f5 hHeld.1.1, keep_fr f5 hHeld.1.2.1, keep_fr f5 hHeld.1.2.2⟩, hHeld.2.trans' f5⟩ | exact ⟨⟨keep_alloc hHeld.1.1, keep_alloc hHeld.1.2.1, keep_alloc hHeld.1.2.2⟩, hHeld.2.alloc _⟩ | exact ⟨⟨keep_row (by have := HG0.out; omega) hHeld.1.1, keep_row (by have := HG0.out; omega) hHeld.1.2.1, keep_row (by have := HG0.out; omega) hHeld.1.2.2⟩, hHeld.2.setRow (fun h => by have := HG0.out; omega) _⟩))
  clear hK K
  try (simp only [Act.put, List.setIfInBounds_toArray]; dsimp only [List.set_cons_zero, List.set_cons_succ])
  refine wpAnyH_ready (rs := [2, 7]) (by kernel_rfl) (by simp) ?_
  refine AllReadyH.cons (o := ⟨_, _, _, _, _, _⟩) rfl (fun K hK => ?_) (AllReadyH.cons (o := ⟨_, _, _, _, _, _⟩) rfl (fun K hK => ?_) AllReadyH.nil)
  go_simp
  ((with_reducible refine (HD.out _).mono ?_); rintro e w5 ⟨rfl, f5⟩; have z5 := f5.size; (try simp only [World.size_alloc, heap_drew'] at z5))
  refine hK.out _ _ ?_ (fun hHeld => ?_)
  · ((try dsimp only) <;> (first | exact ⟨⟨r1, r2, r3⟩, F.drew⟩ | exact ⟨⟨keep_fr f5 hHeld.1.1, keep_fr f5 hHeld.1.2.1, keep_fr f5 hHeld.1.2.2⟩, hHeld.2.trans' f5⟩ | exact ⟨⟨keep_alloc hHeld.1.1, keep_alloc hHeld.1.2.1, keep_alloc hHeld.1.2.2⟩, hHeld.2.alloc _⟩ | exact ⟨⟨keep_row (by have := HG0.out; omega) hHeld.1.1, keep_row (by have := HG0.out; omega) hHeld.1.2.1, keep_row (by have := HG0.out; omega) hHeld.1.2.2⟩, hHeld.2.setRow (fun h => by have := HG0.out; omega) _⟩))
  clear hK K
  try (simp only [Act.put, List.setIfInBounds_toArray]; dsimp only [List.set_cons_zero, List.set_cons_succ])
  refine rtake 3 ?_
  refine rtake 4 ?_
  refine rtake 5 ?_
  refine rtake 6 ?_
  refine wpAnyH_ready (rs := [7]) (by kernel_rfl) (by simp) ?_
  refine AllReadyH.cons (o := ⟨_, _, _, _, _, _⟩) rfl (fun K hK => ?_) AllReadyH.nil
  go_simp
  refine hK.out _ _ ?_ (fun hHeld => ?_)
  · ((try dsimp only) <;> (first | exact ⟨⟨r1, r2, r3⟩, F.drew⟩ | exact ⟨⟨keep_fr f5 hHeld.1.1, keep_fr f5 hHeld.1.2.1, keep_fr f5 hHeld.1.2.2⟩, hHeld.2.trans' f5⟩ | exact ⟨⟨keep_alloc hHeld.1.1, keep_alloc hHeld.1.2.1, keep_alloc hHeld.1.2.2⟩, hHeld.2.alloc _⟩ | exact ⟨⟨keep_row (by have := HG0.out; omega) hHeld.1.1, keep_row (by have := HG0.out; omega) hHeld.1.2.1, keep_row (by have := HG0.out; omega) hHeld.1.2.2⟩, hHeld.2.setRow (fun h => by have := HG0.out; omega) _⟩))
  clear hK K
  try (simp only [Act.put, List.setIfInBounds_toArray]; dsimp only [List.set_cons_zero, List.set_cons_succ])
  refine wpAnyH_ready (rs := [9]) (by kernel_rfl) (by simp) ?_
  refine AllReadyH.cons (o := ⟨_, _, _, _, _, _⟩) rfl (fun K hK => ?_) AllReadyH.nil
  go_simp
  (try (rw [rowIn_of (old := rowN .u64 64 4 0) (t' := 35) (by ((try rw [← Array.getElem?_eq_getElem]); repeat (first | exact heap_alloc_new _ _ | exact heap_alloc2_new _ _ _ | refine keep_alloc ?_ | refine keep_fr (by assumption) ?_))) (rowN_size _ _ _ _) (rowN_size _ _ _ _) (rowN_rowOne _ _ _ _)]; go_simp))
  refine hK.out _ _ ?_ (fun hHeld => ?_)
  · ((try dsimp only) <;> (first | exact ⟨⟨r1, r2, r3⟩, F.drew⟩ | exact ⟨⟨keep_fr f5 hHeld.1.1, keep_fr f5 hHeld.1.2.1, keep_fr f5 hHeld.1.2.2⟩, hHeld.2.trans' f5⟩ | exact ⟨⟨keep_alloc hHeld.1.1, keep_alloc hHeld.1.2.1, keep_alloc hHeld.1.2.2⟩, hHeld.2.alloc _⟩ | exact ⟨⟨keep_row (by have := HG0.out; omega) hHeld.1.1, keep_row (by have := HG0.out; omega) hHeld.1.2.1, keep_row (by have := HG0.out; omega) hHeld.1.2.2⟩, hHeld.2.setRow (fun h => by have := HG0.out; omega) _⟩))
  clear hK K
  try (simp only [Act.put, List.setIfInBounds_toArray]; dsimp only [List.set_cons_zero, List.set_cons_succ])
  refine wpAnyH_ready (rs := [10]) (by kernel_rfl) (by simp) ?_
  refine AllReadyH.cons (o := ⟨_, _, _, _, _, _⟩) rfl (fun K hK => ?_) AllReadyH.nil
  go_simp
  (try (rw [rowIn_of (old := rowN .u64 64 4 0) (t' := 35) (by ((try rw [← Array.getElem?_eq_getElem]); repeat (first | exact heap_alloc_new _ _ | exact heap_alloc2_new _ _ _ | refine keep_row (by (try simp only [World.size_alloc]); omega) ?_ | refine keep_alloc ?_ | refine keep_fr (by assumption) ?_))) (rowN_size _ _ _ _) (rowN_size _ _ _ _) (rowN_rowOne _ _ _ _)]; go_simp))
  refine hK.out _ _ ?_ (fun hHeld => ?_)
  · ((try dsimp only) <;> (first | exact ⟨⟨r1, r2, r3⟩, F.drew⟩ | exact ⟨⟨keep_fr f5 hHeld.1.1, keep_fr f5 hHeld.1.2.1, keep_fr f5 hHeld.1.2.2⟩, hHeld.2.trans' f5⟩ | exact ⟨⟨keep_alloc hHeld.1.1, keep_alloc hHeld.1.2.1, keep_alloc hHeld.1.2.2⟩, hHeld.2.alloc _⟩ | exact ⟨⟨keep_row (by have := HG0.out; omega) hHeld.1.1, keep_row (by have := HG0.out; omega) hHeld.1.2.1, keep_row (by have := HG0.out; omega) hHeld.1.2.2⟩, hHeld.2.setRow (fun h => by have := HG0.out; omega) _⟩))
  clear hK K
  try (simp only [Act.put, List.setIfInBounds_toArray]; dsimp only [List.set_cons_zero, List.set_cons_succ])
  refine rtake 11 ?_
  refine wpAnyH_done (by kernel_rfl) ?_ _
  refine NoPanic.normal ?_
  rotate_left
  go_simp
  refine hK.out _ _ ?_ (fun hHeld => ?_)
  · ((try dsimp only) <;> (first | exact ⟨⟨r1, r2, r3⟩, F.drew⟩ | exact ⟨⟨keep_fr f5 hHeld.1.1, keep_fr f5 hHeld.1.2.1, keep_fr f5 hHeld.1.2.2⟩, hHeld.2.trans' f5⟩ | exact ⟨⟨keep_alloc hHeld.1.1, keep_alloc hHeld.1.2.1, keep_alloc hHeld.1.2.2⟩, hHeld.2.alloc _⟩ | exact ⟨⟨keep_row (by have := HG0.out; omega) hHeld.1.1, keep_row (by have := HG0.out; omega) hHeld.1.2.1, keep_row (by have := HG0.out; omega) hHeld.1.2.2⟩, hHeld.2.setRow (fun h => by have := HG0.out; omega) _⟩))
  clear hK K
  try (simp only [Act.put, List.setIfInBounds_toArray]; dsimp only [List.set_cons_zero, List.set_cons_succ])
  refine wpAnyH_ready (rs := [2]) (by kernel_rfl) (by simp) ?_
  refine AllReadyH.cons (o := ⟨_, _, _, _, _, _⟩) rfl (fun K hK => ?_) AllReadyH.nil
  go_simp
  ((with_reducible refine (HD.out _).mono ?_); rintro e w5 ⟨rfl, f5⟩; have z5 := f5.size; (try simp only [World.size_alloc, heap_drew'] at z5))
  refine hK.out _ _ ?_ (fun hHeld => ?_)
  · ((try dsimp only) <;> (first | exact ⟨⟨r1, r2, r3⟩, F.drew⟩ | exact ⟨⟨keep_fr f5 hHeld.1.1, keep_fr f5 hHeld.1.2.1, keep_fr f5 hHeld.1.2.2⟩, hHeld.2.trans' f5⟩ | exact ⟨⟨keep_alloc hHeld.1.1, keep_alloc hHeld.1.2.1, keep_alloc hHeld.1.2.2⟩, hHeld.2.alloc _⟩ | exact ⟨⟨keep_row (by have := HG0.out; omega) hHeld.1.1, keep_row (by have := HG0.out; omega) hHeld.1.2.1, keep_row (by have := HG0.out; omega) hHeld.1.2.2⟩, hHeld.2.setRow (fun h => by have := HG0.out; omega) _⟩))
  clear hK K
  try (simp only [Act.put, List.setIfInBounds_toArray]; dsimp only [List.set_cons_zero, List.set_cons_succ])
  refine rtake 3 ?_
  refine rtake 4 ?_
  refine rtake 5 ?_
  refine rtake 6 ?_
  refine wpAnyH_ready (rs := [9]) (by kernel_rfl) (by simp) ?_
  refine AllReadyH.cons (o := ⟨_, _, _, _, _, _⟩) rfl (fun K hK => ?_) AllReadyH.nil
  go_simp
  (try (rw [rowIn_of (old := rowN .u64 64 4 0) (t' := 35) (by ((try rw [← Array.getElem?_eq_getElem]); repeat (first | exact heap_alloc_new _ _ | exact heap_alloc2_new _ _ _ | refine keep_alloc ?_ | refine keep_fr (by assumption) ?_))) (rowN_size _ _ _ _) (rowN_size _ _ _ _) (rowN_rowOne _ _ _ _)]; go_simp))
  refine hK.out _ _ ?_ (fun hHeld => ?_)
  · ((try dsimp only) <;> (first | exact ⟨⟨r1, r2, r3⟩, F.drew⟩ | exact ⟨⟨keep_fr f5 hHeld.1.1, keep_fr f5 hHeld.1.2.1, keep_fr f5 hHeld.1.2.2⟩, hHeld.2.trans' f5⟩ | exact ⟨⟨keep_alloc hHeld.1.1, keep_alloc hHeld.1.2.1, keep_alloc hHeld.1.2.2⟩, hHeld.2.alloc _⟩ | exact ⟨⟨keep_row (by have := HG0.out; omega) hHeld.1.1, keep_row (by have := HG0.out; omega) hHeld.1.2.1, keep_row (by have := HG0.out; omega) hHeld.1.2.2⟩, hHeld.2.setRow (fun h => by have := HG0.out; omega) _⟩))
  clear hK K
  try (simp only [Act.put, List.setIfInBounds_toArray]; dsimp only [List.set_cons_zero, List.set_cons_succ])
  refine wpAnyH_ready (rs := [10]) (by kernel_rfl) (by simp) ?_
  refine AllReadyH.cons (o := ⟨_, _, _, _, _, _⟩) rfl (fun K hK => ?_) AllReadyH.nil
  go_simp
  (try (rw [rowIn_of (old := rowN .u64 64 4 0) (t' := 35) (by ((try rw [← Array.getElem?_eq_getElem]); repeat (first | exact heap_alloc_new _ _ | exact heap_alloc2_new _ _ _ | refine keep_row (by (try simp only [World.size_alloc]); omega) ?_ | refine keep_alloc ?_ | refine keep_fr (by assumption) ?_))) (rowN_size _ _ _ _) (rowN_size _ _ _ _) (rowN_rowOne _ _ _ _)]; go_simp))
  refine hK.out _ _ ?_ (fun hHeld => ?_)
  · ((try dsimp only) <;> (first | exact ⟨⟨r1, r2, r3⟩, F.drew⟩ | exact ⟨⟨keep_fr f5 hHeld.1.1, keep_fr f5 hHeld.1.2.1, keep_fr f5 hHeld.1.2.2⟩, hHeld.2.trans' f5⟩ | exact ⟨⟨keep_alloc hHeld.1.1, keep_alloc hHeld.1.2.1, keep_alloc hHeld.1.2.2⟩, hHeld.2.alloc _⟩ | exact ⟨⟨keep_row (by have := HG0.out; omega) hHeld.1.1, keep_row (by have := HG0.out; omega) hHeld.1.2.1, keep_row (by have := HG0.out; omega) hHeld.1.2.2⟩, hHeld.2.setRow (fun h => by have := HG0.out; omega) _⟩))
  clear hK K
  try (simp only [Act.put, List.setIfInBounds_toArray]; dsimp only [List.set_cons_zero, List.set_cons_succ])
  refine rtake 11 ?_
  refine wpAnyH_done (by kernel_rfl) ?_ _
  refine NoPanic.normal ?_
  rotate_left
  go_simp
  refine hK.out _ _ ?_ (fun hHeld => ?_)
  · ((try dsimp only) <;> (first | exact ⟨⟨r1, r2, r3⟩, F.drew⟩ | exact ⟨⟨keep_fr f5 hHeld.1.1, keep_fr f5 hHeld.1.2.1, keep_fr f5 hHeld.1.2.2⟩, hHeld.2.trans' f5⟩ | exact ⟨⟨keep_alloc hHeld.1.1, keep_alloc hHeld.1.2.1, keep_alloc hHeld.1.2.2⟩, hHeld.2.alloc _⟩ | exact ⟨⟨keep_row (by have := HG0.out; omega) hHeld.1.1, keep_row (by have := HG0.out; omega) hHeld.1.2.1, keep_row (by have := HG0.out; omega) hHeld.1.2.2⟩, hHeld.2.setRow (fun h => by have := HG0.out; omega) _⟩))
  clear hK K
  try (simp only [Act.put, List.setIfInBounds_toArray]; dsimp only [List.set_cons_zero, List.set_cons_succ])
  refine wpAnyH_ready (rs := [1]) (by kernel_rfl) (by simp) ?_
  refine AllReadyH.cons (o := ⟨_, _, _, _, _, _⟩) rfl (fun K hK => ?_) AllReadyH.nil
  go_simp
  ((with_reducible refine (HO.out _).mono ?_); rintro e w5 ⟨rfl, f5⟩; have z5 := f5.size; (try simp only [World.size_alloc, heap_drew'] at z5))
  refine hK.out _ _ ?_ (fun hHeld => ?_)
  · ((try dsimp only) <;> (first | exact ⟨⟨r1, r2, r3⟩, F.drew⟩ | exact ⟨⟨keep_fr f5 hHeld.1.1, keep_fr f5 hHeld.1.2.1, keep_fr f5 hHeld.1.2.2⟩, hHeld.2.trans' f5⟩ | exact ⟨⟨keep_alloc hHeld.1.1, keep_alloc hHeld.1.2.1, keep_alloc hHeld.1.2.2⟩, hHeld.2.alloc _⟩ | exact ⟨⟨keep_row (by have := HG0.out; omega) hHeld.1.1, keep_row (by have := HG0.out; omega) hHeld.1.2.1, keep_row (by have := HG0.out; omega) hHeld.1.2.2⟩, hHeld.2.setRow (fun h => by have := HG0.out; omega) _⟩))
  clear hK K
  try (simp only [Act.put, List.setIfInBounds_toArray]; dsimp only [List.set_cons_zero, List.set_cons_succ])
  refine wpAnyH_ready (rs := [2]) (by kernel_rfl) (by simp) ?_
  refine AllReadyH.cons (o := ⟨_, _, _, _, _, _⟩) rfl (fun K hK => ?_) AllReadyH.nil
  go_simp
  ((with_reducible refine (HD.out _).mono ?_); rintro e w5 ⟨rfl, f5⟩; have z5 := f5.size; (try simp only [World.size_alloc, heap_drew'] at z5))
  refine hK.out _ _ ?_ (fun hHeld => ?_)
  · ((try dsimp only) <;> (first | exact ⟨⟨r1, r2, r3⟩, F.drew⟩ | exact ⟨⟨keep_fr f5 hHeld.1.1, keep_fr f5 hHeld.1.2.1, keep_fr f5 hHeld.1.2.2⟩, hHeld.2.trans' f5⟩ | exact ⟨⟨keep_alloc hHeld.1.1, keep_alloc hHeld.1.2.1, keep_alloc hHeld.1.2.2⟩, hHeld.2.alloc _⟩ | exact ⟨⟨keep_row (by have := HG0.out; omega) hHeld.1.1, keep_row (by have := HG0.out; omega) hHeld.1.2.1, keep_row (by have := HG0.out; omega) hHeld.1.2.2⟩, hHeld.2.setRow (fun h => by have := HG0.out; omega) _⟩))
  clear hK K
  try (simp only [Act.put, List.setIfInBounds_toArray]; dsimp only [List.set_cons_zero, List.set_cons_succ])
  refine rtake 3 ?_
  refine rtake 4 ?_
  refine rtake 5 ?_
  refine rtake 6 ?_
  refine wpAnyH_ready (rs := [9]) (by kernel_rfl) (by simp) ?_
  refine AllReadyH.cons (o := ⟨_, _, _, _, _, _⟩) rfl (fun K hK => ?_) AllReadyH.nil
  go_simp
  (try (rw [rowIn_of (old := rowN .u64 64 4 0) (t' := 35) (by ((try rw [← Array.getElem?_eq_getElem]); repeat (first | exact heap_alloc_new _ _ | exact heap_alloc2_new _ _ _ | refine keep_alloc ?_ | refine keep_fr (by assumption) ?_))) (rowN_size _ _ _ _) (rowN_size _ _ _ _) (rowN_rowOne _ _ _ _)]; go_simp))
  refine hK.out _ _ ?_ (fun hHeld => ?_)
  · ((try dsimp only) <;> (first | exact ⟨⟨r1, r2, r3⟩, F.drew⟩ | exact ⟨⟨keep_fr f5 hHeld.1.1, keep_fr f5 hHeld.1.2.1, keep_fr f5 hHeld.1.2.2⟩, hHeld.2.trans' f5⟩ | exact ⟨⟨keep_alloc hHeld.1.1, keep_alloc hHeld.1.2.1, keep_alloc hHeld.1.2.2⟩, hHeld.2.alloc _⟩ | exact ⟨⟨keep_row (by have := HG0.out; omega) hHeld.1.1, keep_row (by have := HG0.out; omega) hHeld.1.2.1, keep_row (by have := HG0.out; omega) hHeld.1.2.2⟩, hHeld.2.setRow (fun h => by have := HG0.out; omega) _⟩))
  clear hK K
  try (simp only [Act.put, List.setIfInBounds_toArray]; dsimp only [List.set_cons_zero, List.set_cons_succ])
  refine wpAnyH_ready (rs := [10]) (by kernel_rfl) (by simp) ?_
  refine AllReadyH.cons (o := ⟨_, _, _, _, _, _⟩) rfl (fun K hK => ?_) AllReadyH.nil
  go_simp
  (try (rw [rowIn_of (old := rowN .u64 64 4 0) (t' := 35) (by ((try rw [← Array.getElem?_eq_getElem]); repeat (first | exact heap_alloc_new _ _ | exact heap_alloc2_new _ _ _ | refine keep_row (by (try simp only [World.size_alloc]); omega) ?_ | refine keep_alloc ?_ | refine keep_fr (by assumption) ?_))) (rowN_size _ _ _ _) (rowN_size _ _ _ _) (rowN_rowOne _ _ _ _)]; go_simp))
  refine hK.out _ _ ?_ (fun hHeld => ?_)
  · ((try dsimp only) <;> (first | exact ⟨⟨r1, r2, r3⟩, F.drew⟩ | exact ⟨⟨keep_fr f5 hHeld.1.1, keep_fr f5 hHeld.1.2.1, keep_fr f5 hHeld.1.2.2⟩, hHeld.2.trans' f5⟩ | exact ⟨⟨keep_alloc hHeld.1.1, keep_alloc hHeld.1.2.1, keep_alloc hHeld.1.2.2⟩, hHeld.2.alloc _⟩ | exact ⟨⟨keep_row (by have := HG0.out; omega) hHeld.1.1, keep_row (by have := HG0.out; omega) hHeld.1.2.1, keep_row (by have := HG0.out; omega) hHeld.1.2.2⟩, hHeld.2.setRow (fun h => by have := HG0.out; omega) _⟩))
  clear hK K
  try (simp only [Act.put, List.setIfInBounds_toArray]; dsimp only [List.set_cons_zero, List.set_cons_succ])
  refine rtake 11 ?_
  refine wpAnyH_done (by kernel_rfl) ?_ _
  refine NoPanic.normal ?_
  rotate_left
  all_goals
    refine hK.out ⟨⟨_, rfl, ?_, ?_⟩, hHeld.1, hHeld.2⟩
    · refine keep_row (by (try simp only [World.size_alloc]); omega) (new_row (z := rowN .u64 64 4 0) (t := 35) (f := (0, 0)) ?_)
      repeat (first | exact heap_alloc_new _ _ | exact heap_alloc2_new _ _ _ | refine keep_alloc ?_ | refine keep_fr (by assumption) ?_)
    · have := HG0.out
      (try simp only [World.size_alloc, heap_drew'])
      omega
end Go.Proofs.Ytjlnlbaaiciniaa

/- Layer 11's law AdjustBounds, walked. -/
namespace Go.Proofs.Ytjlnlbaaiciniaa
set_option linter.unusedVariables false
set_option linter.unusedSimpArgs false
open Go.RowKit

set_option maxRecDepth 100000 in
set_option maxHeartbeats 16000000 in
theorem nb16 {s0 s1 s2 s4 s5 s6 s7 s8 s10 s11 s12 s13 s14 s16 s17 s18 s19 s20 s21 s22 s23 s24 s25 s26 s27 s28 s29 s30 s31 s32 s33 s34 s35 s36 s37 s38 s39 s40 s41 s42 s43 s44 s45 s46 s47 s48 s49 s50 s51 s52 s53 s54 s55 s56 s57 s58 s59 s60 s61 s62 s63 s64 s65 s66 s67 s68 s69 s70 s71 s72 s73 s74 s75 s76 s77 s78 s79 s80 s81 s82 s83 s84 s85 s86 s87 s88 s89 s90 s91 s92 s93 s94 s95 s96 s97 s98 s99 s100 s101 s102 s103 s104 s105 s106 s107 s108 s109 s110 : Value} {K : Act → World → Prop} {Q : Exit → Act → World → Prop} (w w6 : World) (C : Array Value) (T N M L D q span g1 g2 g3 p1 : Nat) (HM : RowKit.Hid (∀ w, Calls Try.prog 10 #[.agg C] w fun e w' => e = .returned (.agg (rowN .u64 64 4 M)) ∧ Fr F0 w w')) (HS : RowKit.Hid (∀ w : World, Calls Try.prog 17 #[.agg (rowN .u64 64 4 T), .int .u64 (q : Int), .int .u64 (span : Int), .agg (rowN .u64 64 4 M)] w fun e w' => e = .returned (.tuple #[.agg (rowN .u64 64 4 L), .int .i64 0]) ∧ Fr F0 w w')) (m1 : (span : Int) / 4 = (q : Int)) (m2 : IntKind.u64.wrap (q : Int) = (q : Int)) (m3 : IntKind.u32.wrap (q : Int) = (q : Int)) (m6 : IntKind.u64.wrap (span : Int) = (span : Int)) (hs : C.size = 72) (hc1 : C[1]? = some (.int .u32 (span : Int))) (hs1 : 1 < C.size) (hd1 : C[1] = .int .u32 (span : Int)) (hp : w.heap.size ≤ p1 ∧ p1 ≠ g1 ∧ p1 ≠ g2 ∧ p1 ≠ g3) (r1 : w6.heap[g1]? = some (.cells C 28 (0, 0))) (r2 : w6.heap[g2]? = some (.cells (rowN .u64 64 4 T) 35 (0, 0))) (r3 : w6.heap[g3]? = some (.cells (rowN .u64 64 4 N) 35 (0, 0))) (r4 : w6.heap[p1]? = some (.cells (rowN .u64 64 4 D) 35 (0, 0))) (F : Fr F0 w w6)
    (hK : RowKit.Hid (∀ {u76 u77 u78 u79 u80 u81 u82 u83 u84 u85 u86 u87 u88 u89 : Value} {w' : World}, (w'.heap[p1]? = some (.cells (rowN .u64 64 4 L) 35 (0, 0)) ∧ (w'.heap[g1]? = some (.cells C 28 (0, 0)) ∧ w'.heap[g2]? = some (.cells (rowN .u64 64 4 T) 35 (0, 0)) ∧ w'.heap[g3]? = some (.cells (rowN .u64 64 4 N) 35 (0, 0))) ∧ Fr F0 w w') → K ⟨#[s0, s1, s2, .pointer (some ⟨g1, 0, none⟩), s4, s5, s6, s7, s8, .pointer (some ⟨g2, 0, none⟩), s10, s11, s12, s13, s14, .pointer (some ⟨p1, 0, none⟩), s16, s17, s18, s19, s20, s21, s22, s23, s24, s25, s26, s27, s28, s29, s30, s31, s32, s33, s34, s35, s36, s37, s38, s39, s40, s41, s42, s43, s44, s45, s46, s47, s48, s49, s50, s51, s52, s53, s54, s55, s56, s57, s58, s59, s60, s61, s62, s63, s64, s65, s66, s67, s68, s69, s70, s71, s72, s73, s74, s75, u76, u77, u78, u79, u80, u81, u82, u83, u84, u85, u86, u87, u88, u89, s90, s91, s92, s93, s94, s95, s96, s97, s98, s99, s100, s101, s102, s103, s104, s105, s106, s107, s108, s109, s110], []⟩ w')) :
    Code.wp Try.prog ((Try.f5.body.bind (findRegion 16)).getD .skip) (Exit.then K Q) ⟨#[s0, s1, s2, .pointer (some ⟨g1, 0, none⟩), s4, s5, s6, s7, s8, .pointer (some ⟨g2, 0, none⟩), s10, s11, s12, s13, s14, .pointer (some ⟨p1, 0, none⟩), s16, s17, s18, s19, s20, s21, s22, s23, s24, s25, s26, s27, s28, s29, s30, s31, s32, s33, s34, s35, s36, s37, s38, s39, s40, s41, s42, s43, s44, s45, s46, s47, s48, s49, s50, s51, s52, s53, s54, s55, s56, s57, s58, s59, s60, s61, s62, s63, s64, s65, s66, s67, s68, s69, s70, s71, s72, s73, s74, s75, s76, s77, s78, s79, s80, s81, s82, s83, s84, s85, s86, s87, s88, s89, s90, s91, s92, s93, s94, s95, s96, s97, s98, s99, s100, s101, s102, s103, s104, s105, s106, s107, s108, s109, s110], []⟩ w6 := by
  conv => arg 2; whnf
  have HP := Lib.hid hp
  clear hp
  refine wp_region_noPanic ?_
  refine wp_region_held_drew (S := (fun w' => (w'.heap[g1]? = some (.cells C 28 (0, 0)) ∧ w'.heap[g2]? = some (.cells (rowN .u64 64 4 T) 35 (0, 0)) ∧ w'.heap[g3]? = some (.cells (rowN .u64 64 4 N) 35 (0, 0)) ∧ ∃ d : Nat, w'.heap[p1]? = some (.cells (rowN .u64 64 4 d) 35 (0, 0))) ∧ Fr F0 w w')) (by kernel_rfl) ?_ (fun hHeld => ?_)
  · ((try dsimp only) <;> (first | exact ⟨⟨r1, r2, r3, _, r4⟩, F.drew⟩ | exact ⟨⟨keep_fr f5 hHeld.1.1, keep_fr f5 hHeld.1.2.1, keep_fr f5 hHeld.1.2.2.1, hHeld.1.2.2.2.imp fun _ h => keep_fr f5 h⟩, hHeld.2.trans' f5⟩ | exact ⟨⟨keep_row (by have := HP.out; omega) hHeld.1.1, keep_row (by have := HP.out; omega) hHeld.1.2.1, keep_row (by have := HP.out; omega) hHeld.1.2.2.1, _, new_row hdd⟩, hHeld.2.setRow (fun h => by have := HP.out; omega) _⟩))
  refine rtake 0 ?_
  refine rtake 1 ?_
  refine rtake 2 ?_
  refine rtake 3 ?_
  refine rtake 4 ?_
  refine rtake 5 ?_
  refine rtake 6 ?_
  refine rtake 7 ?_
  refine rtake 8 ?_
  refine wpAnyH_ready (rs := [9]) (by kernel_rfl) (by simp) ?_
  refine AllReadyH.cons (o := ⟨_, _, _, _, _, _⟩) rfl (fun K hK => ?_) AllReadyH.nil
  go_simp
  ((with_reducible refine (HM.out _).mono ?_); rintro e w5 ⟨rfl, f5⟩)
  refine hK.out _ _ ?_ (fun hHeld => ?_)
  · ((try dsimp only) <;> (first | exact ⟨⟨r1, r2, r3, _, r4⟩, F.drew⟩ | exact ⟨⟨keep_fr f5 hHeld.1.1, keep_fr f5 hHeld.1.2.1, keep_fr f5 hHeld.1.2.2.1, hHeld.1.2.2.2.imp fun _ h => keep_fr f5 h⟩, hHeld.2.trans' f5⟩ | exact ⟨⟨keep_row (by have := HP.out; omega) hHeld.1.1, keep_row (by have := HP.out; omega) hHeld.1.2.1, keep_row (by have := HP.out; omega) hHeld.1.2.2.1, _, new_row hdd⟩, hHeld.2.setRow (fun h => by have := HP.out; omega) _⟩))
  clear hK K
  try (simp only [Act.put, List.setIfInBounds_toArray]; dsimp only [List.set_cons_zero, List.set_cons_succ])
  refine wpAnyH_ready (rs := [10]) (by kernel_rfl) (by simp) ?_
  refine AllReadyH.cons (o := ⟨_, _, _, _, _, _⟩) rfl (fun K hK => ?_) AllReadyH.nil
  go_simp
  ((with_reducible refine (HS.out _).mono ?_); rintro e w5 ⟨rfl, f5⟩)
  refine hK.out _ _ ?_ (fun hHeld => ?_)
  · ((try dsimp only) <;> (first | exact ⟨⟨r1, r2, r3, _, r4⟩, F.drew⟩ | exact ⟨⟨keep_fr f5 hHeld.1.1, keep_fr f5 hHeld.1.2.1, keep_fr f5 hHeld.1.2.2.1, hHeld.1.2.2.2.imp fun _ h => keep_fr f5 h⟩, hHeld.2.trans' f5⟩ | exact ⟨⟨keep_row (by have := HP.out; omega) hHeld.1.1, keep_row (by have := HP.out; omega) hHeld.1.2.1, keep_row (by have := HP.out; omega) hHeld.1.2.2.1, _, new_row hdd⟩, hHeld.2.setRow (fun h => by have := HP.out; omega) _⟩))
  clear hK K
  try (simp only [Act.put, List.setIfInBounds_toArray]; dsimp only [List.set_cons_zero, List.set_cons_succ])
  refine rtake 11 ?_
  refine rtake 12 ?_
  refine rtake 13 ?_
  refine wpAnyH_ready (rs := [14]) (by kernel_rfl) (by simp) ?_
  refine AllReadyH.cons (o := ⟨_, _, _, _, _, _⟩) rfl (fun K hK => ?_) AllReadyH.nil
  go_simp
  (obtain ⟨dd, hdd⟩ := hHeld.1.2.2.2; rw [rowIn_of (old := rowN .u64 64 4 dd) (t' := 35) hdd (rowN_size _ _ _ _) (rowN_size _ _ _ _) (rowN_rowOne _ _ _ _)]; go_simp)
  refine hK.out _ _ ?_ (fun hHeld => ?_)
  · ((try dsimp only) <;> (first | exact ⟨⟨r1, r2, r3, _, r4⟩, F.drew⟩ | exact ⟨⟨keep_fr f5 hHeld.1.1, keep_fr f5 hHeld.1.2.1, keep_fr f5 hHeld.1.2.2.1, hHeld.1.2.2.2.imp fun _ h => keep_fr f5 h⟩, hHeld.2.trans' f5⟩ | exact ⟨⟨keep_row (by have := HP.out; omega) hHeld.1.1, keep_row (by have := HP.out; omega) hHeld.1.2.1, keep_row (by have := HP.out; omega) hHeld.1.2.2.1, _, new_row hdd⟩, hHeld.2.setRow (fun h => by have := HP.out; omega) _⟩))
  clear hK K
  try (simp only [Act.put, List.setIfInBounds_toArray]; dsimp only [List.set_cons_zero, List.set_cons_succ])
  refine wpAnyH_done (by kernel_rfl) ?_ _
  refine NoPanic.normal ?_
  all_goals
    exact hK.out ⟨new_row hdd, ⟨hHeld.1.1, hHeld.1.2.1, hHeld.1.2.2.1⟩, hHeld.2⟩
set_option maxRecDepth 100000 in
set_option maxHeartbeats 16000000 in
theorem adjustBounds_core {C : Array Value} {every : Int} {span limit : Nat} {confirm : Int} (h : RuOf C every span limit confirm) (bits : Nat) (k : Int) (V : Nat) (E : Int)
    (HL : Hid (∀ w : World, Calls Try.prog 6 #[] w fun e w' => e = .returned (.bool true) ∧ Fr F0 w w'))
    (H0 : Hid (∀ w, Calls Try.prog 7 #[.agg C, .int .u32 (bits : Int), .int .i64 k] w fun e w' => e = .returned (.tuple #[.int .u32 (V : Int), .int .i64 E]) ∧ Fr F0 w w'))
    (HC : Hid ((¬ E = 0 ∧ V = 0) ∨ (E = 0 ∧ ∃ T N M F4 D R q L K VK X : Nat, ∃ o : Bool, ∃ z1 z2 z3 z4 G : Int, Tells bits T ∧ Tells V N ∧
      Hid (∀ w, Calls Try.prog 10 #[.agg C] w fun e w' => e = .returned (.agg (rowN .u64 64 4 M)) ∧ Fr F0 w w') ∧ Holds2 N M z1 ∧ z1 ≤ 0 ∧
      Hid (∀ w : World, Calls Try.prog 14 #[.agg (rowN .u64 64 4 T), .int .u64 4] w fun e w' => e = .returned (.tuple #[.agg (rowN .u64 64 4 F4), .bool o]) ∧ Fr F0 w w') ∧
      Hid (o = true ∨ (o = false ∧ Holds2 N F4 z2 ∧ z2 ≤ 0)) ∧
      Hid (∀ w : World, Calls Try.prog 16 #[.int .u64 4] w fun e w' => e = .returned (.agg (rowN .u64 64 4 4)) ∧ Fr F0 w w') ∧
      Hid (∀ w : World, Calls Try.prog 15 #[.agg (rowN .u64 64 4 T), .agg (rowN .u64 64 4 4)] w fun e w' => e = .returned (.tuple #[.agg (rowN .u64 64 4 D), .agg (rowN .u64 64 4 R), .int .i64 0]) ∧ Fr F0 w w') ∧
      span / 4 = q ∧ ((span < 4 ∧ L = 0) ∨ (¬ span < 4 ∧ Hid (∀ w : World, Calls Try.prog 17 #[.agg (rowN .u64 64 4 T), .int .u64 (q : Int), .int .u64 (span : Int), .agg (rowN .u64 64 4 M)] w fun e w' => e = .returned (.tuple #[.agg (rowN .u64 64 4 L), .int .i64 0]) ∧ Fr F0 w w'))) ∧
      Holds2 M L z3 ∧ ((z3 < 0 ∧ K = M) ∨ (¬ z3 < 0 ∧ K = L)) ∧
      Hid (∀ w : World, Calls Try.prog 18 #[.agg (rowN .u64 64 4 K)] w fun e w' => e = .returned (.int .u32 (VK : Int)) ∧ Fr F0 w w') ∧
      Hid (∀ w : World, Calls Try.prog 8 #[.int .u32 (VK : Int)] w fun e w' => e = .returned (.tuple #[.agg (rowN .u64 64 4 X), .int .i64 G]) ∧ Fr F0 w w') ∧
      (¬ G = 0 ∨ (G = 0 ∧ Holds2 N X z4 ∧ 0 ≤ z4))))) (w : World) :
    Calls Try.prog 5 #[.agg C, .int .u32 (bits : Int), .int .i64 k] w fun e w' => e = .returned (.bool true) ∧ Fr F0 w w' := by
  obtain ⟨s, c0, c1, c2, c3, _, hlt, _⟩ := h
  have s1 : 1 < C.size := by omega
  have d1 := cell_is c1 s1
  have m6 : IntKind.u64.wrap (span : Int) = (span : Int) := IntWalk.u64_in _ (by omega)
  have HLT := Lib.hid hlt
  clear c0 c2 c3 hlt
  go_enter Try.func5, Try.ntmps5
  go_wp2_with fail
  refine calls_new fun W0 N => ?_
  have r1 := N.new
  have F := N.fr
  clear N
  have HG := Lib.hid (Nat.le_refl w.heap.size)
  generalize hg1 : w.heap.size = g1 at r1
  clear hg1
  (with_reducible refine (HL.out _).mono ?_); rintro e w1 ⟨rfl, f⟩
  replace r1 := keep_fr f r1
  replace F := F.trans' f
  clear f
  go_wp2_with fail
  (with_reducible refine (H0.out _).mono ?_); rintro e w2 ⟨rfl, f⟩
  replace r1 := keep_fr f r1
  replace F := F.trans' f
  clear f
  rcases HC.out with ⟨l1, rfl⟩ | ⟨rfl, T, N, M, F4, D, R, q, L, K, VK, X, o, z1, z2, z3, z4, G, J1, J2, J3, J4, l1, J5, J6, J7, J8, hq, l2, J9, l3, J10, J11, l4⟩
  · clear HC
    go_wp2_with fail
    go_ret
    exact ⟨rfl, F⟩
  · clear HC
    have LL := Lib.hid (And.intro l2 (And.intro l3 l4))
    have m1 : (span : Int) / 4 = (q : Int) := by omega
    have hlt := HLT.out
    have m2 : IntKind.u64.wrap (q : Int) = (q : Int) := IntWalk.u64_in _ (by omega)
    have m3 : IntKind.u32.wrap (q : Int) = (q : Int) := IntWalk.u32_in _ (by omega)
    have l5 : decide (0 < z1) = false := decide_eq_false (by omega)
    clear l1 l2 l3 l4 hq hlt
    go_wp2_with fail
    (with_reducible refine (J1.out _).mono ?_); rintro e w3 ⟨rfl, f⟩
    replace r1 := keep_fr f r1
    replace F := F.trans' f
    clear f
    go_upto_region 7 with fail
    refine wp_put fun W4 NN => ?_
    have r2 := NN.new
    replace r1 := NN.old r1
    replace F := F.trans' NN.fr
    clear NN
    generalize w3.heap.size = g2 at *
    go_wp2_with fail
    (with_reducible refine (J2.out _).mono ?_); rintro e w5 ⟨rfl, f⟩
    replace r1 := keep_fr f r1
    replace r2 := keep_fr f r2
    replace F := F.trans' f
    clear f
    go_upto_region 8 with fail
    refine wp_put fun W6 NN => ?_
    have r3 := NN.new
    replace r1 := NN.old r1
    replace r2 := NN.old r2
    replace F := F.trans' NN.fr
    clear NN
    generalize w5.heap.size = g3 at *
    go_wp2_with fail
    refine wp_region_noPanic ?_
    refine wp_region_held_drew (S := (fun w' => (w'.heap[g1]? = some (.cells C 28 (0, 0)) ∧ w'.heap[g2]? = some (.cells (rowN .u64 64 4 T) 35 (0, 0)) ∧ w'.heap[g3]? = some (.cells (rowN .u64 64 4 N) 35 (0, 0))) ∧ Fr F0 w w')) (by kernel_rfl) ?_ (fun hHeld => ?_)
    · ((try dsimp only) <;> (first | exact ⟨⟨r1, r2, r3⟩, F.drew⟩ | exact ⟨⟨keep_fr f5 hHeld.1.1, keep_fr f5 hHeld.1.2.1, keep_fr f5 hHeld.1.2.2⟩, hHeld.2.trans' f5⟩))
    refine rtake 0 ?_
    refine rtake 1 ?_
    refine rtake 2 ?_
    refine rtake 3 ?_
    refine rtake 4 ?_
    refine wpAnyH_ready (rs := [5]) (by kernel_rfl) (by simp) ?_
    refine AllReadyH.cons (o := ⟨_, _, _, _, _, _⟩) rfl (fun K hK => ?_) AllReadyH.nil
    go_simp
    ((with_reducible refine (J3.out _).mono ?_); rintro e w7 ⟨rfl, f5⟩)
    refine hK.out _ _ ?_ (fun hHeld => ?_)
    · ((try dsimp only) <;> (first | exact ⟨⟨r1, r2, r3⟩, F.drew⟩ | exact ⟨⟨keep_fr f5 hHeld.1.1, keep_fr f5 hHeld.1.2.1, keep_fr f5 hHeld.1.2.2⟩, hHeld.2.trans' f5⟩))
    clear hK K
    try (simp only [Act.put, List.setIfInBounds_toArray]; dsimp only [List.set_cons_zero, List.set_cons_succ])
    refine wpAnyH_ready (rs := [6]) (by kernel_rfl) (by simp) ?_
    refine AllReadyH.cons (o := ⟨_, _, _, _, _, _⟩) rfl (fun K hK => ?_) AllReadyH.nil
    go_simp
    ((with_reducible refine (J4.out _).mono ?_); rintro e w8 ⟨rfl, f5⟩)
    refine hK.out _ _ ?_ (fun hHeld => ?_)
    · ((try dsimp only) <;> (first | exact ⟨⟨r1, r2, r3⟩, F.drew⟩ | exact ⟨⟨keep_fr f5 hHeld.1.1, keep_fr f5 hHeld.1.2.1, keep_fr f5 hHeld.1.2.2⟩, hHeld.2.trans' f5⟩))
    clear hK K
    try (simp only [Act.put, List.setIfInBounds_toArray]; dsimp only [List.set_cons_zero, List.set_cons_succ])
    refine rtake 7 ?_
    refine rtake 8 ?_
    refine wpAnyH_done (by kernel_rfl) ?_ _
    refine NoPanic.normal ?_
    all_goals
      clear r1 r2 r3 F
      obtain ⟨⟨r1, r2, r3⟩, F⟩ := hHeld
      clear l5
      go_wp2_with fail
      (with_reducible refine (J5.out _).mono ?_); rintro e w9 ⟨rfl, f⟩
      replace r1 := keep_fr f r1
      replace r2 := keep_fr f r2
      replace r3 := keep_fr f r3
      replace F := F.trans' f
      clear f
      go_upto_region 11 with fail
      refine wp_put fun W10 NN => ?_
      have r4 := NN.new
      replace r1 := NN.old r1
      replace r2 := NN.old r2
      replace r3 := NN.old r3
      replace F := F.trans' NN.fr
      clear NN
      generalize w9.heap.size = g4 at *
      refine nb11 _ N F4 g3 g4 o z2 J6 r3 r4 (Lib.hid ?_)
      rename_i w11
      rintro ⟨rfl, f⟩
      replace r1 := keep_fr f r1
      replace r2 := keep_fr f r2
      replace r3 := keep_fr f r3
      replace F := F.trans' f
      clear f r4
      go_upto_region 13 with fail
      refine nb13 w _ C T N D R g1 g2 g3 J7 J8 r1 r2 r3 F (Lib.hid ?_)
      clear r1 r2 r3 F
      rename_i w12
      rintro ⟨⟨p1, rfl, r4, hp⟩, ⟨r1, r2, r3⟩, F⟩
      have HP := Lib.hid hp
      clear hp
      rcases LL.out.1 with ⟨l6, rfl⟩ | ⟨l6, JS⟩
      · have l7 : (span : Int) < 4 := by omega
        go_upto_region 17 with fail
        obtain ⟨W14, hW14⟩ : ∃ W, W = w12.setRow p1 (rowN .u64 64 4 0) := ⟨_, rfl⟩
        refine wp_of_world W14 hW14 ?_
        replace r1 : W14.heap[g1]? = some (.cells C 28 (0, 0)) := by rw [hW14]; exact keep_row (by have := HP.out; omega) r1
        replace r3 : W14.heap[g3]? = some (.cells (rowN .u64 64 4 N) 35 (0, 0)) := by rw [hW14]; exact keep_row (by have := HP.out; omega) r3
        replace r4 : W14.heap[p1]? = some (.cells (rowN .u64 64 4 0) 35 (0, 0)) := by rw [hW14]; exact new_row r4
        replace F : Fr F0 w W14 := by rw [hW14]; exact F.setRow (fun h => by have := HP.out; omega) _
        clear hW14 r2 l6 l7
        refine wp_region_noPanic ?_
        refine wp_region_held_drew (S := (fun w' => (w'.heap[g1]? = some (.cells C 28 (0, 0)) ∧ w'.heap[g3]? = some (.cells (rowN .u64 64 4 N) 35 (0, 0)) ∧ w'.heap[p1]? = some (.cells (rowN .u64 64 4 0) 35 (0, 0))) ∧ Fr F0 w w')) (by kernel_rfl) ?_ (fun hHeld => ?_)
        · ((try dsimp only) <;> (first | exact ⟨⟨r1, r3, r4⟩, F.drew⟩ | exact ⟨⟨keep_fr f5 hHeld.1.1, keep_fr f5 hHeld.1.2.1, keep_fr f5 hHeld.1.2.2⟩, hHeld.2.trans' f5⟩))
        refine rtake 0 ?_
        refine rtake 2 ?_
        refine wpAnyH_ready (rs := [1]) (by kernel_rfl) (by simp) ?_
        refine AllReadyH.cons (o := ⟨_, _, _, _, _, _⟩) rfl (fun K hK => ?_) AllReadyH.nil
        go_simp
        ((with_reducible refine (J3.out _).mono ?_); rintro e w15 ⟨rfl, f5⟩)
        refine hK.out _ _ ?_ (fun hHeld => ?_)
        · ((try dsimp only) <;> (first | exact ⟨⟨r1, r3, r4⟩, F.drew⟩ | exact ⟨⟨keep_fr f5 hHeld.1.1, keep_fr f5 hHeld.1.2.1, keep_fr f5 hHeld.1.2.2⟩, hHeld.2.trans' f5⟩))
        clear hK K
        try (simp only [Act.put, List.setIfInBounds_toArray]; dsimp only [List.set_cons_zero, List.set_cons_succ])
        refine wpAnyH_ready (rs := [3]) (by kernel_rfl) (by simp) ?_
        refine AllReadyH.cons (o := ⟨_, _, _, _, _, _⟩) rfl (fun K hK => ?_) AllReadyH.nil
        go_simp
        ((with_reducible refine (J9.out _).mono ?_); rintro e w16 ⟨rfl, f5⟩)
        refine hK.out _ _ ?_ (fun hHeld => ?_)
        · ((try dsimp only) <;> (first | exact ⟨⟨r1, r3, r4⟩, F.drew⟩ | exact ⟨⟨keep_fr f5 hHeld.1.1, keep_fr f5 hHeld.1.2.1, keep_fr f5 hHeld.1.2.2⟩, hHeld.2.trans' f5⟩))
        clear hK K
        try (simp only [Act.put, List.setIfInBounds_toArray]; dsimp only [List.set_cons_zero, List.set_cons_succ])
        refine rtake 4 ?_
        refine wpAnyH_done (by kernel_rfl) ?_ _
        refine NoPanic.normal ?_
        all_goals
          clear r1 r3 r4 F
          obtain ⟨⟨r1, r3, r4⟩, F⟩ := hHeld
          rcases LL.out.2.1 with ⟨l6, rfl⟩ | ⟨l6, rfl⟩
          · have l9 : z3 < 0 := by omega
            clear l6
            go_wp2_with fail
            (with_reducible refine (J3.out _).mono ?_); rintro e w17 ⟨rfl, f⟩
            replace r1 := keep_fr f r1
            replace r3 := keep_fr f r3
            replace r4 := keep_fr f r4
            replace F := F.trans' f
            clear f
            go_upto_region 19 with fail
            obtain ⟨W18, hW18⟩ : ∃ W, W = w17.setRow p1 (rowN .u64 64 4 K) := ⟨_, rfl⟩
            refine wp_of_world W18 hW18 ?_
            replace r3 : W18.heap[g3]? = some (.cells (rowN .u64 64 4 N) 35 (0, 0)) := by rw [hW18]; exact keep_row (by have := HP.out; omega) r3
            replace r4 : W18.heap[p1]? = some (.cells (rowN .u64 64 4 K) 35 (0, 0)) := by rw [hW18]; exact new_row r4
            replace F : Fr F0 w W18 := by rw [hW18]; exact F.setRow (fun h => by have := HP.out; omega) _
            clear hW18 r1
            go_wp2_with fail
            (with_reducible refine (J10.out _).mono ?_); rintro e w20 ⟨rfl, f⟩
            replace r3 := keep_fr f r3
            replace F := F.trans' f
            clear f
            go_wp2_with fail
            (with_reducible refine (J11.out _).mono ?_); rintro e w21 ⟨rfl, f⟩
            replace r3 := keep_fr f r3
            replace F := F.trans' f
            clear f
            go_upto_region 20 with fail
            refine wp_put fun W22 NN => ?_
            have r6 := NN.new
            replace r3 := NN.old r3
            replace F := F.trans' NN.fr
            clear NN
            generalize w21.heap.size = g6 at *
            rcases LL.out.2.2 with l7 | ⟨rfl, J12, l7⟩
            · have l8 : ¬ G = 0 := l7
              go_wp2_with fail
              go_ret
              exact ⟨rfl, F⟩
            · have l8 : decide (0 ≤ z4) = true := decide_eq_true (by omega)
              clear l7
              go_wp2_with fail
              (with_reducible refine (J12.out _).mono ?_); rintro e w23 ⟨rfl, f⟩
              replace F := F.trans' f
              clear f
              go_wp2_with fail
              go_ret
              exact ⟨by simp, F⟩
          · have l9 : ¬ z3 < 0 := by omega
            clear l6
            go_upto_region 19 with fail
            go_wp2_with fail
            (with_reducible refine (J10.out _).mono ?_); rintro e w20 ⟨rfl, f⟩
            replace r3 := keep_fr f r3
            replace F := F.trans' f
            clear f
            go_wp2_with fail
            (with_reducible refine (J11.out _).mono ?_); rintro e w21 ⟨rfl, f⟩
            replace r3 := keep_fr f r3
            replace F := F.trans' f
            clear f
            go_upto_region 20 with fail
            refine wp_put fun W22 NN => ?_
            have r6 := NN.new
            replace r3 := NN.old r3
            replace F := F.trans' NN.fr
            clear NN
            generalize w21.heap.size = g6 at *
            rcases LL.out.2.2 with l7 | ⟨rfl, J12, l7⟩
            · have l8 : ¬ G = 0 := l7
              go_wp2_with fail
              go_ret
              exact ⟨rfl, F⟩
            · have l8 : decide (0 ≤ z4) = true := decide_eq_true (by omega)
              clear l7
              go_wp2_with fail
              (with_reducible refine (J12.out _).mono ?_); rintro e w23 ⟨rfl, f⟩
              replace F := F.trans' f
              clear f
              go_wp2_with fail
              go_ret
              exact ⟨by simp, F⟩
      · have l7 : ¬ (span : Int) < 4 := by omega
        go_upto_region 16 with fail
        refine nb16 w _ C T N M L D q span g1 g2 g3 p1 J3 JS m1 m2 m3 m6 s c1 s1 d1 HP.out r1 r2 r3 r4 F (Lib.hid ?_)
        clear r1 r2 r3 r4 F
        rename_i w14
        rintro ⟨r4, ⟨r1, r2, r3⟩, F⟩
        clear r2 l6 l7
        go_upto_region 17 with fail
        refine wp_region_noPanic ?_
        refine wp_region_held_drew (S := (fun w' => (w'.heap[g1]? = some (.cells C 28 (0, 0)) ∧ w'.heap[g3]? = some (.cells (rowN .u64 64 4 N) 35 (0, 0)) ∧ w'.heap[p1]? = some (.cells (rowN .u64 64 4 L) 35 (0, 0))) ∧ Fr F0 w w')) (by kernel_rfl) ?_ (fun hHeld => ?_)
        · ((try dsimp only) <;> (first | exact ⟨⟨r1, r3, r4⟩, F.drew⟩ | exact ⟨⟨keep_fr f5 hHeld.1.1, keep_fr f5 hHeld.1.2.1, keep_fr f5 hHeld.1.2.2⟩, hHeld.2.trans' f5⟩))
        refine rtake 0 ?_
        refine rtake 2 ?_
        refine wpAnyH_ready (rs := [1]) (by kernel_rfl) (by simp) ?_
        refine AllReadyH.cons (o := ⟨_, _, _, _, _, _⟩) rfl (fun K hK => ?_) AllReadyH.nil
        go_simp
        ((with_reducible refine (J3.out _).mono ?_); rintro e w15 ⟨rfl, f5⟩)
        refine hK.out _ _ ?_ (fun hHeld => ?_)
        · ((try dsimp only) <;> (first | exact ⟨⟨r1, r3, r4⟩, F.drew⟩ | exact ⟨⟨keep_fr f5 hHeld.1.1, keep_fr f5 hHeld.1.2.1, keep_fr f5 hHeld.1.2.2⟩, hHeld.2.trans' f5⟩))
        clear hK K
        try (simp only [Act.put, List.setIfInBounds_toArray]; dsimp only [List.set_cons_zero, List.set_cons_succ])
        refine wpAnyH_ready (rs := [3]) (by kernel_rfl) (by simp) ?_
        refine AllReadyH.cons (o := ⟨_, _, _, _, _, _⟩) rfl (fun K hK => ?_) AllReadyH.nil
        go_simp
        ((with_reducible refine (J9.out _).mono ?_); rintro e w16 ⟨rfl, f5⟩)
        refine hK.out _ _ ?_ (fun hHeld => ?_)
        · ((try dsimp only) <;> (first | exact ⟨⟨r1, r3, r4⟩, F.drew⟩ | exact ⟨⟨keep_fr f5 hHeld.1.1, keep_fr f5 hHeld.1.2.1, keep_fr f5 hHeld.1.2.2⟩, hHeld.2.trans' f5⟩))
        clear hK K
        try (simp only [Act.put, List.setIfInBounds_toArray]; dsimp only [List.set_cons_zero, List.set_cons_succ])
        refine rtake 4 ?_
        refine wpAnyH_done (by kernel_rfl) ?_ _
        refine NoPanic.normal ?_
        all_goals
          clear r1 r3 r4 F
          obtain ⟨⟨r1, r3, r4⟩, F⟩ := hHeld
          rcases LL.out.2.1 with ⟨l6, rfl⟩ | ⟨l6, rfl⟩
          · have l9 : z3 < 0 := by omega
            clear l6
            go_wp2_with fail
            (with_reducible refine (J3.out _).mono ?_); rintro e w17 ⟨rfl, f⟩
            replace r1 := keep_fr f r1
            replace r3 := keep_fr f r3
            replace r4 := keep_fr f r4
            replace F := F.trans' f
            clear f
            go_upto_region 19 with fail
            obtain ⟨W18, hW18⟩ : ∃ W, W = w17.setRow p1 (rowN .u64 64 4 K) := ⟨_, rfl⟩
            refine wp_of_world W18 hW18 ?_
            replace r3 : W18.heap[g3]? = some (.cells (rowN .u64 64 4 N) 35 (0, 0)) := by rw [hW18]; exact keep_row (by have := HP.out; omega) r3
            replace r4 : W18.heap[p1]? = some (.cells (rowN .u64 64 4 K) 35 (0, 0)) := by rw [hW18]; exact new_row r4
            replace F : Fr F0 w W18 := by rw [hW18]; exact F.setRow (fun h => by have := HP.out; omega) _
            clear hW18 r1
            go_wp2_with fail
            (with_reducible refine (J10.out _).mono ?_); rintro e w20 ⟨rfl, f⟩
            replace r3 := keep_fr f r3
            replace F := F.trans' f
            clear f
            go_wp2_with fail
            (with_reducible refine (J11.out _).mono ?_); rintro e w21 ⟨rfl, f⟩
            replace r3 := keep_fr f r3
            replace F := F.trans' f
            clear f
            go_upto_region 20 with fail
            refine wp_put fun W22 NN => ?_
            have r6 := NN.new
            replace r3 := NN.old r3
            replace F := F.trans' NN.fr
            clear NN
            generalize w21.heap.size = g6 at *
            rcases LL.out.2.2 with l7 | ⟨rfl, J12, l7⟩
            · have l8 : ¬ G = 0 := l7
              go_wp2_with fail
              go_ret
              exact ⟨rfl, F⟩
            · have l8 : decide (0 ≤ z4) = true := decide_eq_true (by omega)
              clear l7
              go_wp2_with fail
              (with_reducible refine (J12.out _).mono ?_); rintro e w23 ⟨rfl, f⟩
              replace F := F.trans' f
              clear f
              go_wp2_with fail
              go_ret
              exact ⟨by simp, F⟩
          · have l9 : ¬ z3 < 0 := by omega
            clear l6
            go_upto_region 19 with fail
            go_wp2_with fail
            (with_reducible refine (J10.out _).mono ?_); rintro e w20 ⟨rfl, f⟩
            replace r3 := keep_fr f r3
            replace F := F.trans' f
            clear f
            go_wp2_with fail
            (with_reducible refine (J11.out _).mono ?_); rintro e w21 ⟨rfl, f⟩
            replace r3 := keep_fr f r3
            replace F := F.trans' f
            clear f
            go_upto_region 20 with fail
            refine wp_put fun W22 NN => ?_
            have r6 := NN.new
            replace r3 := NN.old r3
            replace F := F.trans' NN.fr
            clear NN
            generalize w21.heap.size = g6 at *
            rcases LL.out.2.2 with l7 | ⟨rfl, J12, l7⟩
            · have l8 : ¬ G = 0 := l7
              go_wp2_with fail
              go_ret
              exact ⟨rfl, F⟩
            · have l8 : decide (0 ≤ z4) = true := decide_eq_true (by omega)
              clear l7
              go_wp2_with fail
              (with_reducible refine (J12.out _).mono ?_); rintro e w23 ⟨rfl, f⟩
              replace F := F.trans' f
              clear f
              go_wp2_with fail
              go_ret
              exact ⟨by simp, F⟩

theorem sgn_le0 {x y : Nat} (h : x ≤ y) : sgn x y ≤ 0 := by unfold sgn; split <;> (try split) <;> omega
theorem sgn_ge0 {x y : Nat} (h : y ≤ x) : 0 ≤ sgn x y := by unfold sgn; split <;> (try split) <;> omega
theorem enB_0 : ¬ btP (enB 0) := by decide +kernel
/-- The least that the next target is, ahead of its bits. -/
def leastN (t span m : Nat) : Nat := if span < 4 then 0 else scN t (span / 4) span m

theorem adjustBounds_any {C : Array Value} {every : Int} {span limit : Nat} {confirm : Int} (h : RuOf C every span limit confirm) (bits : Nat) (hb : bits < 4294967296) (k : Int) (w : World) :
    Calls Try.prog 5 #[.agg C, .int .u32 (bits : Int), .int .i64 k] w fun e w' => e = .returned (.bool true) ∧ Fr F0 w w' := by
  have HL := Lib.hid (lives11_any decC encC scaleC)
  have H0 := Lib.hid (jNext_any decC encC scaleC h bits hb k)
  refine adjustBounds_core h bits k _ _ HL H0 (Lib.hid ?_) w
  by_cases hpl : btP bits ∧ btP limit
  · obtain ⟨hp, hl⟩ := hpl
    by_cases h0 : 0 < span
    · refine .inr ⟨(nx_yes k ⟨hp, hl⟩ h0).2, ?_⟩
      rw [(nx_yes k ⟨hp, hl⟩ h0).1]
      have hM : topN limit = btT limit := if_pos hl
      have hM0 : 0 < topN limit := by rw [hM]; exact hl.2.1
      have hMw := topN_lt limit
      have hT := topN_lt limit
      have hTw := btT_lt hp
      have hT0 := hp.2.1
      have s0 := sc_tells (k := k) hp hl h0
      rw [← hM] at s0 ⊢
      have hS0 : 0 < scN (btT bits) (tkN span k) span (topN limit) := sc_pos _ _ _ _ hM0
      have hSw : scN (btT bits) (tkN span k) span (topN limit) < W256 := scN_wide hMw
      have hSM : scN (btT bits) (tkN span k) span (topN limit) ≤ topN limit := sc_most _ _ _ _ hM0
      have hS4 : scN (btT bits) (tkN span k) span (topN limit) ≤ 4 * btT bits := sc_four _ _ _ _ hT0 h0 (tkN_le h0 k)
      have hNS := (en_back hS0 hSw).2.1
      have hspan := h.span_lt
      have hLM : leastN (btT bits) span (topN limit) ≤ topN limit := by
        unfold leastN; split
        · omega
        · exact sc_most _ _ _ _ hM0
      have hLw : leastN (btT bits) span (topN limit) < W256 := by omega
      have hLS : leastN (btT bits) span (topN limit) ≤ scN (btT bits) (tkN span k) span (topN limit) := by
        unfold leastN; split
        · omega
        · exact sc_mono _ _ _ _ _ (tkN_ge h0 k) hM0
      have hDec : ∃ X : Nat, ∃ G : Int, ∃ z4 : Int, Hid (∀ w : World, Calls Try.prog 8 #[.int .u32 ((enB (leastN (btT bits) span (topN limit)) : Nat) : Int)] w fun e w' => e = .returned (.tuple #[.agg (rowN .u64 64 4 X), .int .i64 G]) ∧ Fr F0 w w') ∧
          (¬ G = 0 ∨ (G = 0 ∧ Holds2 (btT (enB (scN (btT bits) (tkN span k) span (topN limit)))) X z4 ∧ 0 ≤ z4)) := by
        by_cases hq : btP (enB (leastN (btT bits) span (topN limit)))
        · refine ⟨_, 0, _, Lib.hid ((decC _ (enB_lt hLw)).1 hq), .inr ⟨rfl, holds2_of (btT_lt s0.1) (btT_lt hq), sgn_ge0 ?_⟩⟩
          have hpos : 0 < leastN (btT bits) span (topN limit) := Nat.pos_of_ne_zero fun e => by rw [e] at hq; exact enB_0 hq
          have := cut_mono hpos hLS
          rwa [← enB_T, ← enB_T] at this
        · exact ⟨_, 6, 0, Lib.hid ((decC _ (enB_lt hLw)).2 hq), .inl (by omega)⟩
      obtain ⟨X, G, z4, hX, hG⟩ := hDec
      refine ⟨btT bits, _, topN limit, _, _, _, span / 4, leastN (btT bits) span (topN limit), leastN (btT bits) span (topN limit), _, X, _, _, sgn (btT (enB (scN (btT bits) (tkN span k) span (topN limit)))) (btT bits * 4 % W256), _, z4, G,
        tells_of hp hb, tells_of s0.1 s0.2, Lib.hid (jTop_any decC h), holds2_of (btT_lt s0.1) hMw, sgn_le0 (by omega), Lib.hid (wMul_any (btT bits) 4 hTw (by omega)), Lib.hid ?_, Lib.hid (wOf_any 4 (by omega)),
        Lib.hid (wDiv_any (btT bits) 4 hTw (word_w (by omega)) (by omega)), rfl, ?_, holds2_of hMw hLw, .inr ⟨by have := sgn_ge0 hLM; omega, rfl⟩, Lib.hid (encC _ hLw), hX, hG⟩
      · by_cases ho : W256 ≤ btT bits * 4
        · exact .inl (decide_eq_true ho)
        · refine .inr ⟨decide_eq_false ho, holds2_of (btT_lt s0.1) (Nat.mod_lt _ W256_pos), sgn_le0 ?_⟩
          rw [Nat.mod_eq_of_lt (by omega)]
          omega
      · by_cases h4 : span < 4
        · exact .inl ⟨h4, if_pos h4⟩
        · refine .inr ⟨h4, Lib.hid ?_⟩
          have hW := scaleC (btT bits) (span / 4) span (topN limit) hTw (by omega) (by omega) hMw
          rw [scV, if_neg (by omega), if_neg (by omega), scE, if_neg (by omega), if_neg (by omega)] at hW
          rw [leastN, if_neg h4]
          exact hW
    · obtain rfl : span = 0 := by omega
      exact .inl ⟨by rw [(nx_zero k ⟨hp, hl⟩).2]; omega, (nx_zero _ ⟨hp, hl⟩).1⟩
  · exact .inl ⟨by rw [(nx_no k hpl).2]; omega, (nx_no _ hpl).1⟩
theorem adjustBounds_all {C : Array Value} {every : Int} {span limit : Nat} {confirm : Int} (h : RuOf C every span limit confirm) (bits : Nat) (k : Int) (hb : bits < 4294967296) (hk : -9223372036854775808 ≤ k ∧ k ≤ 9223372036854775807) (w : World) :
    Calls Try.prog 5 #[.agg C, .int .u32 (bits : Int), .int .i64 k] w fun e w' => e = .returned (.bool true) ∧ Fr F0 w w' := adjustBounds_any h bits hb k w
end Go.Proofs.Ytjlnlbaaiciniaa
