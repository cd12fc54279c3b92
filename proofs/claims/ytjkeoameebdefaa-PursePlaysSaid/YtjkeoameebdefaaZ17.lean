import Derived.Test.YtjkeoameebdefaaZ1
import Derived.Test.YtjkeoameebdefaaZ12
/- Layer 16 (purse): what is refused, of the law. -/
namespace Go.Proofs.Ytjkeoameebdefaa
set_option maxRecDepth 100000
set_option linter.unusedVariables false
set_option linter.unusedSimpArgs false
open Go.RowKit
attribute [-go_sem] cell_at

set_option maxRecDepth 100000 in
set_option maxHeartbeats 16000000 in
theorem do16_in_bad {base : Nat} {w : World} {q p m n t h i o : Nat} {ob : Option Nat} {f : Nat → Nat} (D : D16 base w q p ob m n f t h i o) (hn : n < maxLen) {a x : Nat} (ha : a < 256) (hx : 4611686018427387904 < i + x) (hx2 : x < 18446744073709551616) (hb : 4611686018427387904 < x) :
    Calls Try.prog 8 #[.pointer (some ⟨q, 0, none⟩), .pointer (some ⟨m, 0, none⟩), .agg (actD 0 a x)] w fun e w' => e = .returned (.bool true) ∧ (∃ ob', D16 base w' q p ob' m (n + 1) f t h i o) ∧ Fr (DX base) w w' := by
  have HD := Lib.hid D
  have HC := Lib.hid (fun (W : World) (P : PG W q p ob n f t h i o) => puIn_no (a := a) P hx hx2)
  have hs := D.pur.sum
  have hle := D.pur.le
  have ho := D.pur.inv.one ha
  rw [show overE x = 1 from if_pos hb] at HC
  have q1 : decide ((4611686018427387904 : Int) < (x : Int)) = true := decide_eq_true (by omega)
  have q1' : (4611686018427387904 : Int) < (x : Int) := by omega
  clear hs ho hle hx hn hx2 hb
  go_enter Try.func8, Try.ntmps8
  go_upto_region 1 with fail
  refine wp_new fun W1 N1 => ?_
  have r5 := N1.new
  have F := N1.fr
  obtain ⟨g, hg⟩ : ∃ g, g = w.heap.size := ⟨_, rfl⟩
  rw [← hg] at r5 ⊢
  obtain ⟨c0, c1, c2⟩ := act_cell r5
  have HG := Lib.hid hg
  clear N1 hg D
  go_wp2_with fail
  refine (HC.out W1 (HD.out.pur.fr0 F)).mono ?_; rintro e w2 ⟨rfl, ob2, P2, o2, f2⟩
  have ng : ¬ PS q p ob g := fun hk => by
    have h1 := HG.out
    have h2 := HD.out.lt
    rcases hk with e | e | e
    · omega
    · omega
    · have := HD.out.pur.led.map.lt e; omega
  have r52 := f2.keeps ng r5
  have M2 := (HD.out.mod.fr F (fun x => x)).fr f2 HD.out.nm
  clear c0 c1 c2 r5
  obtain ⟨c0, c1, c2⟩ := act_cell r52
  have H2 := Lib.hid (And.intro (P2.mono (Nat.le_succ n)) (And.intro (o2.of F) (And.intro F (And.intro f2 (And.intro r52 M2)))))
  clear P2 o2 f2 F ng HC r52 M2
  go_wp2_with fail
  go_ret
  exact ⟨rfl, HD.out.done H2.out.2.2.1 H2.out.2.2.2.1 H2.out.2.1 (Fr.refl F0 w2) (Fr.refl (fun k => k = m) _) H2.out.1 H2.out.2.2.2.2.2⟩

set_option maxRecDepth 100000 in
set_option maxHeartbeats 16000000 in
theorem do16_in_no {base : Nat} {w : World} {q p m n t h i o : Nat} {ob : Option Nat} {f : Nat → Nat} (D : D16 base w q p ob m n f t h i o) (hn : n < maxLen) {a x : Nat} (ha : a < 256) (hx : 4611686018427387904 < i + x) (hx2 : x < 18446744073709551616) (hb : x ≤ 4611686018427387904) :
    Calls Try.prog 8 #[.pointer (some ⟨q, 0, none⟩), .pointer (some ⟨m, 0, none⟩), .agg (actD 0 a x)] w fun e w' => e = .returned (.bool true) ∧ (∃ ob', D16 base w' q p ob' m (n + 1) f t h i o) ∧ Fr (DX base) w w' := by
  have HD := Lib.hid D
  have HC := Lib.hid (fun (W : World) (P : PG W q p ob n f t h i o) => puIn_no (a := a) P hx hx2)
  have hs := D.pur.sum
  have hle := D.pur.le
  have ho := D.pur.inv.one ha
  rw [show overE x = 4 from if_neg (by omega)] at HC
  have q1 : decide ((4611686018427387904 : Int) < (x : Int)) = false := decide_eq_false (by omega)
  have l1 : (a : Int) < 256 := by omega
  have m0 : IntKind.u64.wrap (4611686018427387904 - (x : Int)) = ((4611686018427387904 - x : Nat) : Int) := by rw [IntWalk.u64_in _ (by omega)]; omega
  have q2 : decide (4611686018427387904 - x < i) = true := decide_eq_true (by omega)
  obtain ⟨z, hz⟩ : ∃ z, 4611686018427387904 - x = z := ⟨_, rfl⟩
  rw [hz] at m0 q2
  clear hz
  clear hs ho hle hx hn hx2 hb
  go_enter Try.func8, Try.ntmps8
  go_upto_region 1 with fail
  refine wp_new fun W1 N1 => ?_
  have r5 := N1.new
  have F := N1.fr
  obtain ⟨g, hg⟩ : ∃ g, g = w.heap.size := ⟨_, rfl⟩
  rw [← hg] at r5 ⊢
  obtain ⟨c0, c1, c2⟩ := act_cell r5
  have HG := Lib.hid hg
  clear N1 hg D
  go_wp2_with fail
  refine (HC.out W1 (HD.out.pur.fr0 F)).mono ?_; rintro e w2 ⟨rfl, ob2, P2, o2, f2⟩
  have ng : ¬ PS q p ob g := fun hk => by
    have h1 := HG.out
    have h2 := HD.out.lt
    rcases hk with e | e | e
    · omega
    · omega
    · have := HD.out.pur.led.map.lt e; omega
  have r52 := f2.keeps ng r5
  have M2 := (HD.out.mod.fr F (fun x => x)).fr f2 HD.out.nm
  clear c0 c1 c2 r5
  obtain ⟨c0, c1, c2⟩ := act_cell r52
  have H2 := Lib.hid (And.intro (P2.mono (Nat.le_succ n)) (And.intro (o2.of F) (And.intro F (And.intro f2 (And.intro r52 M2)))))
  have c7 := M2.inn
  have F9 := Fr.refl F0 w2
  clear P2 o2 f2 F ng HC r52 M2
  go_upto_region 16 with fail
  refine rbegin (S := (fun w' => (w'.cell? ⟨g, 2, none⟩ = some (.int .u64 (x : Int)) ∧ w'.cell? ⟨m, 257, none⟩ = some (.int .u64 (i : Int))) ∧ Fr F0 w2 w')) ?_ fun hHeld => ?_
  · ((try dsimp only) <;> (exact ⟨⟨c2, c7⟩, F9.drew⟩))
  refine rtake 0 ?_
  refine rtake 1 ?_
  refine rtake 2 ?_
  refine rtake 3 ?_
  refine rtake 4 ?_
  refine rtake 5 ?_
  refine rtake 6 ?_
  refine rtake 7 ?_
  refine rtake 8 ?_
  refine rleave 9 ?_
  refine rleave 10 ?_
  refine rleave 11 ?_
  refine rleave 12 ?_
  refine rleave 13 ?_
  refine rleave 14 ?_
  refine rtake 15 ?_
  refine rtake 16 ?_
  refine rdone ?_
  go_wp2_with fail
  go_ret
  exact ⟨rfl, HD.out.done H2.out.2.2.1 H2.out.2.2.2.1 H2.out.2.1 (Fr.refl F0 w2).drew (Fr.refl (fun k => k = m) _) H2.out.1 H2.out.2.2.2.2.2⟩

set_option maxRecDepth 100000 in
set_option maxHeartbeats 16000000 in
theorem do16_out_bad {base : Nat} {w : World} {q p m n t h i o : Nat} {ob : Option Nat} {f : Nat → Nat} (D : D16 base w q p ob m n f t h i o) (hn : n < maxLen) {a x : Nat} (ha : a < 256) (hx : f a < x) (hx2 : x < 18446744073709551616) (hb : 4611686018427387904 < x) :
    Calls Try.prog 8 #[.pointer (some ⟨q, 0, none⟩), .pointer (some ⟨m, 0, none⟩), .agg (actD 1 a x)] w fun e w' => e = .returned (.bool true) ∧ (∃ ob', D16 base w' q p ob' m (n + 1) f t h i o) ∧ Fr (DX base) w w' := by
  have HD := Lib.hid D
  have HC := Lib.hid (fun (W : World) (P : PG W q p ob n f t h i o) => puOut_no P hn ha hx hx2)
  have hs := D.pur.sum
  have hle := D.pur.le
  have ho := D.pur.inv.one ha
  rw [show fewE x = 1 from if_pos hb] at HC
  have q1 : decide ((4611686018427387904 : Int) < (x : Int)) = true := decide_eq_true (by omega)
  have q1' : (4611686018427387904 : Int) < (x : Int) := by omega
  clear hs ho hle hx hn hx2 hb
  go_enter Try.func8, Try.ntmps8
  go_upto_region 1 with fail
  refine wp_new fun W1 N1 => ?_
  have r5 := N1.new
  have F := N1.fr
  obtain ⟨g, hg⟩ : ∃ g, g = w.heap.size := ⟨_, rfl⟩
  rw [← hg] at r5 ⊢
  obtain ⟨c0, c1, c2⟩ := act_cell r5
  have HG := Lib.hid hg
  clear N1 hg D
  go_wp2_with fail
  refine (HC.out W1 (HD.out.pur.fr0 F)).mono ?_; rintro e w2 ⟨rfl, ob2, P2, o2, f2⟩
  have ng : ¬ PS q p ob g := fun hk => by
    have h1 := HG.out
    have h2 := HD.out.lt
    rcases hk with e | e | e
    · omega
    · omega
    · have := HD.out.pur.led.map.lt e; omega
  have r52 := f2.keeps ng r5
  have M2 := (HD.out.mod.fr F (fun x => x)).fr f2 HD.out.nm
  clear c0 c1 c2 r5
  obtain ⟨c0, c1, c2⟩ := act_cell r52
  have H2 := Lib.hid (And.intro P2 (And.intro (o2.of F) (And.intro F (And.intro f2 (And.intro r52 M2)))))
  clear P2 o2 f2 F ng HC r52 M2
  go_wp2_with fail
  go_ret
  exact ⟨rfl, HD.out.done H2.out.2.2.1 H2.out.2.2.2.1 H2.out.2.1 (Fr.refl F0 w2) (Fr.refl (fun k => k = m) _) H2.out.1 H2.out.2.2.2.2.2⟩

set_option maxRecDepth 100000 in
set_option maxHeartbeats 16000000 in
theorem do16_out_no {base : Nat} {w : World} {q p m n t h i o : Nat} {ob : Option Nat} {f : Nat → Nat} (D : D16 base w q p ob m n f t h i o) (hn : n < maxLen) {a x : Nat} (ha : a < 256) (hx : f a < x) (hx2 : x < 18446744073709551616) (hb : x ≤ 4611686018427387904) :
    Calls Try.prog 8 #[.pointer (some ⟨q, 0, none⟩), .pointer (some ⟨m, 0, none⟩), .agg (actD 1 a x)] w fun e w' => e = .returned (.bool true) ∧ (∃ ob', D16 base w' q p ob' m (n + 1) f t h i o) ∧ Fr (DX base) w w' := by
  have HD := Lib.hid D
  have HC := Lib.hid (fun (W : World) (P : PG W q p ob n f t h i o) => puOut_no P hn ha hx hx2)
  have hs := D.pur.sum
  have hle := D.pur.le
  have ho := D.pur.inv.one ha
  rw [show fewE x = 16 from if_neg (by omega)] at HC
  have q1 : decide ((4611686018427387904 : Int) < (x : Int)) = false := decide_eq_false (by omega)
  have l1 : (a : Int) < 256 := by omega
  have q2 : decide (f a < x) = true := decide_eq_true (by omega)
  have q3 : f a < x := hx
  clear hs ho hle hx hn hx2 hb
  go_enter Try.func8, Try.ntmps8
  go_upto_region 1 with fail
  refine wp_new fun W1 N1 => ?_
  have r5 := N1.new
  have F := N1.fr
  obtain ⟨g, hg⟩ : ∃ g, g = w.heap.size := ⟨_, rfl⟩
  rw [← hg] at r5 ⊢
  obtain ⟨c0, c1, c2⟩ := act_cell r5
  have HG := Lib.hid hg
  clear N1 hg D
  go_wp2_with fail
  refine (HC.out W1 (HD.out.pur.fr0 F)).mono ?_; rintro e w2 ⟨rfl, ob2, P2, o2, f2⟩
  have ng : ¬ PS q p ob g := fun hk => by
    have h1 := HG.out
    have h2 := HD.out.lt
    rcases hk with e | e | e
    · omega
    · omega
    · have := HD.out.pur.led.map.lt e; omega
  have r52 := f2.keeps ng r5
  have M2 := (HD.out.mod.fr F (fun x => x)).fr f2 HD.out.nm
  clear c0 c1 c2 r5
  obtain ⟨c0, c1, c2⟩ := act_cell r52
  have H2 := Lib.hid (And.intro P2 (And.intro (o2.of F) (And.intro F (And.intro f2 (And.intro r52 M2)))))
  have ca := M2.cell ha
  obtain ⟨fb, hfb⟩ : ∃ fb, f a = fb := ⟨_, rfl⟩
  rw [hfb] at ca q2 q3
  replace hfb := Lib.hid hfb
  clear P2 o2 f2 F ng HC r52 M2
  go_upto_region 24 with fail
  go_region
  go_wp2_with fail
  go_ret
  exact ⟨rfl, HD.out.done H2.out.2.2.1 H2.out.2.2.2.1 H2.out.2.1 (Fr.refl F0 w2).drew (Fr.refl (fun k => k = m) _) H2.out.1 H2.out.2.2.2.2.2⟩

set_option maxRecDepth 100000 in
set_option maxHeartbeats 16000000 in
theorem do16_hold_bad {base : Nat} {w : World} {q p m n t h i o : Nat} {ob : Option Nat} {f : Nat → Nat} (D : D16 base w q p ob m n f t h i o) (hn : n < maxLen) {a x : Nat} (ha : a < 256) (hx : f a < x) (hx2 : x < 18446744073709551616) (hb : 4611686018427387904 < x) :
    Calls Try.prog 8 #[.pointer (some ⟨q, 0, none⟩), .pointer (some ⟨m, 0, none⟩), .agg (actD 2 a x)] w fun e w' => e = .returned (.bool true) ∧ (∃ ob', D16 base w' q p ob' m (n + 1) f t h i o) ∧ Fr (DX base) w w' := by
  have HD := Lib.hid D
  have HC := Lib.hid (fun (W : World) (P : PG W q p ob n f t h i o) => puHold_no P hn ha hx hx2)
  have hs := D.pur.sum
  have hle := D.pur.le
  have ho := D.pur.inv.one ha
  rw [show fewE x = 1 from if_pos hb] at HC
  have q1 : decide ((4611686018427387904 : Int) < (x : Int)) = true := decide_eq_true (by omega)
  have q1' : (4611686018427387904 : Int) < (x : Int) := by omega
  clear hs ho hle hx hn hx2 hb
  go_enter Try.func8, Try.ntmps8
  go_upto_region 1 with fail
  refine wp_new fun W1 N1 => ?_
  have r5 := N1.new
  have F := N1.fr
  obtain ⟨g, hg⟩ : ∃ g, g = w.heap.size := ⟨_, rfl⟩
  rw [← hg] at r5 ⊢
  obtain ⟨c0, c1, c2⟩ := act_cell r5
  have HG := Lib.hid hg
  clear N1 hg D
  go_wp2_with fail
  refine (HC.out W1 (HD.out.pur.fr0 F)).mono ?_; rintro e w2 ⟨rfl, ob2, P2, o2, f2⟩
  have ng : ¬ PS q p ob g := fun hk => by
    have h1 := HG.out
    have h2 := HD.out.lt
    rcases hk with e | e | e
    · omega
    · omega
    · have := HD.out.pur.led.map.lt e; omega
  have r52 := f2.keeps ng r5
  have M2 := (HD.out.mod.fr F (fun x => x)).fr f2 HD.out.nm
  clear c0 c1 c2 r5
  obtain ⟨c0, c1, c2⟩ := act_cell r52
  have H2 := Lib.hid (And.intro P2 (And.intro (o2.of F) (And.intro F (And.intro f2 (And.intro r52 M2)))))
  clear P2 o2 f2 F ng HC r52 M2
  go_wp2_with fail
  go_ret
  exact ⟨rfl, HD.out.done H2.out.2.2.1 H2.out.2.2.2.1 H2.out.2.1 (Fr.refl F0 w2) (Fr.refl (fun k => k = m) _) H2.out.1 H2.out.2.2.2.2.2⟩

set_option maxRecDepth 100000 in
set_option maxHeartbeats 16000000 in
theorem do16_hold_no {base : Nat} {w : World} {q p m n t h i o : Nat} {ob : Option Nat} {f : Nat → Nat} (D : D16 base w q p ob m n f t h i o) (hn : n < maxLen) {a x : Nat} (ha : a < 256) (hx : f a < x) (hx2 : x < 18446744073709551616) (hb : x ≤ 4611686018427387904) :
    Calls Try.prog 8 #[.pointer (some ⟨q, 0, none⟩), .pointer (some ⟨m, 0, none⟩), .agg (actD 2 a x)] w fun e w' => e = .returned (.bool true) ∧ (∃ ob', D16 base w' q p ob' m (n + 1) f t h i o) ∧ Fr (DX base) w w' := by
  have HD := Lib.hid D
  have HC := Lib.hid (fun (W : World) (P : PG W q p ob n f t h i o) => puHold_no P hn ha hx hx2)
  have hs := D.pur.sum
  have hle := D.pur.le
  have ho := D.pur.inv.one ha
  rw [show fewE x = 16 from if_neg (by omega)] at HC
  have q1 : decide ((4611686018427387904 : Int) < (x : Int)) = false := decide_eq_false (by omega)
  have l1 : (a : Int) < 256 := by omega
  have q2 : decide (f a < x) = true := decide_eq_true (by omega)
  have q3 : f a < x := hx
  clear hs ho hle hx hn hx2 hb
  go_enter Try.func8, Try.ntmps8
  go_upto_region 1 with fail
  refine wp_new fun W1 N1 => ?_
  have r5 := N1.new
  have F := N1.fr
  obtain ⟨g, hg⟩ : ∃ g, g = w.heap.size := ⟨_, rfl⟩
  rw [← hg] at r5 ⊢
  obtain ⟨c0, c1, c2⟩ := act_cell r5
  have HG := Lib.hid hg
  clear N1 hg D
  go_wp2_with fail
  refine (HC.out W1 (HD.out.pur.fr0 F)).mono ?_; rintro e w2 ⟨rfl, ob2, P2, o2, f2⟩
  have ng : ¬ PS q p ob g := fun hk => by
    have h1 := HG.out
    have h2 := HD.out.lt
    rcases hk with e | e | e
    · omega
    · omega
    · have := HD.out.pur.led.map.lt e; omega
  have r52 := f2.keeps ng r5
  have M2 := (HD.out.mod.fr F (fun x => x)).fr f2 HD.out.nm
  clear c0 c1 c2 r5
  obtain ⟨c0, c1, c2⟩ := act_cell r52
  have H2 := Lib.hid (And.intro P2 (And.intro (o2.of F) (And.intro F (And.intro f2 (And.intro r52 M2)))))
  have ca := M2.cell ha
  obtain ⟨fb, hfb⟩ : ∃ fb, f a = fb := ⟨_, rfl⟩
  rw [hfb] at ca q2 q3
  replace hfb := Lib.hid hfb
  clear P2 o2 f2 F ng HC r52 M2
  go_upto_region 34 with fail
  go_region
  go_wp2_with fail
  go_ret
  exact ⟨rfl, HD.out.done H2.out.2.2.1 H2.out.2.2.2.1 H2.out.2.1 (Fr.refl F0 w2).drew (Fr.refl (fun k => k = m) _) H2.out.1 H2.out.2.2.2.2.2⟩

set_option maxRecDepth 100000 in
set_option maxHeartbeats 16000000 in
theorem do16_free_bad {base : Nat} {w : World} {q p m n t h i o : Nat} {ob : Option Nat} {f : Nat → Nat} (D : D16 base w q p ob m n f t h i o) (hn : n < maxLen) {a x : Nat} {kd : Int} (k0 : ¬ kd = 0) (k1 : ¬ kd = 1) (k2 : ¬ kd = 2) (ha : a < 256) (hx : h < x) (hx2 : x < 18446744073709551616) (hb : 4611686018427387904 < x) :
    Calls Try.prog 8 #[.pointer (some ⟨q, 0, none⟩), .pointer (some ⟨m, 0, none⟩), .agg (actD kd a x)] w fun e w' => e = .returned (.bool true) ∧ (∃ ob', D16 base w' q p ob' m (n + 1) f t h i o) ∧ Fr (DX base) w w' := by
  have HD := Lib.hid D
  have HC := Lib.hid (fun (W : World) (P : PG W q p ob n f t h i o) => puFree_no (a := a) P hx hx2)
  have hs := D.pur.sum
  have hle := D.pur.le
  have ho := D.pur.inv.one ha
  rw [show fewE x = 1 from if_pos hb] at HC
  have p0 : (kd == 0) = false := by simp [k0]
  have p1 : (kd == 1) = false := by simp [k1]
  have p2 : (kd == 2) = false := by simp [k2]
  clear k0 k1 k2
  have q1 : decide ((4611686018427387904 : Int) < (x : Int)) = true := decide_eq_true (by omega)
  have q1' : (4611686018427387904 : Int) < (x : Int) := by omega
  clear hs ho hle hx hn hx2 hb
  go_enter Try.func8, Try.ntmps8
  go_upto_region 1 with fail
  refine wp_new fun W1 N1 => ?_
  have r5 := N1.new
  have F := N1.fr
  obtain ⟨g, hg⟩ : ∃ g, g = w.heap.size := ⟨_, rfl⟩
  rw [← hg] at r5 ⊢
  obtain ⟨c0, c1, c2⟩ := act_cell r5
  have HG := Lib.hid hg
  clear N1 hg D
  go_wp2_with fail
  refine (HC.out W1 (HD.out.pur.fr0 F)).mono ?_; rintro e w2 ⟨rfl, ob2, P2, o2, f2⟩
  have ng : ¬ PS q p ob g := fun hk => by
    have h1 := HG.out
    have h2 := HD.out.lt
    rcases hk with e | e | e
    · omega
    · omega
    · have := HD.out.pur.led.map.lt e; omega
  have r52 := f2.keeps ng r5
  have M2 := (HD.out.mod.fr F (fun x => x)).fr f2 HD.out.nm
  clear c0 c1 c2 r5
  obtain ⟨c0, c1, c2⟩ := act_cell r52
  have H2 := Lib.hid (And.intro (P2.mono (Nat.le_succ n)) (And.intro (o2.of F) (And.intro F (And.intro f2 (And.intro r52 M2)))))
  clear P2 o2 f2 F ng HC r52 M2
  go_wp2_with fail
  go_ret
  exact ⟨rfl, HD.out.done H2.out.2.2.1 H2.out.2.2.2.1 H2.out.2.1 (Fr.refl F0 w2) (Fr.refl (fun k => k = m) _) H2.out.1 H2.out.2.2.2.2.2⟩

set_option maxRecDepth 100000 in
set_option maxHeartbeats 16000000 in
theorem do16_free_no {base : Nat} {w : World} {q p m n t h i o : Nat} {ob : Option Nat} {f : Nat → Nat} (D : D16 base w q p ob m n f t h i o) (hn : n < maxLen) {a x : Nat} {kd : Int} (k0 : ¬ kd = 0) (k1 : ¬ kd = 1) (k2 : ¬ kd = 2) (ha : a < 256) (hx : h < x) (hx2 : x < 18446744073709551616) (hb : x ≤ 4611686018427387904) :
    Calls Try.prog 8 #[.pointer (some ⟨q, 0, none⟩), .pointer (some ⟨m, 0, none⟩), .agg (actD kd a x)] w fun e w' => e = .returned (.bool true) ∧ (∃ ob', D16 base w' q p ob' m (n + 1) f t h i o) ∧ Fr (DX base) w w' := by
  have HD := Lib.hid D
  have HC := Lib.hid (fun (W : World) (P : PG W q p ob n f t h i o) => puFree_no (a := a) P hx hx2)
  have hs := D.pur.sum
  have hle := D.pur.le
  have ho := D.pur.inv.one ha
  rw [show fewE x = 16 from if_neg (by omega)] at HC
  have p0 : (kd == 0) = false := by simp [k0]
  have p1 : (kd == 1) = false := by simp [k1]
  have p2 : (kd == 2) = false := by simp [k2]
  clear k0 k1 k2
  have q1 : decide ((4611686018427387904 : Int) < (x : Int)) = false := decide_eq_false (by omega)
  have l1 : (a : Int) < 256 := by omega
  have q2 : decide (h < x) = true := decide_eq_true (by omega)
  have q3 : h < x := hx
  clear hs ho hle hx hn hx2 hb
  go_enter Try.func8, Try.ntmps8
  go_upto_region 1 with fail
  refine wp_new fun W1 N1 => ?_
  have r5 := N1.new
  have F := N1.fr
  obtain ⟨g, hg⟩ : ∃ g, g = w.heap.size := ⟨_, rfl⟩
  rw [← hg] at r5 ⊢
  obtain ⟨c0, c1, c2⟩ := act_cell r5
  have HG := Lib.hid hg
  clear N1 hg D
  go_wp2_with fail
  refine (HC.out W1 (HD.out.pur.fr0 F)).mono ?_; rintro e w2 ⟨rfl, ob2, P2, o2, f2⟩
  have ng : ¬ PS q p ob g := fun hk => by
    have h1 := HG.out
    have h2 := HD.out.lt
    rcases hk with e | e | e
    · omega
    · omega
    · have := HD.out.pur.led.map.lt e; omega
  have r52 := f2.keeps ng r5
  have M2 := (HD.out.mod.fr F (fun x => x)).fr f2 HD.out.nm
  clear c0 c1 c2 r5
  obtain ⟨c0, c1, c2⟩ := act_cell r52
  have H2 := Lib.hid (And.intro (P2.mono (Nat.le_succ n)) (And.intro (o2.of F) (And.intro F (And.intro f2 (And.intro r52 M2)))))
  have ca := M2.held
  clear P2 o2 f2 F ng HC r52 M2
  go_upto_region 8 with fail
  go_region
  go_wp2_with fail
  go_ret
  exact ⟨rfl, HD.out.done H2.out.2.2.1 H2.out.2.2.2.1 H2.out.2.1 (Fr.refl F0 w2).drew (Fr.refl (fun k => k = m) _) H2.out.1 H2.out.2.2.2.2.2⟩

end Go.Proofs.Ytjkeoameebdefaa
