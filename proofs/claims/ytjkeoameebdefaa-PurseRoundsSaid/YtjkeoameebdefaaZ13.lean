import Derived.Test.YtjkeoameebdefaaZ1
import Derived.Test.YtjkeoameebdefaaZ12
/- Layer 16 (purse): In, of the law. -/
namespace Go.Proofs.Ytjkeoameebdefaa
set_option maxRecDepth 100000
set_option linter.unusedVariables false
set_option linter.unusedSimpArgs false
open Go.RowKit
attribute [-go_sem] cell_at

set_option maxRecDepth 100000 in
set_option maxHeartbeats 16000000 in
theorem do16_in_ok {base : Nat} {w : World} {q p m n t h i o : Nat} {ob : Option Nat} {f : Nat → Nat} (D : D16 base w q p ob m n f t h i o) (hn : n < maxLen) {a x : Nat} (ha : a < 256) (hx : i + x ≤ 4611686018427387904) :
    Calls Try.prog 8 #[.pointer (some ⟨q, 0, none⟩), .pointer (some ⟨m, 0, none⟩), .agg (actD 0 a x)] w fun e w' => e = .returned (.bool true) ∧ (∃ ob', D16 base w' q p ob' m (n + 1) (upd f a (f a + x)) (t + x) h (i + x) o) ∧ Fr (DX base) w w' := by
  have HD := Lib.hid D
  have HC := Lib.hid (fun (W : World) (P : PG W q p ob n f t h i o) => puIn_ok P hn ha hx)
  have hs := D.pur.sum
  have hle := D.pur.le
  have ho := D.pur.inv.one ha
  have q1 : decide ((4611686018427387904 : Int) < (x : Int)) = false := decide_eq_false (by omega)
  have m0 : IntKind.u64.wrap (4611686018427387904 - (x : Int)) = ((4611686018427387904 - x : Nat) : Int) := by rw [IntWalk.u64_in _ (by omega)]; omega
  have q2 : decide (4611686018427387904 - x < i) = false := decide_eq_false (by omega)
  have q3 : decide (4611686018427387904 - x < i - o) = false := decide_eq_false (by omega)
  have m1 : IntKind.u64.wrap ((i : Int) + (x : Int)) = ((i + x : Nat) : Int) := by rw [IntWalk.u64_in _ (by omega)]; omega
  have m2 : IntKind.u64.wrap ((f a : Int) + (x : Int)) = ((f a + x : Nat) : Int) := by rw [IntWalk.u64_in _ (by omega)]; omega
  have HM := Lib.hid (fun (W : World) (M : MD W m f h i o) => mall16_any M (show o ≤ i by omega) (show i < 18446744073709551616 by omega))
  have l1 : (a : Int) < 256 := by omega
  obtain ⟨z, hz⟩ : ∃ z, 4611686018427387904 - x = z := ⟨_, rfl⟩
  rw [hz] at m0 q2 q3
  obtain ⟨d, hd⟩ : ∃ d, i - o = d := ⟨_, rfl⟩
  rw [hd] at q3 HM
  clear hz hd
  obtain ⟨y, hy⟩ : ∃ y, i + x = y := ⟨_, rfl⟩
  rw [hy] at m1 HC ⊢
  obtain ⟨v, hv⟩ : ∃ v, f a + x = v := ⟨_, rfl⟩
  rw [hv] at m2 HC ⊢
  clear hy hv
  clear hs ho hle hx hn 
  go_enter Try.func8, Try.ntmps8
  go_upto_region 1 with fail
  refine wp_new fun W1 N1 => ?_
  have r5 := N1.new
  have F := N1.fr
  obtain ⟨g, hg⟩ : ∃ g, g = w.heap.size := ⟨_, rfl⟩
  rw [← hg] at r5 ⊢
  obtain ⟨c0, c1, c2⟩ := act_cell r5
  have HG := Lib.hid hg
  clear N1 hg D
  go_wp2_with fail
  refine (HC.out W1 (HD.out.pur.fr0 F)).mono ?_; rintro e w2 ⟨rfl, ob2, P2, o2, f2⟩
  have ng : ¬ PS q p ob g := fun hk => by
    have h1 := HG.out
    have h2 := HD.out.lt
    rcases hk with e | e | e
    · omega
    · omega
    · have := HD.out.pur.led.map.lt e; omega
  have gm : ¬ g = m := by have h1 := HG.out; have h2 := HD.out.lt; omega
  have r52 := f2.keeps ng r5
  have M2 := (HD.out.mod.fr F (fun x => x)).fr f2 HD.out.nm
  clear c0 c1 c2 r5
  obtain ⟨c0, c1, c2⟩ := act_cell r52
  have H2 := Lib.hid (And.intro P2 (And.intro (o2.of F) (And.intro F (And.intro f2 (And.intro r52 (And.intro M2 gm))))))
  have HMD := Lib.hid (fun (W : World) (F : Fr F0 w2 W) => HM.out W (M2.fr F fun x => x))
  have c7 := M2.inn
  have F9 := Fr.refl F0 w2
  clear P2 o2 f2 F ng gm r52 M2 HM HC
  go_upto_region 16 with fail
  refine rbegin (S := (fun w' => (w'.cell? ⟨g, 2, none⟩ = some (.int .u64 (x : Int)) ∧ w'.cell? ⟨m, 257, none⟩ = some (.int .u64 (i : Int))) ∧ Fr F0 w2 w')) ?_ fun hHeld => ?_
  · ((try dsimp only) <;> (exact ⟨⟨c2, c7⟩, F9.drew⟩))
  refine rtake 0 ?_
  refine rtake 1 ?_
  refine rtake 2 ?_
  refine rtake 3 ?_
  refine rtake 4 ?_
  refine rtake 5 ?_
  refine rtake 6 ?_
  refine rtake 7 ?_
  refine rtake 8 ?_
  refine rtake 9 ?_
  refine rtake 11 ?_
  refine rtake 12 ?_
  refine rtake 13 ?_
  refine rone 10 fun K hK => ?_
  go_simp
  ((with_reducible refine (HMD.out _ hHeld.2).mono ?_); rintro e w5 ⟨rfl, f5⟩)
  refine hK.out _ _ ?_ (fun hHeld => ?_)
  · ((try dsimp only) <;> (first | exact hHeld | exact ⟨⟨f5.cell (fun e => e) hHeld.1.1, f5.cell (fun e => e) hHeld.1.2⟩, hHeld.2.trans' f5⟩))
  clear hK K
  try (simp only [Act.put, aST]; dsimp only [aS0, aS1])
  refine rtake 14 ?_
  refine rtake 15 ?_
  refine rtake 16 ?_
  refine rdone ?_
  all_goals
    have y2 := hHeld.1.1
    have y7 := hHeld.1.2
    have M5 := H2.out.2.2.2.2.2.1.fr hHeld.2 (fun x => x)
    have z7 : Obj.frozenAt 257 w5.heap[m]? = false := M5.frozen 257
    have H3 := Lib.hid hHeld.2
    clear c0 c1 c2 c7 f5 hHeld HMD F9 q1 q2 q3 m0
    replace M5 := Lib.hid M5
    go_upto_region 12 with fail
    go_region
    go_upto_region 13 with fail
    clear y2 y7 z7 hHeld
    replace M5 := M5.out
    have M6 : MD (w5.setCell ⟨m, 257, none⟩ (.int .u64 (y : Nat))).drew m f h y o := (M5.setI y).drew
    have f6 : Fr (fun k => k = m) w5 (w5.setCell ⟨m, 257, none⟩ (.int .u64 (y : Nat))).drew := MD.put
    generalize (w5.setCell ⟨m, 257, none⟩ (.int .u64 (y : Nat))).drew = w6 at *
    obtain ⟨_, y1, y2⟩ := act_cell (f6.keeps H2.out.2.2.2.2.2.2 (H3.out.keeps (fun x => x) H2.out.2.2.2.2.1))
    have y7 := M6.cell ha
    have z7 : Obj.frozenAt a w6.heap[m]? = false := M6.frozen a
    have H6 := Lib.hid (And.intro M6 f6)
    have HA := Lib.hid ha
    obtain ⟨fa, hfa⟩ : ∃ fa, f a = fa := ⟨_, rfl⟩
    rw [hfa] at y7 m2
    clear M6 f6 hfa ha m1 M5
    go_region
    go_wp2_with fail
    go_ret
    exact ⟨rfl, HD.out.done H2.out.2.2.1 H2.out.2.2.2.1 H2.out.2.1 H3.out (H6.out.2.trans' MD.put) H2.out.1 (H6.out.1.setF HA.out v).drew⟩
end Go.Proofs.Ytjkeoameebdefaa
