import Derived.Test.YtjkeoameebdefaaZ18
import Derived.Test.YtjkeoameebdefaaZ20
import Derived.Test.YtjkeoameebdefaaZ10
import Derived.Test.YtjkeoameebdefaaZ4
import Derived.ProofKit
import Derived.Deep.Slices
import Derived.Deep.Fields
import Derived.OpenShut
import Derived.Below
import Derived.Test.YtjkeoameebdefaaZ1
/- Layer 16 (purse): what is done, in memory; a new purse and a new model; PurseRounds. -/
namespace Go.Proofs.Ytjkeoameebdefaa
set_option maxRecDepth 100000
set_option linter.unusedVariables false
set_option linter.unusedSimpArgs false
open Go.RowKit

theorem Try.szAct16 : (Try.prog.info? 34).map (·.size) = some 3 := by kernel_rfl
@[go_sem ↓ high] theorem load_act16 (p : Value) : Instr.loadAt 34 p = loadRowAt 34 p := rfl
@[go_sem ↓ high] theorem store_act16 (p v : Value) : Instr.storeAt 34 p v = storeRowAt 34 p v := rfl
@[go_sem] theorem run_load_act16 (w : World) (g : Nat) : (loadRowAt 34 (.pointer (some ⟨g, 0, none⟩))).run Try.prog w = rowOut Try.prog 34 (.pointer (some ⟨g, 0, none⟩)) w 3 w.heap[g]? :=
  run_loadRowAt w _ g 3 _ Try.underlying34 rfl Try.szAct16
@[go_sem] theorem run_store_act16 (w : World) (g : Nat) (cells : Array Value) : (storeRowAt 34 (.pointer (some ⟨g, 0, none⟩)) (.agg cells)).run Try.prog w = rowIn Try.prog 34 (.pointer (some ⟨g, 0, none⟩)) cells g w 3 w.heap[g]? :=
  run_storeRowAt w _ g 3 cells Try.szAct16
/-- What is done, in memory. -/
structure ActsD (w : World) (a : Option Addr) (n : Nat) : Prop where
  at_ : ∀ k, k < n → ∃ b off kd x z, a = some ⟨b, off, none⟩ ∧ x < 256 ∧ z < 18446744073709551616 ∧ ∀ W, Fr F0 w W → (loadRowAt 34 (.pointer (some ⟨b, off + k * 3, none⟩))).run Try.prog W = .ok (.agg #[.int .i64 kd, .int .u8 (x : Nat), .int .u64 (z : Nat)]) W
/-- A new model's cells. -/
def zM : Array Value := Array.replicate 259 (.int .u64 0)
theorem zM_is : Try.zeroCells32 = zM := by kernel_rfl
theorem made16 {base : Nat} {w : World} {q p : Nat} (P : PG w q p none 0 (fun _ => 0) 0 0 0 0) (hq : base ≤ q) (hp : base ≤ p) (hb : base ≤ w.heap.size) {W : World} {m : Nat} (N : NewRow w W m Try.zeroCells32 32) (hm : m = w.heap.size) :
    D16 base W q p none m 0 (fun _ => 0) 0 0 0 0 ∧ Fr F0 w W := by
  have hl := P.lt
  have hl2 := P.led.lt
  have hN := N.new
  rw [zM_is] at hN
  refine ⟨⟨P.fr0 N.fr, ⟨zM, hN, by simp [zM], fun k hk => ?_, ?_, ?_, ?_⟩, by omega, by omega, (fun e => by cases e), hq, hp, by omega, fun B e => by cases e⟩, N.fr⟩
  · simp [zM, show k < 259 by omega]
  · simp [zM]
  · simp [zM]
  · simp [zM]

theorem DX.fr16 {w W W' : World} (f : Fr F0 w W) (g : Fr (DX w.heap.size) W W') : Fr F0 w W' := f.trans g fun i hi h => absurd h (Nat.not_le.2 hi)
theorem OB.trans {w w1 : World} {a b c : Option Nat} (s : w.heap.size ≤ w1.heap.size) (h : OB w a b) (g : OB w1 b c) : OB w a c := by
  rcases g with g | ⟨g1, B, g2, g3⟩
  · rw [g]; exact h
  · rcases h with h | ⟨h1, C, h2, h3⟩
    · exact .inr ⟨by rw [← h]; exact g1, B, g2, Nat.le_trans s g3⟩
    · rw [h2] at g1; cases g1
theorem D16.ps2 {base : Nat} {w : World} {q p m n t h i o : Nat} {ob ob' : Option Nat} {f : Nat → Nat} (d : D16 base w q p ob m n f t h i o) (b : OB w ob ob') {k : Nat} (hk : PS q p ob' k) : base ≤ k := by
  rcases hk with e | e | e
  · rw [e]; exact d.bq
  · rw [e]; exact d.bp
  · rcases b with b | ⟨_, C, b, hc⟩
    · exact d.bo k (by rw [← b]; exact e)
    · rw [e] at b
      have := Option.some.inj b
      have := d.lt
      have := d.bp
      omega
/-- Held, and freed again. -/
theorem D16.again {base : Nat} {w w4 w5 : World} {q p m n n' t h i o : Nat} {ob ob1 ob2 : Option Nat} {f : Nat → Nat} (D : D16 base w q p ob m n f t h i o) (o1 : OB w ob ob1) (f1 : Fr (PS q p ob) w w4) (o2 : OB w4 ob1 ob2) (f2 : Fr (PS q p ob1) w4 w5)
    (P : PG w5 q p ob2 n' f t h i o) : D16 base w5 q p ob2 m n' f t h i o ∧ Fr (DX base) w w5 := by
  have n1 : ¬ PS q p ob1 m := fun hk => by
    rcases hk with e | e | e
    · exact D.mq e
    · exact D.mp e
    · exact D.om2 o1 e
  exact ⟨D.step (o1.trans f1.size o2) P ((D.mod.fr f1 D.nm).fr f2 n1), (f1.mono fun k _ h => D.ps h).trans' (f2.mono fun k _ h => D.ps2 o1 h)⟩

set_option maxRecDepth 100000 in
set_option maxHeartbeats 16000000 in
theorem purseRounds_any {w : World} {a1 : Option Addr} {n c : Nat} (h1 : ActsD w a1 n) {a x : Nat} (ha : a < 256) (hx : x < 18446744073709551616) :
    Calls Try.prog 3 #[.slice a1 n c, .int .u8 (a : Int), .int .u64 (x : Int)] w fun e w' => e = .returned (.bool true) ∧ Fr F0 w w' := by
  have HA := Lib.hid h1
  have HL := Lib.hid (fun W => lives16_any W)
  have HN := Lib.hid (fun W => puNew_any W)
  have HX := Lib.hid (And.intro ha hx)
  clear h1 ha hx
  go_enter Try.func3, Try.ntmps3
  by_cases hb1 : 40 < n
  · have g1 : 40 < n := hb1
    clear HN HA hb1
    go_wp2_with fail
    (with_reducible refine (HL.out w).mono ?_); rintro e w1 ⟨rfl, f1⟩
    have F1 := Lib.hid f1
    clear f1
    go_wp2_with fail
    (with_reducible refine (HL.out w1).mono ?_); rintro e w2 ⟨rfl, f2⟩
    have F2 := Lib.hid (F1.out.trans' f2)
    clear f2
    go_wp2_with fail
    go_ret
    exact ⟨rfl, F2.out⟩
  have b1 : n ≤ 40 := by omega
  have l1 : ¬ 40 < n := by omega
  clear hb1
  go_wp2_with fail
  (with_reducible refine (HL.out w).mono ?_); rintro e w1 ⟨rfl, f1⟩
  have F1 := Lib.hid f1
  clear f1
  go_wp2_with fail
  (with_reducible refine (HN.out w1).mono ?_); rintro e w2 ⟨q, p, rfl, P2, f2, hq, hp⟩
  have F2 := Lib.hid (And.intro P2 (And.intro (F1.out.trans' f2) (And.intro (Nat.le_trans F1.out.size hq) (Nat.le_trans F1.out.size hp))))
  clear P2 f2 hq hp HL HN
  go_upto_region 4 with fail
  refine wp_new fun W5 N5 => ?_
  obtain ⟨m, hm⟩ : ∃ m, m = w2.heap.size := ⟨_, rfl⟩
  rw [← hm] at N5 ⊢
  obtain ⟨D0, f5⟩ := made16 F2.out.1 F2.out.2.2.1 F2.out.2.2.2 F2.out.2.1.size N5 hm
  have F5 := Lib.hid (F2.out.2.1.trans' f5)
  replace D0 := Lib.hid D0
  clear f5 F1 F2 N5 hm
  generalize Try.zeroCells32 = Z at *
  go_wp2_with fail
  go_loopw [24] (fun iv wr => ∃ (k t h i o : Nat) (f : Nat → Nat) (ob : Option Nat), iv = .int .i64 (k : Int) ∧ k ≤ n ∧ D16 w.heap.size wr q p ob m k f t h i o ∧ Fr F0 w wr) (fun iv _ => n - (intOf iv).toNat)
  case atStart => exact ⟨0, 0, 0, 0, 0, _, none, rfl, by omega, D0.out, F5.out⟩
  case round =>
    clear D0 F5
    obtain ⟨k, t, h, i, o, f, ob, rfl, hk, D, F⟩ := hrel
    by_cases h1 : k < n
    · have l1 : (k : Int) < (n : Int) := by omega
      obtain ⟨b, off, kd, y, z, rfl, hy, hz, hld⟩ := HA.out.at_ k h1
      have lds := hld wr F
      have oS : rowOne #[Value.int .i64 kd, .int .u8 (y : Int), .int .u64 (z : Int)] := by unfold rowOne; kernel_rfl
      have k1 : IntKind.i64.wrap ((k : Int) + 1) = ((k + 1 : Nat) : Int) := w64n (by omega) (by omega)
      have HDo := Lib.hid (fun (W : World) (g : Fr F0 wr W) => do16_any (D.fr0 g) (show k < maxLen by unfold maxLen; omega) kd hy hz)
      unfold actD at HDo
      have HF := Lib.hid (And.intro F h1)
      clear hld hy hz D F h1
      go_upto_region 7 with fail
      refine wp_put fun W3 N => ?_
      have r9 := N.new
      have F3 := N.fr
      clear N lds
      obtain ⟨g9, hg9⟩ : ∃ g, wr.heap.size = g := ⟨_, rfl⟩
      rw [hg9] at r9 ⊢
      clear hg9
      have HD3 := Lib.hid (And.intro (HDo.out W3 F3) F3)
      clear F3 HDo
      go_wp2_with fail
      (with_reducible refine HD3.out.1.mono ?_); rintro e w4 ⟨rfl, ⟨ob', f', t', h', i', o', D4⟩, f4⟩
      have HD4 := Lib.hid (And.intro D4 (DX.fr16 (HF.out.1.trans' HD3.out.2) f4))
      clear D4 f4 HD3
      go_wp2_with fail
      go_roundw
      case rel => exact ⟨k + 1, _, _, _, _, _, _, rfl, HF.out.2, HD4.out.1, HD4.out.2⟩
      case measure => have := HF.out.2; simp [intOf]; omega
    · have l1 : ¬ (k : Int) < (n : Int) := by omega
      have hk2 : k = n := by omega
      subst hk2
      have HD := Lib.hid D
      have HF := Lib.hid F
      have hm : k + 1 < maxLen := by unfold maxLen; omega
      have hk5 : k + 2 ≤ 100000 := by omega
      by_cases h2 : x ≤ f a
      · have HH := Lib.hid (puHold_ok D.pur (show k < maxLen by omega) HX.out.1 h2)
        have HG := Lib.hid (fun (W : World) (ob : Option Nat) (P : PG W q p ob (k + 1) (upd f a (f a - x)) (t - x) (h + x) i o) => puFree_ok P hm HX.out.1 (show x ≤ h + x by omega))
        have ht := D.pur.inv.one HX.out.1
        have e1 : upd (upd f a (f a - x)) a (upd f a (f a - x) a + x) = f := by rw [upd_upd, upd_same, Nat.sub_add_cancel h2, upd_id]
        rw [e1, show t - x + x = t by omega, show h + x - x = h by omega] at HG
        have HK := Lib.hid hk5
        clear D F h1 h2 e1 ht hm hk5
        generalize upd f a (f a - x) = f1 at *
        generalize t - x = t1 at *
        generalize h + x = h1 at *
        go_wp2_with fail
        (with_reducible refine HH.out.mono ?_); rintro e w4 ⟨rfl, ob1, P1, o1, f1⟩
        have H1 := Lib.hid (And.intro P1 (And.intro o1 f1))
        clear P1 o1 f1
        go_wp2_with fail
        (with_reducible refine (HG.out w4 ob1 H1.out.1).mono ?_); rintro e w5 ⟨rfl, ob2, P2, o2, f2⟩
        have H2 := Lib.hid (And.intro P2 (And.intro o2 f2))
        clear P2 o2 f2
        obtain ⟨D5, f5⟩ := HD.out.again H1.out.2.1 H1.out.2.2 H2.out.2.1 H2.out.2.2 H2.out.1
        have HI := Lib.hid (And.intro (is16_any D5 HK.out) (DX.fr16 HF.out f5))
        clear D5 f5 H1 H2 HH HG HD
        go_wp2_with fail
        (with_reducible refine HI.out.1.mono ?_); rintro e w6 ⟨rfl, f6⟩
        have F6 := Lib.hid (HI.out.2.trans' f6)
        clear f6
        go_wp2_with fail
        go_ret
        exact ⟨rfl, F6.out⟩
      · have HH := Lib.hid (puHold_no D.pur (show k < maxLen by omega) HX.out.1 (show f a < x by omega) HX.out.2)
        have q0 := fewE_ne x
        have q1 : (fewE x == 0) = false := by
          have := fewE_ne x
          simp only [bne, Bool.not_eq_true'] at this
          exact this
        have q2 : ¬ fewE x = 0 := by
          intro e
          rw [e] at q1
          cases q1
        have HK := Lib.hid hk5
        generalize fewE x = E at *
        clear D F h1 h2 hm hk5
        go_wp2_with fail
        (with_reducible refine HH.out.mono ?_); rintro e w4 ⟨rfl, ob1, P1, o1, f1⟩
        obtain ⟨D5, f5⟩ := HD.out.again (.inl rfl) (Fr.refl _ _) o1 f1 P1
        have HI := Lib.hid (And.intro (is16_any D5 (show k + 1 ≤ 100000 from Nat.le_of_succ_le HK.out)) (DX.fr16 HF.out f5))
        clear D5 f5 P1 o1 f1 HH HD
        go_wp2_with fail
        (with_reducible refine HI.out.1.mono ?_); rintro e w6 ⟨rfl, f6⟩
        have F6 := Lib.hid (HI.out.2.trans' f6)
        clear f6
        go_wp2_with fail
        go_ret
        exact ⟨rfl, F6.out⟩
end Go.Proofs.Ytjkeoameebdefaa

/- Arguments that are what is done to a purse, opened. -/
namespace Go.Proofs.Ytjkeoameebdefaa
set_option maxRecDepth 100000
set_option linter.unusedVariables false
set_option linter.unusedSimpArgs false
open Go.RowKit Go.ChangeShapes Go.WideShapes Go.Deep

theorem split3d (cs : List Value) (h : cs.length = 3) : cs = (cs.drop 0).take 1 ++ ((cs.drop 1).take 1 ++ (cs.drop 2).take 1) := by
  match cs, h with
  | [a, b, c], _ => rfl
section
variable {H : Type} {enc : TypeId × Value → H} {w : World} {base : Nat} {spare : Nat → Bool} {held : Bool}

set_option maxRecDepth 100000 in
theorem cells_actD {fuel : Nat} {cs : List Value} {y : DataW H × List MemPlace} (hf : DataW.trod enc Try.prog w base spare held fuel 34 cs = some y) : ∃ (kd : Int) (x z : Nat), x < 256 ∧ z < 18446744073709551616 ∧ cs = [.int .i64 kd, .int .u8 (x : Int), .int .u64 (z : Int)] := by
  obtain ⟨xs, n, _, _, hl, hlen, hc⟩ := DataW.trod_struct Try.underlying34 hf
  have h4 : Try.prog.cellsOf 34 = 3 := by kernel_rfl
  have h1 : Try.prog.cellsOf 3 = 1 := by kernel_rfl
  have h2 : Try.prog.cellsOf 23 = 1 := by kernel_rfl
  have h3 : Try.prog.cellsOf 25 = 1 := by kernel_rfl
  match xs, hlen with
  | [y0, y1, y2], _ =>
    have k0 : DataW.trod enc Try.prog w base spare held n 3 ((cs.drop 0).take (Try.prog.cellsOf 3)) = some y0 := hc 0 _ rfl
    have k1 : DataW.trod enc Try.prog w base spare held n 23 ((cs.drop 1).take (Try.prog.cellsOf 23)) = some y1 := hc 1 _ rfl
    have k3 : DataW.trod enc Try.prog w base spare held n 25 ((cs.drop 2).take (Try.prog.cellsOf 25)) = some y2 := hc 2 _ rfl
    rw [h1] at k0
    rw [h2] at k1
    rw [h3] at k3
    have hl' : cs.length = 3 := by rw [← h4, ← hl]
    obtain ⟨x0, e0, _, _⟩ := DataW.trod_int Try.underlying3 k0
    obtain ⟨x1, e1, _, w1⟩ := DataW.trod_int Try.underlying23 k1
    obtain ⟨x3, e3, _, w3⟩ := DataW.trod_int Try.underlying25 k3
    have b1 : 0 ≤ x1 ∧ x1 ≤ 255 := bounds_u8 w1
    have b3 : 0 ≤ x3 ∧ x3 ≤ 18446744073709551615 := bounds_u64 w3
    obtain ⟨n1, rfl⟩ := Int.eq_ofNat_of_zero_le b1.1
    obtain ⟨n3, rfl⟩ := Int.eq_ofNat_of_zero_le b3.1
    refine ⟨x0, n1, n3, by omega, by omega, ?_⟩
    have := split3d cs hl'
    rw [e0, e1, e3] at this
    rw [this]
    rfl
set_option maxRecDepth 100000 in
theorem open_actsD {fuel : Nat} {a : Option Addr} {n c : Nat} {x : DataW H × List MemPlace} (h : DataW.trod enc Try.prog w base spare held fuel 22 [.slice a n c] = some x) : ActsD w a n := by
  rcases open_slice Try.underlying22 h with ⟨hcs, _⟩ | ⟨ad, len, cap, m, k, D, Pl, hcs, _, hl, hm, hmm, _, hi⟩
  · simp only [List.cons.injEq, Value.slice.injEq, and_true] at hcs
    obtain ⟨rfl, rfl, rfl⟩ := hcs
    exact ⟨fun k hk => absurd hk (by omega)⟩
  · simp only [List.cons.injEq, Value.slice.injEq, and_true] at hcs
    obtain ⟨rfl, rfl, rfl⟩ := hcs
    have hnm : n ≤ m := by rw [hmm]; split <;> omega
    have hC : Try.prog.cellsOf 34 = 3 := by kernel_rfl
    refine ⟨fun k hk => ?_⟩
    obtain ⟨cs, h1, h2⟩ := hi k (by omega)
    rw [hC] at h1
    obtain ⟨_, hlen, hat⟩ := World.cells?_some h1
    obtain ⟨kd, x, z, hx, hz, rfl⟩ := cells_actD h2
    obtain ⟨cs0, g1, g2⟩ := hi 0 (by omega)
    rw [hC] at g1
    obtain ⟨_, glen, gat⟩ := World.cells?_some g1
    have hs0 := World.cell?_spot ((gat 0 (by omega)).trans (List.getElem?_eq_getElem (show 0 < cs0.length by omega)))
    obtain ⟨b, off, spot⟩ := ad
    simp [Addr.add] at hs0
    subst hs0
    refine ⟨b, off, kd, x, z, rfl, hx, hz, fun W f => ?_⟩
    exact run_loadAt_mid (P := Try.prog) W b (off + k * 3) 34 [.int .i64 kd, .int .u8 (x : Int), .int .u64 (z : Int)] _ (fun j u hj => by
      have hj' : j < 3 := by have := (List.getElem?_eq_some_iff.1 hj).1; simpa using this
      have := (hat j hj').trans hj
      rw [Addr.add_lit, Addr.add_lit] at this
      exact f.cell (fun e => e) this) Try.underlying34 rfl (by rw [Try.szAct16]; rfl)
end
theorem purseRounds_at (a : Option Addr) (n c : Nat) (p x : Nat) (hp : p < 256) (hx : x < 18446744073709551616) (w : World) (h1 : ActsD w a n) :
    Calls Try.prog 3 #[.slice a n c, .int .u8 (p : Int), .int .u64 (x : Int)] w fun e w' => e = .returned (.bool true) ∧ Fr F0 w w' := purseRounds_any h1 hp hx
end Go.Proofs.Ytjkeoameebdefaa

/- Layer 16 (purse): PursePlays. -/
namespace Go.Proofs.Ytjkeoameebdefaa
set_option maxRecDepth 100000
set_option linter.unusedVariables false
set_option linter.unusedSimpArgs false
open Go.RowKit
attribute [-go_sem] cell_at

theorem Try.szModel : (Try.prog.info? 32).map (·.size) = some 259 := by kernel_rfl
@[go_sem ↓ high] theorem load_model16 (p : Value) : Instr.loadAt 32 p = loadRowAt 32 p := rfl
@[go_sem ↓ high] theorem store_model16 (p v : Value) : Instr.storeAt 32 p v = storeRowAt 32 p v := rfl
@[go_sem] theorem run_store_model16 (w : World) (g : Nat) (cells : Array Value) : (storeRowAt 32 (.pointer (some ⟨g, 0, none⟩)) (.agg cells)).run Try.prog w = rowIn Try.prog 32 (.pointer (some ⟨g, 0, none⟩)) cells g w 259 w.heap[g]? :=
  run_storeRowAt w _ g 259 cells Try.szModel
theorem zM_size : Try.zeroCells32.size = 259 := by rw [zM_is]; simp [zM]
/-- A model's cells. -/
def mC (f : Nat → Nat) (h i o : Nat) (cs : Array Value) : Prop := cs.size = 259 ∧ (∀ k, k < 256 → cs[k]? = some (.int .u64 (f k : Nat))) ∧ cs[256]? = some (.int .u64 (h : Nat)) ∧ cs[257]? = some (.int .u64 (i : Nat)) ∧ cs[258]? = some (.int .u64 (o : Nat))
theorem mC.one {f : Nat → Nat} {h i o : Nat} {cs : Array Value} (c : mC f h i o cs) : rowOne cs := by
  obtain ⟨c0, c1, c2, c3, c4⟩ := c
  unfold rowOne
  rw [Array.all_eq_true]
  intro j hj
  have e : cs[j]? = some cs[j] := Array.getElem?_eq_getElem hj
  have h5 : j < 256 ∨ j = 256 ∨ j = 257 ∨ j = 258 := by omega
  rcases h5 with h5 | h5 | h5 | h5
  · rw [c1 j h5] at e
    rw [← Option.some.inj e]; rfl
  · subst h5; rw [c2] at e; rw [← Option.some.inj e]; rfl
  · subst h5; rw [c3] at e; rw [← Option.some.inj e]; rfl
  · subst h5; rw [c4] at e; rw [← Option.some.inj e]; rfl

theorem copied16 {base : Nat} {w5 w7 : World} {q p m n t h i o : Nat} {ob : Option Nat} {f : Nat → Nat} {C : Array Value} (P : PG w5 q p ob n f t h i o) (r : Fr (fun k => k = m) w5 w7) (hr : w7.heap[m]? = some (.cells C 32 (0, 0))) (hM : mC f h i o C)
    (n1 : m ≠ q) (n2 : m ≠ p) (n3 : ob ≠ some m) (bq : base ≤ q) (bp : base ≤ p) (bm : base ≤ m) (bo : ∀ B, ob = some B → base ≤ B) : D16 base w7 q p ob m n f t h i o :=
  ⟨P.fr r (fun e => n1 e.symm) (fun e => n2 e.symm) (fun B e hb => n3 (by rw [e, hb])), ⟨C, hr, hM⟩, n1, n2, n3, bq, bp, bm, bo⟩

set_option maxRecDepth 100000 in
set_option maxHeartbeats 16000000 in
theorem pp10 {s0 s1 s2 s3 s4 s7 s8 s9 s10 s11 s12 s13 s14 s15 s16 s17 s18 s19 s20 s21 s22 s23 s24 s25 s26 s27 s28 s29 s30 s31 s32 s33 s34 s35 s36 s37 s38 s39 s40 s41 s42 s43 s44 s45 s46 s47 s48 s49 s50 s51 s52 s53 s54 s55 s56 s57 s58 s59 s60 s61 s62 s63 s64 s65 s66 s67 s68 s69 : Value} {K : Act → World → Prop} {Q : Exit → Act → World → Prop} (base : Nat) (w3 : World) (q p m n t h i o : Nat) (ob : Option Nat) (f : Nat → Nat) (D : D16 base w3 q p ob m n f t h i o)
    (hK : RowKit.Hid (∀ {u9 u10 u47 u48 u49 u50 u51 : Value} {w' : World}, (∃ q2 p2 ob2 m2, u9 = .pointer (some ⟨q2, 0, none⟩) ∧ u10 = .pointer (some ⟨m2, 0, none⟩) ∧ D16 w3.heap.size w' q2 p2 ob2 m2 n f t h i o ∧ Fr F0 w3 w') → K ⟨#[s0, s1, s2, s3, s4, .pointer (some ⟨q, 0, none⟩), .pointer (some ⟨m, 0, none⟩), s7, s8, u9, u10, s11, s12, s13, s14, s15, s16, s17, s18, s19, s20, s21, s22, s23, s24, s25, s26, s27, s28, s29, s30, s31, s32, s33, s34, s35, s36, s37, s38, s39, s40, s41, s42, s43, s44, s45, s46, u47, u48, u49, u50, u51, s52, s53, s54, s55, s56, s57, s58, s59, s60, s61, s62, s63, s64, s65, s66, s67, s68, s69], []⟩ w')) :
    Code.wp Try.prog ((((Try.f4.body.bind (findRegion 10)).getD .skip))) (Exit.then K Q) ⟨#[s0, s1, s2, s3, s4, .pointer (some ⟨q, 0, none⟩), .pointer (some ⟨m, 0, none⟩), s7, s8, s9, s10, s11, s12, s13, s14, s15, s16, s17, s18, s19, s20, s21, s22, s23, s24, s25, s26, s27, s28, s29, s30, s31, s32, s33, s34, s35, s36, s37, s38, s39, s40, s41, s42, s43, s44, s45, s46, s47, s48, s49, s50, s51, s52, s53, s54, s55, s56, s57, s58, s59, s60, s61, s62, s63, s64, s65, s66, s67, s68, s69], []⟩ w3 := by
  conv => arg 2; whnf
  have HC := Lib.hid (fun (W : World) (F : Fr F0 w3 W) => puCopy_any (D.pur.fr0 F))
  obtain ⟨C, hC, hM⟩ := D.mod
  have HM : Hid (mC f h i o C) := Lib.hid hM
  have sC : C.size = 259 := hM.1
  have oC : rowOne C := mC.one hM
  have H1 := Lib.hid (fun (W : World) (F : Fr F0 w3 W) => show (loadRowAt 32 (.pointer (some ⟨m, 0, none⟩))).run Try.prog W = .ok (.agg C) W from
    (run_loadRowAt W _ m 259 _ Try.underlying32 rfl Try.szModel).trans (rowOut_of (F.keeps (fun x => x) hC) sC))
  have F9 := Fr.refl F0 w3
  have zZ := zM_size
  clear D hC hM
  refine rbegin (S := (fun w' => (loadRowAt 32 (.pointer (some ⟨m, 0, none⟩))).run Try.prog w' = .ok (.agg C) w' ∧ Fr F0 w3 w')) ?_ fun hHeld => ?_
  · ((try dsimp only) <;> (exact ⟨H1.out _ F9.drew, F9.drew⟩))
  refine rtake 0 ?_
  refine rtake 2 ?_
  refine rtake 3 ?_
  refine rtake 4 ?_
  refine wpAnyH_ready (rs := [1, 5]) (by kernel_rfl) (by simp) ?_
  refine AllReadyH.cons (o := ⟨_, _, _, _, _, _⟩) rfl (fun K hK => ?_) (AllReadyH.cons (o := ⟨_, _, _, _, _, _⟩) rfl (fun K hK => ?_) AllReadyH.nil)
  go_simp
  (refine (HC.out _ hHeld.2).mono ?_; rintro e w5 ⟨q2, p2, ob2, rfl, P2, f5, hq, hp, ho⟩; have z5 := (hHeld.2.trans' f5).size; have HL := Lib.hid (And.intro P2 (And.intro hq (And.intro hp ho))); clear P2 hq hp ho; (try simp only [World.size_alloc, heap_drew'] at z5))
  refine hK.out _ _ ?_ (fun hHeld => ?_)
  · ((try dsimp only) <;> (first | exact hHeld | exact ⟨H1.out _ (hHeld.2.trans' f5), hHeld.2.trans' f5⟩ | exact ⟨H1.out _ (hHeld.2.alloc _), hHeld.2.alloc _⟩))
  clear hK K
  try (simp only [Act.put, aST]; dsimp only [aS0, aS1])
  refine rone 5 fun K hK => ?_
  go_simp
  refine hK.out _ _ ?_ (fun hHeld => ?_)
  · ((try dsimp only) <;> (first | exact hHeld | exact ⟨H1.out _ (hHeld.2.trans' f5), hHeld.2.trans' f5⟩ | exact ⟨H1.out _ (hHeld.2.alloc _), hHeld.2.alloc _⟩ | exact ⟨H1.out _ (hHeld.2.setRow (fun h => by (try simp only [World.size_alloc, heap_drew'] at h z5); omega) _), hHeld.2.setRow (fun h => by (try simp only [World.size_alloc, heap_drew'] at h z5); omega) _⟩))
  clear hK K
  try (simp only [Act.put, aST]; dsimp only [aS0, aS1])
  refine rtake 6 ?_
  refine rone 7 fun K hK => ?_
  go_simp
  (try (rw [rowIn_of (old := Try.zeroCells32) (t' := 32) (by ((try rw [← Array.getElem?_eq_getElem]); repeat (first | rfl | exact heap_alloc_new _ _ | refine keep_alloc ?_ | refine keep_fr (by assumption) ?_))) zZ sC oC]; go_simp))
  refine hK.out _ _ ?_ (fun hHeld => ?_)
  · ((try dsimp only) <;> (first | exact hHeld | exact ⟨H1.out _ (hHeld.2.trans' f5), hHeld.2.trans' f5⟩ | exact ⟨H1.out _ (hHeld.2.alloc _), hHeld.2.alloc _⟩ | exact ⟨H1.out _ (hHeld.2.setRow (fun h => by (try simp only [World.size_alloc, heap_drew'] at h z5); omega) _), hHeld.2.setRow (fun h => by (try simp only [World.size_alloc, heap_drew'] at h z5); omega) _⟩))
  clear hK K
  try (simp only [Act.put, aST]; dsimp only [aS0, aS1])
  refine rdone ?_
  rotate_left
  go_simp
  refine hK.out _ _ ?_ (fun hHeld => ?_)
  · ((try dsimp only) <;> (first | exact hHeld | exact ⟨H1.out _ (hHeld.2.trans' f5), hHeld.2.trans' f5⟩ | exact ⟨H1.out _ (hHeld.2.alloc _), hHeld.2.alloc _⟩ | exact ⟨H1.out _ (hHeld.2.setRow (fun h => by (try simp only [World.size_alloc, heap_drew'] at h z5); omega) _), hHeld.2.setRow (fun h => by (try simp only [World.size_alloc, heap_drew'] at h z5); omega) _⟩))
  clear hK K
  try (simp only [Act.put, aST]; dsimp only [aS0, aS1])
  refine rone 1 fun K hK => ?_
  go_simp
  (refine (HC.out _ hHeld.2).mono ?_; rintro e w5 ⟨q2, p2, ob2, rfl, P2, f5, hq, hp, ho⟩; have z5 := (hHeld.2.trans' f5).size; have HL := Lib.hid (And.intro P2 (And.intro hq (And.intro hp ho))); clear P2 hq hp ho; (try simp only [World.size_alloc, heap_drew'] at z5))
  refine hK.out _ _ ?_ (fun hHeld => ?_)
  · ((try dsimp only) <;> (first | exact hHeld | exact ⟨H1.out _ (hHeld.2.trans' f5), hHeld.2.trans' f5⟩ | exact ⟨H1.out _ (hHeld.2.alloc _), hHeld.2.alloc _⟩))
  clear hK K
  try (simp only [Act.put, aST]; dsimp only [aS0, aS1])
  refine rtake 6 ?_
  refine rone 7 fun K hK => ?_
  go_simp
  (try (rw [rowIn_of (old := Try.zeroCells32) (t' := 32) (by ((try rw [← Array.getElem?_eq_getElem]); repeat (first | rfl | exact heap_alloc_new _ _ | refine keep_alloc ?_ | refine keep_fr (by assumption) ?_))) zZ sC oC]; go_simp))
  refine hK.out _ _ ?_ (fun hHeld => ?_)
  · ((try dsimp only) <;> (first | exact hHeld | exact ⟨H1.out _ (hHeld.2.trans' f5), hHeld.2.trans' f5⟩ | exact ⟨H1.out _ (hHeld.2.alloc _), hHeld.2.alloc _⟩ | exact ⟨H1.out _ (hHeld.2.setRow (fun h => by (try simp only [World.size_alloc, heap_drew'] at h z5); omega) _), hHeld.2.setRow (fun h => by (try simp only [World.size_alloc, heap_drew'] at h z5); omega) _⟩))
  clear hK K
  try (simp only [Act.put, aST]; dsimp only [aS0, aS1])
  refine rdone ?_
  rotate_left
  all_goals
    refine hK.out ⟨q2, p2, ob2, _, rfl, rfl, ?_, hHeld.2⟩
    obtain ⟨P2, hq, hp, ho⟩ := HL.out
    have hl := P2.lt
    have hl2 := P2.led.lt
    have hl3 : ∀ B, ob2 = some B → B < w5.heap.size := fun B e => P2.led.map.lt e
    (try simp only [heap_drew', World.size_alloc] at hq hp ho)
    first
    | exact copied16 (C := C) P2 (((Fr.refl (fun k => k = w5.heap.size) w5).alloc _).setRow (fun _ => rfl) _) (new_row (heap_alloc_new _ _)) HM.out (by omega) (by omega) (fun e => by have := hl3 _ e; omega) (by omega) (by omega) (by omega) (fun B e => by have := ho B e; omega)
    | exact copied16 (C := C) P2 ((Fr.refl (fun k => k = w3.heap.size) w5).setRow (fun _ => rfl) _) (new_row (keep_fr f5 (heap_alloc_new w3 _))) HM.out (by omega) (by omega) (fun e => by have := ho _ e; omega) (by omega) (by omega) (by omega) (fun B e => by have := ho B e; omega)
end Go.Proofs.Ytjkeoameebdefaa

/- Layer 16 (purse): PursePlays: lists of acts, on the purse and on the law's own model. -/
namespace Go.Proofs.Ytjkeoameebdefaa
set_option maxRecDepth 100000
set_option linter.unusedVariables false
set_option linter.unusedSimpArgs false
open Go.RowKit

set_option maxRecDepth 100000 in
set_option maxHeartbeats 16000000 in
theorem pursePlays_any {w : World} {a1 a2 : Option Addr} {n c n2 c2 : Nat} (h1 : ActsD w a1 n) (h2 : ActsD w a2 n2) :
    Calls Try.prog 4 #[.slice a1 n c, .slice a2 n2 c2] w fun e w' => e = .returned (.bool true) ∧ Fr F0 w w' := by
  have HA := Lib.hid h1
  have HA2 := Lib.hid h2
  have HL := Lib.hid (fun W => lives16_any W)
  have HN := Lib.hid (fun W => puNew_any W)
  clear h1 h2
  go_enter Try.func4, Try.ntmps4
  by_cases hb1 : 60 < n
  · have g1 : 60 < n := hb1
    clear HN HA HA2 hb1
    go_wp2_with fail
    (with_reducible refine (HL.out w).mono ?_); rintro e w1 ⟨rfl, f1⟩
    have F1 := Lib.hid f1
    clear f1
    go_wp2_with fail
    (with_reducible refine (HL.out w1).mono ?_); rintro e w2 ⟨rfl, f2⟩
    have F2 := Lib.hid (F1.out.trans' f2)
    clear f2
    go_wp2_with fail
    go_ret
    exact ⟨rfl, F2.out⟩
  by_cases hb2 : 60 < n2
  · have g1 : ¬ 60 < n := hb1
    have g2 : 60 < n2 := hb2
    clear HN HA HA2 hb1 hb2
    go_wp2_with fail
    (with_reducible refine (HL.out w).mono ?_); rintro e w1 ⟨rfl, f1⟩
    have F1 := Lib.hid f1
    clear f1
    go_wp2_with fail
    (with_reducible refine (HL.out w1).mono ?_); rintro e w2 ⟨rfl, f2⟩
    have F2 := Lib.hid (F1.out.trans' f2)
    clear f2
    go_wp2_with fail
    go_ret
    exact ⟨rfl, F2.out⟩
  have b1 : n ≤ 60 := by omega
  have b2 : n2 ≤ 60 := by omega
  have l1 : ¬ 60 < n := by omega
  have l2 : ¬ 60 < n2 := by omega
  clear hb1 hb2
  go_wp2_with fail
  (with_reducible refine (HL.out w).mono ?_); rintro e w1 ⟨rfl, f1⟩
  have F1 := Lib.hid f1
  clear f1
  go_wp2_with fail
  (with_reducible refine (HN.out w1).mono ?_); rintro e w2 ⟨q, p, rfl, P2, f2, hq, hp⟩
  have F2 := Lib.hid (And.intro P2 (And.intro (F1.out.trans' f2) (And.intro (Nat.le_trans F1.out.size hq) (Nat.le_trans F1.out.size hp))))
  clear P2 f2 hq hp HL HN
  go_upto_region 4 with fail
  refine wp_new fun W5 N5 => ?_
  obtain ⟨m, hm⟩ : ∃ m, m = w2.heap.size := ⟨_, rfl⟩
  rw [← hm] at N5 ⊢
  obtain ⟨D0, f5⟩ := made16 F2.out.1 F2.out.2.2.1 F2.out.2.2.2 F2.out.2.1.size N5 hm
  have F5 := Lib.hid (F2.out.2.1.trans' f5)
  replace D0 := Lib.hid D0
  clear f5 F1 F2 N5 hm
  generalize Try.zeroCells32 = Z at *
  go_wp2_with fail
  go_loopw [31] (fun iv wr => ∃ (k t h i o : Nat) (f : Nat → Nat) (ob : Option Nat), iv = .int .i64 (k : Int) ∧ k ≤ n ∧ D16 w.heap.size wr q p ob m k f t h i o ∧ Fr F0 w wr) (fun iv _ => n - (intOf iv).toNat)
  case atStart => exact ⟨0, 0, 0, 0, 0, _, none, rfl, by omega, D0.out, F5.out⟩
  case round =>
    clear D0 F5
    obtain ⟨k, t, h, i, o, f, ob, rfl, hk, D, F⟩ := hrel
    by_cases h1 : k < n
    · have l1 : (k : Int) < (n : Int) := by omega
      obtain ⟨b, off, kd, y, z, rfl, hy, hz, hld⟩ := HA.out.at_ k h1
      have lds := hld wr F
      have oS : rowOne #[Value.int .i64 kd, .int .u8 (y : Int), .int .u64 (z : Int)] := by unfold rowOne; kernel_rfl
      have k1 : IntKind.i64.wrap ((k : Int) + 1) = ((k + 1 : Nat) : Int) := w64n (by omega) (by omega)
      have HDo := Lib.hid (fun (W : World) (g : Fr F0 wr W) => do16_any (D.fr0 g) (show k < maxLen by unfold maxLen; omega) kd hy hz)
      unfold actD at HDo
      have HF := Lib.hid (And.intro F h1)
      have HB := Lib.hid (show k + 1 ≤ 100000 by omega)
      clear hld hy hz D F h1
      go_upto_region 7 with fail
      refine wp_put fun W3 N => ?_
      have r9 := N.new
      have F3 := N.fr
      clear N lds
      obtain ⟨g9, hg9⟩ : ∃ g, wr.heap.size = g := ⟨_, rfl⟩
      rw [hg9] at r9 ⊢
      clear hg9
      have HD3 := Lib.hid (And.intro (HDo.out W3 F3) F3)
      clear F3 HDo
      go_wp2_with fail
      (with_reducible refine HD3.out.1.mono ?_); rintro e w4 ⟨rfl, ⟨ob', f', t', h', i', o', D4⟩, f4⟩
      have HD4 := Lib.hid (And.intro D4 (And.intro (DX.fr16 (HF.out.1.trans' HD3.out.2) f4) (is16_any D4 HB.out)))
      clear D4 f4 HD3 r9
      go_wp2_with fail
      (with_reducible refine HD4.out.2.2.mono ?_); rintro e w5 ⟨rfl, f5⟩
      have HD5 := Lib.hid (And.intro (HD4.out.1.fr0 f5) (HD4.out.2.1.trans' f5))
      clear f5 HD4
      go_wp2_with fail
      go_roundw
      case rel => exact ⟨k + 1, _, _, _, _, _, _, rfl, HF.out.2, HD5.out.1, HD5.out.2⟩
      case measure => have := HF.out.2; simp [intOf]; omega
    · have l1 : ¬ (k : Int) < (n : Int) := by omega
      have hk2 : k = n := by omega
      subst hk2
      have HD := Lib.hid D
      have HF := Lib.hid F
      clear D F h1 hk
      generalize wr = wq at *
      go_upto_region 10 with fail
      refine pp10 w.heap.size wq q p m k t h i o ob f HD.out (Lib.hid ?_)
      rename_i w7
      rintro ⟨q2, p2, ob2, m2, rfl, rfl, D7, F7⟩
      have H7 := Lib.hid (And.intro D7 F7)
      clear D7 F7
      go_wp2_with fail
      go_loopw [54] (fun iv wr => ∃ (j t' h' i' o' : Nat) (f' : Nat → Nat) (ob' : Option Nat), iv = .int .i64 (j : Int) ∧ j ≤ n2 ∧ D16 wq.heap.size wr q2 p2 ob' m2 (k + j) f' t' h' i' o' ∧ Fr F0 wq wr) (fun iv _ => n2 - (intOf iv).toNat)
      case atStart => exact ⟨0, t, h, i, o, f, ob2, rfl, by omega, H7.out.1, H7.out.2⟩
      case round =>
        clear H7
        obtain ⟨j, t', h', i', o', f', ob', rfl, hj, D, F⟩ := hrel
        by_cases h1 : j < n2
        · have l1 : (j : Int) < (n2 : Int) := by omega
          obtain ⟨b, off, kd, y, z, rfl, hy, hz, hld⟩ := HA2.out.at_ j h1
          have lds := hld wr (HF.out.trans' F)
          have oS : rowOne #[Value.int .i64 kd, .int .u8 (y : Int), .int .u64 (z : Int)] := by unfold rowOne; kernel_rfl
          have k1 : IntKind.i64.wrap ((j : Int) + 1) = ((j + 1 : Nat) : Int) := w64n (by omega) (by omega)
          have HDo := Lib.hid (fun (W : World) (g : Fr F0 wr W) => do16_any (D.fr0 g) (show k + j < maxLen by unfold maxLen; omega) kd hy hz)
          unfold actD at HDo
          have HG := Lib.hid (And.intro F h1)
          clear hld hy hz D F h1
          go_upto_region 14 with fail
          refine wp_put fun W3 N => ?_
          have r9 := N.new
          have F3 := N.fr
          clear N lds
          obtain ⟨g9, hg9⟩ : ∃ g, wr.heap.size = g := ⟨_, rfl⟩
          rw [hg9] at r9 ⊢
          clear hg9
          have HD3 := Lib.hid (And.intro (HDo.out W3 F3) F3)
          clear F3 HDo
          go_wp2_with fail
          (with_reducible refine HD3.out.1.mono ?_); rintro e w4 ⟨rfl, ⟨ob9, f9, t9, h9, i9, o9, D4⟩, f4⟩
          have HD4 := Lib.hid (And.intro D4 (DX.fr16 (HG.out.1.trans' HD3.out.2) f4))
          clear D4 f4 HD3
          go_wp2_with fail
          go_roundw
          case rel => exact ⟨j + 1, _, _, _, _, _, _, rfl, HG.out.2, HD4.out.1, HD4.out.2⟩
          case measure => have := HG.out.2; simp [intOf]; omega
        · have l1 : ¬ (j : Int) < (n2 : Int) := by omega
          have HI1 := Lib.hid (is16_any (HD.out.fr0 F) (show k ≤ 100000 by omega))
          have HI2 := Lib.hid (fun (W : World) (g : Fr F0 wr W) => is16_any (D.fr0 g) (show k + j ≤ 100000 by omega))
          have HG := Lib.hid (HF.out.trans' F)
          clear D F h1 hj
          go_wp2_with fail
          (with_reducible refine HI1.out.mono ?_); rintro e w4 ⟨rfl, f4⟩
          have HI3 := Lib.hid (And.intro (HI2.out w4 f4) (HG.out.trans' f4))
          clear f4 HI2
          go_wp2_with fail
          (with_reducible refine HI3.out.1.mono ?_); rintro e w5 ⟨rfl, f5⟩
          have HG5 := Lib.hid (HI3.out.2.trans' f5)
          clear f5
          go_wp2_with fail
          go_ret
          exact ⟨rfl, HG5.out⟩
end Go.Proofs.Ytjkeoameebdefaa

/- The second law's arguments. -/
namespace Go.Proofs.Ytjkeoameebdefaa
set_option maxRecDepth 100000
set_option linter.unusedVariables false
set_option linter.unusedSimpArgs false
open Go.RowKit

theorem pursePlays_at (a : Option Addr) (n c : Nat) (a2 : Option Addr) (n2 c2 : Nat) (w : World) (h1 : ActsD w a n) (h2 : ActsD w a2 n2) :
    Calls Try.prog 4 #[.slice a n c, .slice a2 n2 c2] w fun e w' => e = .returned (.bool true) ∧ Fr F0 w w' := pursePlays_any h1 h2
end Go.Proofs.Ytjkeoameebdefaa

/- Layer 16 (purse): all that its three laws need. -/
namespace Go.Proofs.Ytjkeoameebdefaa
set_option maxRecDepth 100000
end Go.Proofs.Ytjkeoameebdefaa
