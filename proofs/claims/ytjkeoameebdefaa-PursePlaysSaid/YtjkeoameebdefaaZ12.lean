import Derived.Test.YtjkeoameebdefaaZ10
import Derived.Test.YtjkeoameebdefaaZ11
/- Layer 16 (purse): one act of the law, on the purse and on the law's own model. -/
namespace Go.Proofs.Ytjkeoameebdefaa
set_option maxRecDepth 100000
set_option linter.unusedVariables false
set_option linter.unusedSimpArgs false
open Go.RowKit
attribute [-go_sem] cell_at

/-- A purse, and beside it a model that says the same; all of it lies at base or beyond. -/
structure D16 (base : Nat) (w : World) (q p : Nat) (ob : Option Nat) (m n : Nat) (f : Nat → Nat) (t h i o : Nat) : Prop where
  pur : PG w q p ob n f t h i o
  mod : MD w m f h i o
  mq : m ≠ q
  mp : m ≠ p
  om : ob ≠ some m
  bq : base ≤ q
  bp : base ≤ p
  bm : base ≤ m
  bo : ∀ B, ob = some B → base ≤ B
def actD (k : Int) (a x : Nat) : Array Value := #[.int .i64 k, .int .u8 (a : Int), .int .u64 (x : Int)]
theorem act_cell {W : World} {g : Nat} {k : Int} {a x : Nat} (h : W.heap[g]? = some (.cells (actD k a x) 34 (0, 0))) :
    W.cell? ⟨g, 0, none⟩ = some (.int .i64 k) ∧ W.cell? ⟨g, 1, none⟩ = some (.int .u8 (a : Int)) ∧ W.cell? ⟨g, 2, none⟩ = some (.int .u64 (x : Int)) := by
  refine ⟨?_, ?_, ?_⟩ <;> simp [World.cell?, h, actD]
section
variable {base : Nat} {w w' : World} {q p m n t h i o : Nat} {ob ob' : Option Nat} {f : Nat → Nat}
theorem D16.ps (d : D16 base w q p ob m n f t h i o) {k : Nat} (hk : PS q p ob k) : base ≤ k := by
  rcases hk with e | e | e
  · rw [e]; exact d.bq
  · rw [e]; exact d.bp
  · exact d.bo k e
theorem D16.nm (d : D16 base w q p ob m n f t h i o) : ¬ PS q p ob m := fun hk => by
  rcases hk with e | e | e
  · exact d.mq e
  · exact d.mp e
  · exact d.om e
theorem D16.lt (d : D16 base w q p ob m n f t h i o) : q < w.heap.size ∧ p < w.heap.size ∧ m < w.heap.size := ⟨d.pur.lt, d.pur.led.lt, d.mod.lt⟩
theorem D16.om2 (d : D16 base w q p ob m n f t h i o) (b : OB w ob ob') : ob' ≠ some m := fun e => by
  rcases b with b | ⟨_, B, b, hb⟩
  · exact d.om (by rw [← b]; exact e)
  · rw [e] at b
    have := Option.some.inj b
    have := d.lt
    omega
theorem D16.fr0 (d : D16 base w q p ob m n f t h i o) (r : Fr F0 w w') : D16 base w' q p ob m n f t h i o :=
  ⟨d.pur.fr0 r, d.mod.fr r fun x => x, d.mq, d.mp, d.om, d.bq, d.bp, d.bm, d.bo⟩
theorem D16.mono (d : D16 base w q p ob m n f t h i o) {n' : Nat} (hn : n ≤ n') : D16 base w q p ob m n' f t h i o :=
  ⟨d.pur.mono hn, d.mod, d.mq, d.mp, d.om, d.bq, d.bp, d.bm, d.bo⟩
/-- Behind a call and what the model notes of it. -/
theorem D16.step (d : D16 base w q p ob m n f t h i o) (b : OB w ob ob') {n' t' h' i' o' : Nat} {f' : Nat → Nat} (P : PG w' q p ob' n' f' t' h' i' o') (M : MD w' m f' h' i' o') : D16 base w' q p ob' m n' f' t' h' i' o' :=
  ⟨P, M, d.mq, d.mp, d.om2 b, d.bq, d.bp, d.bm, fun B e => by
    rcases b with b | ⟨_, C, b, hc⟩
    · exact d.bo B (by rw [← b]; exact e)
    · rw [e] at b
      have := Option.some.inj b
      have := d.lt
      have := d.bp
      omega⟩
end

/-- All is done: the purse, then the model. -/
theorem D16.done {base : Nat} {w W1 w2 w5 w7 : World} {q p m n t h i o n' t' h' i' o' : Nat} {ob ob2 : Option Nat} {f f' : Nat → Nat} (D : D16 base w q p ob m n f t h i o) (F : Fr F0 w W1) (f2 : Fr (PS q p ob) W1 w2) (b : OB w ob ob2) (f5 : Fr F0 w2 w5) (f6 : Fr (fun k => k = m) w5 w7)
    (P : PG w2 q p ob2 n' f' t' h' i' o') (M : MD w7 m f' h' i' o') : (∃ ob', D16 base w7 q p ob' m n' f' t' h' i' o') ∧ Fr (DX base) w w7 :=
  ⟨⟨ob2, D.step b ((P.fr0 f5).fr f6 (fun e => D.mq e.symm) (fun e => D.mp e.symm) (fun B e hb => D.om2 b (by rw [e, hb]))) M⟩,
    (((F.of0 (T := DX base)).trans' (f2.mono fun k _ h => D.ps h)).trans' (f5.of0 (T := DX base))).trans' (f6.mono fun k _ e => by rw [e]; exact D.bm)⟩
theorem MD.put {w : World} {m x : Nat} {v : Value} : Fr (fun k => k = m) w (w.setCell ⟨m, x, none⟩ v).drew := ((Fr.refl (fun k => k = m) w).setCell (p := ⟨m, x, none⟩) (fun _ => rfl) _).drew
end Go.Proofs.Ytjkeoameebdefaa
