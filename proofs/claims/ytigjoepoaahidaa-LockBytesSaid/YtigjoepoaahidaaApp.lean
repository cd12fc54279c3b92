/- Bytes of the call's own: appending to them. -/
import Derived.Test.YtigjoepoaahidaaFr
namespace Go.Proofs.Ytigjoepoaahidaa
set_option linter.unusedVariables false
set_option linter.unusedSimpArgs false
open Go.RowKit

theorem Try.infoU8 : (Try.prog.info? 5).map (fun i => (i.zero, i.size, i.bytes)) = some (some (.int .u8 0), 1, 1) := by kernel_rfl

/-- A row of bytes of the call's own. -/
def OwnB (w : World) (v : Value) (bs : List UInt8) : Prop := w.ownsRow 0 5 1 v bs.length (bs.map B8)

theorem OwnB.nil (w : World) : OwnB w (.slice none 0 0) [] := World.ownsRow_nil _ _ _ _

theorem OwnB.bs {w : World} {a : Option Addr} {n c : Nat} {bs : List UInt8} (h : OwnB w (.slice a n c) bs) : n = bs.length ∧ Bs w a c bs := (Bs.of_own h).2

theorem OwnB.slice {w : World} {v : Value} {bs : List UInt8} (h : OwnB w v bs) : ∃ a c, v = .slice a bs.length c := own_slice h

theorem OwnB.lt {w : World} {v : Value} {bs : List UInt8} (h : OwnB w v bs) : ∀ k, v.ownBlock = some k → k < w.heap.size := fun k hk => (World.ownsRow.lt h k hk).2

theorem OwnB.fr {S : Nat → Prop} {w w' : World} {v : Value} {bs : List UInt8} (h : OwnB w v bs) (hf : Fr S w w') (hs : ∀ k, v.ownBlock = some k → ¬ S k) : OwnB w' v bs := by
  refine ⟨h.1, ?_⟩
  rcases h.2 with hn | ⟨g, cap, cur, rfl, hb, hg, r⟩
  · exact .inl hn
  · exact .inr ⟨g, cap, cur, rfl, hb, hf.keeps (hs g rfl) hg, r⟩

/-- 'append(s, x...)' on bytes, in a walk. -/
theorem wpList_appB {w : World} {ops : Array Oper} {rest : List Oper} {o : Oper} {a : Act} {Q : Exit → Act → World → Prop} (hgd : o.guard = none) (s x : Operand)
    (ho : o.op = .call { callee := .builtin .append, args := #[s, x], argTypes := #[24, 24] })
    (v : Value) (b0 : List UInt8) (hs : a.eval s = v) (hown : OwnB w v b0) (ad : Option Addr) (m c : Nat) (bs : List UInt8) (hx : a.eval x = .slice ad m c) (hsl : Bs w ad c bs) (hm : m = bs.length)
    (hb : b0.length + bs.length ≤ 140737488355328)
    (h : ∀ a' c' w', OwnB w' (.slice a' (b0.length + bs.length) c') (b0 ++ bs) → w.grownBy w' v.ownBlock → (∀ k, ablk a' = some k → v.ownBlock = some k ∨ w.heap.size ≤ k) →
      wpList Try.prog ops Q rest (a.put o.dst (.slice a' (b0.length + bs.length) c')) w') : wpList Try.prog ops Q (o :: rest) a w := by
  subst hm
  obtain ⟨i0, hi, hz0, hz1, hz2⟩ := info_parts Try.infoU8
  refine wpList_app hgd s x 24 ho 5 i0 (.int .u8 0) 1 1 Try.underlying24 hi hz0 hz1 hz2 rfl (by decide) v _ _ hs hown ad c _ _ hx hsl Bs.one (by unfold maxLen; omega) (by omega) ?_
  intro a' c' w' h1 h2 h3
  exact h a' c' w' (by simpa [OwnB] using h1) h2 h3

/-- Some slice of new memory holds bs. -/
def NewBytes (bs : List UInt8) (w : World) (e : Ending) (w' : World) : Prop :=
  ∃ a c, e = .returned (.slice a bs.length c) ∧ Bs w' a c bs ∧ Fr F0 w w' ∧ ∀ b, ablk a = some b → w.heap.size ≤ b ∧ b < w'.heap.size
end Go.Proofs.Ytigjoepoaahidaa
